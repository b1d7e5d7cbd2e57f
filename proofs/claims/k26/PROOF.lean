import PyProof.Rows.All
import Wide.All
import OpenK.AllK
import Wide.FinOn
import HandS.ForMost
import HandS.Wide
import HandS.Style
import HandS.Comp
import HandS.Walk
import HandS.Zip
import KE.GoesMore
import KE.GoesEnum
import HandS.Conv
import HandS.IsInst
import HandS.TupAny
import HandS.Deep
import HandS.NoneIn
import HandS.Evl
import HandS.TupLe
import PyProof.CallFns
import PySem.Challenge.RW_cornertold_k26_mills_of_greater_picks
set_option Elab.async false
set_option linter.all false
set_option maxRecDepth 100000
namespace C2
set_option Elab.async false
set_option linter.all false
set_option maxRecDepth 100000
set_option maxHeartbeats 4000000
open PySem PySem.Spec PyProof.Rows L2
def topS (i : Nat) : Stmt := PySem.Challenge.pw_cornertold_k26_mills_of_greater_picks.main.body.getD i (.Pass ⟨0, 0, 0, 0⟩)
abbrev sPWhole : Stmt := topS 1
abbrev sBetween : Stmt := topS 2
abbrev sTupOf : Stmt := topS 3
abbrev sComes : Stmt := topS 5
abbrev sSizeP : Stmt := topS 6
abbrev sIsMill : Stmt := topS 10
abbrev sPairB : Stmt := topS 11
abbrev sMill : Stmt := topS 12
abbrev sMillB : Stmt := topS 13
abbrev sLegB : Stmt := topS 14
abbrev sDraws : Stmt := topS 16
abbrev sTake : Stmt := topS 17
abbrev sPick : Stmt := topS 18
abbrev sLComes : Stmt := topS 19
abbrev sLMill : Stmt := topS 20
abbrev sPairs : Stmt := topS 21
abbrev sMills : Stmt := topS 22
abbrev sTwo : Stmt := topS 23
abbrev sRound : Stmt := topS 24
abbrev sFar : Stmt := topS 25
abbrev sLaw : Stmt := topS 26
theorem scDraws : FnScope ["_law_script", "_law_k", "_law_cell", "_law_great"] ["_law_script", "_law_k"] (defScope sDraws) := ⟨rfl, rfl, rfl, by decide +kernel, rfl, by decide +kernel, by decide +kernel⟩
theorem scTake : FnScope ["_law_pot_here", "_law_many", "_law_digit", "_law_turn", "_law_prime", "_law_drawn"] ["_law_pot_here", "_law_many"] (defScope sTake) := ⟨rfl, rfl, rfl, by decide +kernel, rfl, by decide +kernel, by decide +kernel⟩

/-- all that was tracked, but what stands at p, is as it was -/
def Fr (p : Addr) (H H' : Hp) : Prop := ∀ b o, b ≠ p → H b = some o → H' b = some o
theorem Fr.refl (p : Addr) (H : Hp) : Fr p H H := fun _ _ _ h => h
theorem Fr.trans {p : Addr} {H H1 H2 : Hp} (a : Fr p H H1) (b : Fr p H1 H2) : Fr p H H2 := fun c o n h => b c o n (a c o n h)
theorem Fr.same {p : Addr} {H H1 : Hp} (a : Same H H1) : Fr p H H1 := fun c o _ h => a c o h
theorem Fr.upd {p : Addr} {H : Hp} {o : HO} : Fr p H (upd H p o) := fun c u n h => by rw [upd_ne n]; exact h
theorem Fr.new {p q : Addr} {H : Hp} {o : HO} (h : H q = none) : Fr p H (L2.upd H q o) := fun c u n e => by rw [upd_ne (ne_of_none e h)]; exact e
theorem Fr.free {p : Addr} {H H' : Hp} (e : Fr p H H') {l : Addr} (n : l ≠ p) (h : H' l = none) : H l = none := by
  cases q : H l with
  | none => rfl
  | some o => rw [e l o n q] at h; cases h
theorem same_upd {H : Hp} {p : Addr} {o : HO} (h : H p = none) : Same H (upd H p o) := fun b x e => by
  rw [upd_ne (ne_of_none e h)]
  exact e
def PotAt (H : Hp) (p : Addr) (n : Nat) : Prop := ∃ g c t : Int, H p = some (.lst [.int g, .int c, .int t]) ∧ 0 ≤ t ∧ t ≤ (n : Int)
section
variable {P : Program} {w : World} {K : PySem.W.Frag} {mg : Str → Option Value} {base : Heap}
/-! ### draws -/
def spDraws (K : PySem.W.Frag) : Sp := fun vs H Q _ => ∃ (a : Addr) (ns : List Int) (k : Nat), vs = [.ref a, .int (k : Int)] ∧ SqL K H a (ns.map V.int) ∧ k ≤ 1000 ∧
  ∀ H' p, Same H H' → H p = none → PotAt H' p 0 → Q (.ref p) H'
theorem pow_ok1 : CPow 10 18 := ⟨by decide, by decide, by decide⟩
theorem pow_ok2 : CPow 10 60 := ⟨by decide, by decide, by decide⟩
theorem wide1 : CMulW ((10 : Int) ^ (60 : Int).toNat) ((10 : Int) ^ (60 : Int).toNat) := wide_mul (a := 200) (b := 200) (by decide +kernel) (by decide +kernel) (by decide) (by decide) (by decide)
theorem wide2 : CMulW ((10 : Int) ^ (60 : Int).toNat * (10 : Int) ^ (60 : Int).toNat) ((10 : Int) ^ (60 : Int).toNat) := wide_mul (a := 400) (b := 200) (by decide +kernel) (by decide +kernel) (by decide) (by decide) (by decide)
theorem wide3 : (0 : Int) < (10 : Int) ^ (60 : Int).toNat * (10 : Int) ^ (60 : Int).toNat * (10 : Int) ^ (60 : Int).toNat := by decide +kernel
theorem fin_draws {H : Hp} {Q : VK} {a : Addr} {k : Nat} (q : ∀ (H' : Hp) (p : Addr), Same H H' → H p = none → PotAt H' p 0 → Q (V.ref p) H') (hk : k ≤ 1000) (cell great : Int) :
    tRet (tLst (tCons (tVar 3) (tCons (tOp (rI (fun x j => 0 < j) fun i j => V.int (i % j)) (tOp (rI0 fun i j => V.int (i + j)) (tOp (rI0 fun i j => V.int (i + j))
      (tOp (rI CMul fun i j => V.int (i * j)) (tOp (rI (fun x j => 0 < j) fun i j => V.int (i % j)) (tVar 2) (tC (V.int 2305843009213693951))) (tC (V.int 1000033)))
      (tOp (rI CMul fun i j => V.int (i * j)) (tC (V.int 7919)) (tVar 1))) (tC (V.int 41))) (tC (V.int 2305843009213693921))) (tCons (tC (V.int 0)) tNil))))
      { nx := fun x H' => Q V.non H', rt := Q } [some (V.ref a), some (V.int (k : Int)), some (V.int cell), some (V.int great)] H := by
  refine ⟨.int great, rfl, .int cell, rfl, cell, 2305843009213693951, rfl, rfl, (by show (0 : Int) < 2305843009213693951; decide), _, 1000033, rfl, rfl, .inr ⟨by decide, by decide⟩, .int (k : Int), rfl, 7919, (k : Int), rfl, rfl, .inl ⟨by decide, by decide⟩, _, _, rfl, rfl, _, 41, rfl, rfl, _, _, rfl, rfl, (by show (0 : Int) < 2305843009213693921; decide), by show 3 ≤ sizeLine; decide, fun p np => ?_⟩
  exact q _ p (same_upd np) np ⟨_, _, _, upd_same, Int.le_refl _, Int.le_refl _⟩
theorem ok_draws {f : Addr} {fd : FuncData} {k : Nat} (F : Fun K "_law_pot" "_law_pot" sDraws f fd) (ml : mg "len" = none) (ma : mg "abs" = none) : FnOk P w K mg base CX0 (k + 1) f fd ["_law_script", "_law_k"] (spDraws K) := by
  refine F.ok scDraws (fun vs H Q E h => ?_) (fun cdv A outer s H vs Q E hr h => ?_)
  · obtain ⟨a, ns, k, rfl, _⟩ := h
    rfl
  · obtain ⟨a, ns, k, rfl, hS, hk, q⟩ := h
    refine ⟨_, pss_cons (ps_set (i := 2) scDraws.nd rfl (.inl rfl) (pe_ifExp (pt_cmpR op_lt (pv 1) (pe_callB call_len_seq (by rfl) ml PySem.boot_len (pa_cons (pv 0) pa_nil)) (nomark _))
          (pe_ix ix_list (pv 0) (pv 1) (fun _ _ => rfl)) (pe_op op_add (pe_op op_mul pe_int (pv 1)) pe_int)))
      (pss_cons (ps_set (i := 3) scDraws.nd rfl (.inl rfl) (pe_ifExp (pt_cmpR op_ge (pe_callB call_abs (by rfl) ma (by decide +kernel) (pa_cons (pv 2) pa_nil)) (pe_op op_pow pe_int pe_int) (nomark _))
          (pe_op op_mod (pe_callB call_abs (by rfl) ma (by decide +kernel) (pa_cons (pv 2) pa_nil)) (pe_op op_mulW (pe_op op_mulW (pe_op op_pow pe_int pe_int) (pe_op op_pow pe_int pe_int)) (pe_op op_pow pe_int pe_int))) pe_int))
      (pss_one (ps_ret (pe_lst (pa_cons (pv 3) (pa_cons (pe_op op_mod (pe_op op_add (pe_op op_add (pe_op op_mul (pe_op op_mod (pv 2) pe_int) pe_int) (pe_op op_mul pe_int (pv 1))) pe_int) pe_int) (pa_cons pe_int pa_nil))))))), ?_⟩
    refine ⟨.int (k : Int), rfl, .ref a, rfl, a, _, rfl, .inl hS, _, _, rfl, rfl, _, rfl, ite2 (fun e => ?_) (fun e => ?_)⟩
    · have e1 : k < ns.length := by
        have := of_decide_eq_true e
        rw [List.length_map] at this
        omega
      refine ⟨.ref a, rfl, .int (k : Int), rfl, a, _, _, .int ns[k], rfl, rfl, hS, atI_nat (by rw [List.getElem?_map, List.getElem?_eq_getElem e1]; rfl), ?_⟩
      generalize ns[k] = cell
      refine ⟨.int cell, rfl, cell, rfl, 10, 18, rfl, rfl, pow_ok1, _, _, rfl, rfl, _, rfl, ite2 (fun e => ?_) (fun e => ?_)⟩
      · refine ⟨.int cell, rfl, cell, rfl, 10, 60, rfl, rfl, pow_ok2, 10, 60, rfl, rfl, pow_ok2, _, _, rfl, rfl, wide1, 10, 60, rfl, rfl, pow_ok2, _, _, rfl, rfl, wide2, _, _, rfl, rfl, wide3, ?_⟩
        exact fin_draws q hk _ _
      · exact fin_draws q hk _ _
    · refine ⟨.int (k : Int), rfl, 5, (k : Int), rfl, rfl, .inl ⟨by decide, by decide⟩, _, 3, rfl, rfl, ?_⟩
      refine ⟨_, rfl, _, rfl, 10, 18, rfl, rfl, pow_ok1, _, _, rfl, rfl, _, rfl, ite2 (fun e => ?_) (fun e => ?_)⟩
      · refine ⟨_, rfl, _, rfl, 10, 60, rfl, rfl, pow_ok2, 10, 60, rfl, rfl, pow_ok2, _, _, rfl, rfl, wide1, 10, 60, rfl, rfl, pow_ok2, _, _, rfl, rfl, wide2, _, _, rfl, rfl, wide3, ?_⟩
        exact fin_draws q hk _ _
      · exact fin_draws q hk _ _
end
end C2

namespace C2
set_option Elab.async false
set_option linter.all false
set_option maxRecDepth 100000
set_option maxHeartbeats 4000000
open PySem PySem.Spec PyProof.Rows L2
section
variable {P : Program} {w : World} {K : PySem.W.Frag} {mg : Str → Option Value} {base : Heap}
def primes : List V := [.int 2147483647, .int 2147483629, .int 2147483587, .int 2147483579, .int 2147483563, .int 2147483549, .int 2147483543]
theorem primes_at {r : Int} (h0 : 0 ≤ r) (h1 : r < 7) : ∃ v : Int, atI primes r = some (.int v) ∧ 0 < v ∧ v < 2147483648 := by
  have : r = 0 ∨ r = 1 ∨ r = 2 ∨ r = 3 ∨ r = 4 ∨ r = 5 ∨ r = 6 := by omega
  rcases this with rfl | rfl | rfl | rfl | rfl | rfl | rfl <;> exact ⟨_, rfl, by decide, by decide⟩
def spTake : Sp := fun vs H Q _ => ∃ (p : Addr) (m : Int) (n : Nat), vs = [.ref p, .int m] ∧ PotAt H p n ∧ n < 1000000 ∧ 0 < m ∧ m < 1073741824 ∧
  ∀ (d : Int) H', Fr p H H' → PotAt H' p (n + 1) → 0 ≤ d → d < m → Q (.int d) H'
theorem ok_take {f : Addr} {fd : FuncData} {k : Nat} (F : Fun K "_law_take" "_law_take" sTake f fd) : FnOk P w K mg base CX0 (k + 1) f fd ["_law_pot_here", "_law_many"] spTake := by
  refine F.ok scTake (fun vs H Q E h => ?_) (fun cdv A outer s H vs Q E hr h => ?_)
  · obtain ⟨a, ns, k, rfl, _⟩ := h
    rfl
  · obtain ⟨p, m, n, rfl, ⟨g, c, t, hp, ht0, ht1⟩, hn, hm0, hm1, q⟩ := h
    refine ⟨_, pss_cons (ps_if (pt_cmpR op_gt (pe_ix ix_list (pv 0) pe_int (fun _ _ => rfl)) pe_int (nomark _))
        (pss_cons (ps_set (i := 2) scTake.nd rfl (.inl rfl) (pe_op op_mod (pe_ix ix_list (pv 0) pe_int (fun _ _ => rfl)) (pv 1)))
          (pss_cons (ps_asg (pe_op op_fdiv (pe_ix ix_list (pv 0) pe_int (fun _ _ => rfl)) (pv 1)) (pg_sub (pv 0) pe_int set_list)) (pss_one (ps_ret (pv 2))))) pss_nil)
      (pss_cons (ps_set (i := 3) scTake.nd rfl (.inl rfl) (pe_op op_add (pe_ix ix_list (pv 0) pe_int (fun _ _ => rfl)) pe_int))
      (pss_cons (ps_asg (pv 3) (pg_sub (pv 0) pe_int set_list))
      (pss_cons (ps_set (i := 4) scTake.nd rfl (.inl rfl) (pe_ix ix_list (pe_lst (pa_cons pe_int (pa_cons pe_int (pa_cons pe_int (pa_cons pe_int (pa_cons pe_int (pa_cons pe_int (pa_cons pe_int pa_nil))))))))
          (pe_op op_mod (pv 3) pe_int) (fun _ _ => rfl)))
      (pss_cons (ps_set (i := 5) scTake.nd rfl (.inl rfl) (pe_op op_add (pe_op op_mod (pe_op op_mod (pe_op op_add (pe_ix ix_list (pv 0) pe_int (fun _ _ => rfl))
          (pe_op op_mul (pe_op op_mul pe_int (pv 3)) (pv 3))) (pe_op op_mul (pv 4) (pv 4))) (pv 4)) pe_int))
      (pss_one (ps_ret (pe_op op_mod (pe_op op_fdiv (pe_op op_mod (pe_op op_mul (pv 5) (pe_op op_add (pe_op op_mod (pv 5) pe_int) (pv 3))) (pv 4)) pe_int) (pv 1)))))))), ?_⟩
    have L0 : SqL K H p [.int g, .int c, .int t] := .inl (.inl hp)
    refine ⟨.ref p, rfl, p, _, 0, .int g, rfl, rfl, L0, rfl, _, _, rfl, rfl, _, rfl, ite2 (fun e => ?_) (fun e => ?_)⟩
    · refine ⟨.ref p, rfl, p, _, 0, .int g, rfl, rfl, L0, rfl, .int m, rfl, _, _, rfl, rfl, hm0, ?_⟩
      refine ⟨.ref p, rfl, p, _, 0, .int g, rfl, rfl, L0, rfl, .int m, rfl, _, _, rfl, rfl, ⟨hm0, hm1⟩, ?_⟩
      refine ⟨.ref p, rfl, p, _, 0, 0, rfl, rfl, hp, rfl, ?_⟩
      refine ⟨_, rfl, q _ _ Fr.upd ⟨_, _, _, upd_same, ht0, by omega⟩ (Int.emod_nonneg _ (by omega)) (Int.emod_lt_of_pos _ hm0)⟩
    · refine ⟨.ref p, rfl, p, _, 2, .int t, rfl, rfl, L0, rfl, _, 1, rfl, rfl, ?_⟩
      refine ⟨.int (t + 1), rfl, .ref p, rfl, p, _, 2, 2, rfl, rfl, hp, rfl, ?_⟩
      have hp2 : (upd H p (.lst (List.set [.int g, .int c, .int t] 2 (.int (t + 1))))) p = some (.lst [.int g, .int c, .int (t + 1)]) := upd_same
      refine ⟨by show 7 ≤ sizeLine; decide, fun o no => ?_⟩
      have npo : p ≠ o := ne_of_none hp2 no
      have hp3 : (upd (upd H p (.lst (List.set [.int g, .int c, .int t] 2 (.int (t + 1))))) o (.lst primes)) p = some (.lst [.int g, .int c, .int (t + 1)]) := by
        rw [upd_ne npo]
        exact hp2
      have fr3 : Fr p H (upd (upd H p (.lst (List.set [.int g, .int c, .int t] 2 (.int (t + 1))))) o (.lst primes)) := Fr.trans Fr.upd (Fr.new no)
      have L3 : SqL K (upd (upd H p (.lst (List.set [.int g, .int c, .int t] 2 (.int (t + 1))))) o (.lst primes)) p [.int g, .int c, .int (t + 1)] := .inl (.inl hp3)
      have LO : SqL K (upd (upd H p (.lst (List.set [.int g, .int c, .int t] 2 (.int (t + 1))))) o (.lst primes)) o primes := .inl (.inl upd_same)
      obtain ⟨v, hv, v0, v1⟩ := primes_at (r := (t + 1) % 7) (Int.emod_nonneg _ (by decide)) (Int.emod_lt_of_pos _ (by decide))
      have b20 : (-(2 ^ 64) : Int) < t + 1 ∧ t + 1 < 2 ^ 64 := ⟨by omega, by omega⟩
      have bv : (-(2 ^ 64) : Int) < v ∧ v < 2 ^ 64 := ⟨by omega, by omega⟩
      refine ⟨.int (t + 1), rfl, _, 7, rfl, rfl, (by show (0 : Int) < 7; decide), o, _, _, _, rfl, rfl, LO, hv, ?_⟩
      refine ⟨.ref p, rfl, p, _, 1, .int c, rfl, rfl, L3, rfl, .int (t + 1), rfl, 69621, _, rfl, rfl, .inr b20, .int (t + 1), rfl, _, _, rfl, rfl, .inr b20, _, _, rfl, rfl,
        .int v, rfl, .int v, rfl, v, v, rfl, rfl, .inl bv, _, _, rfl, rfl, (Int.mul_pos v0 v0), .int v, rfl, _, _, rfl, rfl, v0, _, 1, rfl, rfl, ?_⟩
      have z0 := Int.emod_nonneg ((c + 69621 * (t + 1) * (t + 1)) % (v * v)) (show v ≠ 0 by omega)
      have z1 := Int.emod_lt_of_pos ((c + 69621 * (t + 1) * (t + 1)) % (v * v)) v0
      generalize (c + 69621 * (t + 1) * (t + 1)) % (v * v) % v = z at z0 z1
      have bz : (-(2 ^ 64) : Int) < z + 1 ∧ z + 1 < 2 ^ 64 := ⟨by omega, by omega⟩
      refine ⟨.int (z + 1), rfl, .int (z + 1), rfl, z + 1, 1009, rfl, rfl, (by show (0 : Int) < 1009; decide), .int (t + 1), rfl, _, _, rfl, rfl, _, _, rfl, rfl, .inl bz, .int v, rfl, _, _, rfl, rfl, v0, _, 7, rfl, rfl, ⟨by decide, by decide⟩,
        .int m, rfl, _, _, rfl, rfl, hm0, ?_⟩
      exact q _ _ fr3 ⟨_, _, _, hp3, by omega, by omega⟩ (Int.emod_nonneg _ (by omega)) (Int.emod_lt_of_pos _ hm0)
end
end C2

namespace C2
set_option Elab.async false
set_option linter.all false
set_option maxRecDepth 100000
set_option maxHeartbeats 4000000
open PySem PySem.Spec PyProof.Rows L2
theorem seqAsg {ta : TE} {i : Nat} {t : TS} {D : _} {σ : L2.St} {H : Hp} (h : ta σ H fun x H1 => t D (σ.set i (some x)) H1) : tSeq (tAsg ta (gName i)) t D σ H := h
theorem tcb_run {r : List V → Hp → VK → Prop} {te : TE} {σ : L2.St} {H : Hp} {Q : VK} (h : te σ H fun x H1 => r [x] H1 Q) : tCB r (tCons te tNil) σ H Q := h
theorem gName_run {i : Nat} {v : V} {σ : L2.St} {H : Hp} {Q : L2.St → Hp → Prop} (h : Q (σ.set i (some v)) H) : gName i v σ H Q := h
theorem PotAt.mono {H : Hp} {p : Addr} {n m : Nat} (h : PotAt H p n) (l : n ≤ m) : PotAt H p m := by
  obtain ⟨g, c, t, a, b, d⟩ := h
  exact ⟨g, c, t, a, b, by omega⟩
theorem PotAt.new {H : Hp} {p t : Addr} {n : Nat} {o : HO} (h : PotAt H p n) (nt : H t = none) : PotAt (upd H t o) p n := by
  obtain ⟨g, c, u, hp, r⟩ := h
  exact ⟨g, c, u, by rw [upd_ne (ne_of_none hp nt)]; exact hp, r⟩
theorem PotAt.ne {H : Hp} {p t : Addr} {n : Nat} (h : PotAt H p n) (nt : H t = none) : t ≠ p := by
  obtain ⟨g, c, u, hp, r⟩ := h
  exact fun e => by rw [e, hp] at nt; cases nt
theorem PotAt.same {H H' : Hp} {p : Addr} {n : Nat} (h : PotAt H p n) (s : Same H H') : PotAt H' p n := by
  obtain ⟨g, c, u, hp, r⟩ := h
  exact ⟨g, c, u, s _ _ hp, r⟩
theorem PotAt.at {H : Hp} {p D : Addr} {o : HO} {n : Nat} (h : PotAt H p n) (ne : D ≠ p) : PotAt (upd H D o) p n := by
  obtain ⟨g, c, u, hp, r⟩ := h
  exact ⟨g, c, u, by rw [upd_ne ne.symm]; exact hp, r⟩
end C2

namespace C2
set_option Elab.async false
set_option linter.all false
set_option maxRecDepth 100000
set_option maxHeartbeats 4000000
open PySem PySem.Spec PyProof.Rows L2
def rTupOf (K : PySem.W.Frag) : List V → Hp → VK → Prop := fun xs H Q => ∃ p ys, xs = [.ref p] ∧ ((SqL K H p ys ∧ ∀ l, H l = none → Q (.ref l) (upd H l (.tup ys))) ∨ (SqT K H p ys ∧ Q (.ref p) H))
/-- numbers from nought to m -/
def Upto (m : Nat) (vs : List Int) : Prop := ∀ v ∈ vs, 0 ≤ v ∧ v ≤ (m : Int)
theorem Upto.snoc {m : Nat} {vs : List Int} {v : Int} (h : Upto m vs) (h0 : 0 ≤ v) (h1 : v ≤ (m : Int)) : Upto m (vs ++ [v]) := fun x hx => by
  rcases List.mem_append.mp hx with hx | hx
  · exact h x hx
  · rw [List.mem_singleton.mp hx]
    exact ⟨h0, h1⟩
theorem Upto.set {m : Nat} {vs : List Int} {v : Int} {j : Nat} (h : Upto m vs) (h0 : 0 ≤ v) (h1 : v ≤ (m : Int)) : Upto m (vs.set j v) := fun x hx => by
  rcases List.mem_or_eq_of_mem_set hx with hx | hx
  · exact h x hx
  · rw [hx]
    exact ⟨h0, h1⟩
theorem set_ints (vs : List Int) (j : Nat) (v : Int) : (vs.map V.int).set j (.int v) = (vs.set j v).map V.int := by rw [List.map_set]
/-- a comprehension over a range, each item drawn -/
theorem lc_draw {te : TE} {ta : TA} {σ : L2.St} {H : Hp} {Q : VK} {p : Addr} {sl n len m : Nat} (hs : ∀ v, wipe ((wipe σ [sl]).set sl (some v)) [sl] = wipe σ [sl]) (hlen : len ≤ 40) (hta : ∀ R : List V → Hp → Prop, R [.int (len : Int)] H → ta σ H R) (hP : PotAt H p n)
    (hte : ∀ (j : Nat) (G : Hp) (R : VK), j < len → PotAt G p (n + 3 * j) → (∀ (d : Int) G', Fr p G G' → PotAt G' p (n + 3 * (j + 1)) → 0 ≤ d → d ≤ (m : Int) → R (.int d) G') → te ((wipe σ [sl]).set sl (some (.int (j : Int)))) G R)
    (k : ∀ D vs G, Fr p H G → PotAt G p (n + 3 * len) → H D = none → D ≠ p → G D = some (.lst (vs.map V.int)) → vs.length = len → Upto m vs → Q (.ref D) G) : tLc (iRng1 ta) (gName sl) tYes te [sl] σ H Q := by
  refine hta _ ⟨(len : Int), rfl, by omega, by omega, fun D nD => ?_⟩
  have nDp : D ≠ p := hP.ne nD
  refine lc_range (lo := 0) (n := len) (fun j G => Fr p H G ∧ PotAt G p (n + 3 * j) ∧ ∃ vs : List Int, G D = some (.lst (vs.map V.int)) ∧ vs.length = j ∧ Upto m vs) ⟨Fr.new nD, hP.new nD, [], upd_same, rfl, fun v hv => by cases hv⟩ ?_ ?_
  · rintro j G hj ⟨fr, pt, vs, hD, hl, up⟩
    rw [Int.zero_add]
    refine ⟨hs _, ?_⟩
    simp only [tYes, ↓reduceIte]
    refine hte j G _ hj pt fun d G' f P d0 d1 => ⟨_, f _ _ nDp hD, ?_, ?_, P.at nDp, vs ++ [d], ?_, ?_, up.snoc d0 d1⟩
    · rw [List.length_map, hl]
      exact Nat.lt_of_lt_of_le (show j < 1000 by omega) (by decide)
    · intro b o nb e
      rw [upd_ne (ne_of_none e nD)]
      exact f _ _ nb (fr _ _ nb e)
    · rw [upd_same, List.map_append]
      rfl
    · rw [List.length_append, hl]
      rfl
  · rintro G ⟨fr, pt, vs, hD, hl, up⟩
    exact k D vs G fr pt nD nDp hD hl up
section
variable {P : Program} {w : World} {K : PySem.W.Frag} {mg : Str → Option Value} {base : Heap}
def tTk (e : TE) : TE := tCall spTake [] E0 (tCons (tVar 0) (tCons e tNil))
def tUp (c : Nat) : TE := tTk (tOp (rI0 fun i j => V.int (i + j)) (tVar c) (tC (V.int 1)))
def teP (K : PySem.W.Frag) (c : Nat) : TE := tOp (rIxL K) (tLst (tCons (tUp c) (tCons (tOp (rI CMul fun i j => V.int (i * j)) (tVar c) (tTk (tC (V.int 2)))) tNil))) (tVar 3)
theorem tk_ok {e : TE} {σ : L2.St} {G : Hp} {R : VK} {p : Addr} {m : Int} {n : Nat} (h0 : σ[0]? = some (some (.ref p))) (he : ∀ R : VK, R (.int m) G → e σ G R) (hP : PotAt G p n) (hn : n < 1000000) (m0 : 0 < m) (m1 : m < 1000)
    (k : ∀ d G', Fr p G G' → PotAt G' p (n + 1) → 0 ≤ d → d < m → R (.int d) G') : tTk e σ G R :=
  ⟨.ref p, h0, he _ ⟨p, m, n, rfl, hP, hn, m0, by omega, k⟩⟩
theorem up_ok {c : Nat} {σ : L2.St} {G : Hp} {R : VK} {p : Addr} {a n : Nat} (h0 : σ[0]? = some (some (.ref p))) (hc : σ[c]? = some (some (.int (a : Int)))) (hP : PotAt G p n) (hn : n < 1000000) (ha : a ≤ 40)
    (k : ∀ d G', Fr p G G' → PotAt G' p (n + 1) → 0 ≤ d → d ≤ (a : Int) → R (.int d) G') : tUp c σ G R :=
  tk_ok (m := (a : Int) + 1) h0 (fun R q => ⟨.int (a : Int), hc, _, 1, rfl, rfl, q⟩) hP hn (by omega) (by omega) fun d G' f P d0 d1 => k d G' f P d0 (by omega)
theorem teP_ok {c : Nat} {σ : L2.St} {G : Hp} {R : VK} {p : Addr} {a n : Nat} {way : Int} (h0 : σ[0]? = some (some (.ref p))) (hc : σ[c]? = some (some (.int (a : Int)))) (h3 : σ[3]? = some (some (.int way))) (hw : way = 0 ∨ way = 1) (hP : PotAt G p n) (hn : n < 999000) (ha : a ≤ 40)
    (k : ∀ d G', Fr p G G' → PotAt G' p (n + 3) → 0 ≤ d → d ≤ (a : Int) → R (.int d) G') : teP K c σ G R := by
  refine up_ok h0 hc hP (by omega) ha fun d G1 f1 P1 d0 d1 => ?_
  refine ⟨.int (a : Int), hc, tk_ok (m := 2) h0 (fun R q => q) P1 (by omega) (by decide) (by decide) fun x G2 f2 P2 x0 x1 => ?_⟩
  refine ⟨_, _, rfl, rfl, .inl ⟨by omega, by omega⟩, by show 2 ≤ sizeLine; decide, fun l nl => ⟨.int way, h3, ?_⟩⟩
  have f3 : Fr p G (upd G2 l (.lst [.int d, .int ((a : Int) * x)])) := f1.trans (f2.trans (Fr.new nl))
  have P3 := (P2.new (o := .lst [.int d, .int ((a : Int) * x)]) nl).mono (show n + 1 + 1 ≤ n + 3 by omega)
  rcases hw with rfl | rfl
  · exact ⟨l, _, _, .int d, rfl, rfl, .inl (.inl upd_same), rfl, k d _ f3 P3 d0 d1⟩
  · have cx : x = 0 ∨ x = 1 := by omega
    refine ⟨l, _, _, .int ((a : Int) * x), rfl, rfl, .inl (.inl upd_same), rfl, k _ _ f3 P3 ?_ ?_⟩
    · rcases cx with rfl | rfl <;> omega
    · rcases cx with rfl | rfl <;> omega
abbrev NPk : List Str := ["_law_pot_here", "_law_a", "_law_b", "_law_way", "_law_xs", "_law_ys", "_law_turn", "_law_j", "_law_i", "_law_x"]
theorem scPick : FnScope NPk ["_law_pot_here", "_law_a", "_law_b"] (defScope sPick) := ⟨rfl, rfl, rfl, by decide +kernel, rfl, by decide +kernel, by decide +kernel⟩
abbrev scSpot : Scope := { kind := .function, names := [(".0", .local), ("_law_i", .cell), ("len", .globalImplicit), ("_law_xs", .cell)], isGenerator := false, isCoroutine := false }
def ttLe : TT := tTest (tOp (rI0 fun i j => V.bl (decide (i ≤ j))) (tVar 9) (tVar 8))
def teCo (K : PySem.W.Frag) : TE := tCB (fun xs H Q => ∃ p ys, xs = [.ref p] ∧ (SqL K H p ys ∨ SqT K H p ys) ∧ Q (.int (ys.length : Nat)) H) (tCons (tLc (iList K (tVar 4)) (gName 9) ttLe (tVar 9) [9]) tNil)
/-- a pick of this size stands there -/
def PickAt (G : Hp) (t : Addr) (a b : Nat) (xs ys : List Int) : Prop := ∃ tx ty, G t = some (.tup [.ref tx, .ref ty]) ∧ G tx = some (.tup (xs.map V.int)) ∧ G ty = some (.tup (ys.map V.int)) ∧ xs.length = b ∧ ys.length = a ∧ Upto a xs ∧ Upto b ys
theorem PickAt.same {G G' : Hp} {t : Addr} {a b : Nat} {xs ys : List Int} (h : PickAt G t a b xs ys) (s : Same G G') : PickAt G' t a b xs ys := by
  obtain ⟨tx, ty, h1, h2, h3, r⟩ := h
  exact ⟨tx, ty, s _ _ h1, s _ _ h2, s _ _ h3, r⟩
def spPick : Sp := fun vs H Q _ => ∃ (p : Addr) (a b n : Nat), vs = [.ref p, .int (a : Int), .int (b : Int)] ∧ a ≤ 40 ∧ b ≤ 40 ∧ PotAt H p n ∧ n < 900000 ∧
  ∀ t xs ys H', Fr p H H' → PotAt H' p (n + 300) → PickAt H' t a b xs ys → Q (.ref t) H'
def tTups (K : PySem.W.Frag) : TE := tTup (tCons (tCB (rTupOf K) (tCons (tVar 4) tNil)) (tCons (tCB (rTupOf K) (tCons (tVar 5) tNil)) tNil))
theorem tups_ok {σ : L2.St} {G : Hp} {R : VK} {lx ly : Addr} {a b : Nat} {xs ys : List Int} (h4 : σ[4]? = some (some (.ref lx))) (h5 : σ[5]? = some (some (.ref ly))) (hx : G lx = some (.lst (xs.map V.int))) (hy : G ly = some (.lst (ys.map V.int)))
    (l1 : xs.length = b) (l2 : ys.length = a) (u1 : Upto a xs) (u2 : Upto b ys) (k : ∀ t G', Same G G' → PickAt G' t a b xs ys → R (.ref t) G') : tTups K σ G R := by
  refine ⟨.ref lx, h4, lx, _, rfl, .inl ⟨.inl (.inl hx), fun t1 n1 => ?_⟩⟩
  have s1 := same_upd (o := .tup (xs.map V.int)) n1
  refine ⟨.ref ly, h5, ly, _, rfl, .inl ⟨.inl (.inl (s1 _ _ hy)), fun t2 n2 => ⟨by show 2 ≤ sizeLine; decide, fun t nt => ?_⟩⟩⟩
  have s2 := same_upd (o := .tup (ys.map V.int)) n2
  have s3 := same_upd (o := .tup [.ref t1, .ref t2]) nt
  exact k t _ (s1.trans (s2.trans s3)) ⟨t1, t2, upd_same, s3 _ _ (s2 _ _ upd_same), s3 _ _ upd_same, l1, l2, u1, u2⟩
/-! ### letters put at drawn places -/
def tMany : TA := tCons (tOp (rI CMul fun i j => V.int (i * j)) (tOp (rI0 fun i j => V.int (i - j)) (tOp (rI CDiv fun i j => V.int (i / j)) (tVar 3) (tC (V.int 2))) (tC (V.int 1))) (tOp (rI0 fun i j => V.int (i + j)) (tC (V.int 1)) (tTk (tC (V.int 2))))) tNil
def tPut (c s d : Nat) : TS := tAsg (tUp c) (gSub (tVar s) (tTk (tVar d)) rSetL)
def tElse : TS := tIfS (tTest (tOp (rI0 fun i j => V.bl (decide (j < i))) (tVar 1) (tC (V.int 0)))) (tPut 2 5 1) tNext
def tTurn : TS := tIfS (tAnd (tTest (tOp (rI0 fun i j => V.bl (decide (j < i))) (tVar 2) (tC (V.int 0)))) (tTest (tOp rEq (tTk (tC (V.int 2))) (tC (V.int 0))))) (tPut 1 4 2) tElse
def tRest (K : PySem.W.Frag) : TS := tSeq (tFor (iRng1 tMany) (gName 6) tTurn) (tRet (tTups K))
theorem put_ok {c sl d : Nat} {σ : L2.St} {G : Hp} {D : Ends} {p l : Addr} {a b n : Nat} {vs : List Int} (h0 : σ[0]? = some (some (.ref p))) (hc : σ[c]? = some (some (.int (a : Int)))) (hs : σ[sl]? = some (some (.ref l))) (hd : σ[d]? = some (some (.int (b : Int))))
    (hl : G l = some (.lst (vs.map V.int))) (lv : vs.length = b) (b0 : 0 < b) (hb : b ≤ 40) (ha : a ≤ 40) (np : l ≠ p) (hP : PotAt G p n) (hn : n < 999000) (up : Upto a vs)
    (k : ∀ ws G', G' l = some (.lst (ws.map V.int)) → ws.length = b → Upto a ws → (∀ e o, e ≠ p → e ≠ l → G e = some o → G' e = some o) → PotAt G' p (n + 2) → D.nx σ G') : tPut c sl d D σ G := by
  refine up_ok h0 hc hP (by omega) ha fun v G1 f1 P1 v0 v1 => ?_
  refine ⟨.ref l, hs, tk_ok (m := (b : Int)) h0 (fun R q => ⟨.int (b : Int), hd, q⟩) P1 (by omega) (by omega) (by omega) fun j G2 f2 P2 j0 j1 => ?_⟩
  have h2 := f2 _ _ np (f1 _ _ np hl)
  have ej : j = ((j.toNat : Nat) : Int) := by omega
  refine ⟨l, vs.map V.int, j, j.toNat, rfl, rfl, h2, ?_, ?_⟩
  · rw [List.length_map, lv]
    unfold ixN
    rw [if_pos j0, if_pos j1]
  · refine k (vs.set j.toNat v) _ ?_ (by rw [List.length_set]; exact lv) (up.set v0 v1) (fun e o ne nl he => ?_) (P2.at np)
    · rw [upd_same, set_ints]
    · rw [upd_ne nl]
      exact f2 _ _ ne (f1 _ _ ne he)
theorem rest_ok {D : Ends} {H0 G : Hp} {p lx ly : Addr} {a b n : Nat} {way : Int} {xs ys : List Int} {y6 y7 y8 y9 : Option V} (w0 : 2 ≤ way) (w1 : way < 6) (ha : a ≤ 40) (hb : b ≤ 40) (fr : Fr p H0 G) (hP : PotAt G p n) (hn : n < 990000)
    (nx : H0 lx = none) (ny : H0 ly = none) (npx : lx ≠ p) (npy : ly ≠ p) (nxy : lx ≠ ly) (hx : G lx = some (.lst (xs.map V.int))) (hy : G ly = some (.lst (ys.map V.int))) (l1 : xs.length = b) (l2 : ys.length = a) (u1 : Upto a xs) (u2 : Upto b ys)
    (k : ∀ t xs ys G', Fr p H0 G' → PotAt G' p (n + 10) → PickAt G' t a b xs ys → D.rt (.ref t) G') :
    tRest K D [some (.ref p), some (.int (a : Int)), some (.int (b : Int)), some (.int way), some (.ref lx), some (.ref ly), y6, y7, y8, y9] G := by
  have hw : way / 2 = 1 ∨ way / 2 = 2 := by omega
  refine ⟨.int way, rfl, way, 2, rfl, rfl, ⟨by decide, by decide⟩, _, 1, rfl, rfl, tk_ok (m := 2) rfl (fun R q => q) hP (by omega) (by decide) (by decide) fun d G1 f1 P1 d0 d1 => ⟨1, d, rfl, rfl, _, _, rfl, rfl, .inl ⟨by omega, by omega⟩, ?_⟩⟩
  have hm : 0 ≤ (way / 2 - 1) * (1 + d) ∧ (way / 2 - 1) * (1 + d) ≤ 2 := by rcases hw with e | e <;> rw [e] <;> omega
  obtain ⟨mm, em, hm⟩ : ∃ mm, (way / 2 - 1) * (1 + d) = mm ∧ 0 ≤ mm ∧ mm ≤ 2 := ⟨_, rfl, hm⟩
  refine ⟨mm, congrArg (fun z => [V.int z]) em, by omega, by omega, ?_⟩
  have inv0 : Fr p H0 G1 := fr.trans f1
  refine for_range (lo := 0) (n := mm.toNat) (fun i σ G' => Fr p H0 G' ∧ PotAt G' p (n + 1 + 3 * i) ∧ ∃ xs ys : List Int, G' lx = some (.lst (xs.map V.int)) ∧ G' ly = some (.lst (ys.map V.int)) ∧ xs.length = b ∧ ys.length = a ∧ Upto a xs ∧ Upto b ys ∧
    ∃ y6, σ = [some (.ref p), some (.int (a : Int)), some (.int (b : Int)), some (.int way), some (.ref lx), some (.ref ly), y6, y7, y8, y9]) ⟨inv0, P1, xs, ys, f1 _ _ npx hx, f1 _ _ npy hy, l1, l2, u1, u2, _, rfl⟩ ?_ ?_
  · rintro i σ G2 hi ⟨fr2, P2, xs2, ys2, hx2, hy2, l1, l2, u1, u2, y6, rfl⟩
    rw [Int.zero_add]
    have i2 : i < 2 := by omega
    have other : ∀ G3, Fr p H0 G3 → PotAt G3 p (n + 1 + 3 * i + 1) → G3 lx = some (.lst (xs2.map V.int)) → G3 ly = some (.lst (ys2.map V.int)) → ∀ E : Ends, (∀ σ G', (Fr p H0 G' ∧ PotAt G' p (n + 1 + 3 * (i + 1)) ∧ ∃ xs ys : List Int, G' lx = some (.lst (xs.map V.int)) ∧ G' ly = some (.lst (ys.map V.int)) ∧ xs.length = b ∧ ys.length = a ∧ Upto a xs ∧ Upto b ys ∧
        ∃ y6, σ = [some (.ref p), some (.int (a : Int)), some (.int (b : Int)), some (.int way), some (.ref lx), some (.ref ly), y6, y7, y8, y9]) → E.nx σ G') →
        tElse E [some (.ref p), some (.int (a : Int)), some (.int (b : Int)), some (.int way), some (.ref lx), some (.ref ly), some (.int (i : Int)), y7, y8, y9] G3 := by
      intro G3 fr3 P3 hx3 hy3 E fin
      refine ⟨.int (a : Int), rfl, _, _, rfl, rfl, _, rfl, ite2 (fun e => ?_) (fun e => ?_)⟩
      · have a0 : 0 < a := by
          have := of_decide_eq_true e
          omega
        refine put_ok (a := b) (b := a) (l := ly) (vs := ys2) rfl rfl rfl rfl hy3 l2 a0 ha hb npy P3 (by omega) u2 fun ws G4 h4 lw uw kp P4 => fin _ _ ⟨fun e o ne he => ?_, P4.mono (by omega), xs2, ws, kp _ _ npx nxy hx3, h4, l1, lw, u1, uw, _, rfl⟩
        exact kp e o ne (ne_of_none he ny) (fr3 e o ne he)
      · exact fin _ _ ⟨fr3, P3.mono (by omega), xs2, ys2, hx3, hy3, l1, l2, u1, u2, _, rfl⟩
    refine ⟨.int (b : Int), rfl, _, _, rfl, rfl, _, rfl, ite2 (fun e => ?_) (fun e => ?_)⟩
    · have b0 : 0 < b := by
        have := of_decide_eq_true e
        omega
      refine tk_ok (m := 2) rfl (fun R q => q) P2 (by omega) (by decide) (by decide) fun d G3 f3 P3 d0 d1 => ⟨rfl, _, rfl, ite2 (fun e2 => ?_) (fun e2 => ?_)⟩
      · refine put_ok (a := a) (b := b) (l := lx) (vs := xs2) rfl rfl rfl rfl (f3 _ _ npx hx2) l1 b0 hb ha npx P3 (by omega) u1 fun ws G4 h4 lw uw kp P4 => ⟨fun e o ne he => ?_, P4.mono (by omega), ws, ys2, h4, kp _ _ npy nxy.symm (f3 _ _ npy hy2), lw, l2, uw, u2, _, rfl⟩
        exact kp e o ne (ne_of_none he nx) (f3 _ _ ne (fr2 e o ne he))
      · exact other G3 (fr2.trans f3) P3 (f3 _ _ npx hx2) (f3 _ _ npy hy2) _ fun _ _ h => h
    · exact other G2 fr2 (P2.mono (by omega)) hx2 hy2 _ fun _ _ h => h
  · rintro σ G2 ⟨fr2, P2, xs2, ys2, hx2, hy2, l1, l2, u1, u2, y6, rfl⟩
    exact tups_ok rfl rfl hx2 hy2 l1 l2 u1 u2 fun t G3 s3 pk => k t xs2 ys2 G3 (fr2.trans (Fr.same s3)) ((P2.same s3).mono (by omega)) pk
end
end C2

namespace C2
set_option Elab.async false
set_option linter.all false
set_option maxRecDepth 100000
set_option maxHeartbeats 4000000
open PySem PySem.Spec PyProof.Rows L2
section
variable {P : Program} {w : World} {K : PySem.W.Frag} {mg : Str → Option Value} {base : Heap}
/-- how many are at most so great -/
def upCount (xs : List Int) (i : Nat) : Int := ((xs.filter fun x => decide (x ≤ (i : Int))).length : Nat)
theorem upCount_le {b : Nat} {xs : List Int} (h : xs.length = b) (i : Nat) : 0 ≤ upCount xs i ∧ upCount xs i ≤ (b : Int) := by
  unfold upCount
  have := List.length_filter_le (fun x => decide (x ≤ (i : Int))) xs
  omega
theorem ok_pick {f fT : Addr} {fd fdT : FuncData} {k : Nat} (F : Fun K "_law_pick" "_law_pick" sPick f fd) (FT : Fun K "_law_take" "_law_take" sTake fT fdT) (bT : Binds K fdT ["_law_pot_here", "_law_many"] []) (gT : mg "_law_take" = some (.ref fT))
    (mr : mg "range" = none) (mt : mg "tuple" = none) (ms : mg "sorted" = none) (ml : mg "len" = none) : FnOk P w K mg base CX0 (k + 2) f fd ["_law_pot_here", "_law_a", "_law_b"] spPick := by
  have GT : FnOk P w K mg base CX0 (k + 1) fT fdT ["_law_pot_here", "_law_many"] spTake := ok_take FT
  refine F.ok scPick (fun vs H Q E h => ?_) (fun cdv A outer s H vs Q E hr h => ?_)
  · obtain ⟨p, a, b, n, rfl, _⟩ := h
    rfl
  · obtain ⟨p, a, b, n, rfl, ha, hb, hP, hn, q⟩ := h
    have nd := scPick.nd
    refine ⟨_, pss_cons (ps_set (i := 3) nd rfl (.inr rfl) (pe_call GT hr (by rfl) gT FT.kp bT .nil pass0 (pa_cons (pv 0) (pa_cons pe_int pa_nil))))
      (pss_cons (ps_if (pt_cmpR op_lt (pv 3) pe_int (nomark _)) (pss_cons (ps_set (i := 4) nd rfl (.inr rfl) (pe_lc (own := [("_law_j", 7)]) (g := gName 7) (tt := tYes) (te := teP K 1) rfl nd (pi_range1 (by rfl) mr (pa_cons (pv 2) pa_nil)) (blkOk_by (own := [("_law_j", 7)]) (N := NPk) (sc := defScope sPick) (by decide +kernel)) (fun _ _ _ _ _ => pg_name (i := 7) nd rfl (.inl rfl)) (fun _ _ _ _ _ => pts_nil) (fun _ _ _ _ _ => (pe_ix ix_list (pe_lst (pa_cons (pe_call GT hr (by rfl) gT FT.kp bT .nil pass0 (pa_cons (pv 0) (pa_cons (pe_op op_add (pv 1) pe_int) pa_nil))) (pa_cons (pe_op op_mul (pv 1) (pe_call GT hr (by rfl) gT FT.kp bT .nil pass0 (pa_cons (pv 0) (pa_cons pe_int pa_nil)))) pa_nil))) (pv 3) (fun _ _ => rfl)))))
      (pss_one (ps_ret (pe_tup (pa_cons (pe_callTy call_tuple_of (by rfl) mt (by decide +kernel) (pa_cons (pv 4) pa_nil)) (pa_cons (pe_callTy call_tuple_of (by rfl) mt (by decide +kernel) (pa_cons (pe_lc (own := [("_law_i", 8)]) (g := gName 8) (tt := tYes) (te := teP K 2) rfl nd (pi_range1 (by rfl) mr (pa_cons (pv 1) pa_nil)) (blkOk_by (own := [("_law_i", 8)]) (N := NPk) (sc := defScope sPick) (by decide +kernel)) (fun _ _ _ _ _ => pg_name (i := 8) nd rfl (.inl rfl)) (fun _ _ _ _ _ => pts_nil) (fun _ _ _ _ _ => (pe_ix ix_list (pe_lst (pa_cons (pe_call GT hr (by rfl) gT FT.kp bT .nil pass0 (pa_cons (pv 0) (pa_cons (pe_op op_add (pv 2) pe_int) pa_nil))) (pa_cons (pe_op op_mul (pv 2) (pe_call GT hr (by rfl) gT FT.kp bT .nil pass0 (pa_cons (pv 0) (pa_cons pe_int pa_nil)))) pa_nil))) (pv 3) (fun _ _ => rfl)))) pa_nil)) pa_nil)))))) pss_nil)
      (pss_cons (ps_set (i := 4) nd rfl (.inr rfl) (pe_callB cr_sorted (by rfl) ms (by decide +kernel) (pa_cons (pe_lc (own := [("_law_j", 7)]) (g := gName 7) (tt := tYes) (te := tUp 1) rfl nd (pi_range1 (by rfl) mr (pa_cons (pv 2) pa_nil)) (blkOk_by (own := [("_law_j", 7)]) (N := NPk) (sc := defScope sPick) (by decide +kernel)) (fun _ _ _ _ _ => pg_name (i := 7) nd rfl (.inl rfl)) (fun _ _ _ _ _ => pts_nil) (fun _ _ _ _ _ => (pe_call GT hr (by rfl) gT FT.kp bT .nil pass0 (pa_cons (pv 0) (pa_cons (pe_op op_add (pv 1) pe_int) pa_nil))))) pa_nil)))
      (pss_cons (ps_setLc (i := 5) (own := [("_law_i", 8)]) (g := gName 8) (tt := tYes) (te := teCo K) rfl nd rfl rfl (sw_true rfl rfl rfl (by decide +kernel)) (pi_range1 (by rfl) mr (pa_cons (pv 1) pa_nil)) (blkOk_by (own := [("_law_i", 8)]) (N := NPk) (sc := defScope sPick) (by decide +kernel)) (fun _ _ _ _ _ => (pg_name (i := 8) nd rfl (.inr rfl))) (fun _ _ _ _ _ => pts_nil) (fun _ _ _ _ _ => (pe_callB call_len_seq (by rfl) ml PySem.boot_len (pa_cons (pe_lc (own := [("_law_x", 9)]) (g := gName 9) (tt := ttLe) (te := tVar 9) rfl nd (pi_list (pv 4)) (blkOk_by (own := [("_law_x", 9)]) (N := NPk) (sc := scSpot) (by decide +kernel)) (fun _ _ _ _ _ => pg_name (i := 9) nd rfl (.inl rfl)) (fun _ _ _ _ _ => pts_one (pt_cmpR op_le (pv 9) (pv 8) (nomark _))) (fun _ _ _ _ _ => (pv 9))) pa_nil))))
      (pss_cons (ps_if (pt_cmpR op_eq (pe_op op_mod (pv 3) pe_int) pe_int (nomark _)) (pss_one (ps_asg (pe_tup (pa_cons (pe_lc (own := [("_law_x", 9)]) (g := gName 9) (tt := tYes) (te := tOp (rI0 fun i j => V.int (i - j)) (tVar 1) (tVar 9)) rfl nd (pi_list (pv 4)) (blkOk_by (own := [("_law_x", 9)]) (N := NPk) (sc := defScope sPick) (by decide +kernel)) (fun _ _ _ _ _ => pg_name (i := 9) nd rfl (.inl rfl)) (fun _ _ _ _ _ => pts_nil) (fun _ _ _ _ _ => (pe_op op_sub (pv 1) (pv 9)))) (pa_cons (pe_revL (pv 5)) pa_nil))) (pg_tup rfl (pgs_cons (pg_name (i := 4) nd rfl (.inr rfl)) (pgs_cons (pg_name (i := 5) nd rfl (.inl rfl)) pgs_nil))))) pss_nil)
      (pss_cons (ps_for PassesOwn.never rfl (pi_range1 (by rfl) mr (pa_cons (pe_op op_mul (pe_op op_sub (pe_op op_fdiv (pv 3) pe_int) pe_int) (pe_op op_add pe_int (pe_call GT hr (by rfl) gT FT.kp bT .nil pass0 (pa_cons (pv 0) (pa_cons pe_int pa_nil))))) pa_nil)) (pg_name (i := 6) nd rfl (.inl rfl)) (pss_one (ps_if (PW.pt (pw_and (pt_cmpR op_gt (pv 2) pe_int (nomark _)) (pw_and1 (pt_cmpR op_eq (pe_call GT hr (by rfl) gT FT.kp bT .nil pass0 (pa_cons (pv 0) (pa_cons pe_int pa_nil))) pe_int (nomark _))))) (pss_one (ps_asg (pe_call GT hr (by rfl) gT FT.kp bT .nil pass0 (pa_cons (pv 0) (pa_cons (pe_op op_add (pv 1) pe_int) pa_nil))) (pg_sub (pv 4) (pe_call GT hr (by rfl) gT FT.kp bT .nil pass0 (pa_cons (pv 0) (pa_cons (pv 2) pa_nil))) set_list))) (pss_one (ps_if (pt_cmpR op_gt (pv 1) pe_int (nomark _)) (pss_one (ps_asg (pe_call GT hr (by rfl) gT FT.kp bT .nil pass0 (pa_cons (pv 0) (pa_cons (pe_op op_add (pv 2) pe_int) pa_nil))) (pg_sub (pv 5) (pe_call GT hr (by rfl) gT FT.kp bT .nil pass0 (pa_cons (pv 0) (pa_cons (pv 1) pa_nil))) set_list))) pss_nil)))))
      (pss_one (ps_ret (pe_tup (pa_cons (pe_callTy call_tuple_of (by rfl) mt (by decide +kernel) (pa_cons (pv 4) pa_nil)) (pa_cons (pe_callTy call_tuple_of (by rfl) mt (by decide +kernel) (pa_cons (pv 5) pa_nil)) pa_nil)))))))))), ?_⟩
    refine ⟨.ref p, rfl, p, 6, n, rfl, hP, by omega, by decide, by decide, fun way H1 f1 P1 w0 w1 => ?_⟩
    refine ⟨.int way, rfl, _, _, rfl, rfl, _, rfl, ite2 (fun e => ?_) (fun e => ?_)⟩
    · have w2 : way = 0 ∨ way = 1 := by
        have := of_decide_eq_true e
        omega
      refine seqAsg (lc_draw (te := teP K 1) (sl := 7) (len := b) (m := a) (n := n + 1) (p := p) (fun v => rfl) hb (fun R h => ⟨.int (b : Int), rfl, h⟩) P1 (fun j G R hj pt kk => teP_ok (a := a) (n := n + 1 + 3 * j) (way := way) rfl rfl rfl w2 pt (by omega) ha fun d G' f P d0 d1 => kk d G' f (P.mono (by omega)) d0 d1) fun D vs G2 f2 P2 nD nDp hD l1 u1 => ?_)
      refine ⟨.ref D, rfl, D, _, rfl, .inl ⟨.inl (.inl hD), fun t1 n1 => ?_⟩⟩
      have s1 := same_upd (o := .tup (vs.map V.int)) n1
      refine tcb_run (lc_draw (te := teP K 2) (sl := 8) (len := a) (m := b) (n := n + 1 + 3 * b) (p := p) (fun v => rfl) ha (fun R h => ⟨.int (a : Int), rfl, h⟩) (P2.same s1) (fun j G R hj pt kk => teP_ok (a := b) (n := n + 1 + 3 * b + 3 * j) (way := way) rfl rfl rfl w2 pt (by omega) hb fun d G' f P d0 d1 => kk d G' f (P.mono (by omega)) d0 d1) fun D2 ws G3 f3 P3 nD2 nDp2 hD2 l2 u2 => ?_)
      refine ⟨D2, _, rfl, .inl ⟨.inl (.inl hD2), fun t2 n2 => ⟨by show 2 ≤ sizeLine; decide, fun t nt => ?_⟩⟩⟩
      have s2 := same_upd (o := .tup (ws.map V.int)) n2
      have s3 := same_upd (o := .tup [.ref t1, .ref t2]) nt
      have nt1 : t1 ≠ p := P2.ne n1
      refine q t vs ws _ (f1.trans (f2.trans ((Fr.same s1).trans (f3.trans (Fr.same (s2.trans s3)))))) (((P3.same s2).same s3).mono (by omega)) ⟨t1, t2, upd_same, s3 _ _ (s2 _ _ (f3 _ _ nt1 upd_same)), s3 _ _ upd_same, l1, l2, u1, u2⟩
    · have w2 : 2 ≤ way := by
        by_cases c : way < 2
        · exact absurd (decide_eq_true c) e
        · omega
      show tSeq (tAsg (tCB (rSorted K) (tCons (tLc (iRng1 (tCons (tVar 2) tNil)) (gName 7) tYes (tUp 1) [7]) tNil)) (gName 4)) _ _ _ _
      refine seqAsg (tcb_run (lc_draw (te := tUp 1) (sl := 7) (len := b) (m := a) (n := n + 1) (p := p) (fun v => rfl) hb (fun R h => ⟨.int (b : Int), rfl, h⟩) P1 (fun j G R hj pt kk => up_ok (a := a) (n := n + 1 + 3 * j) rfl rfl pt (by omega) ha fun d G' f P d0 d1 => kk d G' f (P.mono (by omega)) d0 d1) fun D vs G2 f2 P2 nD nDp hD l1 u1 => ?_))
      refine ⟨D, vs, rfl, .inl (.inl hD), by omega, fun xs lx pm srt nlx => ?_⟩
      have sx := same_upd (o := .lst (xs.map V.int)) nlx
      have nlxp : lx ≠ p := P2.ne nlx
      have l1' : xs.length = b := by rw [pm.length_eq, l1]
      have u1' : Upto a xs := fun v hv => u1 v (pm.mem_iff.mp hv)
      have P3 := P2.new (o := .lst (xs.map V.int)) nlx
      have f3 : Fr p H (upd G2 lx (.lst (xs.map V.int))) := f1.trans (f2.trans (Fr.same sx))
      have hx3 : (upd G2 lx (.lst (xs.map V.int))) lx = some (.lst (xs.map V.int)) := upd_same
      generalize upd G2 lx (.lst (xs.map V.int)) = G3 at P3 f3 hx3
      -- the counts
      refine ⟨.int (a : Int), rfl, (a : Int), rfl, by omega, by omega, fun ly nly => ?_⟩
      refine lc_range (lo := 0) (n := a) (fun i G => Same G3 G ∧ G ly = some (.lst (((List.range i).map fun i => upCount xs i).map V.int))) ⟨same_upd nly, upd_same⟩ ?_ ?_
      · rintro i G hi ⟨sm, hly⟩
        rw [Int.zero_add]
        have hxG := sm _ _ hx3
        refine ⟨rfl, .ref lx, rfl, lx, rfl, ⟨_, .inl (.inl hxG)⟩, fun D2 nD2 => ?_⟩
        refine lc_list (xs := xs.map V.int) (fun m G' => Same G G' ∧ G' D2 = some (.lst (((xs.take m).filter fun x => decide (x ≤ (i : Int))).map V.int))) ⟨same_upd nD2, upd_same⟩ (fun m G' _ h => .inl (.inl (h.1 _ _ hxG))) ?_ ?_
        · rintro m x G' hx ⟨s2, h2⟩
          have hm : m < xs.length := by
            have := (List.getElem?_eq_some_iff.mp hx).1
            rw [List.length_map] at this
            exact this
          have ex : x = .int xs[m] := by
            rw [List.getElem?_map, List.getElem?_eq_getElem hm] at hx
            exact (Option.some.inj hx).symm
          subst ex
          have tk : (xs.take (m + 1)).filter (fun x => decide (x ≤ (i : Int))) = (xs.take m).filter (fun x => decide (x ≤ (i : Int))) ++ if xs[m] ≤ (i : Int) then [xs[m]] else [] := by
            rw [List.take_add_one, List.getElem?_eq_getElem hm, List.filter_append]
            congr 1
            show List.filter _ [xs[m]] = _
            by_cases c : xs[m] ≤ (i : Int)
            · simp [c]
            · simp [c]
          refine ⟨rfl, .int xs[m], rfl, .int (i : Int), rfl, _, _, rfl, rfl, _, rfl, ite2 (fun c => ?_) (fun c => ?_)⟩
          · have c' := of_decide_eq_true c
            refine ⟨.int xs[m], rfl, _, h2, ?_, ?_, ?_⟩
            · rw [List.length_map]
              refine Nat.lt_of_le_of_lt (List.length_filter_le _ _) (Nat.lt_of_lt_of_le (show (xs.take m).length < 1000 by rw [List.length_take]; omega) (by decide))
            · intro b' o e'
              rw [upd_ne (ne_of_none e' nD2)]
              exact s2 _ _ e'
            · rw [upd_same, tk, if_pos c', List.map_append]
              rfl
          · have c' : ¬ xs[m] ≤ (i : Int) := fun z => c (decide_eq_true z)
            rw [tk, if_neg c', List.append_nil]
            exact ⟨s2, h2⟩
        · rintro G' ⟨s2, h2⟩
          rw [List.take_of_length_le (by rw [List.length_map]; exact Nat.le_refl _)] at h2
          refine ⟨D2, _, rfl, .inl (.inl (.inl h2)), _, s2 _ _ hly, ?_, ?_, ?_⟩
          · rw [List.length_map, List.length_map, List.length_range]
            exact Nat.lt_of_lt_of_le (show i < 1000 by omega) (by decide)
          · intro b' o e'
            rw [upd_ne (ne_of_none e' nly)]
            exact s2 _ _ (sm _ _ e')
          · rw [upd_same, List.range_succ, List.map_append, List.map_append, List.length_map]
            rfl
      · rintro G4 ⟨s4, h4⟩
        have hx4 := s4 _ _ hx3
        have P4 := P3.same s4
        have f4 := f3.trans (Fr.same s4)
        have nlyp : ly ≠ p := P3.ne nly
        have nxy : lx ≠ ly := ne_of_none hx3 nly
        have lys : ((List.range a).map fun i => upCount xs i).length = a := by rw [List.length_map, List.length_range]
        have uys : Upto b ((List.range a).map fun i => upCount xs i) := fun v hv => by
          obtain ⟨i, _, rfl⟩ := List.mem_map.mp hv
          exact upCount_le l1' i
        generalize (List.range a).map (fun i => upCount xs i) = ys at h4 lys uys
        have nH : ∀ z, z ≠ p → G3 z = none → H z = none := fun z nz h => f3.free nz h
        have nHx : H lx = none := (f1.trans f2).free nlxp nlx
        have nHy : H ly = none := nH ly nlyp nly
        refine gName_run ?_
        refine ⟨.int way, rfl, _, _, rfl, rfl, (by show (0 : Int) < 2; decide), rfl, _, rfl, ite2 (fun c => ?_) (fun c => ?_)⟩
        · refine ⟨.ref lx, rfl, lx, rfl, ⟨_, .inl (.inl hx4)⟩, fun D3 nD3 => ?_⟩
          refine lc_list (xs := xs.map V.int) (fun m G' => Same G4 G' ∧ G' D3 = some (.lst (((xs.take m).map fun x => (a : Int) - x).map V.int))) ⟨same_upd nD3, upd_same⟩ (fun m G' _ h => .inl (.inl (h.1 _ _ hx4))) ?_ ?_
          · rintro m x G' hx ⟨s5, h5⟩
            have hm : m < xs.length := by
              have := (List.getElem?_eq_some_iff.mp hx).1
              rw [List.length_map] at this
              exact this
            have ex : x = .int xs[m] := by
              rw [List.getElem?_map, List.getElem?_eq_getElem hm] at hx
              exact (Option.some.inj hx).symm
            subst ex
            refine ⟨rfl, .int (a : Int), rfl, .int xs[m], rfl, _, _, rfl, rfl, _, h5, ?_, ?_, ?_⟩
            · rw [List.length_map, List.length_map, List.length_take]
              exact Nat.lt_of_le_of_lt (Nat.min_le_left _ _) (Nat.lt_of_lt_of_le (show m < 1000 by omega) (by decide))
            · intro b' o e'
              rw [upd_ne (ne_of_none e' nD3)]
              exact s5 _ _ e'
            · rw [upd_same, List.take_add_one, List.getElem?_eq_getElem hm, List.map_append, List.map_append]
              rfl
          · rintro G5 ⟨s5, h5⟩
            rw [List.take_of_length_le (by rw [List.length_map]; exact Nat.le_refl _)] at h5
            have h4' := s5 _ _ h4
            refine ⟨.ref ly, rfl, ly, _, rfl, .inl (.inl h4'), fun D4 nD4 => ⟨by show 2 ≤ sizeLine; decide, fun T nT => ?_⟩⟩
            have s6 := same_upd (o := .lst (ys.map V.int).reverse) nD4
            have s7 := same_upd (o := .tup [.ref D3, .ref D4]) nT
            refine ⟨T, _, rfl, .inl (.inl upd_same), rfl, _, _, rfl, _, _, rfl, rfl, ?_⟩
            have s57 := s5.trans (s6.trans s7)
            have nD3p : D3 ≠ p := P4.ne nD3
            have nD4p : D4 ≠ p := (P4.same s5).ne nD4
            refine rest_ok (H0 := H) (n := n + 1 + 3 * b) (xs := xs.map fun x => (a : Int) - x) (ys := ys.reverse) w2 w1 ha hb (f4.trans (Fr.same s57)) (P4.same s57) (by omega) ((f4.free nD3p) nD3) ((f4.trans (Fr.same s5)).free nD4p nD4) nD3p nD4p (ne_of_none h5 nD4) (s7 _ _ (s6 _ _ h5)) ?_ ?_ ?_ ?_ ?_ fun t xs' ys' G' fr' pt' pk => q t xs' ys' G' fr' (pt'.mono (by omega)) pk
            · rw [← List.map_reverse] at s7 ⊢
              exact s7 _ _ (by rw [upd_same, List.map_reverse])
            · rw [List.length_map]; exact l1'
            · rw [List.length_reverse]; exact lys
            · intro v hv
              obtain ⟨x, hx, rfl⟩ := List.mem_map.mp hv
              have := u1' x hx
              omega
            · intro v hv
              exact uys v (List.mem_reverse.mp hv)
        · exact rest_ok (H0 := H) (n := n + 1 + 3 * b) w2 w1 ha hb f4 P4 (by omega) nHx nHy nlxp nlyp nxy hx4 h4 l1' lys u1' uys fun t xs' ys' G' fr' pt' pk => q t xs' ys' G' fr' (pt'.mono (by omega)) pk
end
end C2

namespace C2
set_option Elab.async false
set_option linter.all false
set_option maxRecDepth 100000
set_option maxHeartbeats 4000000
open PySem PySem.Spec PyProof.Rows L2
/-! ### zip of a list and a tuple -/
def ItLT (K : PySem.W.Frag) (a b : Addr) : It :=
  ⟨fun j G => ∃ (us vs : List V) (u v : V), SqL K G a us ∧ SqT K G b vs ∧ us[j]? = some u ∧ vs[j]? = some v,
    fun j G r G' => ∃ T u v, r = .ref T ∧ G T = none ∧ G' = upd G T (.tup [u, v]) ∧ (∀ us, SqL K G a us → us[j]? = some u) ∧ ∀ vs, SqT K G b vs → vs[j]? = some v,
    fun j G => ∃ us vs : List V, SqL K G a us ∧ SqT K G b vs ∧ j ≤ us.length ∧ j ≤ vs.length ∧ (j = us.length ∨ j = vs.length)⟩
def tnLT (a b z TI TO i1 i2 : Addr) (j : Nat) (h : Heap) : Prop :=
  IsZip h z TI TO .none ∧ IsTupOf2 h TI (.ref i1) (.ref i2) ∧ (∃ u v, IsTupOf2 h TO u v) ∧ h.IsListIter i1 a j ∧ h.IsTupleIter i2 b j
theorem in5 {c z TI TO i1 i2 : Addr} (h : c ∈ [z, TI, TO, i1, i2]) : c = z ∨ c = TI ∨ c = TO ∨ c = i1 ∨ c = i2 := by simpa using h
theorem turnLT {P : Program} {w : World} {K : PySem.W.Frag} {elts : List Expr} {kk : Nat} {tpos : Pos} {a b z TI TO i1 i2 : Addr} (S : ZipSep2 z TI TO i1 i2 [i1, a] [i2, b]) :
    Turn P w K (.Tuple elts kk tpos) (ItLT K a b) [z, TI, TO, i1, i2] z (tnLT a b z TI TO i1 i2) where
  mem := by simp
  obj := by
    rintro j h ⟨q1, q2, ⟨u, v, q3⟩, ⟨o4, q4, _, d4⟩, ⟨o5, q5, _, d5⟩⟩ c hc
    rcases in5 hc with rfl | rfl | rfl | rfl | rfl
    · exact ⟨_, q1, fun _ e => nomatch e⟩
    · exact ⟨_, q2, fun _ e => nomatch e⟩
    · exact ⟨_, q3, fun _ e => nomatch e⟩
    · exact ⟨o4, q4, fun _ e => by rw [d4] at e; cases e⟩
    · exact ⟨o5, q5, fun _ e => by rw [d5] at e; cases e⟩
  keep := by
    rintro j h h' ⟨q1, q2, ⟨u, v, q3⟩, q4, q5⟩ kp
    exact ⟨kp z (by simp) _ q1, kp TI (by simp) _ q2, ⟨u, v, kp TO (by simp) _ q3⟩, q4.at fun o e => kp i1 (by simp) o e, q5.at fun o e => kp i2 (by simp) o e⟩
  item := by
    intro X hP hw hK hc j pins s σ G E I hf st hg
    subst hP hw hK
    obtain ⟨q1, q2, ⟨u0, v0, q3⟩, q4, q5⟩ := st
    obtain ⟨us, vs, u, v, su, sv, gu, gv⟩ := hg
    obtain ⟨uits, ru, pu, _⟩ := I.list su
    obtain ⟨vits, rv, pv, _⟩ := I.tuple sv
    obtain ⟨uu, huu, ruu⟩ := ru.get gu
    obtain ⟨vv, hvv, rvv⟩ := rv.get gv
    have hd : X.A.handled = none := I.ok.hd hc
    have hzl : z < s.heap.objs.size := Heap.lt_size q1
    have ne1 : a ≠ i1 := fun e => by
      obtain ⟨o4, e4, c4, _⟩ := q4
      obtain ⟨o, oe, oc, _⟩ := pu.isList
      rw [e, e4] at oe
      cases oe
      rw [c4] at oc
      exact absurd oc (by decide)
    have ne2 : b ≠ i2 := fun e => by
      obtain ⟨o4, e4, c4, _⟩ := q5
      obtain ⟨o, oe, oc, _⟩ := pv
      rw [e, e4] at oe
      cases oe
      rw [c4] at oc
      exact absurd oc (by decide)
    have D1 := Draws.list (prog := X.prog) (w := X.w) (A := X.A.in1) hd i1 a ne1 uits.toArray
    have D2 := Draws.tuple (prog := X.prog) (w := X.w) (A := X.A.in1) hd i2 b ne2 vits.toArray
    have l1 : j < uits.toArray.size := by
      have := (List.getElem?_eq_some_iff.mp huu).1
      simpa using this
    have l2 : j < vits.toArray.size := by
      have := (List.getElem?_eq_some_iff.mp hvv).1
      simpa using this
    refine wpAny_pyNext_zipD2_item S D1 D2 q1 q2 q3 ⟨q4, pu.isList⟩ ⟨q5, pv⟩ l1 l2 fun x1 x2 h' tk e1 e2 n1 n3 n4 n5 nT nsz nk => ?_
    have ex1 : x1 = uu := Option.some.inj (e1.symm.trans (by simpa using huu))
    have ex2 : x2 = vv := Option.some.inj (e2.symm.trans (by simpa using hvv))
    subst ex1 ex2
    refine ⟨_, rfl, wpAny_letOwnedTupleGo_zip (s := { s with heap := h', toks := tk }) n1 fun h'' m1 sb => ?_⟩
    have mT : h''.get? s.heap.objs.size = some { cls := .type "tuple", data := .seq #[x1, x2] } := (sb.2 _ (Nat.ne_of_gt hzl)).trans nT
    have new : ObjOk X.prog X.w (upd G s.heap.objs.size (.tup [u, v])) h'' s.heap.objs.size (.tup [u, v]) :=
      ⟨by show 2 ≤ sizeLine; decide, [x1, x2], .cons ruu (.cons rvv .nil), ⟨_, mT, rfl, _, rfl⟩⟩
    have I1 : Inv X pins σ (upd G s.heap.objs.size (.tup [u, v])) { s with heap := h'', toks := tk } :=
      I.turnedNew (t' := tk) (ch := [z, TI, TO, i1, i2]) (fun c o hb q => (sb.2 c (fun e => hb (by simp [e]))).trans
        (nk c o (fun e => hb (by simp [e])) (fun e => hb (by simp [e])) (fun e => hb (by simp [e])) (fun e => hb (by simp [e])) q)) hf (Nat.le_refl _) new
    refine ⟨.ref s.heap.objs.size, _, I1, rfl, ⟨_, u, v, rfl, I.hok.fresh (Nat.le_refl _), rfl, fun l hl => ?_, fun l hl => ?_⟩, ⟨m1, ?_, ⟨x1, x2, ?_⟩, ?_, ?_⟩, fun c hcm => ?_⟩
    · rw [I.list_inj hl su]; exact gu
    · rw [I.tuple_inj hl sv]; exact gv
    · exact (sb.2 _ S.TIz).trans (nk _ _ S.TIz S.TITO S.TIi1 S.TIi2 q2)
    · exact (sb.2 _ S.TOz).trans n3
    · exact n4.1.at fun o e => (sb.2 _ S.zi1.symm).trans e
    · exact n5.1.at fun o e => (sb.2 _ S.zi2.symm).trans e
    · have low : c < s.heap.objs.size := by
        rcases in5 hcm with rfl | rfl | rfl | rfl | rfl
        · exact hzl
        · exact Heap.lt_size q2
        · exact Heap.lt_size q3
        · obtain ⟨_, y, _⟩ := q4; exact Heap.lt_size y
        · obtain ⟨_, y, _⟩ := q5; exact Heap.lt_size y
      rw [upd_ne (Nat.ne_of_lt low)]
      exact (hf c hcm).1
  done := by
    intro X hP hw hK hc j pins s σ G E I hf st hg
    subst hP hw hK
    obtain ⟨q1, q2, ⟨u0, v0, q3⟩, q4, q5⟩ := st
    obtain ⟨us, vs, su, sv, b1, b2, b3⟩ := hg
    obtain ⟨uits, ru, pu, _⟩ := I.list su
    obtain ⟨vits, rv, pv, _⟩ := I.tuple sv
    have hd : X.A.handled = none := I.ok.hd hc
    have ne1 : a ≠ i1 := fun e => by
      obtain ⟨o4, e4, c4, _⟩ := q4
      obtain ⟨o, oe, oc, _⟩ := pu.isList
      rw [e, e4] at oe
      cases oe
      rw [c4] at oc
      exact absurd oc (by decide)
    have ne2 : b ≠ i2 := fun e => by
      obtain ⟨o4, e4, c4, _⟩ := q5
      obtain ⟨o, oe, oc, _⟩ := pv
      rw [e, e4] at oe
      cases oe
      rw [c4] at oc
      exact absurd oc (by decide)
    have D1 := Draws.list (prog := X.prog) (w := X.w) (A := X.A.in1) hd i1 a ne1 uits.toArray
    have D2 := Draws.tuple (prog := X.prog) (w := X.w) (A := X.A.in1) hd i2 b ne2 vits.toArray
    have l1 := ru.length
    have l2 := rv.length
    refine wpAny_pyNext_zipD2_end S D1 D2 q1 q2 q3 ⟨q4, pu.isList⟩ ⟨q5, pv⟩ (by simp; omega) (by simp; omega) (by simp; omega) fun h' tk nk => ⟨rfl, ?_⟩
    exact I.turnedL (t' := tk) (ch := [z, TI, TO, i1, i2]) (fun c o hb q =>
      nk c o (fun e => hb (by simp [e])) (fun e => hb (by simp [e])) (fun e => hb (by simp [e])) (fun e => hb (by simp [e])) q) hf
  self := fun A j s Q E st h => wpAny_pyIter_zip st.1 h
def iZipLT (K : PySem.W.Frag) (ta : TA) : TI := fun σ G R => ta σ G fun vs G1 => ∃ a b us ys, vs = [.ref a, .ref b] ∧ SqL K G1 a us ∧ SqT K G1 b ys ∧ R (ItLT K a b) G1
theorem pi_zipLT {X : Cx} {e e2 : Expr} {ta : TA} {p pos tpos : Pos} {elts : List Expr} {kk : Nat} (hg : Gl X "zip") (hm : X.mg "zip" = none) (ha : PA X [e, e2] ta)
    (plainArgs : starEach [e, e2] X.env = (false, eval e X.env) :: starEach [e2] X.env := by rfl)
    (noStar : (backTo pos (starEach [e2] X.env)).any (·.1) = false := by rfl) :
    PI X (.Tuple elts kk tpos) (.Call (.Name "zip" p) [e, e2] [] pos) (iZipLT X.K ta) := by
  refine ⟨fun pins s σ G R I h => Call_ (ld_blt I hg hm PyProof.Rows.boot_zip (PyProof.Rows.callWith_type1 (thn (ha.run pos pins s σ G _ I h) fun us s1 ⟨vs, G1, I1, r1, q1⟩ => ?_) plainArgs noStar))⟩
  obtain ⟨a, b, xs, ys, rfl, sx, sy, q⟩ := q1
  cases r1 with
  | cons r rr => cases rr with
    | cons r' rr =>
      cases rr
      cases r
      cases r'
      obtain ⟨uits, ru, pu, _⟩ := I1.list sx
      obtain ⟨vits, rv, pv, _⟩ := I1.tuple sy
      obtain ⟨oa, ea, _⟩ := id pu.isList
      obtain ⟨ob, eb, _⟩ := id pv
      have S := zip_sep2 (N := s1.heap.objs.size) (fp1 := [a]) (fp2 := [b]) (fun c hc => by rw [List.mem_singleton.mp hc]; exact Heap.lt_size ea) (fun c hc => by rw [List.mem_singleton.mp hc]; exact Heap.lt_size eb)
      refine zip_begins2 (begins_list a uits.toArray) (begins_tuple b vits.toArray) pu.isList pv fun h' g1 g2 g3 g4 g5 gsz gk => wpAny_pyIter_zip g1 ?_
      refine ⟨s1.heap.objs.size + 4, [s1.heap.objs.size + 4, s1.heap.objs.size + 2, s1.heap.objs.size + 3, s1.heap.objs.size, s1.heap.objs.size + 1], _, _, G1, rfl, I1.kept (t' := s1.toks) gk, turnLT S,
        ⟨g1, g2, ⟨_, _, g3⟩, ⟨_, g4, rfl, rfl⟩, ⟨_, g5, rfl, rfl⟩⟩, fun c hc => ?_, q⟩
      have above : s1.heap.objs.size ≤ c := by
        rcases in5 hc with rfl | rfl | rfl | rfl | rfl
        · exact Nat.le_add_right _ _
        · exact Nat.le_add_right _ _
        · exact Nat.le_add_right _ _
        · exact Nat.le_refl _
        · exact Nat.le_add_right _ _
      exact I1.fpOk above (I1.hok.fresh above)
theorem walkLT {K : PySem.W.Frag} {a b : Addr} {xs ys : List V} {n : Nat} (h1 : xs.length = n) (h2 : ys.length = n) : Walk (ItLT K a b) n (fun G => SqL K G a xs ∧ SqT K G b ys) (YPair (fun i => xs[i]?) (fun i => ys[i]?)) := by
  refine ⟨fun i G hi q => ⟨xs, ys, xs[i]'(by omega), ys[i]'(by omega), q.1, q.2, List.getElem?_eq_getElem _, List.getElem?_eq_getElem _⟩, fun G q => ⟨xs, ys, q.1, q.2, by omega, by omega, by omega⟩, fun i G v G' _ q y => ?_⟩
  obtain ⟨T, u, v, e1, e2, e3, e4, e5⟩ := y
  exact ⟨T, u, v, e1, e2, e3, e4 xs q.1, e5 ys q.2⟩
/-! ### repr of data -/
def rReprD (K : PySem.W.Frag) : List V → Hp → VK → Prop := fun xs G Q => ∃ a d, xs = [.ref a] ∧ Dp K G (.ref a) d ∧ d.showable = true ∧ d.hasDict = false ∧ d.depth ≤ 60 ∧ d.shown.length ≤ sizeLine ∧ Q (.str d.shown) G
theorem call_reprD {X : Cx} (hu : X.A.units + 64 < cLine) (hgd : X.A.guards = some []) : CallR X (.builtin "repr") (rReprD X.K) := by
  intro pins s σ G xs us Q I r h
  obtain ⟨a, d, rfl, hd, s1, s2, s3, s4, q⟩ := h
  obtain ⟨given, rfl, rel⟩ := vals1 r
  obtain ⟨as, rd⟩ := Dp.reads I d _ _ hd rel
  cases rel
  refine repr_of_reads' rd s1 (fun e => by rw [s2] at e; cases e) hgd (by omega) (fun _ _ e => e) (fun h' t tk kp => ?_) s4
  exact ⟨.str d.shown, G, I.kept (t' := tk) kp, ⟨_, rfl⟩, q⟩
end C2

namespace C2
set_option Elab.async false
set_option linter.all false
set_option maxRecDepth 100000
set_option maxHeartbeats 4000000
open PySem PySem.Spec PyProof.Rows L2
/-! ### a def's promise where no repr is under way -/
structure FnG (P : Program) (w : World) (K : PySem.W.Frag) (mg : Str → Option Value) (base : Heap) (k : Nat) (f : Addr) (fd : FuncData) (ps : List Str) (sp : Sp) : Prop where
  len : ∀ vs G Q E, sp vs G Q E → vs.length = ps.length
  run : ∀ (A : Around) (outer : List Env) (s : Shared) (G : Hp) (args : Args) (us : List Value) (vs : List V) (Q : VK) (E : XK), A.guards = some [] → Room k A →
    Env0 P w K mg base A outer s G → BindsTo s fd args (ps.zip us) → Vals vs us → sp vs G Q E → codeAny (model P w) A (.call (.ref f) args) (CR CX0 outer P w G s Q E) s
section
variable {P : Program} {w : World} {K : PySem.W.Frag} {mg : Str → Option Value} {base : Heap}
theorem deeper_guards {A : Around} {env : Env} (h : A.guards = some []) : (A.deeper env).guards = some [] := h
theorem okG {x qual : Str} {st : Stmt} {f : Addr} {fd : FuncData} {N ps : List Str} {k : Nat} {sp : Sp} (F : Fun K x qual st f fd) (S : FnScope N ps (defScope st)) (len : ∀ vs G Q E, sp vs G Q E → vs.length = ps.length)
    (body : ∀ (cdv : Value) (A : Around) (outer : List Env) (s : Shared) (G : Hp) (vs : List V) (Q : VK) (E : XK), A.guards = some [] → Room k (A.deeper (envOfC qual (defScope st) s.heap.objs.size f cdv)) → sp vs G Q E →
      ∃ t, PSs (cxOf CX0 P w K mg base N qual (defScope st) f cdv A outer s G E).nox (defBody st) t ∧ t { nx := fun _ G' => Q .non G', rt := Q } (start N vs) G) : FnG P w K mg base (k + 1) f fd ps sp := by
  obtain ⟨v1, v2, v3, v4, v5, v6, cdv, v7, v8, rfl, lk, hcd⟩ := F.ex
  refine ⟨len, fun A outer s G args us vs Q E hgd hr e0 hb r hsp => ?_⟩
  have ln := len vs G Q E hsp
  have inK : K.In s.heap := e0.mod.kin.keeps fun c y e => (e0.bs c y e).left
  have noL : s.heap.NoLimit := e0.mod.nolimit.keeps fun c y e => (e0.bs c y e).left
  refine codeAny_call_function hr.depth (inK _ _ lk) rfl S.co S.gen rfl (PySem.W.codeRec_of inK hcd) (hb _ _ _ _ ?_)
  refine wpAny_newFunctionEnv_cells S.kind (fun y hy => ?_) fun env he s1 x => ?_
  · rcases S.par y.1 (List.of_mem_zip (a := y.1) (b := y.2) hy).1 with q | q
    · exact Or.inl q
    · exact Or.inr ⟨q, PySem.W.cellsFrom_some _ _ _ (Or.inl q)⟩
  · subst he
    refine ⟨noL.keeps x.toInCall.keep, codeAny_func ?_⟩
    obtain ⟨t, ht, hq⟩ := body cdv A outer s G vs Q E hgd (hr.deeper _) hsp
    have J0 := inv_start (CX := CX0) (E := E) S hr.hd e0 ln r x
    refine wpAny_mono (ht.nox.run [] s1 (start N vs) G _ J0 hq) (fun fl s' hs => ?_) fun _ _ hs => hs
    cases fl with
    | ret u =>
      obtain ⟨v, σ', G', J, rv, q⟩ := hs
      exact ⟨v, G', J.os, J.bare, J.base, J.hok, rv, q⟩
    | next =>
      obtain ⟨σ', G', J, q⟩ := hs
      exact ⟨V.non, G', J.os, J.bare, J.base, J.hok, rfl, q⟩
    | brk =>
      obtain ⟨_, _, _, q⟩ := hs
      exact q.elim
    | cont =>
      obtain ⟨_, _, _, q⟩ := hs
      exact q.elim
/-- what the law's own call leaves: True, and what stood before as it was -/
def Leaves (s₁ : Shared) : Except Value Flow → Shared → Prop := fun r s' => r = .ok (.ret (.bool true)) ∧ OldK s₁.heap s'.heap ∧
  s'.os = s₁.os ∧ AllBare s'.gens
/-- the law's own call -/
theorem law_callG {mb : Str → Option Value} {k : Nat} {fa a : Addr} {fd : FuncData} {x : Str} {sp : Sp} {s₁ : Shared} {vs : List Value} {ns : List Int}
    (inK : K.In s₁.heap) (hns : s₁.heap.Ns mainGlobals mg) (hb : s₁.heap.Ns builtinsNs mb) (hbb : ∀ x : Str, x ≠ "__name__" → mb x = bootBuiltins x) (hlim : s₁.heap.NoLimit) (hg : s₁.gens = #[])
    (hr : Room k callerA) (hl : ns.length ≤ sizeLine) (hi : IntsAre vs ns)
    (ha : s₁.heap.get? a = some { cls := .type "list", data := .seq vs.toArray })
    (F : ∀ base : Heap, K.In base → base.Ns mainGlobals mg → FnG P w K mg base k fa fd [x] sp) (hbind : ∀ (s : Shared) (u : Value), BindsTo s fd ⟨[u], []⟩ [(x, u)])
    (hsp : ∀ G : Hp, SqL K G a (ns.map V.int) → sp [.ref a] G (fun v _ => v = .bl true) fun _ _ _ => False) :
    codeAny (model P w) callerA (.call (.ref fa) ⟨[.ref a], []⟩) (Leaves s₁) s₁ := by
  have main : ∀ G : Hp, Only G → SqL K G a (ns.map V.int) → HOk P w G s₁.heap → (∀ b, G b ≠ none → b = a) → (G a ≠ none → K.lookup a = none) →
      codeAny (model P w) callerA (.call (.ref fa) ⟨[.ref a], []⟩) (Leaves s₁) s₁ := by
    intro G only sq hok one off
    have hid : ∀ {b : Addr} {y : Obj}, s₁.heap.get? b = some y → (G b = none) → (hidT s₁.heap G).get? b = some y := fun e n => hidT_get e n
    have dct : ∀ {b : Addr} {y : Obj} {es : Array DictEntry} {ep : Nat}, s₁.heap.get? b = some y → y.data = .dict es ep → G b = none := by
      intro b y es ep e d
      cases q : G b with
      | none => rfl
      | some u =>
        have z : b = a := one b (by rw [q]; exact Option.some_ne_none u)
        rw [z, ha] at e
        cases e
        exact absurd d (by intro c; cases c)
    have nsp : ∀ {b : Addr} {m : Str → Option Value}, s₁.heap.Ns b m → (hidT s₁.heap G).Ns b m := by
      rintro b m ⟨y, es, ep, e, d, r⟩
      exact ⟨y, es, ep, hid e (dct e d), d, r⟩
    have kb : K.In (hidT s₁.heap G) := by
      intro b y e
      refine hid (inK b y e) ?_
      cases q : G b with
      | none => rfl
      | some u =>
        have z : b = a := one b (by rw [q]; exact Option.some_ne_none u)
        rw [z] at q e
        rw [off (by rw [q]; exact Option.some_ne_none u)] at e
        cases e
    have md : Mod K mg (hidT s₁.heap G) := by
      refine ⟨kb, nsp hns, ⟨mb, nsp hb, hbb⟩, ?_⟩
      obtain ⟨mc, y1, y2⟩ := hlim
      exact ⟨mc, nsp y1, y2⟩
    have e0 : Env0 P w K mg (hidT s₁.heap G) callerA [] s₁ G :=
      ⟨rfl, md, fun b y e => of_hidT e, Nat.le_of_eq (hidT_size _ _), trivial, fun b z => absurd (show b ∈ ([] : List Addr) from z) List.not_mem_nil, hok, .of_eq hg⟩
    refine codeAny_mono ((F _ kb (nsp hns)).run callerA [] s₁ G ⟨[.ref a], []⟩ [.ref a] [.ref a] _ _ rfl hr e0 (hbind s₁ (.ref a)) (.cons rfl .nil) (hsp G sq)) fun r s' h => ?_
    cases r with
    | error e => exact False.elim h
    | ok fl => cases fl with
      | next => exact False.elim h
      | brk => exact False.elim h
      | cont => exact False.elim h
      | ret u =>
        obtain ⟨v, G', os, bare, un, hok', r', (q : v = .bl true)⟩ := h
        subst q
        cases (show u = Value.bool true from r')
        refine ⟨rfl, OldK.of_keep fun b y e => ?_, os, bare⟩
        cases q : G b with
        | none => exact un.keep b y e q (fun z => absurd (show b ∈ ([] : List Addr) from z) List.not_mem_nil) List.not_mem_nil
        | some u => rcases only b with z | ⟨ob, xs, z⟩
                    · rw [q] at z; cases z
                    · have f1 := (hok b _ z).1
                      have f2 := (hok' b _ (un.frzs b ob _ z)).1
                      rw [e] at f1
                      cases f1
                      exact f2
  have rv := vals_ints hi
  have ln := hi.length
  cases hk : K.lookup a with
  | some y =>
    have e := inK a y hk
    rw [ha] at e
    cases e
    exact main (fun _ => none) (fun _ => .inl rfl) (.inr ⟨_, vs.toArray, _, hk, rfl, rfl, rfl, by rw [List.size_toArray, ln]; exact hl, by simpa using rv⟩)
      (fun b u z => by cases (show (none : Option HO) = some u from z)) (fun b z => absurd rfl z) fun z => absurd rfl z
  | none =>
    obtain ⟨G, at_a, not_a⟩ : ∃ G : Hp, (∀ b, b = a → G b = some (.frz { cls := .type "list", data := .seq vs.toArray } (.lst (ns.map V.int)))) ∧ ∀ b, b ≠ a → G b = none :=
      ⟨fun b => if b = a then some (HO.frz { cls := .type "list", data := .seq vs.toArray } (.lst (ns.map V.int))) else none, fun b e => if_pos e, fun b e => if_neg e⟩
    refine main G (fun b => ?_) (.inl (.inr ⟨_, at_a a rfl⟩)) (fun b u z => ?_) (fun b z => ?_) fun _ => hk
    · by_cases c : b = a
      · exact .inr ⟨_, _, at_a b c⟩
      · exact .inl (not_a b c)
    · by_cases c : b = a
      · rw [at_a b c] at z
        cases z
        rw [c]
        refine ⟨ha, ?_, vs, _, rv, ha⟩
        rw [List.length_map]
        exact hl
      · rw [not_a b c] at z
        cases z
    · by_cases c : b = a
      · exact c
      · exact absurd (not_a b c) z
end
theorem walkG {l : PySem.W.OpenLaw} {n k : Nat} {q : Program} {loose : List Str} {XP : (Str → Option Value) → Heap → Prop} {YP : World → Heap → Prop} {d : DefRec} {K : Params → PySem.W.Frag} {sp : PySem.W.Frag → Sp} {x : Str}
    (most : l.most = some n) (short : n ≤ sizeLine) (bare : d.params.defaults = []) (room : Room k callerA)
    (stands : ∀ (w : World) (h : Heap), YP w h → (K w.params).In h)
    (promise : ∀ (w : World) (mg : Str → Option Value) (fa : Addr) (h : Heap), (K w.params).In h → h.Ns mainGlobals mg →
      mg d.name = some (.ref fa) →
      ∃ fd : FuncData, (∀ (s : Shared) (u : Value), BindsTo s fd ⟨[u], []⟩ [(x, u)]) ∧ ∀ base : Heap, (K w.params).In base → base.Ns mainGlobals mg → FnG l.prog w (K w.params) mg base k fa fd [x] (sp (K w.params)))
    (hsp : ∀ (K : PySem.W.Frag) (G : Hp) (a : Addr) (ns : List Int), ns.length ≤ n → SqL K G a (ns.map V.int) → sp K [.ref a] G (fun v _ => v = .bl true) fun _ _ _ => False) :
    PySem.W.WalkO q loose XP YP l.row.toRowW d []
      (fun f vs => PySem.call f vs) := by
  refine Att.attach_call most bare fun w _ s₁ mg mb fa _ _ _ _ a vs ns G Y _ _ _ hmg there nums few gens => ?_
  have inK := stands w _ Y
  obtain ⟨fd, binds, ok⟩ := promise w mg fa _ inK G.T.g hmg
  exact law_callG inK G.T.g G.T.b G.T.builtins G.T.nolimit gens room (Nat.le_trans few short) nums there ok binds fun H hS => hsp _ H a ns few hS
end C2

namespace C2
set_option Elab.async false
set_option linter.all false
set_option maxRecDepth 100000
set_option maxHeartbeats 4000000
open PySem PySem.Spec PyProof.Rows L2
section
variable {P : Program} {w : World} {K : PySem.W.Frag} {mg : Str → Option Value} {base : Heap}
theorem frSeq {p : Addr} {H H' : Hp} {a : Addr} {xs : List V} (e : Fr p H H') (n : a ≠ p) (h : SqL K H a xs) : SqL K H' a xs := by
  rcases h with (h | ⟨o, h⟩) | h
  · exact .inl (.inl (e _ _ n h))
  · exact .inl (.inr ⟨o, e _ _ n h⟩)
  · exact .inr h
def rLen (K : PySem.W.Frag) : List V → Hp → VK → Prop := fun xs H Q => ∃ p ys, xs = [.ref p] ∧ (SqL K H p ys ∨ SqT K H p ys) ∧ Q (.int (ys.length : Nat)) H
end
end C2

namespace C2
set_option Elab.async false
set_option linter.all false
set_option maxRecDepth 100000
set_option maxHeartbeats 4000000
open PySem PySem.Spec PyProof.Rows L2
abbrev vrefs (cs : List (Addr × List V)) : List V := cs.map fun c => V.ref c.1
def CellsV (G : Hp) (cs : List (Addr × List V)) : Prop := ∀ c ∈ cs, G c.1 = some (.tup c.2)
theorem CellsV.same {G G' : Hp} {cs : List (Addr × List V)} (h : CellsV G cs) (s : Same G G') : CellsV G' cs := fun c hc => s _ _ (h c hc)
def GrowV (xs : List (List V)) (H : Hp) (D : Addr) (G : Hp) : Prop := ∃ cs : List (Addr × List V), Same H G ∧ G D = some (.lst (vrefs cs)) ∧ CellsV G cs ∧ cs.map (·.2) = xs
theorem GrowV.step {xs : List (List V)} {y : List V} {H G G2 : Hp} {D T : Addr} (I : GrowV xs H D G) (lo : xs.length < 100000) (nD : H D = none) (sm2 : Same G G2) (nT : G T = none) (hT : G2 T = some (.tup y)) :
    ∃ acc, G2 D = some (.lst acc) ∧ acc.length < sizeLine ∧ GrowV (xs ++ [y]) H D (upd G2 D (.lst (acc ++ [.ref T]))) := by
  obtain ⟨cs, sm, hD, hcs, e⟩ := I
  have ln : cs.length < 100000 := by
    have e1 : cs.length = (cs.map (·.2)).length := (List.length_map _).symm
    rw [e1, e]
    exact lo
  have hne : T ≠ D := fun z => by rw [z, hD] at nT; cases nT
  refine ⟨vrefs cs, sm2 _ _ hD, ?_, cs ++ [(T, y)], ?_, ?_, ?_, ?_⟩
  · rw [List.length_map]
    exact Nat.lt_of_lt_of_le ln (by decide)
  · intro b o eb
    rw [upd_ne (ne_of_none eb nD)]
    exact sm2 _ _ (sm _ _ eb)
  · rw [upd_same]
    show _ = some (HO.lst (List.map _ (cs ++ [_])))
    rw [List.map_append]
    rfl
  · intro c hc
    rcases List.mem_append.mp hc with hc | hc
    · have hh := hcs c hc
      rw [upd_ne (ne_of hh hD (by intro z; cases z))]
      exact sm2 _ _ hh
    · rw [List.mem_singleton] at hc
      subst hc
      rw [upd_ne hne]
      exact hT
  · rw [List.map_append, e]
    rfl
theorem GrowV.len {xs : List (List V)} {H G : Hp} {D : Addr} (I : GrowV xs H D G) : ∃ ys, G D = some (.lst ys) ∧ ys.length = xs.length := by
  obtain ⟨cs, _, h, _, e⟩ := I
  exact ⟨_, h, by rw [List.length_map, ← e, List.length_map]⟩
theorem GrowV.ext {xs ys : List (List V)} {H G G' : Hp} {D l : Addr} (I : GrowV xs H l G) (J : GrowV ys G D G') (nl : H l = none) :
    ∃ as bs, G' l = some (.lst as) ∧ G' D = some (.lst bs) ∧ as.length = xs.length ∧ bs.length = ys.length ∧ GrowV (xs ++ ys) H l (upd G' l (.lst (as ++ bs))) := by
  obtain ⟨cs, sm, hl, hc, e⟩ := I
  obtain ⟨ds, sm2, hD, hd, e2⟩ := J
  have hl2 := sm2 _ _ hl
  refine ⟨_, _, hl2, hD, by rw [List.length_map, ← e, List.length_map], by rw [List.length_map, ← e2, List.length_map], cs ++ ds, ?_, ?_, ?_, ?_⟩
  · intro b o eb
    rw [upd_ne (ne_of_none eb nl)]
    exact sm2 _ _ (sm _ _ eb)
  · rw [upd_same]
    show _ = some (HO.lst (List.map _ (cs ++ ds)))
    rw [List.map_append]
  · intro c hcc
    rcases List.mem_append.mp hcc with hcc | hcc
    · have hh := sm2 _ _ (hc c hcc)
      rw [upd_ne (ne_of hh hl2 (by intro z; cases z))]
      exact hh
    · have hh := hd c hcc
      rw [upd_ne (ne_of hh hl2 (by intro z; cases z))]
      exact hh
  · rw [List.map_append, e, e2]
theorem getD_at {vs : List Int} {i : Nat} {x : V} (h : (vs.map V.int)[i]? = some x) : i < vs.length ∧ x = .int (vs.getD i 0) := by
  have hi : i < vs.length := by
    have := (List.getElem?_eq_some_iff.mp h).1
    rw [List.length_map] at this
    exact this
  refine ⟨hi, ?_⟩
  rw [List.getElem?_map, List.getElem?_eq_getElem hi] at h
  rw [List.getD_eq_getElem?_getD, List.getElem?_eq_getElem hi]
  exact (Option.some.inj h).symm
theorem atD {vs : List Int} {i : Nat} (hi : i < vs.length) : atI (vs.map V.int) (i : Int) = some (.int (vs.getD i 0)) := by
  refine atI_nat ?_
  rw [List.getElem?_map, List.getElem?_eq_getElem hi, List.getD_eq_getElem?_getD, List.getElem?_eq_getElem hi]
  rfl
/-- a thing: a tuple of these, or none -/
inductive Thg (G : Hp) : V → Option (List V) → Prop where
  | non : Thg G .non none
  | bl (b : Bool) : Thg G (.bl b) none
  | int (i : Int) : Thg G (.int i) none
  | str (x : Str) : Thg G (.str x) none
  | lst {a : Addr} {xs : List V} (e : G a = some (.lst xs)) : Thg G (.ref a) none
  | dK {a : Addr} {kvs : List (Key × V)} (e : G a = some (.dK kvs)) : Thg G (.ref a) none
  | tup {a : Addr} {xs : List V} (e : G a = some (.tup xs)) : Thg G (.ref a) (some xs)
theorem Thg.same {G G' : Hp} {v : V} {o : Option (List V)} (h : Thg G v o) (s : Same G G') : Thg G' v o := by
  cases h with
  | non => exact .non
  | bl b => exact .bl b
  | int i => exact .int i
  | str x => exact .str x
  | lst e => exact .lst (s _ _ e)
  | dK e => exact .dK (s _ _ e)
  | tup e => exact .tup (s _ _ e)
def isIB : V → Bool
  | .int _ => true
  | .bl _ => true
  | _ => false
def isBo : V → Bool
  | .bl _ => true
  | _ => false
def isSt : V → Bool
  | .str _ => true
  | _ => false
def isIn : V → Bool
  | .int _ => true
  | _ => false
theorem isIn_int : ∀ {v : V}, isIn v = true → ∃ i, v = .int i
  | .int i, _ => ⟨i, rfl⟩
theorem isIB_not : ∀ {v : V}, isIB v = true → (!isBo v) = isIn v
  | .int _, _ => rfl
  | .bl _, _ => rfl
theorem isIB_int : ∀ {v : V}, isIB v = true → isBo v = false → ∃ i, v = .int i
  | .int i, _, _ => ⟨i, rfl⟩
theorem isIB_no : ∀ {v : V}, ¬ isIB v = true → isIn v = false
  | .int _, e => absurd rfl e
  | .bl _, _ | .non, _ | .str _, _ | .byt _, _ | .flt _, _ | .ref _, _ | .ty _, _ => rfl
theorem isSt_str : ∀ {v : V}, isSt v = true → ∃ x, v = .str x
  | .str x, _ => ⟨x, rfl⟩
def betw : V → Int → Int → Bool
  | .int i, lo, hi => decide (lo ≤ i ∧ i ≤ hi)
  | _, _, _ => false
theorem betw_no : ∀ {v : V} {lo hi : Int}, isIn v = false → betw v lo hi = false
  | .bl _, _, _, _ | .non, _, _, _ | .str _, _, _, _ | .byt _, _, _, _ | .flt _, _, _, _ | .ref _, _, _, _ | .ty _, _, _, _ => rfl
theorem Thg.some_tup {G : Hp} {v : V} {xs : List V} (h : Thg G v (some xs)) : ∃ a, v = .ref a ∧ G a = some (.tup xs) := by
  cases h with
  | tup e => exact ⟨_, rfl, e⟩
theorem Thg.kit {K : PySem.W.Frag} {G : Hp} {v : V} {o : Option (List V)} (h : Thg G v o) : ∃ n, TyX K G v (.type n) ∧ kitB n "int" = some (isIB v) ∧ kitB n "bool" = some (isBo v) ∧ kitB n "tuple" = some o.isSome ∧ kitB n "str" = some (isSt v) := by
  cases h with
  | non => exact ⟨_, .base .non, by decide +kernel, by decide +kernel, by decide +kernel, by decide +kernel⟩
  | bl b => exact ⟨_, .base (.bl b), (by decide +kernel : kitB "bool" "int" = some true), (by decide +kernel : kitB "bool" "bool" = some true), by decide +kernel, (by decide +kernel : kitB "bool" "str" = some false)⟩
  | int i => exact ⟨_, .base (.int i), (by decide +kernel : kitB "int" "int" = some true), (by decide +kernel : kitB "int" "bool" = some false), by decide +kernel, (by decide +kernel : kitB "int" "str" = some false)⟩
  | str x => exact ⟨_, .base (.str x), (by decide +kernel : kitB "str" "int" = some false), (by decide +kernel : kitB "str" "bool" = some false), by decide +kernel, (by decide +kernel : kitB "str" "str" = some true)⟩
  | lst e => exact ⟨_, .base (.lst e), (by decide +kernel : kitB "list" "int" = some false), (by decide +kernel : kitB "list" "bool" = some false), by decide +kernel, (by decide +kernel : kitB "list" "str" = some false)⟩
  | dK e => exact ⟨_, .base (.dK e), (by decide +kernel : kitB "dict" "int" = some false), (by decide +kernel : kitB "dict" "bool" = some false), by decide +kernel, (by decide +kernel : kitB "dict" "str" = some false)⟩
  | tup e => exact ⟨_, .base (.tup e), (by decide +kernel : kitB "tuple" "int" = some false), (by decide +kernel : kitB "tuple" "bool" = some false), (by decide +kernel : kitB "tuple" "tuple" = some true), (by decide +kernel : kitB "tuple" "str" = some false)⟩
section
variable {P : Program} {w : World} {K : PySem.W.Frag} {mg : Str → Option Value} {base : Heap}
theorem scPWhole : FnScope ["thing"] ["thing"] (defScope sPWhole) := ⟨rfl, rfl, rfl, by decide +kernel, rfl, by decide +kernel, by decide +kernel⟩
theorem scBetween : FnScope ["thing", "least", "most"] ["thing", "least", "most"] (defScope sBetween) := ⟨rfl, rfl, rfl, by decide +kernel, rfl, by decide +kernel, by decide +kernel⟩
theorem scTupOf : FnScope ["thing", "many"] ["thing", "many"] (defScope sTupOf) := ⟨rfl, rfl, rfl, by decide +kernel, rfl, by decide +kernel, by decide +kernel⟩
def spPWhole : Sp := fun vs H Q _ => ∃ v o, vs = [v] ∧ Thg H v o ∧ Q (.bl (isIn v)) H
theorem ok_pwhole {f : Addr} {fd : FuncData} {k : Nat} (F : Fun K "is_whole" "is_whole" sPWhole f fd) (mi : mg "isinstance" = none) (mint : mg "int" = none) (mbool : mg "bool" = none) : FnOk P w K mg base CX0 (k + 1) f fd ["thing"] spPWhole := by
  refine F.ok scPWhole (fun vs H Q E h => ?_) (fun cdv A outer s H vs Q E hr h => ?_)
  · obtain ⟨v, o, rfl, _⟩ := h
    rfl
  · obtain ⟨v, o, rfl, t, q⟩ := h
    obtain ⟨n, ty, k1, k2, _, _⟩ := t.kit (K := K)
    refine ⟨_, pss_one (ps_ret (pe_and (pe_callB call_isi (by rfl) mi (by decide +kernel) (pa_cons (pv 0) (pa_cons (pe_bltn (v := .ty "int") (by rfl) mint (by decide +kernel) rfl) pa_nil))) (pe_one (pe_not (pe_callB call_isi (by rfl) mi (by decide +kernel) (pa_cons (pv 0) (pa_cons (pe_bltn (v := .ty "bool") (by rfl) mbool (by decide +kernel) rfl) pa_nil))))))), ?_⟩
    refine ⟨v, rfl, v, .ty "int", _, _, _, rfl, .ty "int", ty, kit_ty k1, _, rfl, ite2 (fun e => ?_) (fun e => ?_)⟩
    · refine ⟨v, rfl, v, .ty "bool", _, _, _, rfl, .ty "bool", ty, kit_ty k2, _, rfl, ?_⟩
      have z : (!isBo v) = isIn v := isIB_not e
      show Q (V.bl (!isBo v)) H
      rw [z]
      exact q
    · have z : false = isIn v := (isIB_no e).symm
      show Q (V.bl false) H
      rw [z]
      exact q
def spBetween : Sp := fun vs H Q _ => ∃ v o lo hi, vs = [v, .int lo, .int hi] ∧ Thg H v o ∧ Q (.bl (betw v lo hi)) H
theorem ok_between {f fW : Addr} {fd fdW : FuncData} {k : Nat} (F : Fun K "is_between" "is_between" sBetween f fd) (FW : Fun K "is_whole" "is_whole" sPWhole fW fdW) (bW : Binds K fdW ["thing"] []) (gW : mg "is_whole" = some (.ref fW)) (mi : mg "isinstance" = none) (mint : mg "int" = none) (mbool : mg "bool" = none) : FnOk P w K mg base CX0 (k + 2) f fd ["thing", "least", "most"] spBetween := by
  have GW : FnOk P w K mg base CX0 (k + 1) fW fdW ["thing"] spPWhole := ok_pwhole FW mi mint mbool
  refine F.ok scBetween (fun vs H Q E h => ?_) (fun cdv A outer s H vs Q E hr h => ?_)
  · obtain ⟨v, o, lo, hi, rfl, _⟩ := h
    rfl
  · obtain ⟨v, o, lo, hi, rfl, t, q⟩ := h
    refine ⟨_, pss_one (ps_ret (pe_and (pe_call GW hr (by rfl) gW FW.kp bW .nil pass0 (pa_cons (pv 0) pa_nil)) (pe_one (pe_chain op_le op_le (pv 1) (pv 0) (pv 2))))), ?_⟩
    refine ⟨v, rfl, v, o, rfl, t, _, rfl, ite2 (fun e => ?_) (fun e => ?_)⟩
    · obtain ⟨i, rfl⟩ := isIn_int e
      refine ⟨.int lo, rfl, .int i, rfl, lo, i, rfl, rfl, _, rfl, ite2 (fun e1 => ?_) (fun e1 => ?_)⟩
      · refine ⟨.int hi, rfl, i, hi, rfl, rfl, ?_⟩
        have e2 := of_decide_eq_true e1
        have z : decide (i ≤ hi) = betw (.int i) lo hi := by
          show _ = decide (_ ∧ _)
          by_cases y : i ≤ hi <;> simp [y, e2]
        show Q (V.bl (decide (i ≤ hi))) H
        rw [z]
        exact q
      · have e2 : ¬ lo ≤ i := fun y => e1 (decide_eq_true y)
        have z : false = betw (.int i) lo hi := by
          show _ = decide (_ ∧ _)
          rw [decide_eq_false (by omega)]
        show Q (V.bl false) H
        rw [z]
        exact q
    · have z : false = betw v lo hi := (betw_no (Bool.eq_false_iff.mpr e)).symm
      show Q (V.bl false) H
      rw [z]
      exact q
def lenIs (o : Option (List V)) (m : Int) : Bool := match o with
  | some xs => decide ((xs.length : Int) = m)
  | none => false
def spTupOf : Sp := fun vs H Q _ => ∃ v o m, vs = [v, .int m] ∧ Thg H v o ∧ Q (.bl (lenIs o m)) H
theorem ok_tupOf {f : Addr} {fd : FuncData} {k : Nat} (F : Fun K "is_tuple_of" "is_tuple_of" sTupOf f fd) (mi : mg "isinstance" = none) (mtup : mg "tuple" = none) (ml : mg "len" = none) : FnOk P w K mg base CX0 (k + 1) f fd ["thing", "many"] spTupOf := by
  refine F.ok scTupOf (fun vs H Q E h => ?_) (fun cdv A outer s H vs Q E hr h => ?_)
  · obtain ⟨v, o, m, rfl, _⟩ := h
    rfl
  · obtain ⟨v, o, m, rfl, t, q⟩ := h
    obtain ⟨n, ty, _, _, k3, _⟩ := t.kit (K := K)
    refine ⟨_, pss_one (ps_ret (pe_and (pe_callB call_isi (by rfl) mi (by decide +kernel) (pa_cons (pv 0) (pa_cons (pe_bltn (v := .ty "tuple") (by rfl) mtup (by decide +kernel) rfl) pa_nil))) (pe_one (pe_cmpR op_eq (pe_callB call_len_seq (by rfl) ml (by decide +kernel) (pa_cons (pv 0) pa_nil)) (pv 1) (nomark _))))), ?_⟩
    refine ⟨v, rfl, v, .ty "tuple", _, _, _, rfl, .ty "tuple", ty, kit_ty k3, _, rfl, ite2 (fun e => ?_) (fun e => ?_)⟩
    · obtain ⟨xs, rfl⟩ : ∃ xs, o = some xs := by
        cases o with
        | none => cases (show false = true from e)
        | some xs => exact ⟨xs, rfl⟩
      obtain ⟨a, rfl, ea⟩ := t.some_tup
      refine ⟨.ref a, rfl, a, xs, rfl, .inr (.inl (.inl ea)), .int m, rfl, rfl, ?_⟩
      have z : decide (V.int (xs.length : Nat) = V.int m) = lenIs (some xs) m := by
        show _ = decide _
        by_cases y : (xs.length : Int) = m <;> simp [y]
      rw [z]
      exact q
    · have z : false = lenIs o m := by
        cases o with
        | none => rfl
        | some xs => exact absurd rfl e
      show Q (V.bl false) H
      rw [z]
      exact q
abbrev NCo : List Str := ["pick", "i", "j", "xs", "ys"]
theorem scComes : FnScope NCo ["pick", "i", "j"] (defScope sComes) := ⟨rfl, rfl, rfl, by decide +kernel, rfl, by decide +kernel, by decide +kernel⟩
def crI (xs : List Int) (i j : Nat) : Int := if xs.getD j 0 ≤ (i : Int) then 0 else 2
def ccI (ys : List Int) (i j : Nat) : Int := if ys.getD i 0 ≤ (j : Int) then 1 else 3
def spComes : Sp := fun vs H Q _ => ∃ (t : Addr) (a b i j : Nat) (xs ys : List Int), vs = [.ref t, .int (i : Int), .int (j : Int)] ∧ PickAt H t a b xs ys ∧ i < a ∧ j < b ∧
  ∀ H' T, Same H H' → H T = none → H' T = some (.tup [.int (crI xs i j), .int (ccI ys i j)]) → Q (.ref T) H'
theorem ok_comes {f : Addr} {fd : FuncData} {k : Nat} (F : Fun K "comes" "comes" sComes f fd) : FnOk P w K mg base CX0 (k + 1) f fd ["pick", "i", "j"] spComes := by
  refine F.ok scComes (fun vs H Q E h => ?_) (fun cdv A outer s H vs Q E hr h => ?_)
  · obtain ⟨t, a, b, i, j, xs, ys, rfl, _⟩ := h
    rfl
  · obtain ⟨t, a, b, i, j, xs, ys, rfl, ⟨tx, ty, h1, h2, h3, l1, l2, u1, u2⟩, hi, hj, q⟩ := h
    have nd := scComes.nd
    refine ⟨_, pss_cons (ps_asg (pv 0) (pg_tup rfl (pgs_cons (pg_name (i := 3) nd rfl (.inl rfl)) (pgs_cons (pg_name (i := 4) nd rfl (.inl rfl)) pgs_nil))))
      (pss_one (ps_ret (pe_tup (pa_cons (pe_ifExp (pt_cmpR op_le (pe_ix ix_tup (pv 3) (pv 2) (fun _ _ => rfl)) (pv 1) (nomark _)) pe_int pe_int) (pa_cons (pe_ifExp (pt_cmpR op_le (pe_ix ix_tup (pv 4) (pv 1) (fun _ _ => rfl)) (pv 2) (nomark _)) pe_int pe_int) pa_nil))))), ?_⟩
    refine ⟨.ref t, rfl, t, _, rfl, .inl (.inl h1), rfl, _, _, rfl, _, _, rfl, rfl, ?_⟩
    have fin : ∀ T, H T = none → Q (.ref T) (upd H T (.tup [.int (crI xs i j), .int (ccI ys i j)])) := fun T nT => q _ T (same_upd nT) nT upd_same
    unfold crI ccI at fin
    refine ⟨.ref tx, rfl, .int (j : Int), rfl, tx, _, _, _, rfl, rfl, .inl (.inl h2), atD (by omega), .int (i : Int), rfl, _, _, rfl, rfl, _, rfl, ite2 (fun e => ?_) (fun e => ?_)⟩
    · rw [if_pos (of_decide_eq_true e)] at fin
      refine ⟨.ref ty, rfl, .int (i : Int), rfl, ty, _, _, _, rfl, rfl, .inl (.inl h3), atD (by omega), .int (j : Int), rfl, _, _, rfl, rfl, _, rfl, ite2 (fun e => ?_) (fun e => ?_)⟩
      · rw [if_pos (of_decide_eq_true e)] at fin
        exact ⟨by show 2 ≤ sizeLine; decide, fin⟩
      · rw [if_neg (fun z => e (decide_eq_true z))] at fin
        exact ⟨by show 2 ≤ sizeLine; decide, fin⟩
    · rw [if_neg (fun z => e (decide_eq_true z))] at fin
      refine ⟨.ref ty, rfl, .int (i : Int), rfl, ty, _, _, _, rfl, rfl, .inl (.inl h3), atD (by omega), .int (j : Int), rfl, _, _, rfl, rfl, _, rfl, ite2 (fun e => ?_) (fun e => ?_)⟩
      · rw [if_pos (of_decide_eq_true e)] at fin
        exact ⟨by show 2 ≤ sizeLine; decide, fin⟩
      · rw [if_neg (fun z => e (decide_eq_true z))] at fin
        exact ⟨by show 2 ≤ sizeLine; decide, fin⟩
end
end C2

namespace C2
set_option Elab.async false
set_option linter.all false
set_option maxRecDepth 100000
set_option maxHeartbeats 4000000
open PySem PySem.Spec PyProof.Rows L2
/-! ### the program's search, as a function -/
def legO (x i k : Int) : Option Int := if x ≤ i then some 0 else if k < x then some 2 else none
def oV : Option Int → V
  | none => .non
  | some n => .int n
def mbGo (xs : List Int) (i k first second turn : Int) : Nat → Nat → Option Int → Option (List Int)
  | 0, _, _ => none
  | n + 1, row, none => if legO (xs.getD row 0) i k = some first then mbGo xs i k first second turn n (row + 1) (some (row : Int)) else mbGo xs i k first second turn n (row + 1) none
  | n + 1, row, some j => if legO (xs.getD row 0) i k = some second then some [i, k, j, (row : Int), turn] else mbGo xs i k first second turn n (row + 1) (some j)
theorem mbGo_zero (xs : List Int) (i k f s t : Int) (row : Nat) (o : Option Int) : mbGo xs i k f s t 0 row o = none := by cases o <;> rfl
theorem mbGo_none (xs : List Int) (i k f s t : Int) (n row : Nat) : mbGo xs i k f s t (n + 1) row none = if legO (xs.getD row 0) i k = some f then mbGo xs i k f s t n (row + 1) (some (row : Int)) else mbGo xs i k f s t n (row + 1) none := rfl
theorem mbGo_some (xs : List Int) (i k f s t : Int) (n row : Nat) (j : Int) : mbGo xs i k f s t (n + 1) row (some j) = if legO (xs.getD row 0) i k = some s then some [i, k, j, (row : Int), t] else mbGo xs i k f s t n (row + 1) (some j) := rfl
def mbtw (xs ys : List Int) (i k : Nat) : Option (List Int) :=
  if ys.getD k 0 < ys.getD i 0 then mbGo xs i k 0 2 1 (ys.getD i 0 - ys.getD k 0).toNat (ys.getD k 0).toNat none else mbGo xs i k 2 0 (-1) (ys.getD k 0 - ys.getD i 0).toNat (ys.getD i 0).toNat none
def firstS {α : Type} (f : Nat → Option α) : Nat → Option α
  | 0 => none
  | n + 1 => match firstS f n with
    | some x => some x
    | none => f n
theorem firstS_stay {α : Type} {f : Nat → Option α} {n m : Nat} {x : α} (h : firstS f n = some x) (l : n ≤ m) : firstS f m = some x := by
  induction m with
  | zero =>
    have : n = 0 := by omega
    rw [this] at h; exact h
  | succ m ih =>
    by_cases e : n = m + 1
    · rw [e] at h; exact h
    · unfold firstS
      rw [ih (by omega)]
theorem firstS_next {α : Type} {f : Nat → Option α} {n : Nat} (h : firstS f n = none) : firstS f (n + 1) = f n := by
  show (match firstS f n with | some x => some x | none => f n) = f n
  rw [h]
def millRow (xs ys : List Int) (a i : Nat) : Option (List Int) := firstS (fun d => mbtw xs ys i (i + 1 + d)) (a - (i + 1))
def millP (xs ys : List Int) (a : Nat) : Option (List Int) := firstS (millRow xs ys a) a
theorem oV_eq (o : Option Int) (n : Int) : decide (oV o = V.int n) = decide (o = some n) := by
  cases o with
  | none => simp [oV]
  | some m => simp [oV]
theorem upto_at {m : Nat} {vs : List Int} {i : Nat} (h : Upto m vs) (hi : i < vs.length) : 0 ≤ vs.getD i 0 ∧ vs.getD i 0 ≤ (m : Int) := by
  rw [List.getD_eq_getElem?_getD, List.getElem?_eq_getElem hi]
  exact h _ (List.getElem_mem hi)
section
variable {P : Program} {w : World} {K : PySem.W.Frag} {mg : Str → Option Value} {base : Heap}
theorem scSizeP : FnScope ["pick", "xs", "ys"] ["pick"] (defScope sSizeP) := ⟨rfl, rfl, rfl, by decide +kernel, rfl, by decide +kernel, by decide +kernel⟩
def spSizeP : Sp := fun vs H Q _ => ∃ (t : Addr) (a b : Nat) (xs ys : List Int), vs = [.ref t] ∧ PickAt H t a b xs ys ∧ ∀ H' T, Same H H' → H T = none → H' T = some (.tup [.int (a : Int), .int (b : Int)]) → Q (.ref T) H'
theorem ok_sizep {f : Addr} {fd : FuncData} {k : Nat} (F : Fun K "size_of_pick" "size_of_pick" sSizeP f fd) (ml : mg "len" = none) : FnOk P w K mg base CX0 (k + 1) f fd ["pick"] spSizeP := by
  refine F.ok scSizeP (fun vs H Q E h => ?_) (fun cdv A outer s H vs Q E hr h => ?_)
  · obtain ⟨t, a, b, xs, ys, rfl, _⟩ := h
    rfl
  · obtain ⟨t, a, b, xs, ys, rfl, ⟨tx, ty, h1, h2, h3, l1, l2, u1, u2⟩, q⟩ := h
    have nd := scSizeP.nd
    refine ⟨_, pss_cons (ps_asg (pv 0) (pg_tup rfl (pgs_cons (pg_name (i := 1) nd rfl (.inl rfl)) (pgs_cons (pg_name (i := 2) nd rfl (.inl rfl)) pgs_nil))))
      (pss_one (ps_ret (pe_tup (pa_cons (pe_callB call_len_seq (by rfl) ml PySem.boot_len (pa_cons (pv 2) pa_nil)) (pa_cons (pe_callB call_len_seq (by rfl) ml PySem.boot_len (pa_cons (pv 1) pa_nil)) pa_nil))))), ?_⟩
    refine ⟨.ref t, rfl, t, _, rfl, .inl (.inl h1), rfl, _, _, rfl, _, _, rfl, rfl, ?_⟩
    refine ⟨.ref ty, rfl, ty, _, rfl, .inr (.inl (.inl h3)), .ref tx, rfl, tx, _, rfl, .inr (.inl (.inl h2)), by show 2 ≤ sizeLine; decide, fun T nT => ?_⟩
    refine q _ T (same_upd nT) nT ?_
    rw [upd_same, List.length_map, List.length_map, l1, l2]
theorem scLegB : FnScope ["x", "i", "k"] ["x", "i", "k"] (defScope sLegB) := ⟨rfl, rfl, rfl, by decide +kernel, rfl, by decide +kernel, by decide +kernel⟩
def spLegB : Sp := fun vs H Q _ => ∃ x i k : Int, vs = [.int x, .int i, .int k] ∧ Q (oV (legO x i k)) H
theorem ok_legb {f : Addr} {fd : FuncData} {k : Nat} (F : Fun K "leg_to_both" "leg_to_both" sLegB f fd) : FnOk P w K mg base CX0 (k + 1) f fd ["x", "i", "k"] spLegB := by
  refine F.ok scLegB (fun vs H Q E h => ?_) (fun cdv A outer s H vs Q E hr h => ?_)
  · obtain ⟨x, i, k, rfl, _⟩ := h
    rfl
  · obtain ⟨x, i, k, rfl, q⟩ := h
    refine ⟨_, pss_cons (ps_if (pt_cmpR op_le (pv 0) (pv 1) (nomark _)) (pss_one (ps_ret pe_int)) pss_nil)
      (pss_cons (ps_if (pt_cmpR op_gt (pv 0) (pv 2) (nomark _)) (pss_one (ps_ret pe_int)) pss_nil)
      (pss_one (ps_ret pe_non))), ?_⟩
    unfold legO at q
    refine ⟨.int x, rfl, .int i, rfl, _, _, rfl, rfl, _, rfl, ite2 (fun e => ?_) (fun e => ?_)⟩
    · rw [if_pos (of_decide_eq_true e)] at q
      exact q
    · rw [if_neg (fun z => e (decide_eq_true z))] at q
      refine ⟨.int x, rfl, .int k, rfl, _, _, rfl, rfl, _, rfl, ite2 (fun e => ?_) (fun e => ?_)⟩
      · rw [if_pos (of_decide_eq_true e)] at q
        exact q
      · rw [if_neg (fun z => e (decide_eq_true z))] at q
        exact q
abbrev NMb : List Str := ["pick", "i", "k", "xs", "ys", "turn", "first", "second", "j", "row", "leg"]
theorem scMillB : FnScope NMb ["pick", "i", "k"] (defScope sMillB) := ⟨rfl, rfl, rfl, by decide +kernel, rfl, by decide +kernel, by decide +kernel⟩
/-- None, or a new tuple of these numbers -/
def Told (H : Hp) (o : Option (List Int)) (Q : VK) : Prop := (o = none → ∀ H', Same H H' → Q .non H') ∧ ∀ m, o = some m → ∀ H' T, Same H H' → H T = none → H' T = some (.tup (m.map V.int)) → Q (.ref T) H'
def spMillB : Sp := fun vs H Q _ => ∃ (t : Addr) (a b i k : Nat) (xs ys : List Int), vs = [.ref t, .int (i : Int), .int (k : Int)] ∧ PickAt H t a b xs ys ∧ i < a ∧ k < a ∧ b ≤ 40 ∧ Told H (mbtw xs ys i k) Q
theorem ok_millb {f fL : Addr} {fd fdL : FuncData} {k : Nat} (F : Fun K "mill_between" "mill_between" sMillB f fd) (FL : Fun K "leg_to_both" "leg_to_both" sLegB fL fdL) (bL : Binds K fdL ["x", "i", "k"] []) (gL : mg "leg_to_both" = some (.ref fL))
    (mr : mg "range" = none) (mmin : mg "min" = none) (mmax : mg "max" = none) : FnOk P w K mg base CX0 (k + 2) f fd ["pick", "i", "k"] spMillB := by
  have GL : FnOk P w K mg base CX0 (k + 1) fL fdL ["x", "i", "k"] spLegB := ok_legb FL
  refine F.ok scMillB (fun vs H Q E h => ?_) (fun cdv A outer s H vs Q E hr h => ?_)
  · obtain ⟨t, a, b, i, k, xs, ys, rfl, _⟩ := h
    rfl
  · obtain ⟨t, a, b, i, k, xs, ys, rfl, ⟨tx, ty, h1, h2, h3, l1, l2, u1, u2⟩, hi, hk, hb, qn, qs⟩ := h
    have nd := scMillB.nd
    have bi := upto_at u2 (show i < ys.length by omega)
    have bk := upto_at u2 (show k < ys.length by omega)
    refine ⟨_, pss_cons (ps_asg (pv 0) (pg_tup rfl (pgs_cons (pg_name (i := 3) nd rfl (.inl rfl)) (pgs_cons (pg_name (i := 4) nd rfl (.inl rfl)) pgs_nil))))
      (pss_cons (ps_set (i := 5) nd rfl (.inl rfl) (pe_ifExp (pt_cmpR op_lt (pe_ix ix_tup (pv 4) (pv 2) (fun _ _ => rfl)) (pe_ix ix_tup (pv 4) (pv 1) (fun _ _ => rfl)) (nomark _)) pe_int (pe_un un_neg pe_int)))
      (pss_cons (ps_asg (pe_ifExp (pt_cmpR op_eq (pv 5) pe_int (nomark _)) (pe_tup (pa_cons pe_int (pa_cons pe_int pa_nil))) (pe_tup (pa_cons pe_int (pa_cons pe_int pa_nil)))) (pg_tup rfl (pgs_cons (pg_name (i := 6) nd rfl (.inl rfl)) (pgs_cons (pg_name (i := 7) nd rfl (.inl rfl)) pgs_nil))))
      (pss_cons (ps_set (i := 8) nd rfl (.inl rfl) pe_non)
      (pss_cons (ps_for PassesOwn.never rfl (pi_range2 (by rfl) mr (pa_cons (pe_callB (call_min2 rfl) (by rfl) mmin (by decide +kernel) (pa_cons (pe_ix ix_tup (pv 4) (pv 1) (fun _ _ => rfl)) (pa_cons (pe_ix ix_tup (pv 4) (pv 2) (fun _ _ => rfl)) pa_nil))) (pa_cons (pe_callB (call_max2 rfl) (by rfl) mmax (by decide +kernel) (pa_cons (pe_ix ix_tup (pv 4) (pv 1) (fun _ _ => rfl)) (pa_cons (pe_ix ix_tup (pv 4) (pv 2) (fun _ _ => rfl)) pa_nil))) pa_nil))) (pg_name (i := 9) nd rfl (.inl rfl)) (pss_cons (ps_set (i := 10) nd rfl (.inl rfl) (pe_call GL hr (by rfl) gL FL.kp bL .nil pass0 (pa_cons (pe_ix ix_tup (pv 3) (pv 9) (fun _ _ => rfl)) (pa_cons (pv 1) (pa_cons (pv 2) pa_nil)))))
      (pss_one (ps_if (PW.pt (pw_and (pt_cmpR op_isN (pv 8) pe_non (nomark _)) (pw_and1 (pt_cmpR op_eq (pv 10) (pv 6) (nomark _))))) (pss_one (ps_set (i := 8) nd rfl (.inl rfl) (pv 9))) (pss_one (ps_if (PW.pt (pw_and (pt_cmpR op_notN (pv 8) pe_non (nomark _)) (pw_and1 (pt_cmpR op_eq (pv 10) (pv 7) (nomark _))))) (pss_one (ps_ret (pe_tup (pa_cons (pv 1) (pa_cons (pv 2) (pa_cons (pv 8) (pa_cons (pv 9) (pa_cons (pv 5) pa_nil)))))))) pss_nil))))))
      (pss_one (ps_ret pe_non)))))), ?_⟩
    refine ⟨.ref t, rfl, t, _, rfl, .inl (.inl h1), rfl, _, _, rfl, _, _, rfl, rfl, ?_⟩
    unfold mbtw at qn qs
    refine ⟨.ref ty, rfl, .int (k : Int), rfl, ty, _, _, _, rfl, rfl, .inl (.inl h3), atD (by omega), .ref ty, rfl, .int (i : Int), rfl, ty, _, _, _, rfl, rfl, .inl (.inl h3), atD (by omega), _, _, rfl, rfl, _, rfl, ite2 (fun e => ?_) (fun e => ?_)⟩
    · have c := of_decide_eq_true e
      rw [if_pos c] at qn qs
      refine ⟨.int 1, rfl, rfl, _, rfl, ite2 (fun _ => ?_) (fun z => absurd (by decide) z)⟩
      refine ⟨by show 2 ≤ sizeLine; decide, fun T1 n1 => ⟨T1, _, rfl, .inl (.inl upd_same), rfl, _, _, rfl, _, _, rfl, rfl, ?_⟩⟩
      have s1 := same_upd (o := .tup [.int 0, .int 2]) n1
      have h3' := s1 _ _ h3
      have h2' := s1 _ _ h2
      refine ⟨.ref ty, rfl, .int (i : Int), rfl, ty, _, _, _, rfl, rfl, .inl (.inl h3'), atD (by omega), .ref ty, rfl, .int (k : Int), rfl, ty, _, _, _, rfl, rfl, .inl (.inl h3'), atD (by omega), _, _, rfl, .ref ty, rfl, .int (i : Int), rfl, ty, _, _, _, rfl, rfl, .inl (.inl h3'), atD (by omega), .ref ty, rfl, .int (k : Int), rfl, ty, _, _, _, rfl, rfl, .inl (.inl h3'), atD (by omega), _, _, rfl, ?_⟩
      refine ⟨ys.getD k 0, ys.getD i 0, ?_, ⟨by omega, by omega, by omega, by omega⟩, ?_⟩
      · show [V.int (if ys.getD k 0 < ys.getD i 0 then ys.getD k 0 else ys.getD i 0), V.int (if ys.getD k 0 > ys.getD i 0 then ys.getD k 0 else ys.getD i 0)] = _
        rw [if_pos c, if_neg (by omega)]
      refine for_range (lo := ys.getD k 0) (n := (ys.getD i 0 - ys.getD k 0).toNat) (fun r σ G => Same H G ∧ ∃ (o : Option Int) (y9 y10 : Option V), mbGo xs i k 0 2 1 ((ys.getD i 0 - ys.getD k 0).toNat - r) ((ys.getD k 0).toNat + r) o = mbGo xs i k 0 2 1 (ys.getD i 0 - ys.getD k 0).toNat (ys.getD k 0).toNat none ∧
        σ = [some (.ref t), some (.int (i : Int)), some (.int (k : Int)), some (.ref tx), some (.ref ty), some (.int 1), some (.int 0), some (.int 2), some (oV o), y9, y10]) ⟨s1, none, _, _, rfl, rfl⟩ ?_ ?_
      · rintro r σ G hr' ⟨sm, o, y9, y10, go, rfl⟩
        have er : ys.getD k 0 + (r : Int) = (((ys.getD k 0).toNat + r : Nat) : Int) := by omega
        rw [er]
        have en : (ys.getD i 0 - ys.getD k 0).toNat - r = (ys.getD i 0 - ys.getD k 0).toNat - (r + 1) + 1 := by omega
        rw [en] at go
        have rl : (ys.getD k 0).toNat + r < xs.length := by omega
        refine ⟨.ref tx, rfl, .int (((ys.getD k 0).toNat + r : Nat) : Int), rfl, tx, _, _, _, rfl, rfl, .inl (.inl (sm _ _ h2)), atD rl, .int (i : Int), rfl, .int (k : Int), rfl, _, _, _, rfl, ?_⟩
        cases o with
        | none =>
          rw [mbGo_none] at go
          refine ⟨.non, rfl, rfl, _, rfl, ite2 (fun _ => ?_) (fun z => absurd (by rfl) z)⟩
          refine ⟨oV _, rfl, .int 0, rfl, ?_, _, rfl, ?_⟩
          · cases legO (xs.getD ((ys.getD k 0).toNat + r) 0) i k <;> rfl
          rw [oV_eq]
          refine ite2 (fun z => ?_) (fun z => ?_)
          · rw [if_pos (of_decide_eq_true z)] at go
            exact ⟨.int (((ys.getD k 0).toNat + r : Nat) : Int), rfl, sm, some _, _, _, go, rfl⟩
          · rw [if_neg (fun y => z (decide_eq_true y))] at go
            refine ⟨.non, rfl, rfl, _, rfl, ite2 (fun y => absurd y (by decide)) (fun _ => ?_)⟩
            exact ⟨sm, none, _, _, go, rfl⟩
        | some j =>
          rw [mbGo_some] at go
          refine ⟨.int j, rfl, rfl, _, rfl, ite2 (fun y => absurd y (by simp)) (fun _ => ?_)⟩
          refine ⟨.int j, rfl, rfl, _, rfl, ite2 (fun _ => ?_) (fun y => absurd (by rfl) y)⟩
          refine ⟨oV _, rfl, .int 2, rfl, ?_, _, rfl, ?_⟩
          · cases legO (xs.getD ((ys.getD k 0).toNat + r) 0) i k <;> rfl
          rw [oV_eq]
          refine ite2 (fun z => ?_) (fun z => ?_)
          · rw [if_pos (of_decide_eq_true z)] at go
            refine ⟨.int (i : Int), rfl, .int (k : Int), rfl, .int j, rfl, .int (((ys.getD k 0).toNat + r : Nat) : Int), rfl, .int 1, rfl, by show 5 ≤ sizeLine; decide, fun T nT => ?_⟩
            exact qs _ go.symm _ T (sm.trans (same_upd nT)) (sm.free nT) upd_same
          · rw [if_neg (fun y => z (decide_eq_true y))] at go
            exact ⟨sm, some j, _, _, go, rfl⟩
      · rintro σ G ⟨sm, o, y9, y10, go, rfl⟩
        rw [Nat.sub_self, mbGo_zero] at go
        exact qn go.symm G sm
    · have c : ¬ ys.getD k 0 < ys.getD i 0 := fun z => e (decide_eq_true z)
      rw [if_neg c] at qn qs
      refine ⟨1, rfl, ?_⟩
      refine ⟨.int (-1), rfl, rfl, _, rfl, ite2 (fun z => absurd z (by decide)) (fun _ => ?_)⟩
      refine ⟨by show 2 ≤ sizeLine; decide, fun T1 n1 => ⟨T1, _, rfl, .inl (.inl upd_same), rfl, _, _, rfl, _, _, rfl, rfl, ?_⟩⟩
      have s1 := same_upd (o := .tup [.int 2, .int 0]) n1
      have h3' := s1 _ _ h3
      have h2' := s1 _ _ h2
      refine ⟨.ref ty, rfl, .int (i : Int), rfl, ty, _, _, _, rfl, rfl, .inl (.inl h3'), atD (by omega), .ref ty, rfl, .int (k : Int), rfl, ty, _, _, _, rfl, rfl, .inl (.inl h3'), atD (by omega), _, _, rfl, .ref ty, rfl, .int (i : Int), rfl, ty, _, _, _, rfl, rfl, .inl (.inl h3'), atD (by omega), .ref ty, rfl, .int (k : Int), rfl, ty, _, _, _, rfl, rfl, .inl (.inl h3'), atD (by omega), _, _, rfl, ?_⟩
      refine ⟨ys.getD i 0, ys.getD k 0, ?_, ⟨by omega, by omega, by omega, by omega⟩, ?_⟩
      · show [V.int (if ys.getD k 0 < ys.getD i 0 then ys.getD k 0 else ys.getD i 0), V.int (if ys.getD k 0 > ys.getD i 0 then ys.getD k 0 else ys.getD i 0)] = _
        rw [if_neg c]
        by_cases c2 : ys.getD k 0 > ys.getD i 0
        · rw [if_pos c2]
        · rw [if_neg c2, show ys.getD i 0 = ys.getD k 0 by omega]
      refine for_range (lo := ys.getD i 0) (n := (ys.getD k 0 - ys.getD i 0).toNat) (fun r σ G => Same H G ∧ ∃ (o : Option Int) (y9 y10 : Option V), mbGo xs i k 2 0 (-1) ((ys.getD k 0 - ys.getD i 0).toNat - r) ((ys.getD i 0).toNat + r) o = mbGo xs i k 2 0 (-1) (ys.getD k 0 - ys.getD i 0).toNat (ys.getD i 0).toNat none ∧
        σ = [some (.ref t), some (.int (i : Int)), some (.int (k : Int)), some (.ref tx), some (.ref ty), some (.int (-1)), some (.int 2), some (.int 0), some (oV o), y9, y10]) ⟨s1, none, _, _, rfl, rfl⟩ ?_ ?_
      · rintro r σ G hr' ⟨sm, o, y9, y10, go, rfl⟩
        have er : ys.getD i 0 + (r : Int) = (((ys.getD i 0).toNat + r : Nat) : Int) := by omega
        rw [er]
        have en : (ys.getD k 0 - ys.getD i 0).toNat - r = (ys.getD k 0 - ys.getD i 0).toNat - (r + 1) + 1 := by omega
        rw [en] at go
        have rl : (ys.getD i 0).toNat + r < xs.length := by omega
        refine ⟨.ref tx, rfl, .int (((ys.getD i 0).toNat + r : Nat) : Int), rfl, tx, _, _, _, rfl, rfl, .inl (.inl (sm _ _ h2)), atD rl, .int (i : Int), rfl, .int (k : Int), rfl, _, _, _, rfl, ?_⟩
        cases o with
        | none =>
          rw [mbGo_none] at go
          refine ⟨.non, rfl, rfl, _, rfl, ite2 (fun _ => ?_) (fun z => absurd (by rfl) z)⟩
          refine ⟨oV _, rfl, .int 2, rfl, ?_, _, rfl, ?_⟩
          · cases legO (xs.getD ((ys.getD i 0).toNat + r) 0) i k <;> rfl
          rw [oV_eq]
          refine ite2 (fun z => ?_) (fun z => ?_)
          · rw [if_pos (of_decide_eq_true z)] at go
            exact ⟨.int (((ys.getD i 0).toNat + r : Nat) : Int), rfl, sm, some _, _, _, go, rfl⟩
          · rw [if_neg (fun y => z (decide_eq_true y))] at go
            refine ⟨.non, rfl, rfl, _, rfl, ite2 (fun y => absurd y (by decide)) (fun _ => ?_)⟩
            exact ⟨sm, none, _, _, go, rfl⟩
        | some j =>
          rw [mbGo_some] at go
          refine ⟨.int j, rfl, rfl, _, rfl, ite2 (fun y => absurd y (by simp)) (fun _ => ?_)⟩
          refine ⟨.int j, rfl, rfl, _, rfl, ite2 (fun _ => ?_) (fun y => absurd (by rfl) y)⟩
          refine ⟨oV _, rfl, .int 0, rfl, ?_, _, rfl, ?_⟩
          · cases legO (xs.getD ((ys.getD i 0).toNat + r) 0) i k <;> rfl
          rw [oV_eq]
          refine ite2 (fun z => ?_) (fun z => ?_)
          · rw [if_pos (of_decide_eq_true z)] at go
            refine ⟨.int (i : Int), rfl, .int (k : Int), rfl, .int j, rfl, .int (((ys.getD i 0).toNat + r : Nat) : Int), rfl, .int (-1), rfl, by show 5 ≤ sizeLine; decide, fun T nT => ?_⟩
            exact qs _ go.symm _ T (sm.trans (same_upd nT)) (sm.free nT) upd_same
          · rw [if_neg (fun y => z (decide_eq_true y))] at go
            exact ⟨sm, some j, _, _, go, rfl⟩
      · rintro σ G ⟨sm, o, y9, y10, go, rfl⟩
        rw [Nat.sub_self, mbGo_zero] at go
        exact qn go.symm G sm
abbrev NMi : List Str := ["pick", "a", "b", "i", "k", "found"]
theorem scMill : FnScope NMi ["pick"] (defScope sMill) := ⟨rfl, rfl, rfl, by decide +kernel, rfl, by decide +kernel, by decide +kernel⟩
def spMill : Sp := fun vs H Q _ => ∃ (t : Addr) (a b : Nat) (xs ys : List Int), vs = [.ref t] ∧ PickAt H t a b xs ys ∧ a ≤ 40 ∧ b ≤ 40 ∧ Told H (millP xs ys a) Q
theorem ok_mill {f fL fS fB : Addr} {fd fdL fdS fdB : FuncData} {k : Nat} (F : Fun K "mill" "mill" sMill f fd) (FL : Fun K "leg_to_both" "leg_to_both" sLegB fL fdL) (FS : Fun K "size_of_pick" "size_of_pick" sSizeP fS fdS) (FB : Fun K "mill_between" "mill_between" sMillB fB fdB) (bL : Binds K fdL ["x", "i", "k"] []) (bS : Binds K fdS ["pick"] []) (bB : Binds K fdB ["pick", "i", "k"] [])
    (gL : mg "leg_to_both" = some (.ref fL)) (gS : mg "size_of_pick" = some (.ref fS)) (gB : mg "mill_between" = some (.ref fB)) (mr : mg "range" = none) (mmin : mg "min" = none) (mmax : mg "max" = none) (ml : mg "len" = none) : FnOk P w K mg base CX0 (k + 3) f fd ["pick"] spMill := by
  have GS : FnOk P w K mg base CX0 1 fS fdS ["pick"] spSizeP := ok_sizep FS ml
  have GB : FnOk P w K mg base CX0 (k + 2) fB fdB ["pick", "i", "k"] spMillB := ok_millb FB FL bL gL mr mmin mmax
  refine F.ok scMill (fun vs H Q E h => ?_) (fun cdv A outer s H vs Q E hr h => ?_)
  · obtain ⟨t, a, b, xs, ys, rfl, _⟩ := h
    rfl
  · obtain ⟨t, a, b, xs, ys, rfl, pk, ha, hb, qn, qs⟩ := h
    have nd := scMill.nd
    refine ⟨_, pss_cons (ps_asg (pe_call GS (hr.mono (by omega)) (by rfl) gS FS.kp bS .nil pass0 (pa_cons (pv 0) pa_nil)) (pg_tup rfl (pgs_cons (pg_name (i := 1) nd rfl (.inl rfl)) (pgs_cons (pg_name (i := 2) nd rfl (.inl rfl)) pgs_nil))))
      (pss_cons (ps_for PassesOwn.never rfl (pi_range1 (by rfl) mr (pa_cons (pv 1) pa_nil)) (pg_name (i := 3) nd rfl (.inl rfl)) (pss_one (ps_for PassesOwn.never rfl (pi_range2 (by rfl) mr (pa_cons (pe_op op_add (pv 3) pe_int) (pa_cons (pv 1) pa_nil))) (pg_name (i := 4) nd rfl (.inl rfl)) (pss_cons (ps_set (i := 5) nd rfl (.inl rfl) (pe_call GB hr (by rfl) gB FB.kp bB .nil pass0 (pa_cons (pv 0) (pa_cons (pv 3) (pa_cons (pv 4) pa_nil)))))
      (pss_one (ps_if (pt_cmpR op_notN (pv 5) pe_non (nomark _)) (pss_one (ps_ret (pv 5))) pss_nil))))))
      (pss_one (ps_ret pe_non))), ?_⟩
    refine ⟨.ref t, rfl, t, a, b, xs, ys, rfl, pk, fun H1 T s1 nT hT => ?_⟩
    refine ⟨T, _, rfl, .inl (.inl hT), rfl, _, _, rfl, _, _, rfl, rfl, ?_⟩
    refine ⟨.int (a : Int), rfl, (a : Int), rfl, by omega, by omega, ?_⟩
    refine for_range (lo := 0) (n := a) (fun i σ G => Same H G ∧ firstS (millRow xs ys a) i = none ∧ ∃ y3 y4 y5, σ = [some (.ref t), some (.int (a : Int)), some (.int (b : Int)), y3, y4, y5]) ⟨s1, rfl, _, _, _, rfl⟩ ?_ ?_
    · rintro i σ G hi ⟨sm, no, y3, y4, y5, rfl⟩
      rw [Int.zero_add]
      refine ⟨.int (i : Int), rfl, _, 1, rfl, rfl, .int (a : Int), rfl, (i : Int) + 1, (a : Int), rfl, ⟨by omega, by omega, by omega, by omega⟩, ?_⟩
      have en : ((a : Int) - ((i : Int) + 1)).toNat = a - (i + 1) := by omega
      rw [en]
      refine for_range (lo := (i : Int) + 1) (n := a - (i + 1)) (fun d σ G => Same H G ∧ firstS (fun d => mbtw xs ys i (i + 1 + d)) d = none ∧ ∃ y4 y5, σ = [some (.ref t), some (.int (a : Int)), some (.int (b : Int)), some (.int (i : Int)), y4, y5]) ⟨sm, rfl, _, _, rfl⟩ ?_ ?_
      · rintro d σ G hd ⟨sm, nod, y4, y5, rfl⟩
        have ed : (i : Int) + 1 + (d : Int) = ((i + 1 + d : Nat) : Int) := by omega
        rw [ed]
        refine ⟨.ref t, rfl, .int (i : Int), rfl, .int ((i + 1 + d : Nat) : Int), rfl, t, a, b, i, i + 1 + d, xs, ys, rfl, pk.same sm, by omega, by omega, hb, fun en H' s' => ?_, fun m em H' T' s' nT' hT' => ?_⟩
        · refine ⟨.non, rfl, rfl, _, rfl, ite2 (fun z => absurd z (by decide)) (fun _ => ?_)⟩
          exact ⟨sm.trans s', by rw [firstS_next nod]; exact en, _, _, rfl⟩
        · refine ⟨.ref T', rfl, rfl, _, rfl, ite2 (fun _ => ?_) (fun z => absurd (by rfl) z)⟩
          have f1 : firstS (fun d => mbtw xs ys i (i + 1 + d)) (d + 1) = some m := by rw [firstS_next nod]; exact em
          have f2 : millRow xs ys a i = some m := firstS_stay f1 (by omega)
          have f3 : firstS (millRow xs ys a) (i + 1) = some m := by rw [firstS_next no]; exact f2
          exact ⟨.ref T', rfl, qs m (firstS_stay f3 (by omega)) H' T' (sm.trans s') (sm.free nT') hT'⟩
      · rintro σ G ⟨sm, nod, y4, y5, rfl⟩
        exact ⟨sm, by rw [firstS_next no]; exact nod, _, _, _, rfl⟩
    · rintro σ G ⟨sm, no, y3, y4, y5, rfl⟩
      exact qn no G sm
end
end C2

namespace C2
set_option Elab.async false
set_option linter.all false
set_option maxRecDepth 100000
set_option maxHeartbeats 1000000
open PySem PySem.Spec PyProof.Rows L2
abbrev dT (x : List Int) : PyData := .tuple (x.map PyData.int)
abbrev dTT (L : List (List Int)) : PyData := .tuple (L.map dT)
theorem dpAll (K : PySem.W.Frag) (G : Hp) : ∀ x : List Int, DpAll K G (x.map V.int) (x.map PyData.int)
  | [] => .nil
  | v :: r => .cons (.int v) (dpAll K G r)
theorem eqv_ints : ∀ x y : List Int, PyData.eqvAll (x.map PyData.int) (y.map PyData.int) = decide (x = y)
  | [], [] => by simp [PyData.eqvAll]
  | [], b :: s => by simp [PyData.eqvAll]
  | a :: r, [] => by simp [PyData.eqvAll]
  | a :: r, b :: s => by
    simp only [List.map_cons, PyData.eqvAll, PyData.eqv, eqv_ints r s, List.cons.injEq]
    by_cases h : a = b <;> simp [h]
theorem eqvT (x y : List Int) : PyData.eqv (dT x) (dT y) = decide (x = y) := by
  show PyData.eqv (.tuple _) (.tuple _) = _
  simp only [PyData.eqv]
  exact eqv_ints x y
theorem shapedT (ns : List Int) : SeqAt.shaped (dT ns) = true := by
  have c : ∀ xs : List Int, PyData.canLayAll0 (xs.map PyData.int) = true ∧ PyData.depthAll (xs.map PyData.int) = 0 := by
    intro xs
    induction xs with
    | nil => exact ⟨by simp [PyData.canLayAll0], by simp [PyData.depthAll]⟩
    | cons x r ih => exact ⟨by simp [PyData.canLayAll0, PyData.canLay0, ih.1], by simp [PyData.depthAll, PyData.depth, ih.2]⟩
  unfold SeqAt.shaped
  have e1 : PyData.canLay0 (dT ns) = true := by show PyData.canLay0 (.tuple _) = true; simp [PyData.canLay0, (c ns).1]
  have e2 : PyData.depth (dT ns) = 1 := by show PyData.depth (.tuple _) = 1; simp [PyData.depth, (c ns).2]
  rw [e1, e2]
  rfl
/-- whether it is a mill: the eight legs -/
def isMillB (xs ys : List Int) (i k j l : Nat) (turn : Int) : Bool :=
  let rj : Int := if turn = 1 then 0 else 2
  let ck : Int := if turn = 1 then 1 else 3
  let rl : Int := if turn = 1 then 2 else 0
  let ci : Int := if turn = 1 then 3 else 1
  (decide ([crI xs i j, ccI ys i j] = [rj, ci]) && decide ([crI xs k j, ccI ys k j] = [rj, ck])) && (decide ([crI xs i l, ccI ys i l] = [rl, ci]) && decide ([crI xs k l, ccI ys k l] = [rl, ck]))
section
variable {P : Program} {w : World} {K : PySem.W.Frag} {mg : Str → Option Value} {base : Heap}
theorem scPairB : FnScope ["one", "other", "many"] ["one", "other", "many"] (defScope sPairB) := ⟨rfl, rfl, rfl, by decide +kernel, rfl, by decide +kernel, by decide +kernel⟩
def spPairB : Sp := fun vs H Q _ => ∃ i k m : Nat, vs = [.int (i : Int), .int (k : Int), .int (m : Int)] ∧ i < k ∧ k < m ∧ Q (.bl true) H
theorem ok_pairb {f fW fB : Addr} {fd fdW fdB : FuncData} {k : Nat} (F : Fun K "is_pair_below" "is_pair_below" sPairB f fd) (FW : Fun K "is_whole" "is_whole" sPWhole fW fdW) (FB : Fun K "is_between" "is_between" sBetween fB fdB) (bW : Binds K fdW ["thing"] []) (bB : Binds K fdB ["thing", "least", "most"] []) (gW : mg "is_whole" = some (.ref fW)) (gB : mg "is_between" = some (.ref fB))
    (mi : mg "isinstance" = none) (mint : mg "int" = none) (mbool : mg "bool" = none) : FnOk P w K mg base CX0 (k + 3) f fd ["one", "other", "many"] spPairB := by
  have GB : FnOk P w K mg base CX0 (k + 2) fB fdB ["thing", "least", "most"] spBetween := ok_between FB FW bW gW mi mint mbool
  refine F.ok scPairB (fun vs H Q E h => ?_) (fun cdv A outer s H vs Q E hr h => ?_)
  · obtain ⟨i, k, m, rfl, _⟩ := h
    rfl
  · obtain ⟨i, k, m, rfl, hik, hkm, q⟩ := h
    have b1 : betw (.int (i : Int)) 0 ((m : Int) - 1) = true := by
      show decide _ = true
      exact decide_eq_true (by omega)
    have b2 : betw (.int (k : Int)) 0 ((m : Int) - 1) = true := by
      show decide _ = true
      exact decide_eq_true (by omega)
    have b3 : decide ((i : Int) < (k : Int)) = true := decide_eq_true (by omega)
    refine ⟨_, pss_one (ps_ret (pe_and (pe_call GB hr (by rfl) gB FB.kp bB .nil pass0 (pa_cons (pv 0) (pa_cons pe_int (pa_cons (pe_op op_sub (pv 2) pe_int) pa_nil)))) (pe_and (pe_call GB hr (by rfl) gB FB.kp bB .nil pass0 (pa_cons (pv 1) (pa_cons pe_int (pa_cons (pe_op op_sub (pv 2) pe_int) pa_nil)))) (pe_one (pe_cmpR op_lt (pv 0) (pv 1) (nomark _)))))), ?_⟩
    refine ⟨.int (i : Int), rfl, .int (m : Int), rfl, _, 1, rfl, rfl, _, none, 0, _, rfl, .int _, ?_⟩
    rw [b1]
    refine ⟨true, rfl, iteT ?_⟩
    refine ⟨.int (k : Int), rfl, .int (m : Int), rfl, _, 1, rfl, rfl, _, none, 0, _, rfl, .int _, ?_⟩
    rw [b2]
    refine ⟨true, rfl, iteT ⟨.int (i : Int), rfl, .int (k : Int), rfl, _, _, rfl, rfl, ?_⟩⟩
    show Q (V.bl (decide ((i : Int) < (k : Int)))) H
    rw [b3]
    exact q
abbrev NIm : List Str := ["pick", "thing", "i", "k", "j", "l", "turn", "a", "b", "row_j", "column_k", "row_l", "column_i", "lower", "upper"]
theorem scIsMill : FnScope NIm ["pick", "thing"] (defScope sIsMill) := ⟨rfl, rfl, rfl, by decide +kernel, rfl, by decide +kernel, by decide +kernel⟩
def spIsMill : Sp := fun vs H Q _ => ∃ (t th : Addr) (a b i k j l : Nat) (turn : Int) (xs ys : List Int), vs = [.ref t, .ref th] ∧ PickAt H t a b xs ys ∧ H th = some (.tup [.int (i : Int), .int (k : Int), .int (j : Int), .int (l : Int), .int turn]) ∧ i < k ∧ k < a ∧ j < l ∧ l < b ∧ (turn = 1 ∨ turn = -1) ∧
  ∀ H', Same H H' → Q (.bl (isMillB xs ys i k j l turn)) H'
/-- comes(..) == (x, y), with what follows -/
theorem eq2 {G : Hp} {T U : Addr} {u v x y : Int} (hT : G T = some (.tup [.int u, .int v])) (hU : G U = some (.tup [.int x, .int y])) : ∃ d e, Dp K G (.ref T) d ∧ Dp K G (.ref U) e ∧ SeqAt.shaped d = true ∧ SeqAt.shaped e = true ∧ PyData.eqv d e = decide ([u, v] = [x, y]) :=
  ⟨dT [u, v], dT [x, y], .tup (.inl (.inl hT)) (dpAll K G [u, v]), .tup (.inl (.inl hU)) (dpAll K G [x, y]), shapedT _, shapedT _, eqvT _ _⟩
def tTwo (K : PySem.W.Frag) (c1 r l1 c2 : Nat) : TE := tAndV (tOp (rEqD K) (tCall spComes [] E0 (tCons (tVar 0) (tCons (tVar 2) (tCons (tVar r) tNil)))) (tTup (tCons (tVar l1) (tCons (tVar c1) tNil)))) (tOp (rEqD K) (tCall spComes [] E0 (tCons (tVar 0) (tCons (tVar 3) (tCons (tVar r) tNil)))) (tTup (tCons (tVar l1) (tCons (tVar c2) tNil))))
theorem two_ok {σ : L2.St} {G : Hp} {Q : VK} {t : Addr} {a b i k j c1 r l1 c2 : Nat} {u v w : Int} {xs ys : List Int} (h0 : σ[0]? = some (some (.ref t))) (h2 : σ[2]? = some (some (.int (i : Int)))) (h3 : σ[3]? = some (some (.int (k : Int)))) (hr : σ[r]? = some (some (.int (j : Int)))) (hl : σ[l1]? = some (some (.int u))) (hc : σ[c1]? = some (some (.int v))) (hd : σ[c2]? = some (some (.int w)))
    (pk : PickAt G t a b xs ys) (hi : i < a) (hk : k < a) (hj : j < b) (q : ∀ (B : Bool) G', B = (decide ([crI xs i j, ccI ys i j] = [u, v]) && decide ([crI xs k j, ccI ys k j] = [u, w])) → Same G G' → Q (.bl B) G') : tTwo K c1 r l1 c2 σ G Q := by
  refine ⟨.ref t, h0, .int (i : Int), h2, .int (j : Int), hr, t, a, b, i, j, xs, ys, rfl, pk, hi, hj, fun G1 A1 sg1 na1 ha1 => ⟨.int u, hl, .int v, hc, by show 2 ≤ sizeLine; decide, fun B1 nb1 => ?_⟩⟩
  have sb1 := same_upd (o := .tup [.int u, .int v]) nb1
  obtain ⟨d, e, p1, p2, p3, p4, p5⟩ := eq2 (K := K) (sb1 _ _ ha1) (upd_same (H := G1) (a := B1) (o := .tup [.int u, .int v]))
  refine ⟨d, e, p1, p2, p3, p4, ?_⟩
  rw [p5]
  generalize decide ([crI xs i j, ccI ys i j] = [u, v]) = A0 at q
  refine ⟨A0, rfl, ite2 (fun y => ?_) (fun y => ?_)⟩
  · have s2 := sg1.trans sb1
    refine ⟨.ref t, h0, .int (k : Int), h3, .int (j : Int), hr, t, a, b, k, j, xs, ys, rfl, pk.same s2, hk, hj, fun G2 A2 sg2 na2 ha2 => ⟨.int u, hl, .int w, hd, by show 2 ≤ sizeLine; decide, fun B2 nb2 => ?_⟩⟩
    have sb2 := same_upd (o := .tup [.int u, .int w]) nb2
    obtain ⟨d, e, p1, p2, p3, p4, p5⟩ := eq2 (K := K) (sb2 _ _ ha2) (upd_same (H := G2) (a := B2) (o := .tup [.int u, .int w]))
    refine ⟨d, e, p1, p2, p3, p4, ?_⟩
    rw [p5]
    exact q _ _ (by rw [y, Bool.true_and]) (s2.trans (sg2.trans sb2))
  · exact q _ _ (by rw [Bool.eq_false_iff.mpr y, Bool.false_and]) (sg1.trans sb1)
theorem ok_ismill {f fW fB fU fS fP fM cF cB : Addr} {fd fdW fdB fdU fdS fdP fdM : FuncData} {k : Nat} (F : Fun K "is_mill" "is_mill" sIsMill f fd) (FW : Fun K "is_whole" "is_whole" sPWhole fW fdW) (FB : Fun K "is_between" "is_between" sBetween fB fdB) (FU : Fun K "is_tuple_of" "is_tuple_of" sTupOf fU fdU) (FS : Fun K "size_of_pick" "size_of_pick" sSizeP fS fdS) (FP : Fun K "is_pair_below" "is_pair_below" sPairB fP fdP) (FM : Fun K "comes" "comes" sComes fM fdM)
    (bW : Binds K fdW ["thing"] []) (bB : Binds K fdB ["thing", "least", "most"] []) (bU : Binds K fdU ["thing", "many"] []) (bS : Binds K fdS ["pick"] []) (bP : Binds K fdP ["one", "other", "many"] []) (bM : Binds K fdM ["pick", "i", "j"] []) (gW : mg "is_whole" = some (.ref fW)) (gB : mg "is_between" = some (.ref fB)) (gU : mg "is_tuple_of" = some (.ref fU)) (gS : mg "size_of_pick" = some (.ref fS)) (gP : mg "is_pair_below" = some (.ref fP)) (gM : mg "comes" = some (.ref fM))
    (gF : mg "LEGS_FORTH" = some (.ref cF)) (gK : mg "LEGS_BACK" = some (.ref cB)) (hF : ∀ G : Hp, SqT K G cF [.int 0, .int 1, .int 2, .int 3]) (hB : ∀ G : Hp, SqT K G cB [.int 2, .int 3, .int 0, .int 1])
    (mi : mg "isinstance" = none) (mint : mg "int" = none) (mbool : mg "bool" = none) (mtup : mg "tuple" = none) (ml : mg "len" = none) : FnOk P w K mg base CX0 (k + 4) f fd ["pick", "thing"] spIsMill := by
  have GW : FnOk P w K mg base CX0 1 fW fdW ["thing"] spPWhole := ok_pwhole FW mi mint mbool
  have GU : FnOk P w K mg base CX0 1 fU fdU ["thing", "many"] spTupOf := ok_tupOf FU mi mtup ml
  have GS : FnOk P w K mg base CX0 1 fS fdS ["pick"] spSizeP := ok_sizep FS ml
  have GP : FnOk P w K mg base CX0 (k + 3) fP fdP ["one", "other", "many"] spPairB := ok_pairb FP FW FB bW bB gW gB mi mint mbool
  have GM : FnOk P w K mg base CX0 1 fM fdM ["pick", "i", "j"] spComes := ok_comes FM
  refine F.ok scIsMill (fun vs H Q E h => ?_) (fun cdv A outer s H vs Q E hr h => ?_)
  · obtain ⟨t, th, a, b, i, k, j, l, turn, xs, ys, rfl, _⟩ := h
    rfl
  · obtain ⟨t, th, a, b, i, k, j, l, turn, xs, ys, rfl, pk, hth, hik, hka, hjl, hlb, ht, q⟩ := h
    have nd := scIsMill.nd
    refine ⟨_, pss_cons (ps_if (pt_not (pt_val (pe_call GU (hr.mono (by omega)) (by rfl) gU FU.kp bU .nil pass0 (pa_cons (pv 1) (pa_cons pe_int pa_nil))))) (pss_one (ps_ret pe_bl)) pss_nil)
      (pss_cons (ps_asg (pv 1) (pg_tup rfl (pgs_cons (pg_name (i := 2) nd rfl (.inl rfl)) (pgs_cons (pg_name (i := 3) nd rfl (.inl rfl)) (pgs_cons (pg_name (i := 4) nd rfl (.inl rfl)) (pgs_cons (pg_name (i := 5) nd rfl (.inl rfl)) (pgs_cons (pg_name (i := 6) nd rfl (.inl rfl)) pgs_nil)))))))
      (pss_cons (ps_asg (pe_call GS (hr.mono (by omega)) (by rfl) gS FS.kp bS .nil pass0 (pa_cons (pv 0) pa_nil)) (pg_tup rfl (pgs_cons (pg_name (i := 7) nd rfl (.inl rfl)) (pgs_cons (pg_name (i := 8) nd rfl (.inl rfl)) pgs_nil))))
      (pss_cons (ps_if (pt_not (PW.pt (pw_and (pt_val (pe_call GP hr (by rfl) gP FP.kp bP .nil pass0 (pa_cons (pv 2) (pa_cons (pv 3) (pa_cons (pv 7) pa_nil))))) (pw_and (pt_val (pe_call GP hr (by rfl) gP FP.kp bP .nil pass0 (pa_cons (pv 4) (pa_cons (pv 5) (pa_cons (pv 8) pa_nil))))) (pw_and (pt_val (pe_call GW (hr.mono (by omega)) (by rfl) gW FW.kp bW .nil pass0 (pa_cons (pv 6) pa_nil))) (pw_and1 (pt_cmpR op_in_seq (pv 6) (pe_tup (pa_cons pe_int (pa_cons (pe_un un_neg pe_int) pa_nil))) (by rfl)))))))) (pss_one (ps_ret pe_bl)) pss_nil)
      (pss_cons (ps_asg (pe_ifExp (pt_cmpR op_eq (pv 6) pe_int (nomark _)) (pe_glob (v := .ref cF) (by rfl) gF rfl) (pe_glob (v := .ref cB) (by rfl) gK rfl)) (pg_tup rfl (pgs_cons (pg_name (i := 9) nd rfl (.inl rfl)) (pgs_cons (pg_name (i := 10) nd rfl (.inl rfl)) (pgs_cons (pg_name (i := 11) nd rfl (.inl rfl)) (pgs_cons (pg_name (i := 12) nd rfl (.inl rfl)) pgs_nil))))))
      (pss_cons (ps_set (i := 13) nd rfl (.inl rfl) (pe_and (pe_cmpR (op_eqD hr.units) (pe_call GM (hr.mono (by omega)) (by rfl) gM FM.kp bM .nil pass0 (pa_cons (pv 0) (pa_cons (pv 2) (pa_cons (pv 4) pa_nil)))) (pe_tup (pa_cons (pv 9) (pa_cons (pv 12) pa_nil))) (nomark _)) (pe_one (pe_cmpR (op_eqD hr.units) (pe_call GM (hr.mono (by omega)) (by rfl) gM FM.kp bM .nil pass0 (pa_cons (pv 0) (pa_cons (pv 3) (pa_cons (pv 4) pa_nil)))) (pe_tup (pa_cons (pv 9) (pa_cons (pv 10) pa_nil))) (nomark _)))))
      (pss_cons (ps_set (i := 14) nd rfl (.inl rfl) (pe_and (pe_cmpR (op_eqD hr.units) (pe_call GM (hr.mono (by omega)) (by rfl) gM FM.kp bM .nil pass0 (pa_cons (pv 0) (pa_cons (pv 2) (pa_cons (pv 5) pa_nil)))) (pe_tup (pa_cons (pv 11) (pa_cons (pv 12) pa_nil))) (nomark _)) (pe_one (pe_cmpR (op_eqD hr.units) (pe_call GM (hr.mono (by omega)) (by rfl) gM FM.kp bM .nil pass0 (pa_cons (pv 0) (pa_cons (pv 3) (pa_cons (pv 5) pa_nil)))) (pe_tup (pa_cons (pv 11) (pa_cons (pv 10) pa_nil))) (nomark _)))))
      (pss_one (ps_ret (pe_and (pv 13) (pe_one (pv 14))))))))))), ?_⟩
    refine ⟨.ref th, rfl, _, some _, 5, rfl, .tup hth, true, rfl, iteF ?_⟩
    refine ⟨.ref th, rfl, th, _, rfl, .inl (.inl hth), rfl, _, _, rfl, _, _, rfl, _, _, rfl, _, _, rfl, _, _, rfl, rfl, ?_⟩
    refine ⟨.ref t, rfl, t, a, b, xs, ys, rfl, pk, fun H1 T1 s1 n1 h1 => ?_⟩
    refine ⟨T1, _, rfl, .inl (.inl h1), rfl, _, _, rfl, _, _, rfl, rfl, ?_⟩
    refine ⟨.int (i : Int), rfl, .int (k : Int), rfl, .int (a : Int), rfl, i, k, a, rfl, hik, hka, true, rfl, iteT ?_⟩
    refine ⟨.int (j : Int), rfl, .int (l : Int), rfl, .int (b : Int), rfl, j, l, b, rfl, hjl, hlb, true, rfl, iteT ?_⟩
    refine ⟨.int turn, rfl, _, none, rfl, .int _, true, rfl, iteT ?_⟩
    refine ⟨.int turn, rfl, 1, rfl, by show 2 ≤ sizeLine; decide, fun T2 n2 => ⟨T2, _, rfl, .inr (.inl (.inl upd_same)), rfl, rfl, true, ?_, iteF ?_⟩⟩
    · rcases ht with rfl | rfl <;> rfl
    have s2 := same_upd (o := .tup [.int 1, .int (-1)]) n2
    have pk2 := (pk.same s1).same s2
    have s02 := s1.trans s2
    have core : ∀ (G : Hp) (rj ck rl ci : Int), Same H G → ((turn = 1 ∧ rj = 0 ∧ ck = 1 ∧ rl = 2 ∧ ci = 3) ∨ (turn = -1 ∧ rj = 2 ∧ ck = 3 ∧ rl = 0 ∧ ci = 1)) → isMillB xs ys i k j l turn = ((decide ([crI xs i j, ccI ys i j] = [rj, ci]) && decide ([crI xs k j, ccI ys k j] = [rj, ck])) && (decide ([crI xs i l, ccI ys i l] = [rl, ci]) && decide ([crI xs k l, ccI ys k l] = [rl, ck]))) := by
      intro G rj ck rl ci _ h
      rcases h with ⟨rfl, rfl, rfl, rfl, rfl⟩ | ⟨rfl, rfl, rfl, rfl, rfl⟩ <;> rfl
    rcases ht with rfl | rfl
    · have eq := core (upd H1 T2 (.tup [.int 1, .int (-1)])) 0 1 2 3 s02 (.inl ⟨rfl, rfl, rfl, rfl, rfl⟩)
      refine ⟨.int 1, rfl, rfl, _, rfl, ite2 (fun _ => ?_) (fun z => absurd (by decide) z)⟩
      refine ⟨cF, _, rfl, hF _, rfl, _, _, rfl, _, _, rfl, _, _, rfl, _, _, rfl, rfl, ?_⟩
      show tSeq (tAsg (tTwo K 12 4 9 10) (gName 13)) _ _ [some (.ref t), some (.ref th), some (.int (i : Int)), some (.int (k : Int)), some (.int (j : Int)), some (.int (l : Int)), some (.int 1), some (.int (a : Int)), some (.int (b : Int)), some (.int 0), some (.int 1), some (.int 2), some (.int 3), none, none] _
      refine seqAsg (two_ok (i := i) (k := k) (j := j) rfl rfl rfl rfl rfl rfl rfl pk2 (by omega) hka (by omega) fun B1 G3 e3 s3 => ?_)
      show tSeq (tAsg (tTwo K 12 5 11 10) (gName 14)) _ _ [some (.ref t), some (.ref th), some (.int (i : Int)), some (.int (k : Int)), some (.int (j : Int)), some (.int (l : Int)), some (.int 1), some (.int (a : Int)), some (.int (b : Int)), some (.int 0), some (.int 1), some (.int 2), some (.int 3), some (.bl B1), none] _
      refine seqAsg (two_ok (i := i) (k := k) (j := l) rfl rfl rfl rfl rfl rfl rfl (pk2.same s3) (by omega) hka hlb fun B2 G4 e4 s4 => ?_)
      rw [eq, ← e3, ← e4] at q
      refine ⟨.bl B1, rfl, B1, rfl, ite2 (fun y => ?_) (fun y => ?_)⟩
      · rw [y, Bool.true_and] at q
        exact ⟨.bl B2, rfl, q G4 (s02.trans (s3.trans s4))⟩
      · rw [Bool.eq_false_iff.mpr y, Bool.false_and] at q
        exact q G4 (s02.trans (s3.trans s4))
    · have eq := core (upd H1 T2 (.tup [.int 1, .int (-1)])) 2 3 0 1 s02 (.inr ⟨rfl, rfl, rfl, rfl, rfl⟩)
      refine ⟨.int (-1), rfl, rfl, _, rfl, ite2 (fun z => absurd z (by decide)) (fun _ => ?_)⟩
      refine ⟨cB, _, rfl, hB _, rfl, _, _, rfl, _, _, rfl, _, _, rfl, _, _, rfl, rfl, ?_⟩
      show tSeq (tAsg (tTwo K 12 4 9 10) (gName 13)) _ _ [some (.ref t), some (.ref th), some (.int (i : Int)), some (.int (k : Int)), some (.int (j : Int)), some (.int (l : Int)), some (.int (-1)), some (.int (a : Int)), some (.int (b : Int)), some (.int 2), some (.int 3), some (.int 0), some (.int 1), none, none] _
      refine seqAsg (two_ok (i := i) (k := k) (j := j) rfl rfl rfl rfl rfl rfl rfl pk2 (by omega) hka (by omega) fun B1 G3 e3 s3 => ?_)
      show tSeq (tAsg (tTwo K 12 5 11 10) (gName 14)) _ _ [some (.ref t), some (.ref th), some (.int (i : Int)), some (.int (k : Int)), some (.int (j : Int)), some (.int (l : Int)), some (.int (-1)), some (.int (a : Int)), some (.int (b : Int)), some (.int 2), some (.int 3), some (.int 0), some (.int 1), some (.bl B1), none] _
      refine seqAsg (two_ok (i := i) (k := k) (j := l) rfl rfl rfl rfl rfl rfl rfl (pk2.same s3) (by omega) hka hlb fun B2 G4 e4 s4 => ?_)
      rw [eq, ← e3, ← e4] at q
      refine ⟨.bl B1, rfl, B1, rfl, ite2 (fun y => ?_) (fun y => ?_)⟩
      · rw [y, Bool.true_and] at q
        exact ⟨.bl B2, rfl, q G4 (s02.trans (s3.trans s4))⟩
      · rw [Bool.eq_false_iff.mpr y, Bool.false_and] at q
        exact q G4 (s02.trans (s3.trans s4))
end
end C2

namespace C2
set_option Elab.async false
set_option linter.all false
set_option maxRecDepth 100000
set_option maxHeartbeats 1000000
open PySem PySem.Spec PyProof.Rows L2
def pairsN (n : Nat) : List (Nat × Nat) := (List.range n).flatMap fun i => (List.range (n - (i + 1))).map fun d => (i, i + 1 + d)
def pairV (p : Nat × Nat) : List V := [.int (p.1 : Int), .int (p.2 : Int)]
theorem pairsN_mem {n : Nat} {p : Nat × Nat} (h : p ∈ pairsN n) : p.1 < p.2 ∧ p.2 < n := by
  obtain ⟨i, hi, hp⟩ := List.mem_flatMap.mp h
  obtain ⟨d, hd, rfl⟩ := List.mem_map.mp hp
  have := List.mem_range.mp hi
  have := List.mem_range.mp hd
  constructor <;> show _ < _ <;> omega
def turnsOf (xs ys : List Int) (p q : Nat × Nat) : List Int := [(-1 : Int), 1].filter fun t => isMillB xs ys p.1 p.2 q.1 q.2 t
def five (p q : Nat × Nat) (t : Int) : List Int := [(p.1 : Int), (p.2 : Int), (q.1 : Int), (q.2 : Int), t]
def millsRow (xs ys : List Int) (b : Nat) (p : Nat × Nat) : List (List Int) := (pairsN b).flatMap fun q => (turnsOf xs ys p q).map (five p q)
def millsL (xs ys : List Int) (a b : Nat) : List (List Int) := (pairsN a).flatMap (millsRow xs ys b)
def vI (L : List (List Int)) : List (List V) := L.map fun x => x.map V.int
section
variable {P : Program} {w : World} {K : PySem.W.Frag} {mg : Str → Option Value} {base : Heap}
theorem scLComes : FnScope ["_law_chosen", "_law_i", "_law_j"] ["_law_chosen", "_law_i", "_law_j"] (defScope sLComes) := ⟨rfl, rfl, rfl, by decide +kernel, rfl, by decide +kernel, by decide +kernel⟩
theorem ok_lcomes {f : Addr} {fd : FuncData} {k : Nat} (F : Fun K "_law_comes" "_law_comes" sLComes f fd) : FnOk P w K mg base CX0 (k + 1) f fd ["_law_chosen", "_law_i", "_law_j"] spComes := by
  refine F.ok scLComes (fun vs H Q E h => ?_) (fun cdv A outer s H vs Q E hr h => ?_)
  · obtain ⟨t, a, b, i, j, xs, ys, rfl, _⟩ := h
    rfl
  · obtain ⟨t, a, b, i, j, xs, ys, rfl, ⟨tx, ty, h1, h2, h3, l1, l2, u1, u2⟩, hi, hj, q⟩ := h
    refine ⟨_, pss_one (ps_ret (pe_tup (pa_cons (pe_ifExp (pt_cmpR op_le (pe_ix ix_tup (pe_ix ix_tup (pv 0) pe_int (fun _ _ => rfl)) (pv 2) (fun _ _ => rfl)) (pv 1) (nomark _)) pe_int pe_int) (pa_cons (pe_ifExp (pt_cmpR op_le (pe_ix ix_tup (pe_ix ix_tup (pv 0) pe_int (fun _ _ => rfl)) (pv 1) (fun _ _ => rfl)) (pv 2) (nomark _)) pe_int pe_int) pa_nil)))), ?_⟩
    have fin : ∀ T, H T = none → Q (.ref T) (upd H T (.tup [.int (crI xs i j), .int (ccI ys i j)])) := fun T nT => q _ T (same_upd nT) nT upd_same
    unfold crI ccI at fin
    have t1 : SqT K H t [.ref tx, .ref ty] := .inl (.inl h1)
    refine ⟨.ref t, rfl, t, _, 0, .ref tx, rfl, rfl, t1, rfl, .int (j : Int), rfl, tx, _, _, _, rfl, rfl, .inl (.inl h2), atD (by omega), .int (i : Int), rfl, _, _, rfl, rfl, _, rfl, ite2 (fun e => ?_) (fun e => ?_)⟩
    · rw [if_pos (of_decide_eq_true e)] at fin
      refine ⟨.ref t, rfl, t, _, 1, .ref ty, rfl, rfl, t1, rfl, .int (i : Int), rfl, ty, _, _, _, rfl, rfl, .inl (.inl h3), atD (by omega), .int (j : Int), rfl, _, _, rfl, rfl, _, rfl, ite2 (fun e => ?_) (fun e => ?_)⟩
      · rw [if_pos (of_decide_eq_true e)] at fin
        exact ⟨by show 2 ≤ sizeLine; decide, fin⟩
      · rw [if_neg (fun z => e (decide_eq_true z))] at fin
        exact ⟨by show 2 ≤ sizeLine; decide, fin⟩
    · rw [if_neg (fun z => e (decide_eq_true z))] at fin
      refine ⟨.ref t, rfl, t, _, 1, .ref ty, rfl, rfl, t1, rfl, .int (i : Int), rfl, ty, _, _, _, rfl, rfl, .inl (.inl h3), atD (by omega), .int (j : Int), rfl, _, _, rfl, rfl, _, rfl, ite2 (fun e => ?_) (fun e => ?_)⟩
      · rw [if_pos (of_decide_eq_true e)] at fin
        exact ⟨by show 2 ≤ sizeLine; decide, fin⟩
      · rw [if_neg (fun z => e (decide_eq_true z))] at fin
        exact ⟨by show 2 ≤ sizeLine; decide, fin⟩
abbrev NLm : List Str := ["_law_chosen", "_law_i", "_law_k", "_law_j", "_law_l", "_law_turn", "_law_low", "_law_right", "_law_high", "_law_left", "_law_c", "_law_r"]
theorem scLMill : FnScope NLm ["_law_chosen", "_law_i", "_law_k", "_law_j", "_law_l", "_law_turn"] (defScope sLMill) := ⟨rfl, rfl, rfl, by decide +kernel, rfl, by decide +kernel, by decide +kernel⟩
def tCm (K : PySem.W.Frag) (x y : Nat) (n : Int) (s : Nat) : TE := tOp rEq (tOp (rIxT K) (tCall spComes [] E0 (tCons (tVar 0) (tCons (tVar x) (tCons (tVar y) tNil)))) (tC (V.int n))) (tVar s)
/-- the row's leg, the column's leg -/
def legAt (xs ys : List Int) (i j : Nat) (n : Int) : Int := if n = 0 then crI xs i j else ccI ys i j
theorem cm_ok {σ : L2.St} {G : Hp} {Q : VK} {t : Addr} {a b i j x y s : Nat} {n u : Int} {xs ys : List Int} (h0 : σ[0]? = some (some (.ref t))) (hx : σ[x]? = some (some (.int (i : Int)))) (hy : σ[y]? = some (some (.int (j : Int)))) (hs : σ[s]? = some (some (.int u))) (hn : n = 0 ∨ n = 1)
    (pk : PickAt G t a b xs ys) (hi : i < a) (hj : j < b) (q : ∀ (B : Bool) G', B = decide (legAt xs ys i j n = u) → Same G G' → Q (.bl B) G') : tCm K x y n s σ G Q := by
  refine ⟨.ref t, h0, .int (i : Int), hx, .int (j : Int), hy, t, a, b, i, j, xs, ys, rfl, pk, hi, hj, fun G1 T s1 nT hT => ?_⟩
  have sq : SqT K G1 T [.int (crI xs i j), .int (ccI ys i j)] := .inl (.inl hT)
  rcases hn with rfl | rfl
  · refine ⟨T, _, 0, .int (crI xs i j), rfl, rfl, sq, rfl, .int u, hs, rfl, ?_⟩
    refine q _ _ ?_ s1
    show decide (V.int (crI xs i j) = V.int u) = decide (crI xs i j = u)
    simp
  · refine ⟨T, _, 1, .int (ccI ys i j), rfl, rfl, sq, rfl, .int u, hs, rfl, ?_⟩
    refine q _ _ ?_ s1
    show decide (V.int (ccI ys i j) = V.int u) = decide (ccI ys i j = u)
    simp
theorem and2_ok {ta tb : TE} {σ : L2.St} {G : Hp} {Q : VK} {B1 B2 : Bool} (h1 : ∀ Q' : VK, (∀ (B : Bool) G', B = B1 → Same G G' → Q' (.bl B) G') → ta σ G Q') (h2 : ∀ (G1 : Hp) (Q' : VK), Same G G1 → (∀ (B : Bool) G', B = B2 → Same G1 G' → Q' (.bl B) G') → tb σ G1 Q')
    (q : ∀ (B : Bool) G', B = (B1 && B2) → Same G G' → Q (.bl B) G') : tAndV ta tb σ G Q := by
  refine h1 _ fun B G1 e s1 => ⟨B, rfl, ite2 (fun y => ?_) (fun y => ?_)⟩
  · refine h2 G1 _ s1 fun C G2 e2 s2 => q C G2 ?_ (s1.trans s2)
    rw [← e, ← e2, y, Bool.true_and]
  · refine q false G1 ?_ s1
    rw [← e, Bool.eq_false_iff.mpr y, Bool.false_and]
/-- all(..) over a pair -/
theorem all_pair {te : TE} {σ : L2.St} {G : Hp} {Q : VK} {c d s x y : Nat} {R : Nat → Bool} (hc : σ[c]? = some (some (.int (x : Int)))) (hd : σ[d]? = some (some (.int (y : Int)))) (hw : ∀ v, wipe ((wipe σ [s]).set s (some v)) [s] = wipe σ [s])
    (hte : ∀ (v : Nat) (G1 : Hp) (Q' : VK), (v = x ∨ v = y) → Same G G1 → (∀ (B : Bool) G', B = R v → Same G1 G' → Q' (.bl B) G') → te ((wipe σ [s]).set s (some (.int (v : Int)))) G1 Q')
    (q : ∀ (B : Bool) G', B = (R x && R y) → Same G G' → Q (.bl B) G') : tCB (rAll K) (tCons (tLc (iTup K (tTup (tCons (tVar c) (tCons (tVar d) tNil)))) (gName s) tYes te [s]) tNil) σ G Q := by
  refine ⟨_, hc, _, hd, by show 2 ≤ sizeLine; decide, fun T nT => ⟨T, rfl, ⟨_, .inl (.inl upd_same)⟩, fun D nD => ?_⟩⟩
  have s1 := same_upd (o := .tup [.int (x : Int), .int (y : Int)]) nT
  refine lc_tup (xs := [.int (x : Int), .int (y : Int)]) (fun i G' => Same (upd G T (.tup [.int (x : Int), .int (y : Int)])) G' ∧ G' D = some (.lst ((([R x, R y] : List Bool).take i).map V.bl))) ⟨same_upd nD, upd_same⟩ (fun i G' _ h => .inl (.inl (h.1 _ _ upd_same))) ?_ ?_
  · rintro i v G' hv ⟨sm, hD⟩
    have i2 : i < 2 := (List.getElem?_eq_some_iff.mp hv).1
    obtain ⟨v', ev, hv', er⟩ : ∃ v' : Nat, v = .int (v' : Int) ∧ (v' = x ∨ v' = y) ∧ ([R x, R y] : List Bool).take (i + 1) = ([R x, R y] : List Bool).take i ++ [R v'] := by
      rcases (show i = 0 ∨ i = 1 by omega) with rfl | rfl
      · exact ⟨x, (Option.some.inj hv).symm, .inl rfl, rfl⟩
      · exact ⟨y, (Option.some.inj hv).symm, .inr rfl, rfl⟩
    subst ev
    refine ⟨hw _, ?_⟩
    simp only [tYes, ↓reduceIte]
    refine hte v' G' _ hv' (s1.trans sm) fun B G2 e s2 => ⟨_, s2 _ _ hD, ?_, ?_, ?_⟩
    · rw [List.length_map, List.length_take]
      exact Nat.lt_of_le_of_lt (Nat.min_le_left _ _) (Nat.lt_of_lt_of_le (show i < 1000 by omega) (by decide))
    · intro b' o e'
      rw [upd_ne (ne_of_none e' nD)]
      exact s2 _ _ (sm _ _ e')
    · rw [upd_same, er, List.map_append, e]
      rfl
  · rintro G' ⟨sm, hD⟩
    refine ⟨D, [R x, R y], rfl, .inl (.inl hD), ?_⟩
    refine q _ _ ?_ (s1.trans sm)
    cases R x <;> cases R y <;> rfl
end
end C2

namespace C2
set_option Elab.async false
set_option linter.all false
set_option maxRecDepth 100000
set_option maxHeartbeats 1000000
open PySem PySem.Spec PyProof.Rows L2
/-! ### the program's search finds the first of all mills, whatever the size -/
theorem firstS_void {α : Type} {f : Nat → Option α} : ∀ {n : Nat}, (∀ i, i < n → f i = none) → firstS f n = none
  | 0, _ => rfl
  | n + 1, h => by rw [firstS_next (firstS_void fun i hi => h i (by omega))]; exact h n (by omega)
theorem firstS_first {α : Type} {f : Nat → Option α} {n i : Nat} {v : α} (hi : i < n) (h : f i = some v) (no : ∀ j, j < i → f j = none) : firstS f n = some v :=
  firstS_stay (n := i + 1) (by rw [firstS_next (firstS_void no)]; exact h) hi
theorem firstS_find {α : Type} (f : Nat → Option α) : ∀ n, (List.range n).findSome? f = firstS f n
  | 0 => rfl
  | n + 1 => by
    rw [List.range_succ, List.findSome?_append, firstS_find f n]
    cases e : firstS f n with
    | none => rw [firstS_next e]; cases z : f n <;> simp [List.findSome?, z]
    | some x => rw [firstS_stay e (Nat.le_succ n)]; rfl
theorem find_flat {α β γ : Type} (f : α → List β) (g : β → Option γ) : ∀ l : List α, (l.flatMap f).findSome? g = l.findSome? fun x => (f x).findSome? g
  | [] => rfl
  | x :: l => by
    rw [List.flatMap_cons, List.findSome?_append, find_flat f g l, List.findSome?_cons]
    cases (f x).findSome? g <;> rfl
theorem pairs_find {γ : Type} (g : Nat × Nat → Option γ) (n : Nat) : (pairsN n).findSome? g = firstS (fun i => firstS (fun d => g (i, i + 1 + d)) (n - (i + 1))) n := by
  unfold pairsN
  rw [find_flat, ← firstS_find]
  congr 1
  funext i
  rw [List.findSome?_map, ← firstS_find]
  rfl
theorem pairs_void {γ : Type} {g : Nat × Nat → Option γ} {n : Nat} (h : ∀ j l, j < l → l < n → g (j, l) = none) : (pairsN n).findSome? g = none := by
  rw [pairs_find]
  exact firstS_void fun i hi => firstS_void fun d hd => h i (i + 1 + d) (by omega) (by omega)
theorem pairs_first {γ : Type} {g : Nat × Nat → Option γ} {n j l : Nat} {v : γ} (hjl : j < l) (hl : l < n) (h : g (j, l) = some v) (no1 : ∀ j' l', j' < j → j' < l' → l' < n → g (j', l') = none) (no2 : ∀ l', j < l' → l' < l → g (j, l') = none) : (pairsN n).findSome? g = some v := by
  rw [pairs_find]
  refine firstS_first (i := j) (by omega) (firstS_first (i := l - (j + 1)) (by omega) (by rw [show j + 1 + (l - (j + 1)) = l by omega]; exact h) fun d hd => no2 _ (by omega) (by omega)) fun j' hj => firstS_void fun d hd => no1 j' _ hj (by omega) (by omega)
section
variable {xs ys : List Int} {i k f s t : Int}
theorem go_one (j : Int) : ∀ (n row : Nat), (mbGo xs i k f s t n row (some j) = none ∧ ∀ r, row ≤ r → r < row + n → legO (xs.getD r 0) i k ≠ some s) ∨
    ∃ r : Nat, row ≤ r ∧ r < row + n ∧ legO (xs.getD r 0) i k = some s ∧ (∀ r', row ≤ r' → r' < r → legO (xs.getD r' 0) i k ≠ some s) ∧ mbGo xs i k f s t n row (some j) = some [i, k, j, (r : Int), t]
  | 0, row => .inl ⟨rfl, fun r h1 h2 => by omega⟩
  | n + 1, row => by
    rw [mbGo_some]
    by_cases e : legO (xs.getD row 0) i k = some s
    · rw [if_pos e]
      exact .inr ⟨row, Nat.le_refl _, by omega, e, fun r' h1 h2 => by omega, rfl⟩
    · rw [if_neg e]
      rcases go_one j n (row + 1) with ⟨h1, h2⟩ | ⟨r, h1, h2, h3, h4, h5⟩
      · refine .inl ⟨h1, fun r l1 l2 => ?_⟩
        by_cases z : r = row
        · rw [z]; exact e
        · exact h2 r (by omega) (by omega)
      · refine .inr ⟨r, by omega, by omega, h3, fun r' l1 l2 => ?_, h5⟩
        by_cases z : r' = row
        · rw [z]; exact e
        · exact h4 r' (by omega) l2
theorem go_none : ∀ (n row : Nat), (mbGo xs i k f s t n row none = none ∧ ∀ j r, row ≤ j → j < r → r < row + n → legO (xs.getD j 0) i k = some f → legO (xs.getD r 0) i k ≠ some s) ∨
    ∃ j r : Nat, row ≤ j ∧ j < r ∧ r < row + n ∧ legO (xs.getD j 0) i k = some f ∧ legO (xs.getD r 0) i k = some s ∧ (∀ j', row ≤ j' → j' < j → legO (xs.getD j' 0) i k ≠ some f) ∧
      (∀ r', j < r' → r' < r → legO (xs.getD r' 0) i k ≠ some s) ∧ mbGo xs i k f s t n row none = some [i, k, (j : Int), (r : Int), t]
  | 0, row => .inl ⟨rfl, fun j r h1 h2 h3 => by omega⟩
  | n + 1, row => by
    rw [mbGo_none]
    by_cases e : legO (xs.getD row 0) i k = some f
    · rw [if_pos e]
      rcases go_one (xs := xs) (i := i) (k := k) (f := f) (s := s) (t := t) (row : Int) n (row + 1) with ⟨h1, h2⟩ | ⟨r, h1, h2, h3, h4, h5⟩
      · exact .inl ⟨h1, fun j r l1 l2 l3 _ => h2 r (by omega) (by omega)⟩
      · exact .inr ⟨row, r, Nat.le_refl _, by omega, by omega, e, h3, fun j' l1 l2 => by omega, fun r' l1 l2 => h4 r' (by omega) l2, h5⟩
    · rw [if_neg e]
      rcases go_none n (row + 1) with ⟨h1, h2⟩ | ⟨j, r, h1, h2, h3, h4, h5, h6, h7, h8⟩
      · refine .inl ⟨h1, fun j r l1 l2 l3 z => ?_⟩
        by_cases y : j = row
        · rw [y] at z; exact absurd z e
        · exact h2 j r (by omega) l2 (by omega) z
      · refine .inr ⟨j, r, by omega, h2, by omega, h4, h5, fun j' l1 l2 => ?_, h7, h8⟩
        by_cases y : j' = row
        · rw [y]; exact e
        · exact h6 j' (by omega) l2
end
end C2

namespace C2
set_option Elab.async false
set_option linter.all false
set_option maxRecDepth 100000
set_option maxHeartbeats 1000000
open PySem PySem.Spec PyProof.Rows L2
theorem legO_zero {x i k : Int} : legO x i k = some 0 ↔ x ≤ i := by
  unfold legO
  by_cases e : x ≤ i
  · simp [e]
  · by_cases z : k < x <;> simp [e, z]
theorem legO_two {x i k : Int} (ik : i < k) : legO x i k = some 2 ↔ k < x := by
  unfold legO
  by_cases e : x ≤ i
  · simp [e]; omega
  · by_cases z : k < x <;> simp [e, z]
theorem cr_zero {xs : List Int} {i j : Nat} : crI xs i j = 0 ↔ xs.getD j 0 ≤ (i : Int) := by
  unfold crI
  by_cases e : xs.getD j 0 ≤ (i : Int)
  · rw [if_pos e]; constructor <;> intro z <;> omega
  · rw [if_neg e]; constructor <;> intro z <;> omega
theorem cr_two {xs : List Int} {i j : Nat} : crI xs i j = 2 ↔ (i : Int) < xs.getD j 0 := by
  unfold crI
  by_cases e : xs.getD j 0 ≤ (i : Int)
  · rw [if_pos e]; constructor <;> intro z <;> omega
  · rw [if_neg e]; constructor <;> intro z <;> omega
theorem cc_one {ys : List Int} {i j : Nat} : ccI ys i j = 1 ↔ ys.getD i 0 ≤ (j : Int) := by
  unfold ccI
  by_cases e : ys.getD i 0 ≤ (j : Int)
  · rw [if_pos e]; constructor <;> intro z <;> omega
  · rw [if_neg e]; constructor <;> intro z <;> omega
theorem cc_three {ys : List Int} {i j : Nat} : ccI ys i j = 3 ↔ (j : Int) < ys.getD i 0 := by
  unfold ccI
  by_cases e : ys.getD i 0 ≤ (j : Int)
  · rw [if_pos e]; constructor <;> intro z <;> omega
  · rw [if_neg e]; constructor <;> intro z <;> omega
theorem mill_forth {xs ys : List Int} {i k j l : Nat} (ik : i < k) : isMillB xs ys i k j l 1 = true ↔
    legO (xs.getD j 0) i k = some 0 ∧ legO (xs.getD l 0) i k = some 2 ∧ ys.getD k 0 ≤ (j : Int) ∧ (j : Int) < ys.getD i 0 ∧ ys.getD k 0 ≤ (l : Int) ∧ (l : Int) < ys.getD i 0 := by
  rw [legO_zero, legO_two (by omega)]
  unfold isMillB
  simp only [if_true, Bool.and_eq_true, decide_eq_true_eq, List.cons.injEq, and_true, cr_zero, cr_two, cc_one, cc_three]
  constructor <;> intro h <;> omega
theorem mill_back {xs ys : List Int} {i k j l : Nat} (ik : i < k) : isMillB xs ys i k j l (-1) = true ↔
    legO (xs.getD j 0) i k = some 2 ∧ legO (xs.getD l 0) i k = some 0 ∧ ys.getD i 0 ≤ (j : Int) ∧ (j : Int) < ys.getD k 0 ∧ ys.getD i 0 ≤ (l : Int) ∧ (l : Int) < ys.getD k 0 := by
  rw [legO_zero, legO_two (by omega)]
  unfold isMillB
  simp only [show ¬((-1 : Int) = 1) by decide, if_false, Bool.and_eq_true, decide_eq_true_eq, List.cons.injEq, and_true, cr_zero, cr_two, cc_one, cc_three]
  constructor <;> intro h <;> omega
/-- the first mill at one pair of rows, read off the enumeration -/
theorem row_head (xs ys : List Int) (b : Nat) (p : Nat × Nat) : (millsRow xs ys b p).head? = (pairsN b).findSome? fun q => ((turnsOf xs ys p q).map (five p q)).head? := by
  unfold millsRow
  exact List.head?_flatMap
theorem turn_head {xs ys : List Int} {p q : Nat × Nat} {t u : Int} (tu : (t = 1 ∧ u = -1) ∨ (t = -1 ∧ u = 1)) (no : isMillB xs ys p.1 p.2 q.1 q.2 u = false) :
    ((turnsOf xs ys p q).map (five p q)).head? = if isMillB xs ys p.1 p.2 q.1 q.2 t = true then some (five p q t) else none := by
  unfold turnsOf
  rcases tu with ⟨rfl, rfl⟩ | ⟨rfl, rfl⟩
  · cases e : isMillB xs ys p.1 p.2 q.1 q.2 1 <;> simp [List.filter, no, e]
  · cases e : isMillB xs ys p.1 p.2 q.1 q.2 (-1) <;> simp [List.filter, no, e]
theorem between_first {xs ys : List Int} {i k b : Nat} (ik : i < k) (ui : 0 ≤ ys.getD i 0 ∧ ys.getD i 0 ≤ (b : Int)) (uk : 0 ≤ ys.getD k 0 ∧ ys.getD k 0 ≤ (b : Int)) : mbtw xs ys i k = (millsRow xs ys b (i, k)).head? := by
  rw [row_head]
  unfold mbtw
  by_cases e : ys.getD k 0 < ys.getD i 0
  · rw [if_pos e]
    have no : ∀ q : Nat × Nat, isMillB xs ys i k q.1 q.2 (-1) = false := fun q => by
      cases z : isMillB xs ys i k q.1 q.2 (-1) with
      | false => rfl
      | true => have := (mill_back ik).mp z; omega
    have hd : ∀ j l : Nat, ((turnsOf xs ys (i, k) (j, l)).map (five (i, k) (j, l))).head? = if isMillB xs ys i k j l 1 = true then some (five (i, k) (j, l) 1) else none := fun j l => turn_head (.inl ⟨rfl, rfl⟩) (no (j, l))
    rcases go_none (xs := xs) (i := (i : Int)) (k := (k : Int)) (f := 0) (s := 2) (t := 1) (ys.getD i 0 - ys.getD k 0).toNat (ys.getD k 0).toNat with ⟨h1, h2⟩ | ⟨j, r, h1, h2, h3, h4, h5, h6, h7, h8⟩
    · rw [h1]
      refine (pairs_void fun j l jl lb => ?_).symm
      rw [hd, if_neg]
      intro z
      obtain ⟨z1, z2, z3⟩ := (mill_forth ik).mp z
      exact h2 j l (by omega) jl (by omega) z1 z2
    · rw [h8]
      refine (pairs_first h2 (by omega) ?_ (fun j' l' a1 a2 a3 => ?_) fun l' a1 a2 => ?_).symm
      · rw [hd, if_pos ((mill_forth ik).mpr ⟨h4, h5, by omega⟩)]; rfl
      · rw [hd, if_neg]
        intro z
        obtain ⟨z1, z2, z3⟩ := (mill_forth ik).mp z
        exact h6 j' (by omega) a1 z1
      · rw [hd, if_neg]
        intro z
        obtain ⟨z1, z2, z3⟩ := (mill_forth ik).mp z
        exact h7 l' a1 a2 z2
  · rw [if_neg e]
    have no : ∀ q : Nat × Nat, isMillB xs ys i k q.1 q.2 1 = false := fun q => by
      cases z : isMillB xs ys i k q.1 q.2 1 with
      | false => rfl
      | true => have := (mill_forth ik).mp z; omega
    have hd : ∀ j l : Nat, ((turnsOf xs ys (i, k) (j, l)).map (five (i, k) (j, l))).head? = if isMillB xs ys i k j l (-1) = true then some (five (i, k) (j, l) (-1)) else none := fun j l => turn_head (.inr ⟨rfl, rfl⟩) (no (j, l))
    rcases go_none (xs := xs) (i := (i : Int)) (k := (k : Int)) (f := 2) (s := 0) (t := -1) (ys.getD k 0 - ys.getD i 0).toNat (ys.getD i 0).toNat with ⟨h1, h2⟩ | ⟨j, r, h1, h2, h3, h4, h5, h6, h7, h8⟩
    · rw [h1]
      refine (pairs_void fun j l jl lb => ?_).symm
      rw [hd, if_neg]
      intro z
      obtain ⟨z1, z2, z3⟩ := (mill_back ik).mp z
      exact h2 j l (by omega) jl (by omega) z1 z2
    · rw [h8]
      refine (pairs_first h2 (by omega) ?_ (fun j' l' a1 a2 a3 => ?_) fun l' a1 a2 => ?_).symm
      · rw [hd, if_pos ((mill_back ik).mpr ⟨h4, h5, by omega⟩)]; rfl
      · rw [hd, if_neg]
        intro z
        obtain ⟨z1, z2, z3⟩ := (mill_back ik).mp z
        exact h6 j' (by omega) a1 z1
      · rw [hd, if_neg]
        intro z
        obtain ⟨z1, z2, z3⟩ := (mill_back ik).mp z
        exact h7 l' a1 a2 z2
theorem firstS_congr {α : Type} {f g : Nat → Option α} : ∀ {n : Nat}, (∀ i, i < n → f i = g i) → firstS f n = firstS g n
  | 0, _ => rfl
  | n + 1, h => by
    have z := firstS_congr (n := n) fun i hi => h i (by omega)
    cases e : firstS f n with
    | none => rw [firstS_next e, firstS_next (z ▸ e)]; exact h n (by omega)
    | some x => rw [firstS_stay e (Nat.le_succ n), firstS_stay (z ▸ e) (Nat.le_succ n)]
/-- mill tells the first of all mills in the order of the enumeration -/
theorem mill_first {xs ys : List Int} {a b : Nat} (ly : ys.length = a) (uy : Upto b ys) : millP xs ys a = (millsL xs ys a b).head? := by
  unfold millsL
  rw [List.head?_flatMap, pairs_find]
  unfold millP millRow
  refine firstS_congr fun i hi => firstS_congr fun d hd => ?_
  exact between_first (by omega) (upto_at uy (by omega)) (upto_at uy (by omega))
end C2

namespace C2
set_option Elab.async false
set_option linter.all false
set_option maxRecDepth 100000
set_option maxHeartbeats 1000000
open PySem PySem.Spec PyProof.Rows L2
theorem lmill_eq (xs ys : List Int) (i k j l : Nat) (turn lo ri hi le : Int) (h : (turn = 1 ∧ lo = 0 ∧ ri = 1 ∧ hi = 2 ∧ le = 3) ∨ (turn = -1 ∧ lo = 2 ∧ ri = 3 ∧ hi = 0 ∧ le = 1)) :
    (((decide (legAt xs ys i j 0 = lo) && decide (legAt xs ys i l 0 = hi)) && (decide (legAt xs ys k j 0 = lo) && decide (legAt xs ys k l 0 = hi))) && ((decide (legAt xs ys k j 1 = ri) && decide (legAt xs ys i j 1 = le)) && (decide (legAt xs ys k l 1 = ri) && decide (legAt xs ys i l 1 = le)))) = isMillB xs ys i k j l turn := by
  have e0 : ∀ u v, legAt xs ys u v 0 = crI xs u v := fun u v => rfl
  have e1 : ∀ u v, legAt xs ys u v 1 = ccI ys u v := fun u v => rfl
  simp only [e0, e1]
  rcases h with ⟨rfl, rfl, rfl, rfl, rfl⟩ | ⟨rfl, rfl, rfl, rfl, rfl⟩
  · unfold isMillB
    rw [Bool.eq_iff_iff]
    simp only [Bool.and_eq_true, decide_eq_true_eq, List.cons.injEq, and_true, if_true]
    constructor
    · rintro ⟨⟨⟨a, b⟩, c, d⟩, ⟨e, f⟩, g, h⟩
      exact ⟨⟨⟨a, f⟩, c, e⟩, ⟨b, h⟩, d, g⟩
    · rintro ⟨⟨⟨a, f⟩, c, e⟩, ⟨b, h⟩, d, g⟩
      exact ⟨⟨⟨a, b⟩, c, d⟩, ⟨e, f⟩, g, h⟩
  · unfold isMillB
    rw [Bool.eq_iff_iff]
    simp only [Bool.and_eq_true, decide_eq_true_eq, List.cons.injEq, and_true, show ¬ (-1 : Int) = 1 by decide, if_false]
    constructor
    · rintro ⟨⟨⟨a, b⟩, c, d⟩, ⟨e, f⟩, g, h⟩
      exact ⟨⟨⟨a, f⟩, c, e⟩, ⟨b, h⟩, d, g⟩
    · rintro ⟨⟨⟨a, f⟩, c, e⟩, ⟨b, h⟩, d, g⟩
      exact ⟨⟨⟨a, b⟩, c, d⟩, ⟨e, f⟩, g, h⟩
section
variable {P : Program} {w : World} {K : PySem.W.Frag} {mg : Str → Option Value} {base : Heap}
def spLMill : Sp := fun vs H Q _ => ∃ (t : Addr) (a b i k j l : Nat) (turn : Int) (xs ys : List Int), vs = [.ref t, .int (i : Int), .int (k : Int), .int (j : Int), .int (l : Int), .int turn] ∧ PickAt H t a b xs ys ∧ i < a ∧ k < a ∧ j < b ∧ l < b ∧ (turn = 1 ∨ turn = -1) ∧
  ∀ (B : Bool) H', B = isMillB xs ys i k j l turn → Same H H' → Q (.bl B) H'
def teA1 (K : PySem.W.Frag) : TE := tAndV (tCm K 10 3 0 6) (tCm K 10 4 0 8)
def teA2 (K : PySem.W.Frag) : TE := tAndV (tCm K 2 11 1 7) (tCm K 1 11 1 9)
def tAllP (K : PySem.W.Frag) (c d s : Nat) (te : TE) : TE := tCB (rAll K) (tCons (tLc (iTup K (tTup (tCons (tVar c) (tCons (tVar d) tNil)))) (gName s) tYes te [s]) tNil)
/-- the two looks -/
theorem looks_ok {D : Ends} {H G : Hp} {t : Addr} {a b i k j l : Nat} {turn lo ri hi le : Int} {xs ys : List Int} {y10 y11 : Option V} (pk : PickAt G t a b xs ys) (hi' : i < a) (hk : k < a) (hj : j < b) (hl : l < b) (sm : Same H G) (h : (turn = 1 ∧ lo = 0 ∧ ri = 1 ∧ hi = 2 ∧ le = 3) ∨ (turn = -1 ∧ lo = 2 ∧ ri = 3 ∧ hi = 0 ∧ le = 1))
    (q : ∀ (B : Bool) H', B = isMillB xs ys i k j l turn → Same H H' → D.rt (.bl B) H') :
    tSeq (tIfS (tNot (tB (tAllP K 1 2 10 (teA1 K)))) (tRet (tC (V.bl false))) tNext) (tRet (tAllP K 3 4 11 (teA2 K))) D [some (.ref t), some (.int (i : Int)), some (.int (k : Int)), some (.int (j : Int)), some (.int (l : Int)), some (.int turn), some (.int lo), some (.int ri), some (.int hi), some (.int le), y10, y11] G := by
  refine all_pair (x := i) (y := k) (R := fun v => decide (legAt xs ys v j 0 = lo) && decide (legAt xs ys v l 0 = hi)) rfl rfl (fun v => rfl) (fun v G1 Q' hv s1 k1 => ?_) fun B G1 eB s1 => ?_
  · have va : v < a := by rcases hv with rfl | rfl <;> assumption
    exact and2_ok (fun Q2 k2 => cm_ok (i := v) (j := j) rfl rfl rfl rfl (.inl rfl) (pk.same s1) va hj k2) (fun G2 Q2 s2 k2 => cm_ok (i := v) (j := l) rfl rfl rfl rfl (.inl rfl) (pk.same (s1.trans s2)) va hl k2) k1
  · have eqv := lmill_eq xs ys i k j l turn lo ri hi le h
    refine ⟨B, rfl, ite2 (fun y => ?_) (fun y => ?_)⟩
    · refine q false G1 ?_ (sm.trans s1)
      have : B = false := by simpa using y
      rw [← eqv, ← eB, this]
      rfl
    · have hB : B = true := by simpa using y
      refine all_pair (x := j) (y := l) (R := fun v => decide (legAt xs ys k v 1 = ri) && decide (legAt xs ys i v 1 = le)) rfl rfl (fun v => rfl) (fun v G2 Q' hv s2 k1 => ?_) fun C G2 eC s2 => ?_
      · have vb : v < b := by rcases hv with rfl | rfl <;> assumption
        exact and2_ok (fun Q2 k2 => cm_ok (i := k) (j := v) rfl rfl rfl rfl (.inr rfl) (pk.same (s1.trans s2)) hk vb k2) (fun G3 Q2 s3 k2 => cm_ok (i := i) (j := v) rfl rfl rfl rfl (.inr rfl) (pk.same (s1.trans (s2.trans s3))) hi' vb k2) k1
      · refine q C G2 ?_ (sm.trans (s1.trans s2))
        rw [← eqv, ← eB, hB, eC]
        rfl
theorem ok_lmill {f fC : Addr} {fd fdC : FuncData} {k : Nat} (F : Fun K "_law_is_mill" "_law_is_mill" sLMill f fd) (FC : Fun K "_law_comes" "_law_comes" sLComes fC fdC) (bC : Binds K fdC ["_law_chosen", "_law_i", "_law_j"] []) (gC : mg "_law_comes" = some (.ref fC)) (mint : mg "int" = none) (mall : mg "all" = none) :
    FnOk P w K mg base CX0 (k + 2) f fd ["_law_chosen", "_law_i", "_law_k", "_law_j", "_law_l", "_law_turn"] spLMill := by
  have GC : FnOk P w K mg base CX0 (k + 1) fC fdC ["_law_chosen", "_law_i", "_law_j"] spComes := ok_lcomes FC
  refine F.ok scLMill (fun vs H Q E h => ?_) (fun cdv A outer s H vs Q E hr h => ?_)
  · obtain ⟨t, a, b, i, k, j, l, turn, xs, ys, rfl, _⟩ := h
    rfl
  · obtain ⟨t, a, b, i, k, j, l, turn, xs, ys, rfl, pk, hi, hk, hj, hl, ht, q⟩ := h
    have nd := scLMill.nd
    refine ⟨_, pss_cons (ps_asg (pe_ix ix_list (pe_lst (pa_cons (pe_tup (pa_cons pe_int (pa_cons pe_int (pa_cons pe_int (pa_cons pe_int pa_nil))))) (pa_cons (pe_tup (pa_cons pe_int (pa_cons pe_int (pa_cons pe_int (pa_cons pe_int pa_nil))))) pa_nil))) (pe_callTy call_int1 (by rfl) mint (by decide +kernel) (pa_cons (pe_cmpR op_eq (pv 5) pe_int (nomark _)) pa_nil)) (fun _ _ => rfl)) (pg_tup rfl (pgs_cons (pg_name (i := 6) nd rfl (.inr rfl)) (pgs_cons (pg_name (i := 7) nd rfl (.inr rfl)) (pgs_cons (pg_name (i := 8) nd rfl (.inr rfl)) (pgs_cons (pg_name (i := 9) nd rfl (.inr rfl)) pgs_nil))))))
      (pss_cons (ps_if (pt_not (pt_val (pe_callB (cr_all rfl) (by rfl) mall (by decide +kernel) (pa_cons (pe_lc (own := [("_law_c", 10)]) (g := gName 10) (tt := tYes) (te := teA1 K) rfl nd (pi_tup (pe_tup (pa_cons (pv 1) (pa_cons (pv 2) pa_nil)))) (blkOk_by (own := [("_law_c", 10)]) (N := NLm) (sc := defScope sLMill) (by decide +kernel)) (fun _ _ _ _ _ => pg_name (i := 10) nd rfl (.inl rfl)) (fun _ _ _ _ _ => pts_nil) (fun _ _ _ _ _ => (pe_and (pe_cmpR op_eq (pe_ix ix_tup (pe_call GC hr (by rfl) gC FC.kp bC .nil pass0 (pa_cons (pv 0) (pa_cons (pv 10) (pa_cons (pv 3) pa_nil)))) pe_int (fun _ _ => rfl)) (pv 6) (nomark _)) (pe_one (pe_cmpR op_eq (pe_ix ix_tup (pe_call GC hr (by rfl) gC FC.kp bC .nil pass0 (pa_cons (pv 0) (pa_cons (pv 10) (pa_cons (pv 4) pa_nil)))) pe_int (fun _ _ => rfl)) (pv 8) (nomark _)))))) pa_nil)))) (pss_one (ps_ret pe_bl)) pss_nil)
      (pss_one (ps_ret (pe_callB (cr_all rfl) (by rfl) mall (by decide +kernel) (pa_cons (pe_lc (own := [("_law_r", 11)]) (g := gName 11) (tt := tYes) (te := teA2 K) rfl nd (pi_tup (pe_tup (pa_cons (pv 3) (pa_cons (pv 4) pa_nil)))) (blkOk_by (own := [("_law_r", 11)]) (N := NLm) (sc := defScope sLMill) (by decide +kernel)) (fun _ _ _ _ _ => pg_name (i := 11) nd rfl (.inl rfl)) (fun _ _ _ _ _ => pts_nil) (fun _ _ _ _ _ => (pe_and (pe_cmpR op_eq (pe_ix ix_tup (pe_call GC hr (by rfl) gC FC.kp bC .nil pass0 (pa_cons (pv 0) (pa_cons (pv 2) (pa_cons (pv 11) pa_nil)))) pe_int (fun _ _ => rfl)) (pv 7) (nomark _)) (pe_one (pe_cmpR op_eq (pe_ix ix_tup (pe_call GC hr (by rfl) gC FC.kp bC .nil pass0 (pa_cons (pv 0) (pa_cons (pv 1) (pa_cons (pv 11) pa_nil)))) pe_int (fun _ _ => rfl)) (pv 9) (nomark _)))))) pa_nil))))), ?_⟩
    refine ⟨by show 4 ≤ sizeLine; decide, fun t1 n1 => ⟨by show 4 ≤ sizeLine; decide, fun t2 n2 => ⟨by show 2 ≤ sizeLine; decide, fun l3 n3 => ?_⟩⟩⟩
    have s1 := same_upd (o := .tup [.int 2, .int 3, .int 0, .int 1]) n1
    have s2 := same_upd (o := .tup [.int 0, .int 1, .int 2, .int 3]) n2
    have s3 := same_upd (o := .lst [.ref t1, .ref t2]) n3
    have sm := s1.trans (s2.trans s3)
    have c1 := s3 _ _ (s2 _ _ (upd_same (H := H) (a := t1) (o := .tup [.int 2, .int 3, .int 0, .int 1])))
    have c2 := s3 _ _ (upd_same (H := upd H t1 (.tup [.int 2, .int 3, .int 0, .int 1])) (a := t2) (o := .tup [.int 0, .int 1, .int 2, .int 3]))
    rcases ht with rfl | rfl
    · refine ⟨.int 1, rfl, rfl, .inr ⟨_, rfl, l3, _, 1, .ref t2, rfl, rfl, .inl (.inl upd_same), rfl, ?_⟩⟩
      refine ⟨t2, _, rfl, .inl (.inl c2), rfl, _, _, rfl, _, _, rfl, _, _, rfl, _, _, rfl, rfl, ?_⟩
      exact looks_ok (H := H) (pk.same sm) hi hk hj hl sm (.inl ⟨rfl, rfl, rfl, rfl, rfl⟩) q
    · refine ⟨.int (-1), rfl, rfl, .inr ⟨_, rfl, l3, _, 0, .ref t1, rfl, rfl, .inl (.inl upd_same), rfl, ?_⟩⟩
      refine ⟨t1, _, rfl, .inl (.inl c1), rfl, _, _, rfl, _, _, rfl, _, _, rfl, _, _, rfl, rfl, ?_⟩
      exact looks_ok (H := H) (pk.same sm) hi hk hj hl sm (.inr ⟨rfl, rfl, rfl, rfl, rfl⟩) q
abbrev NPa : List Str := ["_law_many", "_law_found", "_law_one", "_law_other"]
theorem scPairs : FnScope NPa ["_law_many"] (defScope sPairs) := ⟨rfl, rfl, rfl, by decide +kernel, rfl, by decide +kernel, by decide +kernel⟩
def spPairs : Sp := fun vs H Q _ => ∃ n : Nat, vs = [.int (n : Int)] ∧ n ≤ 40 ∧ ∀ H' D, GrowV ((pairsN n).map pairV) H D H' → H D = none → Q (.ref D) H'
def pairsTo (n i : Nat) : List (List V) := (List.range i).flatMap fun i => (List.range (n - (i + 1))).map fun d => pairV (i, i + 1 + d)
theorem pairsTo_all (n : Nat) : pairsTo n n = (pairsN n).map pairV := by
  unfold pairsTo pairsN
  rw [List.map_flatMap]
  congr 1
  funext i
  rw [List.map_map]
  rfl
theorem pairsTo_succ (n i : Nat) : pairsTo n (i + 1) = pairsTo n i ++ (List.range (n - (i + 1))).map fun d => pairV (i, i + 1 + d) := by
  unfold pairsTo
  rw [List.range_succ, List.flatMap_append]
  simp
theorem pairsTo_len (n : Nat) : ∀ i, (pairsTo n i).length ≤ i * n
  | 0 => by simp [pairsTo]
  | i + 1 => by
    rw [pairsTo_succ, List.length_append, List.length_map, List.length_range, Nat.succ_mul]
    have := pairsTo_len n i
    omega
theorem ok_pairs {f : Addr} {fd : FuncData} {k : Nat} (F : Fun K "_law_pairs" "_law_pairs" sPairs f fd) (mr : mg "range" = none) : FnOk P w K mg base CX0 (k + 1) f fd ["_law_many"] spPairs := by
  refine F.ok scPairs (fun vs H Q E h => ?_) (fun cdv A outer s H vs Q E hr h => ?_)
  · obtain ⟨n, rfl, _⟩ := h
    rfl
  · obtain ⟨n, rfl, hn, q⟩ := h
    have nd := scPairs.nd
    refine ⟨_, pss_cons (ps_set (i := 1) nd rfl (.inl rfl) (pe_lst pa_nil))
      (pss_cons (ps_for PassesOwn.never rfl (pi_range1 (by rfl) mr (pa_cons (pv 0) pa_nil)) (pg_name (i := 2) nd rfl (.inr rfl)) (pss_one (ps_expr (pe_bm PySem.F.plainAttrs_list PySem.F.slot_list_extend PySem.F.type_list_extend mt_extend (pv 1) (pa_cons (pe_lc (own := [("_law_other", 3)]) (g := gName 3) (tt := tYes) (te := tTup (tCons (tVar 2) (tCons (tVar 3) tNil))) rfl nd (pi_range2 (by rfl) mr (pa_cons (pe_op op_add (pv 2) pe_int) (pa_cons (pv 0) pa_nil))) (blkOk_by (own := [("_law_other", 3)]) (N := NPa) (sc := defScope sPairs) (by decide +kernel)) (fun _ _ _ _ _ => pg_name (i := 3) nd rfl (.inl rfl)) (fun _ _ _ _ _ => pts_nil) (fun _ _ _ _ _ => (pe_tup (pa_cons (pv 2) (pa_cons (pv 3) pa_nil))))) pa_nil)))))
      (pss_one (ps_ret (pv 1)))), ?_⟩
    refine ⟨by decide, fun l nl => ?_⟩
    refine ⟨.int (n : Int), rfl, (n : Int), rfl, by omega, by omega, ?_⟩
    refine for_range (lo := 0) (n := n) (fun i σ G => GrowV (pairsTo n i) H l G ∧ ∃ y2 y3, σ = [some (.int (n : Int)), some (.ref l), y2, y3]) ⟨⟨[], same_upd nl, upd_same, fun c hc => (by cases hc), rfl⟩, _, _, rfl⟩ ?_ ?_
    · rintro i σ G hi ⟨gr, y2, y3, rfl⟩
      rw [Int.zero_add]
      obtain ⟨zs, hl, _⟩ := gr.len
      refine ⟨.ref l, rfl, .inl ⟨rfl, _, .inl (.inl hl)⟩, .int (i : Int), rfl, _, 1, rfl, rfl, .int (n : Int), rfl, (i : Int) + 1, (n : Int), rfl, ⟨by omega, by omega, by omega, by omega⟩, fun D nD => ?_⟩
      have en : ((n : Int) - ((i : Int) + 1)).toNat = n - (i + 1) := by omega
      rw [en]
      refine lc_range (lo := (i : Int) + 1) (n := n - (i + 1)) (fun d G' => GrowV ((List.range d).map fun d => pairV (i, i + 1 + d)) G D G') ⟨[], same_upd nD, upd_same, fun c hc => (by cases hc), rfl⟩ ?_ ?_
      · rintro d G' hd J
        have ed : (i : Int) + 1 + (d : Int) = ((i + 1 + d : Nat) : Int) := by omega
        rw [ed]
        refine ⟨rfl, .int (i : Int), rfl, .int ((i + 1 + d : Nat) : Int), rfl, by show 2 ≤ sizeLine; decide, fun T nT => ?_⟩
        have z := J.step (y := pairV (i, i + 1 + d)) (by rw [List.length_map, List.length_range]; omega) nD (same_upd nT) nT upd_same
        rw [List.range_succ, List.map_append]
        exact z
      · rintro G' J
        obtain ⟨as, bs, h1, h2, e1, e2, h3⟩ := gr.ext J nl
        refine ⟨l, D, as, bs, rfl, rfl, h1, h2, ?_, ?_, _, _, rfl⟩
        · rw [e1, e2, List.length_map, List.length_range]
          have z1 := pairsTo_len n i
          have z2 : i * n ≤ 40 * 40 := Nat.mul_le_mul (by omega) hn
          exact Nat.le_trans (show _ ≤ 100000 by omega) (by decide)
        · rw [pairsTo_succ]
          exact h3
    · rintro σ G ⟨gr, y2, y3, rfl⟩
      rw [pairsTo_all] at gr
      exact ⟨.ref l, rfl, q G l gr nl⟩
end
end C2

namespace C2
set_option Elab.async false
set_option linter.all false
set_option maxRecDepth 100000
set_option maxHeartbeats 1000000
open PySem PySem.Spec PyProof.Rows L2
theorem GrowV.same {xs : List (List V)} {H G G' : Hp} {D : Addr} (I : GrowV xs H D G) (s : Same G G') : GrowV xs H D G' := by
  obtain ⟨cs, sm, hD, hc, e⟩ := I
  exact ⟨cs, sm.trans s, s _ _ hD, hc.same s, e⟩
theorem GrowV.sub {xs : List (List V)} {H G : Hp} {D : Addr} (I : GrowV xs H D G) : Same H G := by
  obtain ⟨cs, sm, _⟩ := I
  exact sm
theorem flat_le {α β : Type} {f : α → List β} {c : Nat} : ∀ {L : List α}, (∀ x ∈ L, (f x).length ≤ c) → (L.flatMap f).length ≤ L.length * c
  | [], _ => by simp
  | x :: r, h => by
    rw [List.flatMap_cons, List.length_append, List.length_cons, Nat.succ_mul]
    have h1 := h x List.mem_cons_self
    have h2 := flat_le (f := f) (c := c) (L := r) fun y hy => h y (List.mem_cons_of_mem _ hy)
    omega
theorem pairsN_len {n : Nat} (h : n ≤ 6) : (pairsN n).length ≤ 36 := by
  have e := congrArg List.length (pairsTo_all n)
  rw [List.length_map] at e
  have z := pairsTo_len n n
  have : n * n ≤ 6 * 6 := Nat.mul_le_mul h h
  omega
theorem row_len {xs ys : List Int} {b : Nat} (hb : b ≤ 6) (p : Nat × Nat) : (millsRow xs ys b p).length ≤ 72 := by
  have z := flat_le (L := pairsN b) (f := fun q => (turnsOf xs ys p q).map (five p q)) (c := 2) fun q _ => by
    rw [List.length_map]
    exact List.length_filter_le _ _
  have := pairsN_len hb
  exact Nat.le_trans z (by omega)
theorem cell_at {L : List (List V)} {cs : List (Addr × List V)} {m : Nat} {x : V} (e : cs.map (·.2) = L) (hx : (vrefs cs)[m]? = some x) : ∃ (c : Addr) (y : List V), x = .ref c ∧ L[m]? = some y ∧ (c, y) ∈ cs := by
  have hm : m < cs.length := by
    have := (List.getElem?_eq_some_iff.mp hx).1
    rw [List.length_map] at this
    exact this
  rw [List.getElem?_map, List.getElem?_eq_getElem hm] at hx
  refine ⟨cs[m].1, cs[m].2, (Option.some.inj hx).symm, ?_, List.getElem_mem hm⟩
  rw [← e, List.getElem?_map, List.getElem?_eq_getElem hm]
  rfl
section
variable {P : Program} {w : World} {K : PySem.W.Frag} {mg : Str → Option Value} {base : Heap}
abbrev NMs : List Str := ["_law_chosen", "_law_found", "_law_i", "_law_k", "_law_j", "_law_l", "_law_turn"]
theorem scMills : FnScope NMs ["_law_chosen"] (defScope sMills) := ⟨rfl, rfl, rfl, by decide +kernel, rfl, by decide +kernel, by decide +kernel⟩
def ttMs : TT := tB (tCall spLMill [] E0 (tCons (tVar 0) (tCons (tVar 2) (tCons (tVar 3) (tCons (tVar 4) (tCons (tVar 5) (tCons (tVar 6) tNil)))))))
def teMs : TE := tTup (tCons (tVar 2) (tCons (tVar 3) (tCons (tVar 4) (tCons (tVar 5) (tCons (tVar 6) tNil)))))
def spMills : Sp := fun vs H Q _ => ∃ (t : Addr) (a b : Nat) (xs ys : List Int), vs = [.ref t] ∧ PickAt H t a b xs ys ∧ a ≤ 6 ∧ b ≤ 6 ∧ ∀ H' D, GrowV (vI (millsL xs ys a b)) H D H' → H D = none → Q (.ref D) H'
theorem ok_mills {f fP fM fC : Addr} {fd fdP fdM fdC : FuncData} {k : Nat} (F : Fun K "_law_mills" "_law_mills" sMills f fd) (FP : Fun K "_law_pairs" "_law_pairs" sPairs fP fdP) (FM : Fun K "_law_is_mill" "_law_is_mill" sLMill fM fdM) (FC : Fun K "_law_comes" "_law_comes" sLComes fC fdC)
    (bP : Binds K fdP ["_law_many"] []) (bM : Binds K fdM ["_law_chosen", "_law_i", "_law_k", "_law_j", "_law_l", "_law_turn"] []) (bC : Binds K fdC ["_law_chosen", "_law_i", "_law_j"] []) (gP : mg "_law_pairs" = some (.ref fP)) (gM : mg "_law_is_mill" = some (.ref fM)) (gC : mg "_law_comes" = some (.ref fC))
    (mint : mg "int" = none) (mall : mg "all" = none) (mr : mg "range" = none) (ml : mg "len" = none) : FnOk P w K mg base CX0 (k + 3) f fd ["_law_chosen"] spMills := by
  have GP : FnOk P w K mg base CX0 1 fP fdP ["_law_many"] spPairs := ok_pairs FP mr
  have GM : FnOk P w K mg base CX0 (k + 2) fM fdM ["_law_chosen", "_law_i", "_law_k", "_law_j", "_law_l", "_law_turn"] spLMill := ok_lmill FM FC bC gC mint mall
  refine F.ok scMills (fun vs H Q E h => ?_) (fun cdv A outer s H vs Q E hr h => ?_)
  · obtain ⟨t, a, b, xs, ys, rfl, _⟩ := h
    rfl
  · obtain ⟨t, a, b, xs, ys, rfl, pk, ha, hb, q⟩ := h
    obtain ⟨tx, ty, h1, h2, h3, l1, l2, u1, u2⟩ := id pk
    have nd := scMills.nd
    have t1 : ∀ G, Same H G → SqT K G t [.ref tx, .ref ty] := fun G sm => .inl (.inl (sm _ _ h1))
    refine ⟨_, pss_cons (ps_set (i := 1) nd rfl (.inl rfl) (pe_lst pa_nil))
      (pss_cons (ps_for PassesOwn.never rfl (pi_list (pe_call GP (hr.mono (by omega)) (by rfl) gP FP.kp bP .nil pass0 (pa_cons (pe_callB call_len_seq (by rfl) ml PySem.boot_len (pa_cons (pe_ix ix_tup (pv 0) pe_int (fun _ _ => rfl)) pa_nil)) pa_nil))) (pg_tup rfl (pgs_cons (pg_name (i := 2) nd rfl (.inr rfl)) (pgs_cons (pg_name (i := 3) nd rfl (.inr rfl)) pgs_nil))) (pss_one (ps_for PassesOwn.never rfl (pi_list (pe_call GP (hr.mono (by omega)) (by rfl) gP FP.kp bP .nil pass0 (pa_cons (pe_callB call_len_seq (by rfl) ml PySem.boot_len (pa_cons (pe_ix ix_tup (pv 0) pe_int (fun _ _ => rfl)) pa_nil)) pa_nil))) (pg_tup rfl (pgs_cons (pg_name (i := 4) nd rfl (.inr rfl)) (pgs_cons (pg_name (i := 5) nd rfl (.inr rfl)) pgs_nil))) (pss_one (ps_expr (pe_bm PySem.F.plainAttrs_list PySem.F.slot_list_extend PySem.F.type_list_extend mt_extend (pv 1) (pa_cons (pe_lc (own := [("_law_turn", 6)]) (g := gName 6) (tt := ttMs) (te := teMs) rfl nd (pi_tup (pe_tup (pa_cons (pe_un un_neg pe_int) (pa_cons pe_int pa_nil)))) (blkOk_by (own := [("_law_turn", 6)]) (N := NMs) (sc := defScope sMills) (by decide +kernel)) (fun _ _ _ _ _ => pg_name (i := 6) nd rfl (.inl rfl)) (fun _ _ _ _ _ => pts_one (pt_val (pe_call GM hr (by rfl) gM FM.kp bM .nil pass0 (pa_cons (pv 0) (pa_cons (pv 2) (pa_cons (pv 3) (pa_cons (pv 4) (pa_cons (pv 5) (pa_cons (pv 6) pa_nil))))))))) (fun _ _ _ _ _ => (pe_tup (pa_cons (pv 2) (pa_cons (pv 3) (pa_cons (pv 4) (pa_cons (pv 5) (pa_cons (pv 6) pa_nil)))))))) pa_nil)))))))
      (pss_one (ps_ret (pv 1)))), ?_⟩
    refine ⟨by decide, fun fo nf => ?_⟩
    have sf := same_upd (o := .lst []) nf
    refine ⟨.ref t, rfl, t, _, 1, .ref ty, rfl, rfl, t1 _ sf, rfl, ty, _, rfl, .inr (.inl (.inl (sf _ _ h3))), a, ?_, by omega, fun G1 D1 I1 nD1 => ⟨D1, rfl, ?_⟩⟩
    · rw [List.length_map, l2]
      rfl
    obtain ⟨cs1, sm1, hD1, hc1, e1⟩ := I1
    refine ⟨⟨_, .inl (.inl hD1)⟩, ?_⟩
    have nfD1 : D1 ≠ fo := fun z => by rw [z, upd_same] at nD1; cases nD1
    have lenA := pairsN_len ha
    have lcs1 : cs1.length = (pairsN a).length := by
      have := congrArg List.length e1
      rw [List.length_map, List.length_map] at this
      exact this
    refine for_list (xs := vrefs cs1) (fun m σ G => Fr fo G1 G ∧ GrowV (vI (((pairsN a).take m).flatMap (millsRow xs ys b))) H fo G ∧ ∃ y2 y3 y4 y5 y6, σ = [some (.ref t), some (.ref fo), y2, y3, y4, y5, y6]) ⟨Fr.refl _ _, ⟨[], sf.trans sm1, sm1 _ _ upd_same, fun c hc => (by cases hc), rfl⟩, _, _, _, _, _, rfl⟩ (fun m σ G _ h => .inl (.inl (h.1 _ _ nfD1 hD1))) ?_ ?_
    · rintro m x σ G hx ⟨fr, gr, y2, y3, y4, y5, y6, rfl⟩
      obtain ⟨c, y, rfl, hy, hmem⟩ := cell_at e1 hx
      rw [List.getElem?_map] at hy
      obtain ⟨p, hp, rfl⟩ := Option.map_eq_some_iff.mp hy
      have pm := pairsN_mem (List.mem_of_getElem? hp)
      have hcell := hc1 _ hmem
      have ncf : c ≠ fo := fun z => by
        have w := sm1 _ _ (upd_same (H := H) (a := fo) (o := .lst []))
        have hcell' : G1 c = some (.tup (pairV p)) := hcell
        rw [z, w] at hcell'
        cases hcell'
      have hcG : G c = some (.tup (pairV p)) := fr _ _ ncf hcell
      refine ⟨c, _, rfl, .inl (.inl hcG), rfl, _, _, rfl, _, _, rfl, rfl, ?_⟩
      refine ⟨.ref t, rfl, t, _, 0, .ref tx, rfl, rfl, t1 _ gr.sub, rfl, tx, _, rfl, .inr (.inl (.inl (gr.sub _ _ h2))), b, ?_, by omega, fun G2 D2 I2 nD2 => ⟨D2, rfl, ?_⟩⟩
      · rw [List.length_map, l1]
        rfl
      obtain ⟨cs2, sm2, hD2, hc2, e2⟩ := I2
      refine ⟨⟨_, .inl (.inl hD2)⟩, ?_⟩
      obtain ⟨zs, hfo, _⟩ := gr.len
      have nfD2 : D2 ≠ fo := fun z => by rw [z, hfo] at nD2; cases nD2
      have lcs2 : cs2.length = (pairsN b).length := by
        have := congrArg List.length e2
        rw [List.length_map, List.length_map] at this
        exact this
      have lenB := pairsN_len hb
      have tk : ((pairsN a).take (m + 1)).flatMap (millsRow xs ys b) = ((pairsN a).take m).flatMap (millsRow xs ys b) ++ millsRow xs ys b p := by
        rw [List.take_add_one, hp, List.flatMap_append]
        simp
      refine for_list (xs := vrefs cs2) (fun m' σ G' => Fr fo G2 G' ∧ GrowV (vI (((pairsN a).take m).flatMap (millsRow xs ys b) ++ ((pairsN b).take m').flatMap fun q => (turnsOf xs ys p q).map (five p q))) H fo G' ∧ ∃ y4 y5 y6, σ = [some (.ref t), some (.ref fo), some (.int (p.1 : Int)), some (.int (p.2 : Int)), y4, y5, y6])
        ⟨Fr.refl _ _, by rw [List.take_zero, List.flatMap_nil, List.append_nil]; exact gr.same sm2, _, _, _, rfl⟩ (fun m' σ G' _ h => .inl (.inl (h.1 _ _ nfD2 hD2))) ?_ ?_
      · rintro m' x σ G' hx ⟨fr', gr', y4, y5, y6, rfl⟩
        obtain ⟨c', y, rfl, hy, hmem'⟩ := cell_at e2 hx
        rw [List.getElem?_map] at hy
        obtain ⟨r, hr', rfl⟩ := Option.map_eq_some_iff.mp hy
        have rm := pairsN_mem (List.mem_of_getElem? hr')
        have hcell' := hc2 _ hmem'
        have ncf' : c' ≠ fo := fun z => by
          have w := sm2 _ _ hfo
          have h' : G2 c' = some (.tup (pairV r)) := hcell'
          rw [z, w] at h'
          cases h'
        have hcG' : G' c' = some (.tup (pairV r)) := fr' _ _ ncf' hcell'
        refine ⟨c', _, rfl, .inl (.inl hcG'), rfl, _, _, rfl, _, _, rfl, rfl, ?_⟩
        obtain ⟨zs', hfo', lz'⟩ := gr'.len
        refine ⟨.ref fo, rfl, .inl ⟨rfl, _, .inl (.inl hfo')⟩, 1, rfl, by show 2 ≤ sizeLine; decide, fun T nT => ⟨T, rfl, ⟨_, .inl (.inl upd_same)⟩, fun D3 nD3 => ?_⟩⟩
        have sT := same_upd (o := .tup [.int (-1), .int 1]) nT
        have pkT := pk.same (gr'.sub.trans sT)
        have nfD3 : D3 ≠ fo := fun z => by rw [z, sT _ _ hfo'] at nD3; cases nD3
        refine lc_tup (xs := [.int (-1), .int 1]) (fun i G3 => GrowV (vI ((([(-1 : Int), 1].take i).filter fun t => isMillB xs ys p.1 p.2 r.1 r.2 t).map (five p r))) (upd G' T (.tup [.int (-1), .int 1])) D3 G3) ⟨[], same_upd nD3, upd_same, fun c hc => (by cases hc), rfl⟩ (fun i G3 _ h => .inl (.inl (h.sub _ _ upd_same))) ?_ ?_
        · rintro i v G3 hv J
          have i2 : i < 2 := (List.getElem?_eq_some_iff.mp hv).1
          obtain ⟨v', ev, hv', er⟩ : ∃ v' : Int, v = .int v' ∧ (v' = 1 ∨ v' = -1) ∧ ([(-1 : Int), 1].take (i + 1)) = [(-1 : Int), 1].take i ++ [v'] := by
            rcases (show i = 0 ∨ i = 1 by omega) with rfl | rfl
            · exact ⟨-1, (Option.some.inj hv).symm, .inr rfl, rfl⟩
            · exact ⟨1, (Option.some.inj hv).symm, .inl rfl, rfl⟩
          subst ev
          rw [er, List.filter_append, List.map_append]
          refine ⟨rfl, .ref t, rfl, .int (p.1 : Int), rfl, .int (p.2 : Int), rfl, .int (r.1 : Int), rfl, .int (r.2 : Int), rfl, .int v', rfl, t, a, b, p.1, p.2, r.1, r.2, v', xs, ys, rfl, pkT.same J.sub, by omega, by omega, by omega, by omega, hv', fun B G4 eB s4 => ⟨B, rfl, ite2 (fun y => ?_) (fun y => ?_)⟩⟩
          · refine ⟨.int (p.1 : Int), rfl, .int (p.2 : Int), rfl, .int (r.1 : Int), rfl, .int (r.2 : Int), rfl, .int v', rfl, by show 5 ≤ sizeLine; decide, fun T5 n5 => ?_⟩
            have ef : [v'].filter (fun t => isMillB xs ys p.1 p.2 r.1 r.2 t) = [v'] := by
              rw [List.filter_cons_of_pos (by rw [← eB]; exact y)]
              rfl
            rw [ef]
            have z := (J.same s4).step (y := (five p r v').map V.int) (by
              unfold vI
              rw [List.length_map, List.length_map]
              exact Nat.lt_of_le_of_lt (List.length_filter_le _ _) (by rw [List.length_take]; exact Nat.lt_of_le_of_lt (Nat.min_le_right _ _) (by decide))) nD3 (same_upd (o := .tup ((five p r v').map V.int)) n5) n5 upd_same
            unfold vI at z ⊢
            rw [List.map_append]
            exact z
          · have ef : [v'].filter (fun t => isMillB xs ys p.1 p.2 r.1 r.2 t) = [] := by
              rw [List.filter_cons_of_neg (by rw [← eB]; exact y)]
              rfl
            rw [ef, List.map_nil, List.append_nil]
            exact J.same s4
        · rintro G3 J
          have J' : GrowV (vI ((turnsOf xs ys p r).map (five p r))) (upd G' T (.tup [.int (-1), .int 1])) D3 G3 := J
          obtain ⟨as, bs, k1, k2, ea, eb, k3⟩ := (gr'.same sT).ext J' nf
          refine ⟨fo, D3, as, bs, rfl, rfl, k1, k2, ?_, ?_, ?_, _, _, _, rfl⟩
          · rw [ea, eb]
            unfold vI
            rw [List.length_map, List.length_map, List.length_append, List.length_map]
            have z1 := flat_le (L := (pairsN a).take m) (f := millsRow xs ys b) (c := 72) fun p _ => row_len hb p
            have z2 := flat_le (L := (pairsN b).take m') (f := fun q => (turnsOf xs ys p q).map (five p q)) (c := 2) fun q _ => by
              rw [List.length_map]
              exact List.length_filter_le _ _
            have z3 : (turnsOf xs ys p r).length ≤ 2 := List.length_filter_le _ _
            rw [List.length_take] at z1 z2
            have w1 : min m (pairsN a).length * 72 ≤ 36 * 72 := Nat.mul_le_mul (by omega) (by omega)
            have w2 : min m' (pairsN b).length * 2 ≤ 36 * 2 := Nat.mul_le_mul (by omega) (by omega)
            exact Nat.le_trans (show _ ≤ 3000 by omega) (by decide)
          · intro e o ne he
            rw [upd_ne ne]
            exact J'.sub _ _ (sT _ _ (fr' _ _ ne he))
          · have tk' : ((pairsN b).take (m' + 1)).flatMap (fun q => (turnsOf xs ys p q).map (five p q)) = ((pairsN b).take m').flatMap (fun q => (turnsOf xs ys p q).map (five p q)) ++ (turnsOf xs ys p r).map (five p r) := by
              rw [List.take_add_one, hr', List.flatMap_append]
              simp
            rw [tk', ← List.append_assoc]
            unfold vI at k3 ⊢
            rw [List.map_append]
            exact k3
      · rintro σ G' ⟨fr', gr', y4, y5, y6, rfl⟩
        rw [List.length_map, lcs2, List.take_length] at gr'
        refine ⟨?_, ?_, _, _, _, _, _, rfl⟩
        · intro e o ne he
          exact fr' _ _ ne (sm2 _ _ (fr _ _ ne he))
        · rw [tk]
          exact gr'
    · rintro σ G ⟨fr, gr, y2, y3, y4, y5, y6, rfl⟩
      rw [List.length_map, lcs1, List.take_length] at gr
      exact ⟨.ref fo, rfl, q G fo gr nf⟩
end
end C2

namespace C2
set_option Elab.async false
set_option linter.all false
set_option maxRecDepth 100000
set_option maxHeartbeats 1000000
open PySem PySem.Spec PyProof.Rows L2
section
variable {P : Program} {w : World} {K : PySem.W.Frag} {mg : Str → Option Value} {base : Heap}
abbrev NTw : List Str := ["_law_pot_here", "_law_many", "_law_one"]
theorem scTwo : FnScope NTw ["_law_pot_here", "_law_many"] (defScope sTwo) := ⟨rfl, rfl, rfl, by decide +kernel, rfl, by decide +kernel, by decide +kernel⟩
/-- two: two numbers below m, the first the less -/
def spTwo : Sp := fun vs H Q _ => ∃ (p : Addr) (m n : Nat), vs = [.ref p, .int (m : Int)] ∧ 2 ≤ m ∧ m ≤ 40 ∧ PotAt H p n ∧ n < 900000 ∧
  ∀ (i k : Nat) t H', i < k → k < m → Fr p H H' → PotAt H' p (n + 2) → H' t = some (.tup [.int (i : Int), .int (k : Int)]) → Q (.ref t) H'
theorem ok_two {f fT : Addr} {fd fdT : FuncData} {k : Nat} (F : Fun K "_law_two" "_law_two" sTwo f fd) (FT : Fun K "_law_take" "_law_take" sTake fT fdT) (bT : Binds K fdT ["_law_pot_here", "_law_many"] []) (gT : mg "_law_take" = some (.ref fT)) :
    FnOk P w K mg base CX0 (k + 2) f fd ["_law_pot_here", "_law_many"] spTwo := by
  have GT : FnOk P w K mg base CX0 (k + 1) fT fdT ["_law_pot_here", "_law_many"] spTake := ok_take FT
  refine F.ok scTwo (fun vs H Q E h => ?_) (fun cdv A outer s H vs Q E hr h => ?_)
  · obtain ⟨p, m, n, rfl, _⟩ := h
    rfl
  · obtain ⟨p, m, n, rfl, m0, m1, hP, hn, q⟩ := h
    have nd := scTwo.nd
    refine ⟨_, pss_cons (ps_set (i := 2) nd rfl (.inl rfl) (pe_call GT hr (by rfl) gT FT.kp bT .nil pass0 (pa_cons (pv 0) (pa_cons (pe_op op_sub (pv 1) pe_int) pa_nil))))
      (pss_one (ps_ret (pe_tup (pa_cons (pv 2) (pa_cons (pe_op op_add (pe_op op_add (pv 2) pe_int) (pe_call GT hr (by rfl) gT FT.kp bT .nil pass0 (pa_cons (pv 0) (pa_cons (pe_op op_sub (pe_op op_sub (pv 1) pe_int) (pv 2)) pa_nil)))) pa_nil))))), ?_⟩
    refine ⟨.ref p, rfl, .int (m : Int), rfl, _, _, rfl, rfl, p, (m : Int) - 1, n, rfl, hP, by omega, by omega, by omega, fun x H1 f1 P1 x0 x1 => ?_⟩
    refine ⟨.int x, rfl, .int x, rfl, _, _, rfl, rfl, .ref p, rfl, .int (m : Int), rfl, _, _, rfl, rfl, .int x, rfl, _, _, rfl, rfl, p, (m : Int) - 1 - x, n + 1, rfl, P1, by omega, by omega, by omega, fun y H2 f2 P2 y0 y1 => ?_⟩
    refine ⟨_, _, rfl, rfl, by show 2 ≤ sizeLine; decide, fun t nt => ?_⟩
    have z := q x.toNat (x + 1 + y).toNat t _ (by omega) (by omega) (f1.trans (f2.trans (Fr.new (o := .tup [.int x, .int (x + 1 + y)]) nt))) (P2.new nt)
    rw [Int.toNat_of_nonneg x0, Int.toNat_of_nonneg (show 0 ≤ x + 1 + y by omega)] at z
    exact z upd_same
end
end C2

namespace C2
set_option Elab.async false
set_option linter.all false
set_option maxRecDepth 100000
set_option maxHeartbeats 1000000
open PySem PySem.Spec PyProof.Rows L2
theorem forth_two (x y : Value) : slicePick [x, y].toArray none none (some 1) = #[x, y] := by
  have e : slicePick [x, y].toArray none none (some 1) = slicePick [x, y].toArray none none none := rfl
  rw [e, L2.slicePick_cut]
  rfl
theorem back_two (x y : Value) : slicePick [x, y].toArray none none (some (-1)) = #[y, x] := by
  rw [PySem.W.krv_pick]
  rfl
section
variable {X : Cx}
/-- l[::c], l a list of two, c one or less one -/
def tStep2 (K : PySem.W.Frag) (te tc : TE) : TE := fun σ H Q => te σ H fun x H1 => ∃ a u v, x = .ref a ∧ SqL K H1 a [u, v] ∧
  tPart tc σ H1 fun o H2 => ∃ c : Int, o = some c ∧ H2 = H1 ∧ (c = 1 ∨ c = -1) ∧ ∀ p, H1 p = none → Q (.ref p) (upd H1 p (.lst (if c = 1 then [u, v] else [v, u])))
theorem pe_step2 {e st : Expr} {te tc : TE} {p3 pos : Pos} (he : PE X e te) (hc : PE X st tc) : PE X (.Subscript e (.Slice none none (some st) p3) pos) (tStep2 X.K te tc) := by
  refine ⟨fun pins s0 σ H Q I0 h => Subscript_ (thn (he.run pins s0 σ H _ I0 h) fun v1 s1 ⟨x, H1, I1, r1, a, u, v, ex, sq, hz⟩ => ?_)⟩
  subst ex
  cases r1
  refine wpAny_Slice (thn (po_none.run pins s1 σ H1 (fun o G => o = none ∧ G = H1) I1 ⟨rfl, rfl⟩) ?_)
  rintro low s2 ⟨_, G2, I2, plow, rfl, e2⟩
  subst e2
  refine thn (po_none.run pins s2 σ G2 (fun o G => o = none ∧ G = G2) I2 ⟨rfl, rfl⟩) ?_
  rintro top s3 ⟨_, G3, I3, ptop, rfl, e3⟩
  subst e3
  refine thn ((po_some hc).run pins s3 σ G3 _ I3 hz) ?_
  rintro step s4 ⟨o, G4, I4, pstep, c, rfl, e4, hc1, q⟩
  subst e4
  have I5 := I4.kept (h' := s4.heap.push { cls := .type "slice", data := .fields #[low, top, step] }) (t' := s4.toks) fun b ob g => Heap.get?_push_of_some _ g
  obtain ⟨its, rv, isl, small⟩ := I5.list sq
  obtain ⟨m1, m2, rfl, ra, rb⟩ : ∃ m1 m2, its = [m1, m2] ∧ RelV u m1 ∧ RelV v m2 := by
    cases rv with
    | cons y z => cases z with
      | cons y' z' => cases z'; exact ⟨_, _, rfl, y, y'⟩
  refine tail_any (ops := [.ref a, .ref s4.heap.objs.size]) isl.isList.typeIs PySem.slot_list_getitem.lookup ?_ (by with_unfolding_all rfl)
  refine wpAny_getItem_list_slice isl.isList (Heap.IsSliceOf.new _ low top step) plow ptop pstep (by rcases hc1 with rfl | rfl <;> decide) ?_ (by show 2 ≤ sizeLine; decide)
  rcases hc1 with rfl | rfl
  · rw [forth_two]
    exact ⟨.ref _, _, I5.laid (t' := s4.toks) (o := .lst [u, v]) (fun b ob g => Heap.get?_push_of_some _ g) (Nat.le_refl _) ⟨by show 2 ≤ sizeLine; decide, [m1, m2], 0, .cons ra (.cons rb .nil), Heap.get?_push_size _ rfl⟩, rfl, q _ (I5.hok.fresh (Nat.le_refl _))⟩
  · rw [back_two]
    exact ⟨.ref _, _, I5.laid (t' := s4.toks) (o := .lst [v, u]) (fun b ob g => Heap.get?_push_of_some _ g) (Nat.le_refl _) ⟨by show 2 ≤ sizeLine; decide, [m2, m1], 0, .cons rb (.cons ra .nil), Heap.get?_push_size _ rfl⟩, rfl, q _ (I5.hok.fresh (Nat.le_refl _))⟩
end
end C2

namespace C2
set_option Elab.async false
set_option linter.all false
set_option maxRecDepth 100000
set_option maxHeartbeats 1000000
open PySem PySem.Spec PyProof.Rows L2
theorem upto_set {m i : Nat} {vs : List Int} {v : Int} (h : Upto m vs) (v0 : 0 ≤ v) (v1 : v ≤ (m : Int)) : Upto m (vs.set i v) := fun z hz => by
  rcases List.mem_or_eq_of_mem_set hz with y | y
  · exact h z y
  · rw [y]; exact ⟨v0, v1⟩
theorem set_first {vs : List Int} {i j : Nat} {u v : Int} (hi : i < vs.length) (ne : j ≠ i) : ((vs.set i u).set j v).getD i 0 = u := by
  rw [List.getD_eq_getElem?_getD, List.getElem?_set_ne ne, List.getElem?_set_self hi]
  rfl
theorem set_last {vs : List Int} {i j : Nat} {u v : Int} (hj : j < vs.length) : ((vs.set i u).set j v).getD j 0 = v := by
  rw [List.getD_eq_getElem?_getD, List.getElem?_set_self (by rw [List.length_set]; exact hj)]
  rfl
end C2

namespace C2
set_option Elab.async false
set_option linter.all false
set_option maxRecDepth 100000
set_option maxHeartbeats 4000000
open PySem PySem.Spec PyProof.Rows L2
theorem PickAt.fr {G G' : Hp} {t p : Addr} {a b n : Nat} {xs ys : List Int} (h : PickAt G t a b xs ys) (hp : PotAt G p n) (f : Fr p G G') : PickAt G' t a b xs ys := by
  obtain ⟨tx, ty, h1, h2, h3, r⟩ := h
  obtain ⟨g, c, u, e, _⟩ := hp
  have ne : ∀ {x : Addr} {l : List V}, G x = some (.tup l) → x ≠ p := fun z y => by rw [y, e] at z; cases z
  exact ⟨tx, ty, f _ _ (ne h1) h1, f _ _ (ne h2) h2, f _ _ (ne h3) h3, r⟩
section
variable {P : Program} {w : World} {K : PySem.W.Frag} {mg : Str → Option Value} {base : Heap}
abbrev NRo : List Str := ["_law_pot_here", "_law_a", "_law_b", "_law_chosen", "_law_i", "_law_k", "_law_j", "_law_l", "_law_turn", "_law_xs", "_law_ys", "_law_low", "_law_high", "_law_lower", "_law_upper"]
theorem scRound : FnScope NRo ["_law_pot_here", "_law_a", "_law_b", "_law_chosen"] (defScope sRound) := ⟨rfl, rfl, rfl, by decide +kernel, rfl, by decide +kernel, by decide +kernel⟩
/-- round: a pick with a mill that is told beside it -/
def spRound : Sp := fun vs H Q _ => ∃ (p t : Addr) (a b n : Nat) (xs ys : List Int), vs = [.ref p, .int (a : Int), .int (b : Int), .ref t] ∧ 2 ≤ a ∧ a ≤ 40 ∧ 2 ≤ b ∧ b ≤ 40 ∧ PotAt H p n ∧ n < 800000 ∧ PickAt H t a b xs ys ∧
  ∀ (T t2 th : Addr) (xs' ys' : List Int) (i k j l : Nat) (turn : Int) H', Fr p H H' → PotAt H' p (n + 9) → H' T = some (.tup [.ref t2, .ref th]) → PickAt H' t2 a b xs' ys' →
    H' th = some (.tup [.int (i : Int), .int (k : Int), .int (j : Int), .int (l : Int), .int turn]) → i < k → k < a → j < l → l < b → (turn = 1 ∨ turn = -1) → isMillB xs' ys' i k j l turn = true → Q (.ref T) H'
theorem ok_round {f fT f2 : Addr} {fd fdT fd2 : FuncData} {k : Nat} (F : Fun K "_law_round" "_law_round" sRound f fd) (FT : Fun K "_law_take" "_law_take" sTake fT fdT) (F2 : Fun K "_law_two" "_law_two" sTwo f2 fd2) (bT : Binds K fdT ["_law_pot_here", "_law_many"] []) (b2 : Binds K fd2 ["_law_pot_here", "_law_many"] []) (gT : mg "_law_take" = some (.ref fT)) (g2 : mg "_law_two" = some (.ref f2))
    (mt : mg "tuple" = none) (ml : mg "list" = none) :
    FnOk P w K mg base CX0 (k + 3) f fd ["_law_pot_here", "_law_a", "_law_b", "_law_chosen"] spRound := by
  have GT : FnOk P w K mg base CX0 (k + 2) fT fdT ["_law_pot_here", "_law_many"] spTake := ok_take FT
  have G2 : FnOk P w K mg base CX0 (k + 2) f2 fd2 ["_law_pot_here", "_law_many"] spTwo := ok_two F2 FT bT gT
  refine F.ok scRound (fun vs H Q E h => ?_) (fun cdv A outer s H vs Q E hr h => ?_)
  · obtain ⟨p, t, a, b, n, xs, ys, rfl, _⟩ := h
    rfl
  · obtain ⟨p, t, a, b, n, xs, ys, rfl, a2, a40, bb2, b40, hP, hn, pk, q⟩ := h
    have nd := scRound.nd
    refine ⟨_, pss_cons (ps_asg (pe_tup (pa_cons (pe_call G2 hr (by rfl) g2 F2.kp b2 .nil pass0 (pa_cons (pv 0) (pa_cons (pv 1) pa_nil))) (pa_cons (pe_call G2 hr (by rfl) g2 F2.kp b2 .nil pass0 (pa_cons (pv 0) (pa_cons (pv 2) pa_nil)))
          (pa_cons (pe_ix ix_list (pe_lst (pa_cons pe_int (pa_cons (pe_un un_neg pe_int) pa_nil))) (pe_call GT hr (by rfl) gT FT.kp bT .nil pass0 (pa_cons (pv 0) (pa_cons pe_int pa_nil))) (fun _ _ => rfl)) pa_nil))))
        (pg_tup rfl (pgs_cons (pg_tup rfl (pgs_cons (pg_name (i := 4) nd rfl (.inl rfl)) (pgs_cons (pg_name (i := 5) nd rfl (.inl rfl)) pgs_nil))) (pgs_cons (pg_tup rfl (pgs_cons (pg_name (i := 6) nd rfl (.inl rfl)) (pgs_cons (pg_name (i := 7) nd rfl (.inl rfl)) pgs_nil))) (pgs_cons (pg_name (i := 8) nd rfl (.inl rfl)) pgs_nil)))))
      (pss_cons (ps_par (i := 9) (j := 10) rfl nd rfl rfl (by decide) rfl rfl (pa_cons (pe_callTy call_list_of (by rfl) ml (by decide +kernel) (pa_cons (pe_ix ix_tup (pv 3) pe_int (fun _ _ => rfl)) pa_nil)) (pa_cons (pe_callTy call_list_of (by rfl) ml (by decide +kernel) (pa_cons (pe_ix ix_tup (pv 3) pe_int (fun _ _ => rfl)) pa_nil)) pa_nil)) rfl)
      (pss_cons (ps_asg (pe_step2 (pe_lst (pa_cons (pe_call GT hr (by rfl) gT FT.kp bT .nil pass0 (pa_cons (pv 0) (pa_cons (pe_op op_add (pv 4) pe_int) pa_nil))) (pa_cons (pe_op op_add (pe_op op_add (pv 5) pe_int) (pe_call GT hr (by rfl) gT FT.kp bT .nil pass0 (pa_cons (pv 0) (pa_cons (pe_op op_sub (pv 1) (pv 5)) pa_nil)))) pa_nil))) (pv 8))
        (pg_unl rfl (pgs_cons (pg_name (i := 11) nd rfl (.inl rfl)) (pgs_cons (pg_name (i := 12) nd rfl (.inl rfl)) pgs_nil))))
      (pss_cons (ps_asg (pe_tup (pa_cons (pv 11) (pa_cons (pv 12) pa_nil))) (pg_tup rfl (pgs_cons (pg_sub (pv 9) (pv 6) set_list) (pgs_cons (pg_sub (pv 9) (pv 7) set_list) pgs_nil))))
      (pss_cons (ps_asg (pe_step2 (pe_lst (pa_cons (pe_call GT hr (by rfl) gT FT.kp bT .nil pass0 (pa_cons (pv 0) (pa_cons (pe_op op_add (pv 6) pe_int) pa_nil))) (pa_cons (pe_op op_add (pe_op op_add (pv 7) pe_int) (pe_call GT hr (by rfl) gT FT.kp bT .nil pass0 (pa_cons (pv 0) (pa_cons (pe_op op_sub (pv 2) (pv 7)) pa_nil)))) pa_nil))) (pv 8))
        (pg_unl rfl (pgs_cons (pg_name (i := 13) nd rfl (.inl rfl)) (pgs_cons (pg_name (i := 14) nd rfl (.inl rfl)) pgs_nil))))
      (pss_cons (ps_asg (pe_tup (pa_cons (pv 13) (pa_cons (pv 14) pa_nil))) (pg_tup rfl (pgs_cons (pg_sub (pv 10) (pv 5) set_list) (pgs_cons (pg_sub (pv 10) (pv 4) set_list) pgs_nil))))
      (pss_one (ps_ret (pe_tup (pa_cons (pe_tup (pa_cons (pe_callTy call_tuple_of (by rfl) mt (by decide +kernel) (pa_cons (pv 9) pa_nil)) (pa_cons (pe_callTy call_tuple_of (by rfl) mt (by decide +kernel) (pa_cons (pv 10) pa_nil)) pa_nil))) (pa_cons (pe_tup (pa_cons (pv 4) (pa_cons (pv 5) (pa_cons (pv 6) (pa_cons (pv 7) (pa_cons (pv 8) pa_nil)))))) pa_nil)))))))))), ?_⟩
    refine ⟨.ref p, rfl, .int (a : Int), rfl, p, a, n, rfl, a2, a40, hP, by omega, fun i k t1 H1 ik ka f1 P1 e1 => ?_⟩
    refine ⟨.ref p, rfl, .int (b : Int), rfl, p, b, n + 2, rfl, bb2, b40, P1, by omega, fun j l t2 H2 jl lb f2 P2 e2 => ?_⟩
    refine ⟨1, rfl, by show 2 ≤ sizeLine; decide, fun l0 nl0 => ?_⟩
    have P2' := P2.new (o := .lst [.int 1, .int (-1)]) nl0
    have nep : ∀ {G : Hp} {x : Addr} {m : Nat} {o : List V}, PotAt G p m → G x = some (.tup o) → x ≠ p := fun h e z => by
      obtain ⟨_, _, _, h, _⟩ := h
      rw [z, h] at e; cases e
    refine ⟨.ref p, rfl, p, 2, n + 4, rfl, P2', by omega, by decide, by decide, fun d H3 f3 P3 d0 d1 => ?_⟩
    obtain ⟨turn, ht, hd⟩ : ∃ turn : Int, (turn = 1 ∨ turn = -1) ∧ ([V.int 1, V.int (-1)] : List V)[d.toNat]? = some (V.int turn) := by
      rcases (show d = 0 ∨ d = 1 by omega) with rfl | rfl
      · exact ⟨1, .inl rfl, rfl⟩
      · exact ⟨-1, .inr rfl, rfl⟩
    have hl0 := f3 _ _ (P2.ne nl0) (upd_same (H := H2) (a := l0) (o := .lst [.int 1, .int (-1)]))
    refine ⟨l0, _, d, .int turn, rfl, rfl, .inl (.inl hl0), at_of (show d = ((d.toNat : Nat) : Int) by omega) hd, by show 3 ≤ sizeLine; decide, fun T3 nT3 => ?_⟩
    have n1 : t1 ≠ p := nep P1 e1
    have n2 : t2 ≠ p := nep P2 e2
    have e1' : upd H3 T3 (.tup [.ref t1, .ref t2, .int turn]) t1 = some (.tup [.int (i : Int), .int (k : Int)]) := same_upd nT3 _ _ (f3 _ _ n1 (same_upd nl0 _ _ (f2 _ _ n1 e1)))
    have e2' : upd H3 T3 (.tup [.ref t1, .ref t2, .int turn]) t2 = some (.tup [.int (j : Int), .int (l : Int)]) := same_upd nT3 _ _ (f3 _ _ n2 (same_upd nl0 _ _ e2))
    have F4 : Fr p H (upd H3 T3 (.tup [.ref t1, .ref t2, .int turn])) := f1.trans (f2.trans ((Fr.new nl0).trans (f3.trans (Fr.new nT3))))
    have P4 : PotAt (upd H3 T3 (.tup [.ref t1, .ref t2, .int turn])) p (n + 5) := P3.new nT3
    have pk4 := pk.fr hP F4
    refine ⟨T3, _, rfl, .inl (.inl upd_same), rfl, _, _, rfl, t1, _, rfl, .inl (.inl e1'), rfl, _, _, rfl, _, _, rfl, rfl, _, _, rfl, t2, _, rfl, .inl (.inl e2'), rfl, _, _, rfl, _, _, rfl, rfl, _, _, rfl, rfl, ?_⟩
    generalize upd H3 T3 (.tup [.ref t1, .ref t2, .int turn]) = G0 at F4 P4 pk4
    obtain ⟨tx, ty, h1, h2, h3, l1, l2, u1, u2⟩ := pk4
    refine ⟨.ref t, rfl, t, _, 0, .ref tx, rfl, rfl, .inl (.inl h1), rfl, tx, _, rfl, .inr (.inl (.inl h2)), fun lx nlx => ?_⟩
    have s1 := same_upd (o := .lst (xs.map V.int)) nlx
    refine ⟨.ref t, rfl, t, _, 1, .ref ty, rfl, rfl, .inl (.inl (s1 _ _ h1)), rfl, ty, _, rfl, .inr (.inl (.inl (s1 _ _ h3))), fun ly nly => ⟨_, _, rfl, ?_⟩⟩
    have s2 := same_upd (o := .lst (ys.map V.int)) nly
    have nxp : lx ≠ p := P4.ne nlx
    have P4a := P4.new (o := .lst (xs.map V.int)) nlx
    have nyp : ly ≠ p := P4a.ne nly
    have P5 := P4a.new (o := .lst (ys.map V.int)) nly
    have nxy : lx ≠ ly := fun z => by rw [← z, upd_same] at nly; cases nly
    have hx5 := s2 _ _ (upd_same (H := G0) (a := lx) (o := .lst (xs.map V.int)))
    have hy5 := upd_same (H := upd G0 lx (.lst (xs.map V.int))) (a := ly) (o := .lst (ys.map V.int))
    have Hlx : H lx = none := F4.free nxp nlx
    have Hly : H ly = none := (F4.trans (Fr.new (o := .lst (xs.map V.int)) nlx)).free nyp nly
    have F5 := F4.trans ((Fr.new (p := p) (o := .lst (xs.map V.int)) nlx).trans (Fr.new (p := p) (o := .lst (ys.map V.int)) nly))
    generalize upd (upd G0 lx (.lst (xs.map V.int))) ly (.lst (ys.map V.int)) = G5 at hx5 hy5 P5 F5
    refine ⟨.ref p, rfl, .int (i : Int), rfl, _, _, rfl, rfl, p, (i : Int) + 1, n + 5, rfl, P5, by omega, by omega, by omega, fun d1 H6 f6 P6 a0 a1 => ?_⟩
    refine ⟨.int (k : Int), rfl, _, _, rfl, rfl, .ref p, rfl, .int (a : Int), rfl, .int (k : Int), rfl, _, _, rfl, rfl, p, (a : Int) - k, n + 6, rfl, P6, by omega, by omega, by omega, fun d2 H7 f7 P7 b0 b1 => ?_⟩
    refine ⟨_, _, rfl, rfl, by show 2 ≤ sizeLine; decide, fun m1 nm1 => ?_⟩
    refine ⟨m1, _, _, rfl, .inl (.inl upd_same), .int turn, rfl, turn, rfl, turn, rfl, rfl, ht, fun m2 nm2 => ?_⟩
    obtain ⟨lo, hi, elh, lo0, lo1, hi0, hi1, hf, hb⟩ : ∃ lo hi : Int, (if turn = 1 then [V.int d1, V.int ((k : Int) + 1 + d2)] else [V.int ((k : Int) + 1 + d2), V.int d1]) = [V.int lo, V.int hi] ∧ 0 ≤ lo ∧ lo ≤ (a : Int) ∧ 0 ≤ hi ∧ hi ≤ (a : Int) ∧ (turn = 1 → lo ≤ (i : Int) ∧ (k : Int) < hi) ∧ (turn = -1 → (k : Int) < lo ∧ hi ≤ (i : Int)) := by
      rcases ht with rfl | rfl
      · exact ⟨d1, (k : Int) + 1 + d2, rfl, by omega, by omega, by omega, by omega, fun _ => by omega, fun z => by omega⟩
      · exact ⟨(k : Int) + 1 + d2, d1, rfl, by omega, by omega, by omega, by omega, fun z => by omega, fun _ => by omega⟩
    rw [elh]
    have P8 := (P7.new (o := .lst [.int d1, .int ((k : Int) + 1 + d2)]) nm1).new (o := .lst [.int lo, .int hi]) nm2
    have s7 := (same_upd (o := .lst [.int d1, .int ((k : Int) + 1 + d2)]) nm1).trans (same_upd (o := .lst [.int lo, .int hi]) nm2)
    have hx8 := s7 _ _ (f7 _ _ nxp (f6 _ _ nxp hx5))
    have hy8 := s7 _ _ (f7 _ _ nyp (f6 _ _ nyp hy5))
    have F8 := F5.trans (f6.trans (f7.trans (Fr.same (p := p) s7)))
    refine ⟨m2, _, rfl, .inl (.inl upd_same), rfl, _, _, rfl, _, _, rfl, rfl, ?_⟩
    generalize upd (upd H7 m1 (.lst [.int d1, .int ((k : Int) + 1 + d2)])) m2 (.lst [.int lo, .int hi]) = G8 at P8 hx8 hy8 F8
    refine ⟨.int lo, rfl, .int hi, rfl, by show 2 ≤ sizeLine; decide, fun T4 nT4 => ?_⟩
    have s8 := same_upd (o := .tup [.int lo, .int hi]) nT4
    have hx9 := s8 _ _ hx8
    have hy9 := s8 _ _ hy8
    refine ⟨T4, _, rfl, .inl (.inl upd_same), rfl, _, _, rfl, .ref lx, rfl, .int (j : Int), rfl, lx, _, _, j, rfl, rfl, hx9, Evl.ixN_nat (by rw [List.length_map]; omega), ?_⟩
    refine ⟨_, _, rfl, .ref lx, rfl, .int (l : Int), rfl, lx, _, _, l, rfl, rfl, upd_same, Evl.ixN_nat (by rw [List.length_set, List.length_map]; omega), rfl, ?_⟩
    have P10 := ((P8.new (o := .tup [.int lo, .int hi]) nT4).at (o := .lst ((xs.map V.int).set j (.int lo))) nxp).at (o := .lst (((xs.map V.int).set j (.int lo)).set l (.int hi))) nxp
    have hx10 : upd (upd (upd G8 T4 (.tup [.int lo, .int hi])) lx (.lst ((xs.map V.int).set j (.int lo)))) lx (.lst (((xs.map V.int).set j (.int lo)).set l (.int hi))) lx = some (.lst (((xs.set j lo).set l hi).map V.int)) := by
      rw [upd_same, List.map_set, List.map_set]
    have hy10 : upd (upd (upd G8 T4 (.tup [.int lo, .int hi])) lx (.lst ((xs.map V.int).set j (.int lo)))) lx (.lst (((xs.map V.int).set j (.int lo)).set l (.int hi))) ly = some (.lst (ys.map V.int)) := by
      rw [upd_ne nxy.symm, upd_ne nxy.symm]
      exact hy9
    have F10 : Fr p H (upd (upd (upd G8 T4 (.tup [.int lo, .int hi])) lx (.lst ((xs.map V.int).set j (.int lo)))) lx (.lst (((xs.map V.int).set j (.int lo)).set l (.int hi)))) := fun c o nc hc => by
      have ne := ne_of_none hc Hlx
      rw [upd_ne ne, upd_ne ne]
      exact s8 _ _ (F8 c o nc hc)
    generalize upd (upd (upd G8 T4 (.tup [.int lo, .int hi])) lx (.lst ((xs.map V.int).set j (.int lo)))) lx (.lst (((xs.map V.int).set j (.int lo)).set l (.int hi))) = G10 at P10 hx10 hy10 F10
    refine ⟨.ref p, rfl, .int (j : Int), rfl, _, _, rfl, rfl, p, (j : Int) + 1, n + 7, rfl, P10, by omega, by omega, by omega, fun d3 H11 f11 P11 c0 c1 => ?_⟩
    refine ⟨.int (l : Int), rfl, _, _, rfl, rfl, .ref p, rfl, .int (b : Int), rfl, .int (l : Int), rfl, _, _, rfl, rfl, p, (b : Int) - l, n + 8, rfl, P11, by omega, by omega, by omega, fun d4 H12 f12 P12 g0 g1 => ?_⟩
    refine ⟨_, _, rfl, rfl, by show 2 ≤ sizeLine; decide, fun m3 nm3 => ?_⟩
    refine ⟨m3, _, _, rfl, .inl (.inl upd_same), .int turn, rfl, turn, rfl, turn, rfl, rfl, ht, fun m4 nm4 => ?_⟩
    obtain ⟨lw, up, elu, lw0, lw1, up0, up1, hf2, hb2⟩ : ∃ lw up : Int, (if turn = 1 then [V.int d3, V.int ((l : Int) + 1 + d4)] else [V.int ((l : Int) + 1 + d4), V.int d3]) = [V.int lw, V.int up] ∧ 0 ≤ lw ∧ lw ≤ (b : Int) ∧ 0 ≤ up ∧ up ≤ (b : Int) ∧ (turn = 1 → lw ≤ (j : Int) ∧ (l : Int) < up) ∧ (turn = -1 → (l : Int) < lw ∧ up ≤ (j : Int)) := by
      rcases ht with rfl | rfl
      · exact ⟨d3, (l : Int) + 1 + d4, rfl, by omega, by omega, by omega, by omega, fun _ => by omega, fun z => by omega⟩
      · exact ⟨(l : Int) + 1 + d4, d3, rfl, by omega, by omega, by omega, by omega, fun z => by omega, fun _ => by omega⟩
    rw [elu]
    have P13 := (P12.new (o := .lst [.int d3, .int ((l : Int) + 1 + d4)]) nm3).new (o := .lst [.int lw, .int up]) nm4
    have s12 := (same_upd (o := .lst [.int d3, .int ((l : Int) + 1 + d4)]) nm3).trans (same_upd (o := .lst [.int lw, .int up]) nm4)
    have hx13 := s12 _ _ (f12 _ _ nxp (f11 _ _ nxp hx10))
    have hy13 := s12 _ _ (f12 _ _ nyp (f11 _ _ nyp hy10))
    have F13 := F10.trans (f11.trans (f12.trans (Fr.same (p := p) s12)))
    refine ⟨m4, _, rfl, .inl (.inl upd_same), rfl, _, _, rfl, _, _, rfl, rfl, ?_⟩
    generalize upd (upd H12 m3 (.lst [.int d3, .int ((l : Int) + 1 + d4)])) m4 (.lst [.int lw, .int up]) = G13 at P13 hx13 hy13 F13
    refine ⟨.int lw, rfl, .int up, rfl, by show 2 ≤ sizeLine; decide, fun T5 nT5 => ?_⟩
    have s13 := same_upd (o := .tup [.int lw, .int up]) nT5
    have hx14 := s13 _ _ hx13
    have hy14 := s13 _ _ hy13
    refine ⟨T5, _, rfl, .inl (.inl upd_same), rfl, _, _, rfl, .ref ly, rfl, .int (k : Int), rfl, ly, _, _, k, rfl, rfl, hy14, Evl.ixN_nat (by rw [List.length_map]; omega), ?_⟩
    refine ⟨_, _, rfl, .ref ly, rfl, .int (i : Int), rfl, ly, _, _, i, rfl, rfl, upd_same, Evl.ixN_nat (by rw [List.length_set, List.length_map]; omega), rfl, ?_⟩
    have P15 := ((P13.new (o := .tup [.int lw, .int up]) nT5).at (o := .lst ((ys.map V.int).set k (.int lw))) nyp).at (o := .lst (((ys.map V.int).set k (.int lw)).set i (.int up))) nyp
    have hy15 : upd (upd (upd G13 T5 (.tup [.int lw, .int up])) ly (.lst ((ys.map V.int).set k (.int lw)))) ly (.lst (((ys.map V.int).set k (.int lw)).set i (.int up))) ly = some (.lst (((ys.set k lw).set i up).map V.int)) := by
      rw [upd_same, List.map_set, List.map_set]
    have hx15 : upd (upd (upd G13 T5 (.tup [.int lw, .int up])) ly (.lst ((ys.map V.int).set k (.int lw)))) ly (.lst (((ys.map V.int).set k (.int lw)).set i (.int up))) lx = some (.lst (((xs.set j lo).set l hi).map V.int)) := by
      rw [upd_ne nxy, upd_ne nxy]
      exact hx14
    have F15 : Fr p H (upd (upd (upd G13 T5 (.tup [.int lw, .int up])) ly (.lst ((ys.map V.int).set k (.int lw)))) ly (.lst (((ys.map V.int).set k (.int lw)).set i (.int up)))) := fun c o nc hc => by
      have ne := ne_of_none hc Hly
      rw [upd_ne ne, upd_ne ne]
      exact s13 _ _ (F13 c o nc hc)
    generalize upd (upd (upd G13 T5 (.tup [.int lw, .int up])) ly (.lst ((ys.map V.int).set k (.int lw)))) ly (.lst (((ys.map V.int).set k (.int lw)).set i (.int up))) = G15 at P15 hx15 hy15 F15
    refine ⟨.ref lx, rfl, lx, _, rfl, .inl ⟨.inl (.inl hx15), fun tx9 nx9 => ?_⟩⟩
    have sA := same_upd (o := .tup (((xs.set j lo).set l hi).map V.int)) nx9
    refine ⟨.ref ly, rfl, ly, _, rfl, .inl ⟨.inl (.inl (sA _ _ hy15)), fun ty9 ny9 => ⟨by show 2 ≤ sizeLine; decide, fun t9 nt9 => ?_⟩⟩⟩
    have sB := same_upd (o := .tup (((ys.set k lw).set i up).map V.int)) ny9
    have sC := same_upd (o := .tup [.ref tx9, .ref ty9]) nt9
    refine ⟨.int (i : Int), rfl, .int (k : Int), rfl, .int (j : Int), rfl, .int (l : Int), rfl, .int turn, rfl, by show 5 ≤ sizeLine; decide, fun th nth => ⟨by show 2 ≤ sizeLine; decide, fun T nT => ?_⟩⟩
    have sD := same_upd (o := .tup [.int (i : Int), .int (k : Int), .int (j : Int), .int (l : Int), .int turn]) nth
    have sE := same_upd (o := .tup [.ref t9, .ref th]) nT
    have sm := sA.trans (sB.trans (sC.trans (sD.trans sE)))
    refine q T t9 th ((xs.set j lo).set l hi) ((ys.set k lw).set i up) i k j l turn _ (F15.trans (Fr.same sm)) (P15.same sm) upd_same
      ⟨tx9, ty9, sE _ _ (sD _ _ upd_same), sE _ _ (sD _ _ (sC _ _ (sB _ _ upd_same))), sE _ _ (sD _ _ (sC _ _ upd_same)), by rw [List.length_set, List.length_set]; exact l1, by rw [List.length_set, List.length_set]; exact l2,
        upto_set (upto_set u1 lo0 lo1) hi0 hi1, upto_set (upto_set u2 lw0 lw1) up0 up1⟩ (sE _ _ upd_same) ik ka jl lb ht ?_
    rcases ht with rfl | rfl
    · have z1 := hf rfl
      have z2 := hf2 rfl
      refine (mill_forth ik).mpr ?_
      rw [legO_zero, legO_two (by omega), set_first (by omega) (by omega), set_last (by omega), set_first (by omega) (by omega), set_last (by omega)]
      omega
    · have z1 := hb rfl
      have z2 := hb2 rfl
      refine (mill_back ik).mpr ?_
      rw [legO_zero, legO_two (by omega), set_first (by omega) (by omega), set_last (by omega), set_first (by omega) (by omega), set_last (by omega)]
      omega
end
end C2

namespace C2
set_option Elab.async false
set_option linter.all false
set_option maxRecDepth 100000
set_option maxHeartbeats 1000000
open PySem PySem.Spec PyProof.Rows L2
/-! ### the enumeration of mills rises -/
theorem pairs_rise (n : Nat) : (pairsN n).Pairwise fun p q => p.1 < q.1 ∨ (p.1 = q.1 ∧ p.2 < q.2) := by
  unfold pairsN
  rw [List.pairwise_flatMap]
  refine ⟨fun i _ => ?_, ?_⟩
  · rw [List.pairwise_map]
    exact List.pairwise_lt_range.imp fun h => .inr ⟨rfl, by show _ < _; omega⟩
  · refine List.pairwise_lt_range.imp fun h x hx y hy => .inl ?_
    obtain ⟨d, _, rfl⟩ := List.mem_map.mp hx
    obtain ⟨e, _, rfl⟩ := List.mem_map.mp hy
    exact h
/-- x stands ahead of y -/
def fore (x y : List Int) : Prop := ∃ (p q p' q' : Nat × Nat) (t t' : Int), x = five p q t ∧ y = five p' q' t' ∧
  ((p.1 < p'.1 ∨ (p.1 = p'.1 ∧ p.2 < p'.2)) ∨ (p = p' ∧ ((q.1 < q'.1 ∨ (q.1 = q'.1 ∧ q.2 < q'.2)) ∨ (q = q' ∧ t < t'))))
theorem mills_rise (xs ys : List Int) (a b : Nat) : (millsL xs ys a b).Pairwise fore := by
  unfold millsL
  rw [List.pairwise_flatMap]
  refine ⟨fun p _ => ?_, ?_⟩
  · unfold millsRow
    rw [List.pairwise_flatMap]
    refine ⟨fun q _ => ?_, ?_⟩
    · rw [List.pairwise_map]
      have h2 : ([(-1 : Int), 1]).Pairwise (· < ·) := by simp
      exact (List.Pairwise.filter _ h2).imp fun h => ⟨p, q, p, q, _, _, rfl, rfl, .inr ⟨rfl, .inr ⟨rfl, h⟩⟩⟩
    · refine (pairs_rise b).imp fun h x hx y hy => ?_
      obtain ⟨t, _, rfl⟩ := List.mem_map.mp hx
      obtain ⟨u, _, rfl⟩ := List.mem_map.mp hy
      exact ⟨p, _, p, _, t, u, rfl, rfl, .inr ⟨rfl, .inl h⟩⟩
  · refine (pairs_rise a).imp fun h x hx y hy => ?_
    obtain ⟨q, _, hx⟩ := List.mem_flatMap.mp hx
    obtain ⟨t, _, rfl⟩ := List.mem_map.mp hx
    obtain ⟨r, _, hy⟩ := List.mem_flatMap.mp hy
    obtain ⟨u, _, rfl⟩ := List.mem_map.mp hy
    exact ⟨_, q, _, r, t, u, rfl, rfl, .inl h⟩
theorem head_fore {L : List (List Int)} {x y : List Int} (h : L.Pairwise fore) (hx : L.head? = some x) (hy : y ∈ L) : x = y ∨ fore x y := by
  cases L with
  | nil => cases hx
  | cons z r =>
    cases hx
    rcases List.mem_cons.mp hy with e | e
    · exact .inl e.symm
    · exact .inr ((List.pairwise_cons.mp h).1 y e)
theorem pairs_in {n i k : Nat} (ik : i < k) (kn : k < n) : (i, k) ∈ pairsN n :=
  List.mem_flatMap.mpr ⟨i, List.mem_range.mpr (by omega), List.mem_map.mpr ⟨k - (i + 1), List.mem_range.mpr (by omega), by rw [show i + 1 + (k - (i + 1)) = k by omega]⟩⟩
theorem mills_in {xs ys : List Int} {a b i k j l : Nat} {t : Int} (ik : i < k) (ka : k < a) (jl : j < l) (lb : l < b) (ht : t = 1 ∨ t = -1) (h : isMillB xs ys i k j l t = true) : five (i, k) (j, l) t ∈ millsL xs ys a b := by
  refine List.mem_flatMap.mpr ⟨(i, k), pairs_in ik ka, List.mem_flatMap.mpr ⟨(j, l), pairs_in jl lb, List.mem_map.mpr ⟨t, List.mem_filter.mpr ⟨?_, h⟩, rfl⟩⟩⟩
  rcases ht with rfl | rfl <;> simp
theorem mills_out {xs ys : List Int} {a b : Nat} {x : List Int} (h : x ∈ millsL xs ys a b) : ∃ (i k j l : Nat) (t : Int), x = five (i, k) (j, l) t ∧ i < k ∧ k < a ∧ j < l ∧ l < b ∧ (t = 1 ∨ t = -1) ∧ isMillB xs ys i k j l t = true := by
  obtain ⟨p, hp, h⟩ := List.mem_flatMap.mp h
  obtain ⟨q, hq, h⟩ := List.mem_flatMap.mp h
  obtain ⟨t, ht, rfl⟩ := List.mem_map.mp h
  obtain ⟨h1, h2⟩ := List.mem_filter.mp ht
  have a1 := pairsN_mem hp
  have a2 := pairsN_mem hq
  refine ⟨p.1, p.2, q.1, q.2, t, rfl, a1.1, a1.2, a2.1, a2.2, ?_, h2⟩
  simp at h1
  omega
/-! ### stairs have no mill -/
theorem count_mono (xs : List Int) {i k : Nat} (h : i ≤ k) : upCount xs i ≤ upCount xs k := by
  unfold upCount
  rw [← List.countP_eq_length_filter, ← List.countP_eq_length_filter]
  have := List.countP_mono_left (l := xs) (p := fun x => decide (x ≤ (i : Int))) (q := fun x => decide (x ≤ (k : Int))) fun x _ hx => decide_eq_true (Int.le_trans (of_decide_eq_true hx) (by omega))
  omega
theorem getD_in {vs : List Int} {i : Nat} (h : i < vs.length) : vs.getD i 0 = vs[i] := by
  rw [List.getD_eq_getElem?_getD, List.getElem?_eq_getElem h]
  rfl
theorem rise_at {xs : List Int} (h : xs.Pairwise (· ≤ ·)) {j l : Nat} (jl : j < l) (hl : l < xs.length) : xs.getD j 0 ≤ xs.getD l 0 := by
  have := List.pairwise_iff_getElem.mp h j l (by omega) hl jl
  rw [getD_in (show j < xs.length by omega), getD_in hl]
  exact this
theorem stairs_void {xs : List Int} {a b : Nat} (srt : xs.Pairwise (· ≤ ·)) (lx : xs.length = b) : millP xs ((List.range a).map fun i => upCount xs i) a = none := by
  rw [mill_first (b := b) (by rw [List.length_map, List.length_range]) fun v hv => by
    obtain ⟨i, _, rfl⟩ := List.mem_map.mp hv
    exact upCount_le lx i]
  cases e : (millsL xs ((List.range a).map fun i => upCount xs i) a b).head? with
  | none => rfl
  | some x =>
    obtain ⟨i, k, j, l, t, rfl, ik, ka, jl, lb, ht, h⟩ := mills_out (List.mem_of_head? e)
    have at' : ∀ m, m < a → ((List.range a).map fun i => upCount xs i).getD m 0 = upCount xs m := fun m hm => by
      rw [getD_in (by rw [List.length_map, List.length_range]; exact hm), List.getElem_map, List.getElem_range]
    have cm := count_mono xs (Nat.le_of_lt ik)
    have rs := rise_at srt jl (by omega)
    rcases ht with rfl | rfl
    · have z := (mill_forth ik).mp h
      rw [at' k ka, at' i (by omega)] at z
      omega
    · have z := (mill_back ik).mp h
      rw [legO_zero, legO_two (by omega)] at z
      omega
/-! ### t > u of tuples of ints -/
/-- whether x is above y -/
def aboveB (x y : List Int) : Bool := Ob.lexAt (fun j => decide (x.getD j 0 = y.getD j 0)) (fun j => decide (y.getD j 0 < x.getD j 0)) (decide (x.length > y.length)) 0 (min x.length y.length)
theorem not_above {x y : List Int} (z : ∃ p q t, x = five p q t) (h : x = y ∨ fore x y) : aboveB x y = false := by
  have go : ∀ a b c d e a' b' c' d' e' : Int, aboveB [a, b, c, d, e] [a', b', c', d', e'] = if a = a' then (if b = b' then (if c = c' then (if d = d' then (if e = e' then false else decide (e' < e)) else decide (d' < d)) else decide (c' < c)) else decide (b' < b)) else decide (a' < a) := by
    intro a b c d e a' b' c' d' e'
    unfold aboveB
    show Ob.lexAt _ _ _ 0 5 = _
    simp [Ob.lexAt]
  rcases h with rfl | ⟨p, q, p', q', t, t', rfl, rfl, h⟩
  · obtain ⟨p, q, t, rfl⟩ := z
    unfold five
    rw [go]
    simp
  · unfold five
    rw [go]
    rcases h with (h | ⟨h, h'⟩) | ⟨rfl, (h | ⟨h, h'⟩) | ⟨rfl, h⟩⟩
    · rw [if_neg (by omega)]; exact decide_eq_false (by omega)
    · rw [if_pos (by omega), if_neg (by omega)]; exact decide_eq_false (by omega)
    · rw [if_pos rfl, if_pos rfl, if_neg (by omega)]; exact decide_eq_false (by omega)
    · rw [if_pos rfl, if_pos rfl, if_pos (by omega), if_neg (by omega)]; exact decide_eq_false (by omega)
    · rw [if_pos rfl, if_pos rfl, if_pos rfl, if_pos rfl, if_neg (by omega)]; exact decide_eq_false (by omega)
def rAboveT (K : PySem.W.Frag) : R2 := fun x y H Q => ∃ (s t : Addr) (ns ms : List Int), x = .ref s ∧ y = .ref t ∧ SqT K H s (ns.map V.int) ∧ SqT K H t (ms.map V.int) ∧ Q (.bl (aboveB ns ms)) H
/-- the item at a place -/
theorem int_there {us : List Value} {ns : List Int} (h : IntsAre us ns) {j : Nat} (hj : j < us.toArray.size) : ∃ t, us.toArray[j] = .int (ns.getD j 0) t :=
  PyProof.Rows.IntsAre.int_at h j _ (by
    rw [List.size_toArray] at hj
    rw [List.getElem?_eq_getElem hj, List.getElem_toArray])
theorem op_aboveT {X : Cx} (room : X.A.units < cLine) : OpR X (compareOp .Gt) (rAboveT X.K) := by
  intro pins s σ H x y v u R I rx ry ⟨t1, t2, ns, ms, ex, ey, ha, hb, q⟩
  subst ex ey
  obtain ⟨us, ru, pu, _⟩ := I.tuple ha
  obtain ⟨vs, rv, pv, _⟩ := I.tuple hb
  have iu : IntsAre us ns := ru.ints
  have iv : IntsAre vs ms := rv.ints
  have fin := Ob.RcOp.tuples_gt (A := X.A) (s := s) (e := fun j => decide (ns.getD j 0 = ms.getD j 0)) (r := fun j => decide (ms.getD j 0 < ns.getD j 0)) pu pv room
    (fun j h1 h2 => by
      obtain ⟨t1, e1⟩ := int_there iu h1
      obtain ⟨t2, e2⟩ := int_there iv h2
      rw [e1, e2]
      have eq := SeqAt.EqAt.int_int (A := X.A.in1) (s := s) (ns.getD j 0) t1 (ms.getD j 0) t2
      rw [show (ns.getD j 0 == ms.getD j 0) = decide (ns.getD j 0 = ms.getD j 0) by rw [Bool.eq_iff_iff]; simp] at eq
      exact eq)
    (fun j h1 h2 _ => by
      obtain ⟨t1, e1⟩ := int_there iu h1
      obtain ⟨t2, e2⟩ := int_there iv h2
      rw [e1, e2]
      exact Ob.RcOp.gt_int _ _ _ _)
  rw [show us.toArray.size = ns.length by rw [List.size_toArray]; exact iu.length, show vs.toArray.size = ms.length by rw [List.size_toArray]; exact iv.length] at fin
  cases rx
  cases ry
  exact fin X.prog X.w X.xe _ ⟨.bl (aboveB ns ms), H, I, rfl, q⟩
end C2

namespace C2
set_option Elab.async false
set_option linter.all false
set_option maxRecDepth 100000
set_option maxHeartbeats 1000000
open PySem PySem.Spec PyProof.Rows L2
section
variable {P : Program} {w : World} {K : PySem.W.Frag} {mg : Str → Option Value} {base : Heap}
abbrev NFa : List Str := ["_law_pot_here", "_law_a", "_law_b", "_law_chosen", "_law_built", "_law_i", "_law_k", "_law_j", "_law_l", "_law_turn", "_law_found", "_law_xs", "_law_stairs", "_law_x"]
theorem scFar : FnScope NFa ["_law_pot_here", "_law_a", "_law_b"] (defScope sFar) := ⟨rfl, rfl, rfl, by decide +kernel, rfl, by decide +kernel, by decide +kernel⟩
def ttLeF : TT := tTest (tOp (rI0 fun i j => V.bl (decide (i ≤ j))) (tVar 13) (tVar 5))
def teCoF (K : PySem.W.Frag) : TE := tCB (fun xs H Q => ∃ p ys, xs = [.ref p] ∧ (SqL K H p ys ∨ SqT K H p ys) ∧ Q (.int (ys.length : Nat)) H) (tCons (tLc (iList K (tVar 11)) (gName 13) ttLeF (tVar 13) [13]) tNil)
/-- the counts of stairs -/
theorem stairs_ok {σ : L2.St} {G3 : Hp} {Q : VK} {lx : Addr} {a b : Nat} {xs : List Int} (h1 : σ[1]? = some (some (.int (a : Int)))) (h11 : ∀ v, ((wipe σ [5]).set 5 (some v))[11]? = some (some (.ref lx))) (w5 : ∀ v, wipe ((wipe σ [5]).set 5 (some v)) [5] = wipe σ [5])
    (w13 : ∀ u v, wipe ((wipe ((wipe σ [5]).set 5 (some u)) [13]).set 13 (some v)) [13] = wipe ((wipe σ [5]).set 5 (some u)) [13]) (r13 : ∀ u v, ((wipe ((wipe σ [5]).set 5 (some u)) [13]).set 13 (some v))[13]? = some (some v)) (r5 : ∀ u v, ((wipe ((wipe σ [5]).set 5 (some u)) [13]).set 13 (some v))[5]? = some (some u))
    (ha : a ≤ 40) (hb : b ≤ 40) (lx' : xs.length = b) (hx3 : G3 lx = some (.lst (xs.map V.int)))
    (q : ∀ ly G4, Same G3 G4 → G4 ly = some (.lst (((List.range a).map fun i => upCount xs i).map V.int)) → Q (.ref ly) G4) :
    tLc (iRng1 (tCons (tVar 1) tNil)) (gName 5) tYes (teCoF K) [5] σ G3 Q := by
  refine ⟨.int (a : Int), h1, (a : Int), rfl, by omega, by omega, fun ly nly => ?_⟩
  refine lc_range (lo := 0) (n := a) (fun i G => Same G3 G ∧ G ly = some (.lst (((List.range i).map fun i => upCount xs i).map V.int))) ⟨same_upd nly, upd_same⟩ ?_ ?_
  · rintro i G hi ⟨sm, hly⟩
    rw [Int.zero_add]
    have hxG := sm _ _ hx3
    refine ⟨w5 _, .ref lx, h11 _, lx, rfl, ⟨_, .inl (.inl hxG)⟩, fun D2 nD2 => ?_⟩
    refine lc_list (xs := xs.map V.int) (fun m G' => Same G G' ∧ G' D2 = some (.lst (((xs.take m).filter fun x => decide (x ≤ (i : Int))).map V.int))) ⟨same_upd nD2, upd_same⟩ (fun m G' _ h => .inl (.inl (h.1 _ _ hxG))) ?_ ?_
    · rintro m x G' hx ⟨s2, h2⟩
      have hm : m < xs.length := by
        have := (List.getElem?_eq_some_iff.mp hx).1
        rw [List.length_map] at this
        exact this
      have ex : x = .int xs[m] := by
        rw [List.getElem?_map, List.getElem?_eq_getElem hm] at hx
        exact (Option.some.inj hx).symm
      subst ex
      have tk : (xs.take (m + 1)).filter (fun x => decide (x ≤ (i : Int))) = (xs.take m).filter (fun x => decide (x ≤ (i : Int))) ++ if xs[m] ≤ (i : Int) then [xs[m]] else [] := by
        rw [List.take_add_one, List.getElem?_eq_getElem hm, List.filter_append]
        congr 1
        show List.filter _ [xs[m]] = _
        by_cases c : xs[m] ≤ (i : Int)
        · simp [c]
        · simp [c]
      refine ⟨w13 _ _, .int xs[m], r13 _ _, .int (i : Int), r5 _ _, _, _, rfl, rfl, _, rfl, ite2 (fun c => ?_) (fun c => ?_)⟩
      · have c' := of_decide_eq_true c
        refine ⟨.int xs[m], r13 _ _, _, h2, ?_, ?_, ?_⟩
        · rw [List.length_map]
          refine Nat.lt_of_le_of_lt (List.length_filter_le _ _) (Nat.lt_of_lt_of_le (show (xs.take m).length < 1000 by rw [List.length_take]; omega) (by decide))
        · intro b' o e'
          rw [upd_ne (ne_of_none e' nD2)]
          exact s2 _ _ e'
        · rw [upd_same, tk, if_pos c', List.map_append]
          rfl
      · have c' : ¬ xs[m] ≤ (i : Int) := fun z => c (decide_eq_true z)
        rw [tk, if_neg c', List.append_nil]
        exact ⟨s2, h2⟩
    · rintro G' ⟨s2, h2⟩
      rw [List.take_of_length_le (by rw [List.length_map]; exact Nat.le_refl _)] at h2
      refine ⟨D2, _, rfl, .inl (.inl (.inl h2)), _, s2 _ _ hly, ?_, ?_, ?_⟩
      · rw [List.length_map, List.length_map, List.length_range]
        exact Nat.lt_of_lt_of_le (show i < 1000 by omega) (by decide)
      · intro b' o e'
        rw [upd_ne (ne_of_none e' nly)]
        exact s2 _ _ (sm _ _ e')
      · rw [upd_same, List.range_succ, List.map_append, List.map_append, List.length_map]
        rfl
  · rintro G4 ⟨s4, h4⟩
    exact q ly G4 s4 h4
/-- far_right: True -/
def spFar : Sp := fun vs H Q _ => ∃ (p : Addr) (a b n : Nat), vs = [.ref p, .int (a : Int), .int (b : Int)] ∧ 2 ≤ a ∧ a ≤ 40 ∧ 2 ≤ b ∧ b ≤ 40 ∧ PotAt H p n ∧ n < 700000 ∧
  ∀ H', Fr p H H' → PotAt H' p (n + 500) → Q (.bl true) H'
theorem ok_far {f fPk fT fR f2 fLM fC fMi fL fS fB fIm fW fBt fU fPb fM cF cB : Addr} {fd fdPk fdT fdR fd2 fdLM fdC fdMi fdL fdS fdB fdIm fdW fdBt fdU fdPb fdM : FuncData} (F : Fun K "_law_far_right" "_law_far_right" sFar f fd) (FPk : Fun K "_law_pick" "_law_pick" sPick fPk fdPk) (FT : Fun K "_law_take" "_law_take" sTake fT fdT) (FR : Fun K "_law_round" "_law_round" sRound fR fdR) (F2 : Fun K "_law_two" "_law_two" sTwo f2 fd2) (FLM : Fun K "_law_is_mill" "_law_is_mill" sLMill fLM fdLM) (FC : Fun K "_law_comes" "_law_comes" sLComes fC fdC) (FMi : Fun K "mill" "mill" sMill fMi fdMi) (FL : Fun K "leg_to_both" "leg_to_both" sLegB fL fdL) (FS : Fun K "size_of_pick" "size_of_pick" sSizeP fS fdS) (FB : Fun K "mill_between" "mill_between" sMillB fB fdB) (FIm : Fun K "is_mill" "is_mill" sIsMill fIm fdIm) (FW : Fun K "is_whole" "is_whole" sPWhole fW fdW) (FBt : Fun K "is_between" "is_between" sBetween fBt fdBt) (FU : Fun K "is_tuple_of" "is_tuple_of" sTupOf fU fdU) (FPb : Fun K "is_pair_below" "is_pair_below" sPairB fPb fdPb) (FM : Fun K "comes" "comes" sComes fM fdM)
    (bPk : Binds K fdPk ["_law_pot_here", "_law_a", "_law_b"] []) (bT : Binds K fdT ["_law_pot_here", "_law_many"] []) (bR : Binds K fdR ["_law_pot_here", "_law_a", "_law_b", "_law_chosen"] []) (b2 : Binds K fd2 ["_law_pot_here", "_law_many"] []) (bLM : Binds K fdLM ["_law_chosen", "_law_i", "_law_k", "_law_j", "_law_l", "_law_turn"] []) (bC : Binds K fdC ["_law_chosen", "_law_i", "_law_j"] []) (bMi : Binds K fdMi ["pick"] []) (bL : Binds K fdL ["x", "i", "k"] []) (bS : Binds K fdS ["pick"] []) (bB : Binds K fdB ["pick", "i", "k"] []) (bIm : Binds K fdIm ["pick", "thing"] []) (bW : Binds K fdW ["thing"] []) (bBt : Binds K fdBt ["thing", "least", "most"] []) (bU : Binds K fdU ["thing", "many"] []) (bPb : Binds K fdPb ["one", "other", "many"] []) (bM : Binds K fdM ["pick", "i", "j"] [])
    (gPk : mg "_law_pick" = some (.ref fPk)) (gT : mg "_law_take" = some (.ref fT)) (gR : mg "_law_round" = some (.ref fR)) (g2 : mg "_law_two" = some (.ref f2)) (gLM : mg "_law_is_mill" = some (.ref fLM)) (gC : mg "_law_comes" = some (.ref fC)) (gMi : mg "mill" = some (.ref fMi)) (gL : mg "leg_to_both" = some (.ref fL)) (gS : mg "size_of_pick" = some (.ref fS)) (gB : mg "mill_between" = some (.ref fB)) (gIm : mg "is_mill" = some (.ref fIm)) (gW : mg "is_whole" = some (.ref fW)) (gBt : mg "is_between" = some (.ref fBt)) (gU : mg "is_tuple_of" = some (.ref fU)) (gPb : mg "is_pair_below" = some (.ref fPb)) (gM : mg "comes" = some (.ref fM))
    (mi : mg "isinstance" = none) (mint : mg "int" = none) (mbool : mg "bool" = none) (mtup : mg "tuple" = none) (ml : mg "len" = none) (mall : mg "all" = none) (mr : mg "range" = none) (mmin : mg "min" = none) (mmax : mg "max" = none) (ms : mg "sorted" = none) (mlist : mg "list" = none)
    (gF : mg "LEGS_FORTH" = some (.ref cF)) (gK : mg "LEGS_BACK" = some (.ref cB)) (hF : ∀ G : Hp, SqT K G cF [.int 0, .int 1, .int 2, .int 3]) (hB : ∀ G : Hp, SqT K G cB [.int 2, .int 3, .int 0, .int 1]) :
    FnOk P w K mg base CX0 5 f fd ["_law_pot_here", "_law_a", "_law_b"] spFar := by
  have GT : FnOk P w K mg base CX0 1 fT fdT ["_law_pot_here", "_law_many"] spTake := ok_take FT
  have GPk : FnOk P w K mg base CX0 2 fPk fdPk ["_law_pot_here", "_law_a", "_law_b"] spPick := ok_pick FPk FT bT gT mr mtup ms ml
  have GR : FnOk P w K mg base CX0 3 fR fdR ["_law_pot_here", "_law_a", "_law_b", "_law_chosen"] spRound := ok_round FR FT F2 bT b2 gT g2 mtup mlist
  have GLM : FnOk P w K mg base CX0 2 fLM fdLM ["_law_chosen", "_law_i", "_law_k", "_law_j", "_law_l", "_law_turn"] spLMill := ok_lmill FLM FC bC gC mint mall
  have GMi : FnOk P w K mg base CX0 3 fMi fdMi ["pick"] spMill := ok_mill FMi FL FS FB bL bS bB gL gS gB mr mmin mmax ml
  have GIm : FnOk P w K mg base CX0 4 fIm fdIm ["pick", "thing"] spIsMill := ok_ismill FIm FW FBt FU FS FPb FM bW bBt bU bS bPb bM gW gBt gU gS gPb gM gF gK hF hB mi mint mbool mtup ml
  refine F.ok scFar (fun vs H Q E h => ?_) (fun cdv A outer s H vs Q E hr h => ?_)
  · obtain ⟨p, a, b, n, rfl, _⟩ := h
    rfl
  · obtain ⟨p, a, b, n, rfl, a2, a40, bb2, b40, hP, hn, q⟩ := h
    have nd := scFar.nd
    refine ⟨_, pss_cons (ps_asg (pe_call GR (hr.mono (by decide)) (by rfl) gR FR.kp bR .nil pass0 (pa_cons (pv 0) (pa_cons (pv 1) (pa_cons (pv 2) (pa_cons (pe_call GPk (hr.mono (by decide)) (by rfl) gPk FPk.kp bPk .nil pass0 (pa_cons (pv 0) (pa_cons (pv 1) (pa_cons (pv 2) pa_nil)))) pa_nil))))) (pg_tup rfl (pgs_cons (pg_name (i := 3) nd rfl (.inl rfl)) (pgs_cons (pg_name (i := 4) nd rfl (.inl rfl)) pgs_nil))))
      (pss_cons (ps_asg (pv 4) (pg_tup rfl (pgs_cons (pg_name (i := 5) nd rfl (.inl rfl)) (pgs_cons (pg_name (i := 6) nd rfl (.inl rfl)) (pgs_cons (pg_name (i := 7) nd rfl (.inl rfl)) (pgs_cons (pg_name (i := 8) nd rfl (.inl rfl)) (pgs_cons (pg_name (i := 9) nd rfl (.inl rfl)) pgs_nil)))))))
      (pss_cons (ps_if (PW.pt (pw_or (pt_cmpR op_isnot_bl (pe_call GIm (hr.mono (by decide)) (by rfl) gIm FIm.kp bIm .nil pass0 (pa_cons (pv 3) (pa_cons (pv 4) pa_nil))) pe_bl (nomark _)) (pw_or1 (pt_not (pt_val (pe_call GLM (hr.mono (by decide)) (by rfl) gLM FLM.kp bLM .nil pass0 (pa_cons (pv 3) (pa_cons (pv 5) (pa_cons (pv 6) (pa_cons (pv 7) (pa_cons (pv 8) (pa_cons (pv 9) pa_nil)))))))))))) (pss_one (ps_ret pe_bl)) pss_nil)
      (pss_cons (ps_set (i := 10) nd rfl (.inl rfl) (pe_call GMi (hr.mono (by decide)) (by rfl) gMi FMi.kp bMi .nil pass0 (pa_cons (pv 3) pa_nil)))
      (pss_cons (ps_if (PW.pt (pw_or (pt_cmpR op_isN (pv 10) pe_non (nomark _)) (pw_or (pt_cmpR (op_aboveT hr.units0) (pv 10) (pv 4) (nomark _)) (pw_or1 (pt_cmpR op_isnot_bl (pe_call GIm (hr.mono (by decide)) (by rfl) gIm FIm.kp bIm .nil pass0 (pa_cons (pv 3) (pa_cons (pv 10) pa_nil))) pe_bl (nomark _)))))) (pss_one (ps_ret pe_bl)) pss_nil)
      (pss_cons (ps_asg (pv 10) (pg_tup rfl (pgs_cons (pg_name (i := 5) nd rfl (.inl rfl)) (pgs_cons (pg_name (i := 6) nd rfl (.inl rfl)) (pgs_cons (pg_name (i := 7) nd rfl (.inl rfl)) (pgs_cons (pg_name (i := 8) nd rfl (.inl rfl)) (pgs_cons (pg_name (i := 9) nd rfl (.inl rfl)) pgs_nil)))))))
      (pss_cons (ps_if (pt_not (pt_val (pe_call GLM (hr.mono (by decide)) (by rfl) gLM FLM.kp bLM .nil pass0 (pa_cons (pv 3) (pa_cons (pv 5) (pa_cons (pv 6) (pa_cons (pv 7) (pa_cons (pv 8) (pa_cons (pv 9) pa_nil))))))))) (pss_one (ps_ret pe_bl)) pss_nil)
      (pss_cons (ps_set (i := 11) nd rfl (.inr rfl) (pe_callB cr_sorted (by rfl) ms (by decide +kernel) (pa_cons (pe_lc (own := [("_law_j", 7)]) (g := gName 7) (tt := tYes) (te := tUp 1) rfl nd (pi_range1 (by rfl) mr (pa_cons (pv 2) pa_nil)) (blkOk_by (own := [("_law_j", 7)]) (N := NFa) (sc := defScope sFar) (by decide +kernel)) (fun _ _ _ _ _ => pg_name (i := 7) nd rfl (.inl rfl)) (fun _ _ _ _ _ => pts_nil) (fun _ _ _ _ _ => (pe_call GT (hr.mono (by decide)) (by rfl) gT FT.kp bT .nil pass0 (pa_cons (pv 0) (pa_cons (pe_op op_add (pv 1) pe_int) pa_nil))))) pa_nil)))
      (pss_cons (ps_set (i := 12) nd rfl (.inl rfl) (pe_tup (pa_cons (pe_callTy call_tuple_of (by rfl) mtup (by decide +kernel) (pa_cons (pv 11) pa_nil)) (pa_cons (pe_callTy call_tuple_of (by rfl) mtup (by decide +kernel) (pa_cons (pe_lc (own := [("_law_i", 5)]) (g := gName 5) (tt := tYes) (te := teCoF K) rfl nd (pi_range1 (by rfl) mr (pa_cons (pv 1) pa_nil)) (blkOk_by (own := [("_law_i", 5)]) (N := NFa) (sc := defScope sFar) (by decide +kernel)) (fun _ _ _ _ _ => pg_name (i := 5) nd rfl (.inr rfl)) (fun _ _ _ _ _ => pts_nil) (fun _ _ _ _ _ => (pe_callB call_len_seq (by rfl) ml PySem.boot_len (pa_cons (pe_lc (own := [("_law_x", 13)]) (g := gName 13) (tt := ttLeF) (te := tVar 13) rfl nd (pi_list (pv 11)) (blkOk_by (own := [("_law_x", 13)]) (N := NFa) (sc := scSpot) (by decide +kernel)) (fun _ _ _ _ _ => pg_name (i := 13) nd rfl (.inl rfl)) (fun _ _ _ _ _ => pts_one (pt_cmpR op_le (pv 13) (pv 5) (nomark _))) (fun _ _ _ _ _ => (pv 13))) pa_nil)))) pa_nil)) pa_nil))))
      (pss_one (ps_ret (pe_cmpR op_isN (pe_call GMi (hr.mono (by decide)) (by rfl) gMi FMi.kp bMi .nil pass0 (pa_cons (pv 12) pa_nil)) pe_non (nomark _)))))))))))), ?_⟩
    refine ⟨.ref p, rfl, .int (a : Int), rfl, .int (b : Int), rfl, .ref p, rfl, .int (a : Int), rfl, .int (b : Int), rfl, p, a, b, n, rfl, a40, b40, hP, by omega, fun t0 xs0 ys0 H1 f1 P1 pk1 => ?_⟩
    refine ⟨p, t0, a, b, n + 300, xs0, ys0, rfl, a2, a40, bb2, b40, P1, by omega, pk1, fun T t th xs ys i k j l turn H2 f2 P2 hT pk hth ik ka jl lb ht hm => ?_⟩
    refine ⟨T, _, rfl, .inl (.inl hT), rfl, _, _, rfl, _, _, rfl, rfl, ?_⟩
    refine ⟨.ref th, rfl, th, _, rfl, .inl (.inl hth), rfl, _, _, rfl, _, _, rfl, _, _, rfl, _, _, rfl, _, _, rfl, rfl, ?_⟩
    show tSeq _ _ _ [some (.ref p), some (.int (a : Int)), some (.int (b : Int)), some (.ref t), some (.ref th), some (.int (i : Int)), some (.int (k : Int)), some (.int (j : Int)), some (.int (l : Int)), some (.int turn), none, none, none, none] _
    refine ⟨.ref t, rfl, .ref th, rfl, t, th, a, b, i, k, j, l, turn, xs, ys, rfl, pk, hth, ik, ka, jl, lb, ht, fun H3 s3 => ?_⟩
    rw [hm]
    refine ⟨true, true, rfl, rfl, false, rfl, iteF ?_⟩
    refine ⟨.ref t, rfl, .int (i : Int), rfl, .int (k : Int), rfl, .int (j : Int), rfl, .int (l : Int), rfl, .int turn, rfl, t, a, b, i, k, j, l, turn, xs, ys, rfl, pk.same s3, by omega, ka, by omega, lb, ht, fun B H4 eB s4 => ?_⟩
    rw [hm] at eB
    subst eB
    refine ⟨true, rfl, iteF ?_⟩
    have s24 := s3.trans s4
    have mf : millP xs ys a = (millsL xs ys a b).head? := by
      obtain ⟨_, _, _, _, _, _, l2, _, u2⟩ := pk
      exact mill_first l2 u2
    have inn := mills_in ik ka jl lb ht hm
    refine ⟨.ref t, rfl, t, a, b, xs, ys, rfl, pk.same s24, a40, b40, fun en => ?_, fun m em H5 F5 s5 nF5 hF5 => ?_⟩
    · rw [mf, List.head?_eq_none_iff] at en
      rw [en] at inn
      cases inn
    have em' : (millsL xs ys a b).head? = some m := by rw [← mf]; exact em
    obtain ⟨i', k', j', l', t', rfl, ik', ka', jl', lb', ht', hm'⟩ := mills_out (List.mem_of_head? em')
    have ab := not_above ⟨_, _, _, rfl⟩ (head_fore (mills_rise xs ys a b) em' inn)
    show tSeq _ _ _ [some (.ref p), some (.int (a : Int)), some (.int (b : Int)), some (.ref t), some (.ref th), some (.int (i : Int)), some (.int (k : Int)), some (.int (j : Int)), some (.int (l : Int)), some (.int turn), some (.ref F5), none, none, none] _
    have hth5 := s5 _ _ (s24 _ _ hth)
    have pk5 := (pk.same s24).same s5
    refine ⟨.ref F5, rfl, rfl, false, rfl, iteF ?_⟩
    refine ⟨.ref F5, rfl, .ref th, rfl, F5, th, five (i', k') (j', l') t', five (i, k) (j, l) turn, rfl, rfl, .inl (.inl hF5), .inl (.inl hth5), ?_⟩
    rw [ab]
    refine ⟨false, rfl, iteF ?_⟩
    refine ⟨.ref t, rfl, .ref F5, rfl, t, F5, a, b, i', k', j', l', t', xs, ys, rfl, pk5, hF5, ik', ka', jl', lb', ht', fun H6 s6 => ?_⟩
    rw [hm']
    refine ⟨true, true, rfl, rfl, false, rfl, iteF ?_⟩
    refine ⟨.ref F5, rfl, F5, _, rfl, .inl (.inl (s6 _ _ hF5)), rfl, _, _, rfl, _, _, rfl, _, _, rfl, _, _, rfl, _, _, rfl, rfl, ?_⟩
    show tSeq _ _ _ [some (.ref p), some (.int (a : Int)), some (.int (b : Int)), some (.ref t), some (.ref th), some (.int (i' : Int)), some (.int (k' : Int)), some (.int (j' : Int)), some (.int (l' : Int)), some (.int t'), some (.ref F5), none, none, none] _
    refine ⟨.ref t, rfl, .int (i' : Int), rfl, .int (k' : Int), rfl, .int (j' : Int), rfl, .int (l' : Int), rfl, .int t', rfl, t, a, b, i', k', j', l', t', xs, ys, rfl, pk5.same s6, by omega, ka', by omega, lb', ht', fun B H7 eB s7 => ?_⟩
    rw [hm'] at eB
    subst eB
    refine ⟨true, rfl, iteF ?_⟩
    have s27 := s24.trans (s5.trans (s6.trans s7))
    have P7 := P2.same s27
    have f7 : Fr p H H7 := f1.trans (f2.trans (Fr.same s27))
    show tSeq (tAsg (tCB (rSorted K) (tCons (tLc (iRng1 (tCons (tVar 2) tNil)) (gName 7) tYes (tUp 1) [7]) tNil)) (gName 11)) _ _ _ _
    refine seqAsg (tcb_run (lc_draw (te := tUp 1) (sl := 7) (len := b) (m := a) (n := n + 309) (p := p) (fun v => rfl) b40 (fun R h => ⟨.int (b : Int), rfl, h⟩) P7 (fun j G R hj pt kk => up_ok (a := a) (n := n + 309 + 3 * j) rfl rfl pt (by omega) a40 fun d G' f P d0 d1 => kk d G' f (P.mono (by omega)) d0 d1) fun D vs G8 f8 P8 nD nDp hD l1 u1 => ?_))
    refine ⟨D, vs, rfl, .inl (.inl hD), by omega, fun xz lx pm srt nlx => ?_⟩
    have l1' : xz.length = b := by rw [pm.length_eq, l1]
    have u1' : Upto a xz := fun v hv => u1 v (pm.mem_iff.mp hv)
    have s9 := same_upd (o := .lst (xz.map V.int)) nlx
    have hx9 : (upd G8 lx (.lst (xz.map V.int))) lx = some (.lst (xz.map V.int)) := upd_same
    have P9 := P8.same s9
    have f9 := f7.trans (f8.trans (Fr.same s9))
    generalize upd G8 lx (.lst (xz.map V.int)) = G9 at s9 hx9 P9 f9
    show tSeq (tAsg (tTup (tCons (tCB (rTupOf K) (tCons (tVar 11) tNil)) (tCons (tCB (rTupOf K) (tCons (tLc (iRng1 (tCons (tVar 1) tNil)) (gName 5) tYes (teCoF K) [5]) tNil)) tNil))) (gName 12)) _ _ [some (.ref p), some (.int (a : Int)), some (.int (b : Int)), some (.ref t), some (.ref th), some (.int (i' : Int)), some (.int (k' : Int)), some (.int (j' : Int)), some (.int (l' : Int)), some (.int t'), some (.ref F5), some (.ref lx), none, none] _
    refine seqAsg ⟨.ref lx, rfl, lx, _, rfl, .inl ⟨.inl (.inl hx9), fun tx nx => ?_⟩⟩
    have sA := same_upd (o := .tup (xz.map V.int)) nx
    refine tcb_run (stairs_ok (a := a) (b := b) (xs := xz) (lx := lx) rfl (fun v => rfl) (fun v => rfl) (fun u v => rfl) (fun u v => rfl) (fun u v => rfl) a40 b40 l1' (sA _ _ hx9) fun ly G10 sB hly => ?_)
    refine ⟨ly, _, rfl, .inl ⟨.inl (.inl hly), fun tyy ny => ⟨by show 2 ≤ sizeLine; decide, fun tz nz => ?_⟩⟩⟩
    have sC := same_upd (o := .tup (((List.range a).map fun i => upCount xz i).map V.int)) ny
    have sD := same_upd (o := .tup [.ref tx, .ref tyy]) nz
    have sm := sA.trans (sB.trans (sC.trans sD))
    have pkz : PickAt (upd (upd G10 tyy (.tup (((List.range a).map fun i => upCount xz i).map V.int))) tz (.tup [.ref tx, .ref tyy])) tz a b xz ((List.range a).map fun i => upCount xz i) :=
      ⟨tx, tyy, upd_same, sD _ _ (sC _ _ (sB _ _ upd_same)), sD _ _ upd_same, l1', by rw [List.length_map, List.length_range], u1', fun v hv => by
        obtain ⟨i, _, rfl⟩ := List.mem_map.mp hv
        exact upCount_le l1' i⟩
    show tRet _ _ [some (.ref p), some (.int (a : Int)), some (.int (b : Int)), some (.ref t), some (.ref th), some (.int (i' : Int)), some (.int (k' : Int)), some (.int (j' : Int)), some (.int (l' : Int)), some (.int t'), some (.ref F5), some (.ref lx), some (.ref tz), none] _
    refine ⟨.ref tz, rfl, tz, a, b, xz, _, rfl, pkz, a40, b40, fun en H11 s11 => ⟨rfl, ?_⟩, fun m em => ?_⟩
    · exact q H11 (f9.trans (Fr.same (sm.trans s11))) (((P9.same sm).same s11).mono (by omega))
    · rw [stairs_void srt l1'] at em
      cases em
end
end C2

namespace C2
set_option Elab.async false
set_option linter.all false
set_option maxRecDepth 100000
set_option maxHeartbeats 1000000
open PySem PySem.Spec PyProof.Rows L2
structure Plain (ds : List PyData) (dp wt : Nat) : Prop where
  sh : PyData.showableAll ds = true
  hd : PyData.hasDictAll ds = false
  ls : PyData.leavesShortAll 8 ds = true
  dp : PyData.depthAll ds ≤ dp
  wt : PyData.weightAll ds ≤ wt
  cl : PyData.canLayAll0 ds = true
theorem Plain.nil (dp : Nat) : Plain [] dp 0 := ⟨by simp [PyData.showableAll], by simp [PyData.hasDictAll], by simp [PyData.leavesShortAll], by simp [PyData.depthAll], by simp [PyData.weightAll], by simp [PyData.canLayAll0]⟩
theorem Plain.tup {ds : List PyData} {dp wt : Nat} (h : Plain ds dp wt) : Plain [.tuple ds] (dp + 1) (wt + 1) := by
  obtain ⟨i1, i2, i3, i4, i5, i6⟩ := h
  refine ⟨?_, ?_, ?_, ?_, ?_, ?_⟩ <;> simp only [PyData.showableAll, PyData.hasDictAll, PyData.leavesShortAll, PyData.depthAll, PyData.weightAll, PyData.canLayAll0, PyData.showable, PyData.hasDict, PyData.leavesShort, PyData.depth, PyData.weight, PyData.canLay0, i1, i2, i3, i6]
  · rfl
  · rfl
  · rfl
  · omega
  · omega
  · rfl
theorem Plain.lst {ds : List PyData} {dp wt : Nat} (h : Plain ds dp wt) : Plain [.list ds] (dp + 1) (wt + 1) := by
  obtain ⟨i1, i2, i3, i4, i5, i6⟩ := h
  refine ⟨?_, ?_, ?_, ?_, ?_, ?_⟩ <;> simp only [PyData.showableAll, PyData.hasDictAll, PyData.leavesShortAll, PyData.depthAll, PyData.weightAll, PyData.canLayAll0, PyData.showable, PyData.hasDict, PyData.leavesShort, PyData.depth, PyData.weight, PyData.canLay0, i1, i2, i3, i6]
  · rfl
  · rfl
  · rfl
  · omega
  · omega
  · rfl
theorem Plain.cons {d : PyData} {ds : List PyData} {dp wt wt' : Nat} (h : Plain [d] dp wt) (h' : Plain ds dp wt') : Plain (d :: ds) dp (wt + wt') := by
  obtain ⟨i1, i2, i3, i4, i5, i6⟩ := h
  obtain ⟨j1, j2, j3, j4, j5, j6⟩ := h'
  simp only [PyData.showableAll, PyData.hasDictAll, PyData.leavesShortAll, PyData.depthAll, PyData.weightAll, PyData.canLayAll0, Bool.and_true, Bool.or_false] at i1 i2 i3 i4 i5 i6
  refine ⟨?_, ?_, ?_, ?_, ?_, ?_⟩ <;> simp only [PyData.showableAll, PyData.hasDictAll, PyData.leavesShortAll, PyData.depthAll, PyData.weightAll, PyData.canLayAll0, i1, i2, i3, i6, j1, j2, j3, j6]
  · rfl
  · rfl
  · rfl
  · omega
  · omega
  · rfl
/-- what repr and == ask of a thing -/
structure Fine (d : PyData) : Prop where
  sh : d.showable = true
  hd : d.hasDict = false
  dp : d.depth ≤ 60
  ln : d.shown.length ≤ sizeLine
  sp : SeqAt.shaped d = true
theorem Plain.fine {d : PyData} {dp wt : Nat} (h : Plain [d] dp wt) (hd : dp ≤ 60) (hw : wt ≤ 210000) : Fine d := by
  obtain ⟨i1, i2, i3, i4, i5, i6⟩ := h
  simp only [PyData.showableAll, PyData.hasDictAll, PyData.leavesShortAll, PyData.depthAll, PyData.weightAll, PyData.canLayAll0, Bool.and_true, Bool.or_false] at i1 i2 i3 i4 i5 i6
  refine ⟨i1, i2, by omega, ?_, ?_⟩
  · have := PyData.shown_le 8 (by decide) d i3
    have s : 4000000 ≤ sizeLine := by decide
    omega
  · unfold SeqAt.shaped
    rw [i6, decide_eq_true (show d.depth ≤ 64 by omega)]
    rfl
theorem freshSeq {K : PySem.W.Frag} {p a : Addr} {G G' : Hp} {xs : List V} (h : SqL K G a xs) (n : G p = none) (f : Fr p G G') : SqL K G' a xs := by
  rcases h with (h | ⟨o, h⟩) | h
  · exact .inl (.inl (f _ _ (ne_of_none h n) h))
  · exact .inl (.inr ⟨o, f _ _ (ne_of_none h n) h⟩)
  · exact .inr h

def okD (d : PyData) : Bool := PyData.showable d && PyData.leavesShort 8 d && decide (PyData.weight d ≤ 19) && PyData.canLay0 d && !PyData.hasDict d && decide (PyData.depth d ≤ 0)
theorem okD_ints : ((List.range 42).all fun n => okD (.int (n : Int))) = true := by decide +kernel
theorem okD_int {n : Nat} (h : n < 42) : okD (.int (n : Int)) = true := List.all_eq_true.mp okD_ints n (List.mem_range.mpr h)
theorem Plain.one {d : PyData} (h : okD d = true) : Plain [d] 0 20 := by
  unfold okD at h
  simp only [Bool.and_eq_true, decide_eq_true_eq, Bool.not_eq_true'] at h
  obtain ⟨⟨⟨⟨⟨h1, h2⟩, h3⟩, h4⟩, h5⟩, h6⟩ := h
  have h6' : PyData.depth d = 0 := Nat.le_zero.mp h6
  refine ⟨?_, ?_, ?_, ?_, ?_, ?_⟩ <;> simp only [PyData.showableAll, PyData.hasDictAll, PyData.leavesShortAll, PyData.depthAll, PyData.weightAll, PyData.canLayAll0, h1, h2, h4, h5, h6']
  · rfl
  · rfl
  · rfl
  · decide
  · omega
  · rfl
theorem okD_neg : okD (.int (-1)) = true := by decide +kernel
theorem plainIs : ∀ x : List Int, (∀ v ∈ x, okD (.int v) = true) → Plain (x.map PyData.int) 0 (20 * x.length)
  | [], _ => Plain.nil 0
  | v :: r, h => by
    have z := (Plain.one (h v List.mem_cons_self)).cons (plainIs r fun y hy => h y (List.mem_cons_of_mem _ hy))
    have e : PyData.weightAll (List.map PyData.int (v :: r)) ≤ 20 + 20 * r.length := z.wt
    exact ⟨z.sh, z.hd, z.ls, z.dp, by rw [List.length_cons]; omega, z.cl⟩
theorem plainTs : ∀ L : List (List Int), (∀ x ∈ L, x.length = 5 ∧ ∀ v ∈ x, okD (.int v) = true) → Plain (L.map dT) 1 (101 * L.length)
  | [], _ => Plain.nil 1
  | x :: r, h => by
    have hx := h x List.mem_cons_self
    have z := (plainIs x hx.2).tup.cons (plainTs r fun y hy => h y (List.mem_cons_of_mem _ hy))
    have e : PyData.weightAll (List.map dT (x :: r)) ≤ 20 * x.length + 1 + 101 * r.length := z.wt
    exact ⟨z.sh, z.hd, z.ls, z.dp, by rw [List.length_cons, ]; rw [hx.1] at e; omega, z.cl⟩
theorem five_ok {p q : Nat × Nat} {t : Int} (hp : p.1 < p.2 ∧ p.2 < 42) (hq : q.1 < q.2 ∧ q.2 < 42) (ht : t = 1 ∨ t = -1) : (five p q t).length = 5 ∧ ∀ v ∈ five p q t, okD (.int v) = true := by
  refine ⟨rfl, fun v hv => ?_⟩
  simp only [five, List.mem_cons, List.not_mem_nil, or_false] at hv
  rcases hv with rfl | rfl | rfl | rfl | rfl
  · exact okD_int (by omega)
  · exact okD_int (by omega)
  · exact okD_int (by omega)
  · exact okD_int (by omega)
  · rcases ht with rfl | rfl
    · exact okD_int (n := 1) (by decide)
    · exact okD_neg
theorem mills_fives {xs ys : List Int} {a b : Nat} (ha : a ≤ 6) (hb : b ≤ 6) {x : List Int} (h : x ∈ millsL xs ys a b) : x.length = 5 ∧ ∀ v ∈ x, okD (.int v) = true := by
  obtain ⟨i, k, j, l, t, rfl, ik, ka, jl, lb, ht, _⟩ := mills_out h
  exact five_ok ⟨ik, by show k < 42; omega⟩ ⟨jl, by show l < 42; omega⟩ ht
theorem pairs15 {n : Nat} (h : n ≤ 6) : (pairsN n).length ≤ 15 := by
  rcases (show n = 0 ∨ n = 1 ∨ n = 2 ∨ n = 3 ∨ n = 4 ∨ n = 5 ∨ n = 6 by omega) with rfl | rfl | rfl | rfl | rfl | rfl | rfl <;> decide +kernel
theorem mills450 {xs ys : List Int} {a b : Nat} (ha : a ≤ 6) (hb : b ≤ 6) : (millsL xs ys a b).length ≤ 450 := by
  have z := flat_le (L := pairsN a) (f := millsRow xs ys b) (c := 30) fun p _ => by
    have y := flat_le (L := pairsN b) (f := fun q => (turnsOf xs ys p q).map (five p q)) (c := 2) fun q _ => by
      rw [List.length_map]
      exact List.length_filter_le _ _
    exact Nat.le_trans y (Nat.mul_le_mul_right 2 (pairs15 hb))
  exact Nat.le_trans z (Nat.mul_le_mul_right 30 (pairs15 ha))
theorem fineL {xs ys : List Int} {a b : Nat} (ha : a ≤ 6) (hb : b ≤ 6) : Fine (.list ((millsL xs ys a b).map dT)) := by
  have p := (plainTs (millsL xs ys a b) fun x hx => mills_fives ha hb hx).lst
  have := mills450 (xs := xs) (ys := ys) ha hb
  exact p.fine (by decide) (by omega)
theorem fine5 {x : List Int} (h : x.length = 5 ∧ ∀ v ∈ x, okD (.int v) = true) : Fine (dT x) := by
  have p := (plainIs x h.2).tup
  rw [h.1] at p
  exact p.fine (by decide) (by decide)
theorem fineNil : Fine (.list []) := (Plain.nil 0).lst.fine (by decide) (by decide)
theorem eqv_nil (L : List (List Int)) : PyData.eqv (.list (L.map dT)) (.list []) = L.isEmpty := by
  cases L with
  | nil => simp [PyData.eqv, PyData.eqvAll]
  | cons x r => simp [PyData.eqv, PyData.eqvAll]
theorem any_dT (L : List (List Int)) (x : List Int) : ((L.map dT).any fun z => PyData.eqv z (dT x)) = L.contains x := by
  rw [List.any_map, Bool.eq_iff_iff, List.any_eq_true, List.contains_iff_mem]
  constructor
  · rintro ⟨y, hy, e⟩
    have e' : PyData.eqv (dT y) (dT x) = true := e
    rw [eqvT] at e'
    rw [← of_decide_eq_true e']
    exact hy
  · intro h
    exact ⟨x, h, by show PyData.eqv (dT x) (dT x) = true; rw [eqvT]; exact decide_eq_true rfl⟩
theorem dpMills {K : PySem.W.Frag} {G : Hp} : ∀ {L : List (List Int)} {cs : List (Addr × List V)}, cs.map (·.2) = vI L → CellsV G cs → DpAll K G (vrefs cs) (L.map dT)
  | [], [], _, _ => .nil
  | [], _ :: _, e, _ => nomatch e
  | _ :: _, [], e, _ => nomatch e
  | x :: L, c :: cs, e, h => by
    have e' : c.2 :: cs.map (·.2) = x.map V.int :: vI L := e
    obtain ⟨e1, e2⟩ := List.cons.inj e'
    have hc := h c List.mem_cons_self
    rw [e1] at hc
    exact .cons (.tup (.inl (.inl hc)) (dpAll K G x)) (dpMills e2 fun d hd => h d (List.mem_cons_of_mem _ hd))
theorem GrowV.dp {K : PySem.W.Frag} {L : List (List Int)} {H G : Hp} {D : Addr} (I : GrowV (vI L) H D G) : Dp K G (.ref D) (.list (L.map dT)) := by
  obtain ⟨cs, _, hD, hc, e⟩ := I
  exact .lst (.inl (.inl hD)) (dpMills e hc)
/-! ### a pick as data -/
abbrev dPick (xs ys : List Int) : PyData := .tuple [dT xs, dT ys]
theorem okUpto {m : Nat} (hm : m ≤ 40) {vs : List Int} (h : Upto m vs) : ∀ v ∈ vs, okD (.int v) = true := fun v hv => by
  have z := h v hv
  have e := okD_int (n := v.toNat) (by omega)
  rw [Int.toNat_of_nonneg z.1] at e
  exact e
theorem finePick {a b : Nat} {xs ys : List Int} (ha : a ≤ 40) (hb : b ≤ 40) (lx : xs.length = b) (ly : ys.length = a) (ux : Upto a xs) (uy : Upto b ys) : Fine (dPick xs ys) := by
  have p := ((plainIs xs (okUpto ha ux)).tup.cons ((plainIs ys (okUpto hb uy)).tup.cons (Plain.nil 1))).tup
  exact p.fine (by decide) (by omega)
theorem PickAt.dp {K : PySem.W.Frag} {G : Hp} {t : Addr} {a b : Nat} {xs ys : List Int} (h : PickAt G t a b xs ys) : Dp K G (.ref t) (dPick xs ys) := by
  obtain ⟨tx, ty, h1, h2, h3, _⟩ := h
  exact .tup (.inl (.inl h1)) (.cons (.tup (.inl (.inl h2)) (dpAll K G xs)) (.cons (.tup (.inl (.inl h3)) (dpAll K G ys)) .nil))
/-! ### repr of None, of truths, of data -/
def rReprA (K : PySem.W.Frag) : List V → Hp → VK → Prop := fun xs G Q => ((xs = [.non] ∧ Q (.str "None") G) ∨ ∃ b, xs = [.bl b] ∧ Q (.str (if b then "True" else "False")) G) ∨ rReprD K xs G Q
theorem call_reprA {X : Cx} (hu : X.A.units + 64 < cLine) (hgd : X.A.guards = some []) : CallR X (.builtin "repr") (rReprA X.K) := by
  intro pins s σ G xs us Q I r h
  rcases h with (⟨rfl, q⟩ | ⟨b, rfl, q⟩) | h
  · obtain ⟨u, rfl, rel⟩ := vals1 r
    cases rel
    exact PySem.P.repr_of_none ⟨.str "None", G, I.tok _, ⟨_, rfl⟩, q⟩
  · obtain ⟨u, rfl, rel⟩ := vals1 r
    cases rel
    exact PySem.P.repr_of_bool ⟨.str (if b then "True" else "False"), G, I.tok _, ⟨_, rfl⟩, q⟩
  · exact call_reprD hu hgd pins s σ G xs us Q I r h
/-! ### a call by names alone -/
section
variable {X : Cx} {k : Nat} {f : Addr} {fd : FuncData} {ps ks : List Str} {sp : Sp} {E : XK} {x : Str} {p pos : Pos} {kws : List Keyword} {tk : TA} {g : List Value → List Value → List Value} {gV : List V → List V → List V}
theorem pe_callKW (G : FnOk X.prog X.w X.K X.mg X.base CX0 k f fd ps sp) (room : Room k X.A) (glob : Gl X x) (at_ : X.mg x = some (.ref f)) (kept : PySem.W.keepIn X.K (.ref f) = true) (binds : KBinds X.K fd ps ks g gV) (pass : Passes CX0 X E) (named : PK X kws tk)
    (each : (backToKw pos (keywordEach kws X.env)).all (·.1.isSome) = true := by rfl) (names : (backToKw pos (keywordEach kws X.env)).filterMap (·.1) = ks := by rfl) (plainName : (x == ("__debug__" : Str)) = false := by decide)
    (plain : ((backTo pos (starEach [] X.env)).any (·.1) || (backToKw pos (keywordEach kws X.env)).any (·.1.isNone)) = false := by rfl) : PE X (.Call (.Name x p) [] kws pos) (tCallK sp gV E tNil tk) := by
  constructor
  intro pins s σ H Q I h
  have args := named.run pos pins s σ H _ I h
  refine wpAny_Call_Name_kw (ld_glob I glob at_ (PySem.W.callWith_KW0 (h₀ := X.base) I.ok.mod.kin kept each (thn args ?_) plain) plainName)
  rintro ws s2 ⟨zs, H2, I2, rz, q2⟩
  rw [names]
  exact ⟨I2.kIn, run_fnk (us := []) (vs := []) G room binds pass I2 .nil rz q2⟩
end
/-- one value by name -/
def sw1 {α : Type} : List α → List α → List α
  | [], [a] => [a]
  | _, _ => []
theorem sw1_vals {vs zs : List V} {us ws : List Value} (r : Vals vs us) (rz : Vals zs ws) : Vals (sw1 vs zs) (sw1 us ws) := by
  cases r with
  | cons _ _ => exact .nil
  | nil => cases rz with
    | nil => exact .nil
    | cons r1 r2 => cases r2 with
      | nil => exact .cons r1 .nil
      | cons _ _ => exact .nil
section
variable {P : Program} {w : World} {K : PySem.W.Frag} {mg : Str → Option Value} {base : Heap}
theorem kb_mill {f : Addr} {fd : FuncData} (F : Fun K "mill" "mill" sMill f fd) : KBinds K fd ["pick"] ["pick"] sw1 sw1 := by
  obtain ⟨v1, v2, v3, v4, v5, v6, v7, v8, v9, rfl, _, _⟩ := F.ex
  refine ⟨fun s us ws _ hl => ?_, fun r rz => sw1_vals r rz⟩
  match us, ws, hl with
  | [], [a], _ => exact .of_eq rfl
  | [], [], hl => cases hl
  | [], _ :: _ :: _, hl => cases hl
  | _ :: _, _, hl => cases hl
end
end C2

namespace C2
set_option Elab.async false
set_option linter.all false
set_option maxRecDepth 100000
set_option maxHeartbeats 1000000
open PySem PySem.Spec PyProof.Rows L2
theorem ifS_join {c : Bool} {ta : TS} {D : Ends} {σ : L2.St} {H : Hp} (C : L2.St → Hp → Prop) (hk : ∀ σ' H', C σ' H' → D.nx σ' H') (ha : (∀ σ' H', C σ' H' → D.nx σ' H') → c = true → ta D σ H) (hb : ¬ c = true → C σ H) : if c = true then ta D σ H else tNext D σ H := by
  by_cases e : c = true
  · rw [if_pos e]; exact ha hk e
  · rw [if_neg e]; exact hk _ _ (hb e)
theorem and_false {c : Bool} {u : TT} {σ : L2.St} {H : Hp} {Q : Bool → Hp → Prop} (C : Hp → Prop) (h0 : C H) (hf : ∀ H', C H' → Q false H') (h1 : (∀ H', C H' → Q false H') → c = true → u σ H Q) : if c = true then u σ H Q else Q false H := by
  by_cases e : c = true
  · rw [if_pos e]; exact h1 hf e
  · rw [if_neg e]; exact hf H h0
section
variable {P : Program} {w : World} {K : PySem.W.Frag} {mg : Str → Option Value} {base : Heap}
abbrev NLw : List Str := ["_law_script", "_law_k", "_law_pot_here", "_law_a", "_law_b", "_law_turn", "_law_chosen", "_law_built", "_law_kept", "_law_found", "_law_due"]
theorem scLaw : FnScope NLw ["_law_script"] (defScope sLaw) := ⟨rfl, rfl, rfl, by decide +kernel, rfl, by decide +kernel, by decide +kernel⟩
def spLaw (K : PySem.W.Frag) : Sp := fun vs H Q _ => ∃ (a : Addr) (ns : List Int), vs = [.ref a] ∧ SqL K H a (ns.map V.int) ∧ ns.length ≤ 63 ∧ ∀ H', Q (.bl true) H'
def tDue (K : PySem.W.Frag) : TE := tCB (rReprA K) (tCons (tIf (tTest (tOp (rNeD K) (tVar 9) (tLst tNil))) (tOp (rIxL K) (tVar 9) (tC (V.int 0))) (tC V.non)) tNil)
/-- what is due, as a text -/
theorem due_ok {σ : L2.St} {H G : Hp} {Q : VK} {D : Addr} {L : List (List Int)} (h9 : σ[9]? = some (some (.ref D))) (I : GrowV (vI L) H D G) (fl : Fine (.list (L.map dT))) (mem : ∀ x ∈ L, Fine (dT x))
    (q : ∀ (S : Str) G', Same G G' → (L = [] → S = "None") → (∀ x r, L = x :: r → S = (dT x).shown) → Q (.str S) G') : tDue K σ G Q := by
  refine ⟨.ref D, h9, by decide, fun l nl => ?_⟩
  have s2 := same_upd (o := .lst []) nl
  have I2 := I.same s2
  refine ⟨_, _, I2.dp, .lst (.inl (.inl upd_same)) .nil, fl.sp, fineNil.sp, ?_⟩
  rw [eqv_nil]
  cases L with
  | nil => exact ⟨false, rfl, iteF (.inl (.inl ⟨rfl, q _ _ s2 (fun _ => rfl) fun x r e => nomatch e⟩))⟩
  | cons m r =>
    have f5 := mem m List.mem_cons_self
    have qm := fun (S : Str) G' (s : Same G G') (e : S = (dT m).shown) => q S G' s (fun e => nomatch e) (fun x r' e' => by cases e'; exact e)
    have dd : ∀ (G' : Hp) (T' : Addr), G' T' = some (.tup (m.map V.int)) → Dp K G' (.ref T') (dT m) := fun G' T' h => .tup (.inl (.inl h)) (dpAll K G' m)
    generalize dT m = dm at f5 dd qm
    refine ⟨true, rfl, iteT ?_⟩
    obtain ⟨cs, _, hD, hc, e⟩ := I2
    have e' : cs.map (·.2) = m.map V.int :: vI r := e
    cases cs with
    | nil => cases e'
    | cons c cs =>
      have ec : c.2 = m.map V.int := (List.cons.inj e').1
      have hcc := hc c List.mem_cons_self
      rw [ec] at hcc
      exact ⟨.ref D, h9, D, _, 0, .ref c.1, rfl, rfl, .inl (.inl hD), atI_nat (j := 0) rfl, .inr ⟨c.1, dm, rfl, dd _ _ hcc, f5.sh, f5.hd, f5.dp, f5.ln, qm _ _ s2 rfl⟩⟩
/-- repr of the mill that is told, beside what is due -/
theorem mtext_ok {tm : TE} {σ : L2.St} {G : Hp} {Q : Bool → Hp → Prop} {a : Nat} {xs ys : List Int} {S : Str} {L : List (List Int)} (htm : ∀ R : VK, Told G (millP xs ys a) R → tm σ G R) (h10 : σ[10]? = some (some (.str S))) (mf : millP xs ys a = L.head?) (mem : ∀ x ∈ L, Fine (dT x))
    (e0 : L = [] → S = "None") (e1 : ∀ x r, L = x :: r → S = (dT x).shown) (q : ∀ H', Same G H' → Q false H') : tTest (tOp rNe (tCB (rReprA K) (tCons tm tNil)) (tVar 10)) σ G Q := by
  show tm σ G _
  have en : ∀ T : Str, (!decide (V.str T = V.str T)) = false := fun T => by rw [decide_eq_true rfl]; rfl
  refine htm _ ⟨fun em H1 s1 => ?_, fun m em H1 T s1 nT hT => ?_⟩
  · have eL : L = [] := by
      rw [em] at mf
      cases L with
      | nil => rfl
      | cons x r => cases mf
    have es := e0 eL
    subst es
    refine .inl (.inl ⟨rfl, .str "None", h10, rfl, ?_⟩)
    rw [en]
    exact ⟨false, rfl, q _ s1⟩
  · obtain ⟨r, eL⟩ : ∃ r, L = m :: r := by
      rw [em] at mf
      cases L with
      | nil => cases mf
      | cons x r => exact ⟨r, by rw [Option.some.inj mf]⟩
    have f5 := mem m (by rw [eL]; exact List.mem_cons_self)
    have es := e1 m r eL
    have dd : Dp K H1 (.ref T) (dT m) := .tup (.inl (.inl hT)) (dpAll K H1 m)
    generalize dT m = dm at f5 dd es
    subst es
    refine .inr ⟨T, dm, rfl, dd, f5.sh, f5.hd, f5.dp, f5.ln, .str dm.shown, h10, rfl, ?_⟩
    rw [en]
    exact ⟨false, rfl, q _ s1⟩
/-- a mill that was built -/
def Built (xs ys : List Int) (a b : Nat) (G : Hp) (v : V) : Prop := v = .non ∨ ∃ (th : Addr) (i k j l : Nat) (turn : Int), v = .ref th ∧ G th = some (.tup [.int (i : Int), .int (k : Int), .int (j : Int), .int (l : Int), .int turn]) ∧ i < k ∧ k < a ∧ j < l ∧ l < b ∧ (turn = 1 ∨ turn = -1) ∧ isMillB xs ys i k j l turn = true
theorem ok_law {f fPo fT fPk fR f2 fFa fMs fPr fLM fC fMi fL fS fB fIm fW fBt fU fPb fM cF cB : Addr} {fd fdPo fdT fdPk fdR fd2 fdFa fdMs fdPr fdLM fdC fdMi fdL fdS fdB fdIm fdW fdBt fdU fdPb fdM : FuncData} (F : Fun K "law" "law" sLaw f fd) (FPo : Fun K "_law_pot" "_law_pot" sDraws fPo fdPo) (FT : Fun K "_law_take" "_law_take" sTake fT fdT) (FPk : Fun K "_law_pick" "_law_pick" sPick fPk fdPk) (FR : Fun K "_law_round" "_law_round" sRound fR fdR) (F2 : Fun K "_law_two" "_law_two" sTwo f2 fd2) (FFa : Fun K "_law_far_right" "_law_far_right" sFar fFa fdFa) (FMs : Fun K "_law_mills" "_law_mills" sMills fMs fdMs) (FPr : Fun K "_law_pairs" "_law_pairs" sPairs fPr fdPr) (FLM : Fun K "_law_is_mill" "_law_is_mill" sLMill fLM fdLM) (FC : Fun K "_law_comes" "_law_comes" sLComes fC fdC) (FMi : Fun K "mill" "mill" sMill fMi fdMi) (FL : Fun K "leg_to_both" "leg_to_both" sLegB fL fdL) (FS : Fun K "size_of_pick" "size_of_pick" sSizeP fS fdS) (FB : Fun K "mill_between" "mill_between" sMillB fB fdB) (FIm : Fun K "is_mill" "is_mill" sIsMill fIm fdIm) (FW : Fun K "is_whole" "is_whole" sPWhole fW fdW) (FBt : Fun K "is_between" "is_between" sBetween fBt fdBt) (FU : Fun K "is_tuple_of" "is_tuple_of" sTupOf fU fdU) (FPb : Fun K "is_pair_below" "is_pair_below" sPairB fPb fdPb) (FM : Fun K "comes" "comes" sComes fM fdM)
    (bPo : Binds K fdPo ["_law_script", "_law_k"] []) (bT : Binds K fdT ["_law_pot_here", "_law_many"] []) (bPk : Binds K fdPk ["_law_pot_here", "_law_a", "_law_b"] []) (bR : Binds K fdR ["_law_pot_here", "_law_a", "_law_b", "_law_chosen"] []) (b2 : Binds K fd2 ["_law_pot_here", "_law_many"] []) (bFa : Binds K fdFa ["_law_pot_here", "_law_a", "_law_b"] []) (bMs : Binds K fdMs ["_law_chosen"] []) (bPr : Binds K fdPr ["_law_many"] []) (bLM : Binds K fdLM ["_law_chosen", "_law_i", "_law_k", "_law_j", "_law_l", "_law_turn"] []) (bC : Binds K fdC ["_law_chosen", "_law_i", "_law_j"] []) (bMi : Binds K fdMi ["pick"] []) (bL : Binds K fdL ["x", "i", "k"] []) (bS : Binds K fdS ["pick"] []) (bB : Binds K fdB ["pick", "i", "k"] []) (bIm : Binds K fdIm ["pick", "thing"] []) (bW : Binds K fdW ["thing"] []) (bBt : Binds K fdBt ["thing", "least", "most"] []) (bU : Binds K fdU ["thing", "many"] []) (bPb : Binds K fdPb ["one", "other", "many"] []) (bM : Binds K fdM ["pick", "i", "j"] [])
    (gPo : mg "_law_pot" = some (.ref fPo)) (gT : mg "_law_take" = some (.ref fT)) (gPk : mg "_law_pick" = some (.ref fPk)) (gR : mg "_law_round" = some (.ref fR)) (g2 : mg "_law_two" = some (.ref f2)) (gFa : mg "_law_far_right" = some (.ref fFa)) (gMs : mg "_law_mills" = some (.ref fMs)) (gPr : mg "_law_pairs" = some (.ref fPr)) (gLM : mg "_law_is_mill" = some (.ref fLM)) (gC : mg "_law_comes" = some (.ref fC)) (gMi : mg "mill" = some (.ref fMi)) (gL : mg "leg_to_both" = some (.ref fL)) (gS : mg "size_of_pick" = some (.ref fS)) (gB : mg "mill_between" = some (.ref fB)) (gIm : mg "is_mill" = some (.ref fIm)) (gW : mg "is_whole" = some (.ref fW)) (gBt : mg "is_between" = some (.ref fBt)) (gU : mg "is_tuple_of" = some (.ref fU)) (gPb : mg "is_pair_below" = some (.ref fPb)) (gM : mg "comes" = some (.ref fM))
    (mi : mg "isinstance" = none) (mint : mg "int" = none) (mbool : mg "bool" = none) (mtup : mg "tuple" = none) (ml : mg "len" = none) (mall : mg "all" = none) (mr : mg "range" = none) (mmin : mg "min" = none) (mmax : mg "max" = none) (mrep : mg "repr" = none) (ma : mg "abs" = none) (ms : mg "sorted" = none) (mlist : mg "list" = none)
    (gF : mg "LEGS_FORTH" = some (.ref cF)) (gK : mg "LEGS_BACK" = some (.ref cB)) (hF : ∀ G : Hp, SqT K G cF [.int 0, .int 1, .int 2, .int 3]) (hB : ∀ G : Hp, SqT K G cB [.int 2, .int 3, .int 0, .int 1]) :
    FnG P w K mg base 6 f fd ["_law_script"] (spLaw K) := by
  have GPo : FnOk P w K mg base CX0 1 fPo fdPo ["_law_script", "_law_k"] (spDraws K) := ok_draws FPo ml ma
  have GT : FnOk P w K mg base CX0 1 fT fdT ["_law_pot_here", "_law_many"] spTake := ok_take FT
  have GPk : FnOk P w K mg base CX0 2 fPk fdPk ["_law_pot_here", "_law_a", "_law_b"] spPick := ok_pick FPk FT bT gT mr mtup ms ml
  have GR : FnOk P w K mg base CX0 3 fR fdR ["_law_pot_here", "_law_a", "_law_b", "_law_chosen"] spRound := ok_round FR FT F2 bT b2 gT g2 mtup mlist
  have GMs : FnOk P w K mg base CX0 3 fMs fdMs ["_law_chosen"] spMills := ok_mills FMs FPr FLM FC bPr bLM bC gPr gLM gC mint mall mr ml
  have GMi : FnOk P w K mg base CX0 3 fMi fdMi ["pick"] spMill := ok_mill FMi FL FS FB bL bS bB gL gS gB mr mmin mmax ml
  have GFa : FnOk P w K mg base CX0 5 fFa fdFa ["_law_pot_here", "_law_a", "_law_b"] spFar := ok_far FFa FPk FT FR F2 FLM FC FMi FL FS FB FIm FW FBt FU FPb FM bPk bT bR b2 bLM bC bMi bL bS bB bIm bW bBt bU bPb bM gPk gT gR g2 gLM gC gMi gL gS gB gIm gW gBt gU gPb gM mi mint mbool mtup ml mall mr mmin mmax ms mlist gF gK hF hB
  have kMi := kb_mill FMi
  have u65 : ∀ {A' : Around}, Room 5 A' → A'.units + 65 < cLine := fun r => by have := r.un; omega
  refine okG F scLaw (fun vs H Q E h => ?_) (fun cdv A outer s H vs Q E hgd hr h => ?_)
  · obtain ⟨a, ns, rfl, _⟩ := h
    rfl
  · obtain ⟨z, ns, rfl, hS, hlen, q⟩ := h
    have nd := scLaw.nd
    refine ⟨_, pss_cons (ps_for PassesOwn.never rfl (pi_range1 (by rfl) mr (pa_cons (pe_callB (call_max2 rfl) (by rfl) mmax (by decide +kernel) (pa_cons pe_int (pa_cons (pe_callB (call_min2 rfl) (by rfl) mmin (by decide +kernel) (pa_cons pe_int (pa_cons (pe_callB call_len_seq (by rfl) ml PySem.boot_len (pa_cons (pv 0) pa_nil)) pa_nil))) pa_nil))) pa_nil)) (pg_name (i := 1) nd rfl (.inl rfl)) (pss_cons (ps_set (i := 2) nd rfl (.inl rfl) (pe_call GPo (hr.mono (by decide)) (by rfl) gPo FPo.kp bPo .nil pass0 (pa_cons (pv 0) (pa_cons (pv 1) pa_nil))))
      (pss_cons (ps_par (i := 3) (j := 4) rfl nd rfl rfl (by decide) rfl rfl (pa_cons (pe_op op_add pe_int (pe_call GT (hr.mono (by decide)) (by rfl) gT FT.kp bT .nil pass0 (pa_cons (pv 2) (pa_cons pe_int pa_nil)))) (pa_cons (pe_op op_add pe_int (pe_call GT (hr.mono (by decide)) (by rfl) gT FT.kp bT .nil pass0 (pa_cons (pv 2) (pa_cons pe_int pa_nil)))) pa_nil)) rfl)
      (pss_cons (ps_for PassesOwn.never rfl (pi_range1 (by rfl) mr (pa_cons pe_int pa_nil)) (pg_name (i := 5) nd rfl (.inl rfl)) (pss_cons (ps_par (i := 6) (j := 7) rfl nd rfl rfl (by decide) rfl rfl (pa_cons (pe_call GPk (hr.mono (by decide)) (by rfl) gPk FPk.kp bPk .nil pass0 (pa_cons (pv 2) (pa_cons (pv 3) (pa_cons (pv 4) pa_nil)))) (pa_cons pe_non pa_nil)) rfl)
      (pss_cons (ps_if (pt_cmpR op_eq (pe_op op_mod (pv 5) pe_int) pe_int (nomark _)) (pss_one (ps_asg (pe_call GR (hr.mono (by decide)) (by rfl) gR FR.kp bR .nil pass0 (pa_cons (pv 2) (pa_cons (pv 3) (pa_cons (pv 4) (pa_cons (pv 6) pa_nil))))) (pg_tup rfl (pgs_cons (pg_name (i := 6) nd rfl (.inl rfl)) (pgs_cons (pg_name (i := 7) nd rfl (.inl rfl)) pgs_nil))))) pss_nil)
      (pss_cons (ps_par (i := 8) (j := 9) rfl nd rfl rfl (by decide) rfl rfl (pa_cons (pe_callB (call_reprA hr.units hgd) (by rfl) mrep (by decide +kernel) (pa_cons (pv 6) pa_nil)) (pa_cons (pe_call GMs (hr.mono (by decide)) (by rfl) gMs FMs.kp bMs .nil pass0 (pa_cons (pv 6) pa_nil)) pa_nil)) rfl)
      (pss_cons (ps_set (i := 10) nd rfl (.inl rfl) (pe_callB (call_reprA hr.units hgd) (by rfl) mrep (by decide +kernel) (pa_cons (pe_ifExp (pt_cmpR (op_neD hr.units) (pv 9) (pe_lst pa_nil) (nomark _)) (pe_ix ix_list (pv 9) pe_int (fun _ _ => rfl)) pe_non) pa_nil)))
      (pss_cons (ps_if (PW.pt (pw_or (pt_cmpR op_ne (pe_callB (call_reprA hr.units hgd) (by rfl) mrep (by decide +kernel) (pa_cons (pe_call GMi (hr.mono (by decide)) (by rfl) gMi FMi.kp bMi .nil pass0 (pa_cons (pv 6) pa_nil)) pa_nil)) (pv 10) (nomark _)) (pw_or (pt_cmpR op_ne (pe_callB (call_reprA hr.units hgd) (by rfl) mrep (by decide +kernel) (pa_cons (pe_callKW GMi (hr.mono (by decide)) (by rfl) gMi FMi.kp kMi pass0 (pk_cons (pv 6) pk_nil)) pa_nil)) (pv 10) (nomark _)) (pw_or1 (pt_cmpR op_ne (pe_callB (call_reprA hr.units hgd) (by rfl) mrep (by decide +kernel) (pa_cons (pv 6) pa_nil)) (pv 8) (nomark _)))))) (pss_one (ps_ret pe_bl)) pss_nil)
      (pss_one (ps_if (PW.pt (pw_and (pt_cmpR op_notN (pv 7) pe_non (nomark _)) (pw_and1 (pt_cmpR (op_notInD (u65 hr)) (pv 7) (pv 9) (by rfl))))) (pss_one (ps_ret pe_bl)) pss_nil))))))))
      (pss_one (ps_if (PW.pt (pw_and (pt_cmpR op_eq (pe_call GT (hr.mono (by decide)) (by rfl) gT FT.kp bT .nil pass0 (pa_cons (pv 2) (pa_cons pe_int pa_nil))) pe_int (nomark _)) (pw_and1 (pt_not (pt_val (pe_call GFa hr (by rfl) gFa FFa.kp bFa .nil pass0 (pa_cons (pv 2) (pa_cons pe_int (pa_cons pe_int pa_nil))))))))) (pss_one (ps_ret pe_bl)) pss_nil))))))
      (pss_one (ps_ret pe_bl)), ?_⟩
    refine ⟨.ref z, rfl, z, _, rfl, .inl hS, 3, _, rfl, 1, _, rfl, _, rfl, ?_, ?_, ?_⟩
    · split <;> split <;> omega
    · rw [List.length_map]
      split <;> split <;> omega
    · refine for_range (lo := 0) (n := _) (fun i σ G => SqL K G z (ns.map V.int) ∧ ∃ y1 y2 y3 y4 y5 y6 y7 y8 y9 y10, σ = [some (.ref z), y1, y2, y3, y4, y5, y6, y7, y8, y9, y10]) ⟨hS, _, _, _, _, _, _, _, _, _, _, rfl⟩ ?_ ?_
      · rintro i σ G hi ⟨hSG, y1, y2, y3, y4, y5, y6, y7, y8, y9, y10, rfl⟩
        have hi3 : i < 3 := by
          rw [List.length_map] at hi
          revert hi
          split <;> split <;> omega
        rw [Int.zero_add]
        refine ⟨.ref z, rfl, .int (i : Int), rfl, z, ns, i, rfl, hSG, by omega, fun H1 p sm1 np hP1 => ?_⟩
        refine ⟨.ref p, rfl, p, 5, 0, rfl, hP1, by decide, by decide, by decide, fun d1 H2 f2 P2 d10 d11 => ⟨_, _, rfl, rfl, .ref p, rfl, p, 5, 1, rfl, P2, by decide, by decide, by decide, fun d2 H3 f3 P3 d20 d21 => ⟨_, _, rfl, rfl, _, _, rfl, ?_⟩⟩⟩
        obtain ⟨a, ha, a2, a6⟩ : ∃ a : Nat, (2 + d1 : Int) = (a : Int) ∧ 2 ≤ a ∧ a ≤ 6 := ⟨(2 + d1).toNat, by omega, by omega, by omega⟩
        obtain ⟨b, hb, bb2, b6⟩ : ∃ b : Nat, (2 + d2 : Int) = (b : Int) ∧ 2 ≤ b ∧ b ≤ 6 := ⟨(2 + d2).toNat, by omega, by omega, by omega⟩
        show tSeq _ _ _ [some (.ref z), some (.int (i : Int)), some (.ref p), some (.int (2 + d1)), some (.int (2 + d2)), y5, y6, y7, y8, y9, y10] _
        rw [ha, hb]
        have fr3 : Fr p G H3 := (Fr.same sm1).trans (f2.trans f3)
        show tSeq _ _ _ [some (.ref z), some (.int (i : Int)), some (.ref p), some (.int (a : Int)), some (.int (b : Int)), y5, y6, y7, y8, y9, y10] _
        refine ⟨6, rfl, by decide, by decide, ?_⟩
        refine for_range (lo := 0) (n := 6) (fun m σ G' => Fr p G G' ∧ PotAt G' p (2 + 310 * m) ∧ ∃ y5 y6 y7 y8 y9 y10, σ = [some (.ref z), some (.int (i : Int)), some (.ref p), some (.int (a : Int)), some (.int (b : Int)), y5, y6, y7, y8, y9, y10]) ⟨fr3, P3, _, _, _, _, _, _, rfl⟩ ?_ ?_
        · rintro m σ G4 hm ⟨fr4, P4, y5, y6, y7, y8, y9, y10, rfl⟩
          rw [Int.zero_add]
          refine ⟨.ref p, rfl, .int (a : Int), rfl, .int (b : Int), rfl, p, a, b, 2 + 310 * m, rfl, by omega, by omega, P4, by omega, fun t xs ys H5 f5 P5 pk => ⟨_, _, rfl, ?_⟩⟩
          show tSeq _ _ _ [some (.ref z), some (.int (i : Int)), some (.ref p), some (.int (a : Int)), some (.int (b : Int)), some (.int (m : Int)), some (.ref t), some .non, y8, y9, y10] _
          refine ⟨.int (m : Int), rfl, _, _, rfl, rfl, (by show (0 : Int) < 2; decide), rfl, _, rfl, ?_⟩
          have fr5 := fr4.trans f5
          refine ifS_join (fun σ' H' => ∃ (t : Addr) (v : V) (xs ys : List Int), Fr p G H' ∧ PotAt H' p (2 + 310 * (m + 1)) ∧ PickAt H' t a b xs ys ∧ Built xs ys a b H' v ∧ σ' = [some (.ref z), some (.int (i : Int)), some (.ref p), some (.int (a : Int)), some (.int (b : Int)), some (.int (m : Int)), some (.ref t), some v, y8, y9, y10]) ?_ (fun hk e => ?_) (fun e => ?_)
          · rintro σ' H6 ⟨t, v, xs, ys, fr6, P6, pk, bu, rfl⟩
            obtain ⟨tx, ty, h1, h2, h3, l1, l2, u1, u2⟩ := id pk
            have fp := finePick (show a ≤ 40 by omega) (show b ≤ 40 by omega) l1 l2 u1 u2
            have dk : ∀ (G' : Hp), Same H6 G' → Dp K G' (.ref t) (dPick xs ys) := fun G' s => (pk.same s).dp
            have mf : millP xs ys a = (millsL xs ys a b).head? := mill_first l2 u2
            have inn := fun i k j l t ik ka jl lb ht hm => mills_in (xs := xs) (ys := ys) (a := a) (b := b) (i := i) (k := k) (j := j) (l := l) (t := t) ik ka jl lb ht hm
            have fl := fineL (xs := xs) (ys := ys) a6 b6
            have mem := fun x (hx : x ∈ millsL xs ys a b) => fine5 (mills_fives a6 b6 hx)
            generalize dPick xs ys = dp at fp dk
            refine ⟨.ref t, rfl, .inr ⟨t, dp, rfl, dk _ (Same.refl _), fp.sh, fp.hd, fp.dp, fp.ln, ?_⟩⟩
            refine ⟨.ref t, rfl, t, a, b, xs, ys, rfl, pk, a6, b6, fun H7 D I7 nD => ⟨_, _, rfl, ?_⟩⟩
            generalize millsL xs ys a b = L at mf inn fl mem I7
            have s7 := I7.sub
            show tSeq (tAsg (tDue K) (gName 10)) _ _ [some (.ref z), some (.int (i : Int)), some (.ref p), some (.int (a : Int)), some (.int (b : Int)), some (.int (m : Int)), some (.ref t), some v, some (.str dp.shown), some (.ref D), y10] _
            refine seqAsg (due_ok rfl I7 fl mem fun S H8 s8 e0 e1 => ?_)
            have pk8 := pk.same (s7.trans s8)
            show tSeq _ _ _ [some (.ref z), some (.int (i : Int)), some (.ref p), some (.int (a : Int)), some (.int (b : Int)), some (.int (m : Int)), some (.ref t), some v, some (.str dp.shown), some (.ref D), some (.str S)] _
            refine mtext_ok (a := a) (xs := xs) (ys := ys) (fun R h => ⟨.ref t, rfl, t, a, b, xs, ys, rfl, pk8, by omega, by omega, h⟩) rfl mf mem e0 e1 fun H9 s9 => iteF ?_
            refine mtext_ok (a := a) (xs := xs) (ys := ys) (fun R h => ⟨.ref t, rfl, t, a, b, xs, ys, rfl, pk8.same s9, by omega, by omega, h⟩) rfl mf mem e0 e1 fun H10 s10 => iteF ?_
            have s610 := s7.trans (s8.trans (s9.trans s10))
            have en : (!decide (V.str dp.shown = V.str dp.shown)) = false := by rw [decide_eq_true rfl]; rfl
            refine ⟨.ref t, rfl, .inr ⟨t, dp, rfl, dk _ s610, fp.sh, fp.hd, fp.dp, fp.ln, .str dp.shown, rfl, rfl, ?_⟩⟩
            rw [en]
            refine ⟨false, rfl, iteF ?_⟩
            rcases bu with rfl | ⟨th, i', k', j', l', t', rfl, hth, ik, ka, jl, lb, ht, hm'⟩
            · refine ⟨.non, rfl, rfl, false, rfl, iteF (iteF ?_)⟩
              exact ⟨fr6.trans (Fr.same s610), P6.same s610, _, _, _, _, _, _, rfl⟩
            · refine ⟨.ref th, rfl, rfl, true, rfl, iteT ?_⟩
              have df : Dp K H10 (.ref th) (dT (five (i', k') (j', l') t')) := .tup (.inl (.inl (s610 _ _ hth))) (dpAll K H10 (five (i', k') (j', l') t'))
              have mm := inn i' k' j' l' t' ik ka jl lb ht hm'
              refine ⟨.ref th, rfl, .ref D, rfl, _, _, df, (I7.same (s8.trans (s9.trans s10))).dp, shapedT _, fl.sp, ?_⟩
              rw [any_dT, List.contains_iff_mem.mpr mm]
              refine ⟨false, rfl, iteF ?_⟩
              exact ⟨fr6.trans (Fr.same s610), P6.same s610, _, _, _, _, _, _, rfl⟩
          · refine ⟨.ref p, rfl, .int (a : Int), rfl, .int (b : Int), rfl, .ref t, rfl, p, t, a, b, 2 + 310 * m + 300, xs, ys, rfl, a2, by omega, bb2, by omega, P5, by omega, pk, fun T t2 th xs' ys' i' k' j' l' turn H6 f6 P6 hT pk6 hth ik ka jl lb ht hm' => ?_⟩
            refine ⟨T, _, rfl, .inl (.inl hT), rfl, _, _, rfl, _, _, rfl, rfl, ?_⟩
            exact hk _ _ ⟨t2, .ref th, xs', ys', fr5.trans f6, P6.mono (by omega), pk6, .inr ⟨th, i', k', j', l', turn, rfl, hth, ik, ka, jl, lb, ht, hm'⟩, rfl⟩
          · exact ⟨t, .non, xs, ys, fr5, P5.mono (by omega), pk, .inl rfl, rfl⟩
        · rintro σ G4 ⟨fr4, P4, y5, y6, y7, y8, y9, y10, rfl⟩
          refine ⟨.ref p, rfl, p, 4, 2 + 310 * 6, rfl, P4, by decide, by decide, by decide, fun d3 H5 f5 P5 d30 d31 => ⟨rfl, _, rfl, ?_⟩⟩
          refine and_false (fun H' => Fr p G H') (fr4.trans f5) ?_ fun hk e => ?_
          · intro H6 fr6
            refine iteF ?_
            exact ⟨freshSeq hSG np fr6, _, _, _, _, _, _, _, _, _, _, rfl⟩
          · exact ⟨.ref p, rfl, p, 40, 40, 2 + 310 * 6 + 1, rfl, by decide, by decide, by decide, by decide, P5, by decide, fun H6 f6 P6 => ⟨true, rfl, hk _ (fr4.trans (f5.trans f6))⟩⟩
      · rintro σ G ⟨hSG, y1, y2, y3, y4, y5, y6, y7, y8, y9, y10, rfl⟩
        exact q G
end
end C2

namespace C2
set_option Elab.async false
set_option linter.all false
set_option maxRecDepth 100000
set_option maxHeartbeats 4000000
open PySem PySem.Spec PyProof.Rows L2
theorem all_mk {l : PySem.W.OpenLaw} {w : World} {K : PySem.W.Frag} {h : Heap} {mg : Str → Option Value} {fa f1 f2 f3 f4 f5 f6 f7 f8 f9 f10 f11 f12 f13 f14 f15 f16 f17 f18 f19 f20 f21 : Addr} (X : K.In h) (G : h.Ns mainGlobals mg) (hfa : mg "law" = some (.ref fa))
    {od1 an1 od2 an2 od3 an3 od4 an4 od5 an5 od6 an6 od7 an7 od8 an8 od9 an9 od10 an10 od11 an11 od12 an12 od13 an13 od14 an14 od15 an15 od16 an16 od17 an17 od18 an18 od19 an19 od20 an20 od21 an21 : Option Addr} {sl1 sl2 sl3 sl4 sl5 sl6 sl7 sl8 sl9 sl10 sl11 sl12 sl13 sl14 sl15 sl16 sl17 sl18 sl19 sl20 sl21 : Array (Option Value)}
    {oc1 kV1 dc1 pm1 cd1 ct1 oc2 kV2 dc2 pm2 cd2 ct2 oc3 kV3 dc3 pm3 cd3 ct3 oc4 kV4 dc4 pm4 cd4 ct4 oc5 kV5 dc5 pm5 cd5 ct5 oc6 kV6 dc6 pm6 cd6 ct6 oc7 kV7 dc7 pm7 cd7 ct7 oc8 kV8 dc8 pm8 cd8 ct8 oc9 kV9 dc9 pm9 cd9 ct9 oc10 kV10 dc10 pm10 cd10 ct10 oc11 kV11 dc11 pm11 cd11 ct11 oc12 kV12 dc12 pm12 cd12 ct12 oc13 kV13 dc13 pm13 cd13 ct13 oc14 kV14 dc14 pm14 cd14 ct14 oc15 kV15 dc15 pm15 cd15 ct15 oc16 kV16 dc16 pm16 cd16 ct16 oc17 kV17 dc17 pm17 cd17 ct17 oc18 kV18 dc18 pm18 cd18 ct18 oc19 kV19 dc19 pm19 cd19 ct19 oc20 kV20 dc20 pm20 cd20 ct20 oc21 kV21 dc21 pm21 cd21 ct21 : Value}
    (a1 : PySem.W.nsIn K mainGlobals "_law_pot" = some (some (.ref f1))) (l1 : K.lookup f1 = some ⟨oc1, od1, .func (PySem.W.fnOf "_law_pot" "_law_pot" (defArgs sDraws) (defBody sDraws) (defScope sDraws) .none kV1 dc1 pm1 an1 cd1 ct1), sl1⟩) (c1 : PySem.W.codeIn K cd1 "_law_pot" = true) (k1 : PySem.W.keepIn K (.ref f1) = true)
    (a2 : PySem.W.nsIn K mainGlobals "_law_take" = some (some (.ref f2))) (l2 : K.lookup f2 = some ⟨oc2, od2, .func (PySem.W.fnOf "_law_take" "_law_take" (defArgs sTake) (defBody sTake) (defScope sTake) .none kV2 dc2 pm2 an2 cd2 ct2), sl2⟩) (c2 : PySem.W.codeIn K cd2 "_law_take" = true) (k2 : PySem.W.keepIn K (.ref f2) = true)
    (a3 : PySem.W.nsIn K mainGlobals "_law_pick" = some (some (.ref f3))) (l3 : K.lookup f3 = some ⟨oc3, od3, .func (PySem.W.fnOf "_law_pick" "_law_pick" (defArgs sPick) (defBody sPick) (defScope sPick) .none kV3 dc3 pm3 an3 cd3 ct3), sl3⟩) (c3 : PySem.W.codeIn K cd3 "_law_pick" = true) (k3 : PySem.W.keepIn K (.ref f3) = true)
    (a4 : PySem.W.nsIn K mainGlobals "_law_round" = some (some (.ref f4))) (l4 : K.lookup f4 = some ⟨oc4, od4, .func (PySem.W.fnOf "_law_round" "_law_round" (defArgs sRound) (defBody sRound) (defScope sRound) .none kV4 dc4 pm4 an4 cd4 ct4), sl4⟩) (c4 : PySem.W.codeIn K cd4 "_law_round" = true) (k4 : PySem.W.keepIn K (.ref f4) = true)
    (a5 : PySem.W.nsIn K mainGlobals "_law_two" = some (some (.ref f5))) (l5 : K.lookup f5 = some ⟨oc5, od5, .func (PySem.W.fnOf "_law_two" "_law_two" (defArgs sTwo) (defBody sTwo) (defScope sTwo) .none kV5 dc5 pm5 an5 cd5 ct5), sl5⟩) (c5 : PySem.W.codeIn K cd5 "_law_two" = true) (k5 : PySem.W.keepIn K (.ref f5) = true)
    (a6 : PySem.W.nsIn K mainGlobals "_law_far_right" = some (some (.ref f6))) (l6 : K.lookup f6 = some ⟨oc6, od6, .func (PySem.W.fnOf "_law_far_right" "_law_far_right" (defArgs sFar) (defBody sFar) (defScope sFar) .none kV6 dc6 pm6 an6 cd6 ct6), sl6⟩) (c6 : PySem.W.codeIn K cd6 "_law_far_right" = true) (k6 : PySem.W.keepIn K (.ref f6) = true)
    (a7 : PySem.W.nsIn K mainGlobals "_law_mills" = some (some (.ref f7))) (l7 : K.lookup f7 = some ⟨oc7, od7, .func (PySem.W.fnOf "_law_mills" "_law_mills" (defArgs sMills) (defBody sMills) (defScope sMills) .none kV7 dc7 pm7 an7 cd7 ct7), sl7⟩) (c7 : PySem.W.codeIn K cd7 "_law_mills" = true) (k7 : PySem.W.keepIn K (.ref f7) = true)
    (a8 : PySem.W.nsIn K mainGlobals "_law_pairs" = some (some (.ref f8))) (l8 : K.lookup f8 = some ⟨oc8, od8, .func (PySem.W.fnOf "_law_pairs" "_law_pairs" (defArgs sPairs) (defBody sPairs) (defScope sPairs) .none kV8 dc8 pm8 an8 cd8 ct8), sl8⟩) (c8 : PySem.W.codeIn K cd8 "_law_pairs" = true) (k8 : PySem.W.keepIn K (.ref f8) = true)
    (a9 : PySem.W.nsIn K mainGlobals "_law_is_mill" = some (some (.ref f9))) (l9 : K.lookup f9 = some ⟨oc9, od9, .func (PySem.W.fnOf "_law_is_mill" "_law_is_mill" (defArgs sLMill) (defBody sLMill) (defScope sLMill) .none kV9 dc9 pm9 an9 cd9 ct9), sl9⟩) (c9 : PySem.W.codeIn K cd9 "_law_is_mill" = true) (k9 : PySem.W.keepIn K (.ref f9) = true)
    (a10 : PySem.W.nsIn K mainGlobals "_law_comes" = some (some (.ref f10))) (l10 : K.lookup f10 = some ⟨oc10, od10, .func (PySem.W.fnOf "_law_comes" "_law_comes" (defArgs sLComes) (defBody sLComes) (defScope sLComes) .none kV10 dc10 pm10 an10 cd10 ct10), sl10⟩) (c10 : PySem.W.codeIn K cd10 "_law_comes" = true) (k10 : PySem.W.keepIn K (.ref f10) = true)
    (a11 : PySem.W.nsIn K mainGlobals "mill" = some (some (.ref f11))) (l11 : K.lookup f11 = some ⟨oc11, od11, .func (PySem.W.fnOf "mill" "mill" (defArgs sMill) (defBody sMill) (defScope sMill) .none kV11 dc11 pm11 an11 cd11 ct11), sl11⟩) (c11 : PySem.W.codeIn K cd11 "mill" = true) (k11 : PySem.W.keepIn K (.ref f11) = true)
    (a12 : PySem.W.nsIn K mainGlobals "leg_to_both" = some (some (.ref f12))) (l12 : K.lookup f12 = some ⟨oc12, od12, .func (PySem.W.fnOf "leg_to_both" "leg_to_both" (defArgs sLegB) (defBody sLegB) (defScope sLegB) .none kV12 dc12 pm12 an12 cd12 ct12), sl12⟩) (c12 : PySem.W.codeIn K cd12 "leg_to_both" = true) (k12 : PySem.W.keepIn K (.ref f12) = true)
    (a13 : PySem.W.nsIn K mainGlobals "size_of_pick" = some (some (.ref f13))) (l13 : K.lookup f13 = some ⟨oc13, od13, .func (PySem.W.fnOf "size_of_pick" "size_of_pick" (defArgs sSizeP) (defBody sSizeP) (defScope sSizeP) .none kV13 dc13 pm13 an13 cd13 ct13), sl13⟩) (c13 : PySem.W.codeIn K cd13 "size_of_pick" = true) (k13 : PySem.W.keepIn K (.ref f13) = true)
    (a14 : PySem.W.nsIn K mainGlobals "mill_between" = some (some (.ref f14))) (l14 : K.lookup f14 = some ⟨oc14, od14, .func (PySem.W.fnOf "mill_between" "mill_between" (defArgs sMillB) (defBody sMillB) (defScope sMillB) .none kV14 dc14 pm14 an14 cd14 ct14), sl14⟩) (c14 : PySem.W.codeIn K cd14 "mill_between" = true) (k14 : PySem.W.keepIn K (.ref f14) = true)
    (a15 : PySem.W.nsIn K mainGlobals "is_mill" = some (some (.ref f15))) (l15 : K.lookup f15 = some ⟨oc15, od15, .func (PySem.W.fnOf "is_mill" "is_mill" (defArgs sIsMill) (defBody sIsMill) (defScope sIsMill) .none kV15 dc15 pm15 an15 cd15 ct15), sl15⟩) (c15 : PySem.W.codeIn K cd15 "is_mill" = true) (k15 : PySem.W.keepIn K (.ref f15) = true)
    (a16 : PySem.W.nsIn K mainGlobals "is_whole" = some (some (.ref f16))) (l16 : K.lookup f16 = some ⟨oc16, od16, .func (PySem.W.fnOf "is_whole" "is_whole" (defArgs sPWhole) (defBody sPWhole) (defScope sPWhole) .none kV16 dc16 pm16 an16 cd16 ct16), sl16⟩) (c16 : PySem.W.codeIn K cd16 "is_whole" = true) (k16 : PySem.W.keepIn K (.ref f16) = true)
    (a17 : PySem.W.nsIn K mainGlobals "is_between" = some (some (.ref f17))) (l17 : K.lookup f17 = some ⟨oc17, od17, .func (PySem.W.fnOf "is_between" "is_between" (defArgs sBetween) (defBody sBetween) (defScope sBetween) .none kV17 dc17 pm17 an17 cd17 ct17), sl17⟩) (c17 : PySem.W.codeIn K cd17 "is_between" = true) (k17 : PySem.W.keepIn K (.ref f17) = true)
    (a18 : PySem.W.nsIn K mainGlobals "is_tuple_of" = some (some (.ref f18))) (l18 : K.lookup f18 = some ⟨oc18, od18, .func (PySem.W.fnOf "is_tuple_of" "is_tuple_of" (defArgs sTupOf) (defBody sTupOf) (defScope sTupOf) .none kV18 dc18 pm18 an18 cd18 ct18), sl18⟩) (c18 : PySem.W.codeIn K cd18 "is_tuple_of" = true) (k18 : PySem.W.keepIn K (.ref f18) = true)
    (a19 : PySem.W.nsIn K mainGlobals "is_pair_below" = some (some (.ref f19))) (l19 : K.lookup f19 = some ⟨oc19, od19, .func (PySem.W.fnOf "is_pair_below" "is_pair_below" (defArgs sPairB) (defBody sPairB) (defScope sPairB) .none kV19 dc19 pm19 an19 cd19 ct19), sl19⟩) (c19 : PySem.W.codeIn K cd19 "is_pair_below" = true) (k19 : PySem.W.keepIn K (.ref f19) = true)
    (a20 : PySem.W.nsIn K mainGlobals "comes" = some (some (.ref f20))) (l20 : K.lookup f20 = some ⟨oc20, od20, .func (PySem.W.fnOf "comes" "comes" (defArgs sComes) (defBody sComes) (defScope sComes) .none kV20 dc20 pm20 an20 cd20 ct20), sl20⟩) (c20 : PySem.W.codeIn K cd20 "comes" = true) (k20 : PySem.W.keepIn K (.ref f20) = true)
    (a21 : PySem.W.nsIn K mainGlobals "law" = some (some (.ref f21))) (l21 : K.lookup f21 = some ⟨oc21, od21, .func (PySem.W.fnOf "law" "law" (defArgs sLaw) (defBody sLaw) (defScope sLaw) .none kV21 dc21 pm21 an21 cd21 ct21), sl21⟩) (c21 : PySem.W.codeIn K cd21 "law" = true) (k21 : PySem.W.keepIn K (.ref f21) = true)
    (z1 : PySem.W.nsIn K mainGlobals "isinstance" = some none) (z2 : PySem.W.nsIn K mainGlobals "int" = some none) (z3 : PySem.W.nsIn K mainGlobals "bool" = some none) (z4 : PySem.W.nsIn K mainGlobals "tuple" = some none) (z5 : PySem.W.nsIn K mainGlobals "len" = some none) (z6 : PySem.W.nsIn K mainGlobals "all" = some none) (z7 : PySem.W.nsIn K mainGlobals "range" = some none) (z8 : PySem.W.nsIn K mainGlobals "min" = some none) (z9 : PySem.W.nsIn K mainGlobals "max" = some none) (z10 : PySem.W.nsIn K mainGlobals "repr" = some none) (z11 : PySem.W.nsIn K mainGlobals "abs" = some none) (z12 : PySem.W.nsIn K mainGlobals "sorted" = some none) (z13 : PySem.W.nsIn K mainGlobals "list" = some none)
    {cF : Addr} {ddF : Option Addr} {nF : Nat} {sqF : Array (Option Value)} {xF0 xF1 xF2 xF3 : Nat} (gF : PySem.W.nsIn K mainGlobals "LEGS_FORTH" = some (some (.ref cF))) (uF : K.lookup cF = some ⟨.type "tuple", ddF, .seq #[.int 0 xF0, .int 1 xF1, .int 2 xF2, .int 3 xF3] nF, sqF⟩)
    {cB : Addr} {ddB : Option Addr} {nB : Nat} {sqB : Array (Option Value)} {xB0 xB1 xB2 xB3 : Nat} (gB : PySem.W.nsIn K mainGlobals "LEGS_BACK" = some (some (.ref cB))) (uB : K.lookup cB = some ⟨.type "tuple", ddB, .seq #[.int 2 xB0, .int 3 xB1, .int 0 xB2, .int 1 xB3] nB, sqB⟩) :
    ∃ fd : FuncData, (∀ (s : Shared) (v : Value), BindsTo s fd ⟨[v], []⟩ [("_law_script", v)]) ∧ ∀ base : Heap, K.In base → base.Ns mainGlobals mg → FnG l.prog w K mg base 6 fa fd ["_law_script"] (spLaw K) := by
  have e := hfa.symm.trans (PySem.W.mg_of X G a21)
  cases e
  have F1 := fun_mk (st := sDraws) l1 c1 k1
  have F2 := fun_mk (st := sTake) l2 c2 k2
  have F3 := fun_mk (st := sPick) l3 c3 k3
  have F4 := fun_mk (st := sRound) l4 c4 k4
  have F5 := fun_mk (st := sTwo) l5 c5 k5
  have F6 := fun_mk (st := sFar) l6 c6 k6
  have F7 := fun_mk (st := sMills) l7 c7 k7
  have F8 := fun_mk (st := sPairs) l8 c8 k8
  have F9 := fun_mk (st := sLMill) l9 c9 k9
  have F10 := fun_mk (st := sLComes) l10 c10 k10
  have F11 := fun_mk (st := sMill) l11 c11 k11
  have F12 := fun_mk (st := sLegB) l12 c12 k12
  have F13 := fun_mk (st := sSizeP) l13 c13 k13
  have F14 := fun_mk (st := sMillB) l14 c14 k14
  have F15 := fun_mk (st := sIsMill) l15 c15 k15
  have F16 := fun_mk (st := sPWhole) l16 c16 k16
  have F17 := fun_mk (st := sBetween) l17 c17 k17
  have F18 := fun_mk (st := sTupOf) l18 c18 k18
  have F19 := fun_mk (st := sPairB) l19 c19 k19
  have F20 := fun_mk (st := sComes) l20 c20 k20
  have F21 := fun_mk (st := sLaw) l21 c21 k21
  have b1 := F1.binds (ps := ["_law_script", "_law_k"]) fun _ _ _ _ _ _ us hl => match us, hl with | [_, _], _ => rfl
  have b2 := F2.binds (ps := ["_law_pot_here", "_law_many"]) fun _ _ _ _ _ _ us hl => match us, hl with | [_, _], _ => rfl
  have b3 := F3.binds (ps := ["_law_pot_here", "_law_a", "_law_b"]) fun _ _ _ _ _ _ us hl => match us, hl with | [_, _, _], _ => rfl
  have b4 := F4.binds (ps := ["_law_pot_here", "_law_a", "_law_b", "_law_chosen"]) fun _ _ _ _ _ _ us hl => match us, hl with | [_, _, _, _], _ => rfl
  have b5 := F5.binds (ps := ["_law_pot_here", "_law_many"]) fun _ _ _ _ _ _ us hl => match us, hl with | [_, _], _ => rfl
  have b6 := F6.binds (ps := ["_law_pot_here", "_law_a", "_law_b"]) fun _ _ _ _ _ _ us hl => match us, hl with | [_, _, _], _ => rfl
  have b7 := F7.binds (ps := ["_law_chosen"]) fun _ _ _ _ _ _ us hl => match us, hl with | [_], _ => rfl
  have b8 := F8.binds (ps := ["_law_many"]) fun _ _ _ _ _ _ us hl => match us, hl with | [_], _ => rfl
  have b9 := F9.binds (ps := ["_law_chosen", "_law_i", "_law_k", "_law_j", "_law_l", "_law_turn"]) fun _ _ _ _ _ _ us hl => match us, hl with | [_, _, _, _, _, _], _ => rfl
  have b10 := F10.binds (ps := ["_law_chosen", "_law_i", "_law_j"]) fun _ _ _ _ _ _ us hl => match us, hl with | [_, _, _], _ => rfl
  have b11 := F11.binds (ps := ["pick"]) fun _ _ _ _ _ _ us hl => match us, hl with | [_], _ => rfl
  have b12 := F12.binds (ps := ["x", "i", "k"]) fun _ _ _ _ _ _ us hl => match us, hl with | [_, _, _], _ => rfl
  have b13 := F13.binds (ps := ["pick"]) fun _ _ _ _ _ _ us hl => match us, hl with | [_], _ => rfl
  have b14 := F14.binds (ps := ["pick", "i", "k"]) fun _ _ _ _ _ _ us hl => match us, hl with | [_, _, _], _ => rfl
  have b15 := F15.binds (ps := ["pick", "thing"]) fun _ _ _ _ _ _ us hl => match us, hl with | [_, _], _ => rfl
  have b16 := F16.binds (ps := ["thing"]) fun _ _ _ _ _ _ us hl => match us, hl with | [_], _ => rfl
  have b17 := F17.binds (ps := ["thing", "least", "most"]) fun _ _ _ _ _ _ us hl => match us, hl with | [_, _, _], _ => rfl
  have b18 := F18.binds (ps := ["thing", "many"]) fun _ _ _ _ _ _ us hl => match us, hl with | [_, _], _ => rfl
  have b19 := F19.binds (ps := ["one", "other", "many"]) fun _ _ _ _ _ _ us hl => match us, hl with | [_, _, _], _ => rfl
  have b20 := F20.binds (ps := ["pick", "i", "j"]) fun _ _ _ _ _ _ us hl => match us, hl with | [_, _, _], _ => rfl
  have hF : ∀ H : Hp, SqT K H cF [.int 0, .int 1, .int 2, .int 3] := fun H => .inr ⟨_, _, _, uF, rfl, rfl, by show 4 ≤ sizeLine; decide, .cons ⟨_, rfl⟩ (.cons ⟨_, rfl⟩ (.cons ⟨_, rfl⟩ (.cons ⟨_, rfl⟩ (.nil))))⟩
  have hB : ∀ H : Hp, SqT K H cB [.int 2, .int 3, .int 0, .int 1] := fun H => .inr ⟨_, _, _, uB, rfl, rfl, by show 4 ≤ sizeLine; decide, .cons ⟨_, rfl⟩ (.cons ⟨_, rfl⟩ (.cons ⟨_, rfl⟩ (.cons ⟨_, rfl⟩ (.nil))))⟩
  exact ⟨PySem.W.fnOf "law" "law" (defArgs sLaw) (defBody sLaw) (defScope sLaw) .none kV21 dc21 pm21 an21 cd21 ct21, fun s v => .of_eq rfl, fun base _ _ =>
    ok_law F21 F1 F2 F3 F4 F5 F6 F7 F8 F9 F10 F11 F12 F13 F14 F15 F16 F17 F18 F19 F20 b1 b2 b3 b4 b5 b6 b7 b8 b9 b10 b11 b12 b13 b14 b15 b16 b17 b18 b19 b20 (PySem.W.mg_of X G a1) (PySem.W.mg_of X G a2) (PySem.W.mg_of X G a3) (PySem.W.mg_of X G a4) (PySem.W.mg_of X G a5) (PySem.W.mg_of X G a6) (PySem.W.mg_of X G a7) (PySem.W.mg_of X G a8) (PySem.W.mg_of X G a9) (PySem.W.mg_of X G a10) (PySem.W.mg_of X G a11) (PySem.W.mg_of X G a12) (PySem.W.mg_of X G a13) (PySem.W.mg_of X G a14) (PySem.W.mg_of X G a15) (PySem.W.mg_of X G a16) (PySem.W.mg_of X G a17) (PySem.W.mg_of X G a18) (PySem.W.mg_of X G a19) (PySem.W.mg_of X G a20) (PySem.W.mg_none_of X G z1) (PySem.W.mg_none_of X G z2) (PySem.W.mg_none_of X G z3) (PySem.W.mg_none_of X G z4) (PySem.W.mg_none_of X G z5) (PySem.W.mg_none_of X G z6) (PySem.W.mg_none_of X G z7) (PySem.W.mg_none_of X G z8) (PySem.W.mg_none_of X G z9) (PySem.W.mg_none_of X G z10) (PySem.W.mg_none_of X G z11) (PySem.W.mg_none_of X G z12) (PySem.W.mg_none_of X G z13) (PySem.W.mg_of X G gF) (PySem.W.mg_of X G gB) hF hB⟩
end C2
open PySem PySem.W PyProof.Rows
set_option maxRecDepth 100000 in
set_option maxHeartbeats 0 in
theorem PySem.Challenge.cw_cornertold_k26_mills_of_greater_picks_holds : PySem.Challenge.rw_cornertold_k26_mills_of_greater_picks.Holds := by
  w_on; o_law; k_head; (case hw => w_witness2)
  k_fill
  refine C2.walkG (l := PySem.Challenge.rw_cornertold_k26_mills_of_greater_picks) (n := 63) (k := 6) (x := "_law_script") (sp := C2.spLaw) rfl (by decide) rfl ⟨rfl, by decide, by decide⟩ (fun w h Y => PySem.W.kIn_of Y) ?F (fun _ _ a ns hl hS => ⟨a, ns, rfl, hS, hl, fun _ => rfl⟩)
  case F =>
    intro w mg fa h KX G hmg
    refine' C2.all_mk KX G hmg ?a1 ?l1 ?c1 ?k1 ?a2 ?l2 ?c2 ?k2 ?a3 ?l3 ?c3 ?k3 ?a4 ?l4 ?c4 ?k4 ?a5 ?l5 ?c5 ?k5 ?a6 ?l6 ?c6 ?k6 ?a7 ?l7 ?c7 ?k7 ?a8 ?l8 ?c8 ?k8 ?a9 ?l9 ?c9 ?k9 ?a10 ?l10 ?c10 ?k10 ?a11 ?l11 ?c11 ?k11 ?a12 ?l12 ?c12 ?k12 ?a13 ?l13 ?c13 ?k13 ?a14 ?l14 ?c14 ?k14 ?a15 ?l15 ?c15 ?k15 ?a16 ?l16 ?c16 ?k16 ?a17 ?l17 ?c17 ?k17 ?a18 ?l18 ?c18 ?k18 ?a19 ?l19 ?c19 ?k19 ?a20 ?l20 ?c20 ?k20 ?a21 ?l21 ?c21 ?k21 ?z1 ?z2 ?z3 ?z4 ?z5 ?z6 ?z7 ?z8 ?z9 ?z10 ?z11 ?z12 ?z13 ?gF ?uF ?gB ?uB
    (case a1 => k_is); (case l1 => k_is); (case c1 => k_is); (case k1 => k_is); (case a2 => k_is); (case l2 => k_is); (case c2 => k_is); (case k2 => k_is)
    (case a3 => k_is); (case l3 => k_is); (case c3 => k_is); (case k3 => k_is); (case a4 => k_is); (case l4 => k_is); (case c4 => k_is); (case k4 => k_is)
    (case a5 => k_is); (case l5 => k_is); (case c5 => k_is); (case k5 => k_is); (case a6 => k_is); (case l6 => k_is); (case c6 => k_is); (case k6 => k_is)
    (case a7 => k_is); (case l7 => k_is); (case c7 => k_is); (case k7 => k_is); (case a8 => k_is); (case l8 => k_is); (case c8 => k_is); (case k8 => k_is)
    (case a9 => k_is); (case l9 => k_is); (case c9 => k_is); (case k9 => k_is); (case a10 => k_is); (case l10 => k_is); (case c10 => k_is); (case k10 => k_is)
    (case a11 => k_is); (case l11 => k_is); (case c11 => k_is); (case k11 => k_is); (case a12 => k_is); (case l12 => k_is); (case c12 => k_is); (case k12 => k_is)
    (case a13 => k_is); (case l13 => k_is); (case c13 => k_is); (case k13 => k_is); (case a14 => k_is); (case l14 => k_is); (case c14 => k_is); (case k14 => k_is)
    (case a15 => k_is); (case l15 => k_is); (case c15 => k_is); (case k15 => k_is); (case a16 => k_is); (case l16 => k_is); (case c16 => k_is); (case k16 => k_is)
    (case a17 => k_is); (case l17 => k_is); (case c17 => k_is); (case k17 => k_is); (case a18 => k_is); (case l18 => k_is); (case c18 => k_is); (case k18 => k_is)
    (case a19 => k_is); (case l19 => k_is); (case c19 => k_is); (case k19 => k_is); (case a20 => k_is); (case l20 => k_is); (case c20 => k_is); (case k20 => k_is)
    (case a21 => k_is); (case l21 => k_is); (case c21 => k_is); (case k21 => k_is); (case z1 => k_is); (case z2 => k_is); (case z3 => k_is); (case z4 => k_is)
    (case z5 => k_is); (case z6 => k_is); (case z7 => k_is); (case z8 => k_is); (case z9 => k_is); (case z10 => k_is); (case z11 => k_is); (case z12 => k_is)
    (case z13 => k_is)
    (case gF => k_is); (case uF => k_is); (case gB => k_is); (case uB => k_is)
