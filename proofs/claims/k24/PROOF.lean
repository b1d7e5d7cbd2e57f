import PyProof.Rows.All
import Wide.All
import OpenK.AllK
import Wide.FinOn
import HandS.ForMost
import HandS.Wide
import HandS.Style
import HandS.Comp
import HandS.Walk
import HandS.Zip
import KE.GoesMore
import KE.GoesEnum
import KE.SortData
import HandS.IsInst
import PySem.Challenge.RW_cornertold_k24_threads_from_their_picks
set_option Elab.async false
set_option linter.all false
set_option maxRecDepth 100000
namespace C2
set_option Elab.async false
set_option linter.all false
set_option maxRecDepth 100000
set_option maxHeartbeats 4000000
open PySem PySem.Spec PyProof.Rows L2
def topS (i : Nat) : Stmt := PySem.Challenge.pw_cornertold_k24_threads_from_their_picks.main.body.getD i (.Pass ⟨0, 0, 0, 0⟩)
abbrev sPicked : Stmt := topS 1
abbrev sComes : Stmt := topS 2
abbrev sDraws : Stmt := topS 4
abbrev sTake : Stmt := topS 5
abbrev sPick : Stmt := topS 6
abbrev sSize : Stmt := topS 7
abbrev sOutward : Stmt := topS 8
abbrev sLaw : Stmt := topS 9
theorem scDraws : FnScope ["_law_script", "_law_k", "_law_cell", "_law_great"] ["_law_script", "_law_k"] (defScope sDraws) := ⟨rfl, rfl, rfl, by decide +kernel, rfl, by decide +kernel, by decide +kernel⟩
theorem scTake : FnScope ["_law_pot_here", "_law_many", "_law_digit", "_law_turn", "_law_prime", "_law_drawn"] ["_law_pot_here", "_law_many"] (defScope sTake) := ⟨rfl, rfl, rfl, by decide +kernel, rfl, by decide +kernel, by decide +kernel⟩

/-- all that was tracked, but what stands at p, is as it was -/
def Fr (p : Addr) (H H' : Hp) : Prop := ∀ b o, b ≠ p → H b = some o → H' b = some o
theorem Fr.refl (p : Addr) (H : Hp) : Fr p H H := fun _ _ _ h => h
theorem Fr.trans {p : Addr} {H H1 H2 : Hp} (a : Fr p H H1) (b : Fr p H1 H2) : Fr p H H2 := fun c o n h => b c o n (a c o n h)
theorem Fr.same {p : Addr} {H H1 : Hp} (a : Same H H1) : Fr p H H1 := fun c o _ h => a c o h
theorem Fr.upd {p : Addr} {H : Hp} {o : HO} : Fr p H (upd H p o) := fun c u n h => by rw [upd_ne n]; exact h
theorem Fr.new {p q : Addr} {H : Hp} {o : HO} (h : H q = none) : Fr p H (L2.upd H q o) := fun c u n e => by rw [upd_ne (ne_of_none e h)]; exact e
theorem Fr.free {p : Addr} {H H' : Hp} (e : Fr p H H') {l : Addr} (n : l ≠ p) (h : H' l = none) : H l = none := by
  cases q : H l with
  | none => rfl
  | some o => rw [e l o n q] at h; cases h
theorem same_upd {H : Hp} {p : Addr} {o : HO} (h : H p = none) : Same H (upd H p o) := fun b x e => by
  rw [upd_ne (ne_of_none e h)]
  exact e
def PotAt (H : Hp) (p : Addr) (n : Nat) : Prop := ∃ g c t : Int, H p = some (.lst [.int g, .int c, .int t]) ∧ 0 ≤ t ∧ t ≤ (n : Int)
section
variable {P : Program} {w : World} {K : PySem.W.Frag} {mg : Str → Option Value} {base : Heap}
/-! ### draws -/
def spDraws (K : PySem.W.Frag) : Sp := fun vs H Q _ => ∃ (a : Addr) (ns : List Int) (k : Nat), vs = [.ref a, .int (k : Int)] ∧ SqL K H a (ns.map V.int) ∧ k ≤ 1000 ∧
  ∀ H' p, Same H H' → H p = none → PotAt H' p 0 → Q (.ref p) H'
theorem pow_ok1 : CPow 10 18 := ⟨by decide, by decide, by decide⟩
theorem pow_ok2 : CPow 10 60 := ⟨by decide, by decide, by decide⟩
theorem wide1 : CMulW ((10 : Int) ^ (60 : Int).toNat) ((10 : Int) ^ (60 : Int).toNat) := wide_mul (a := 200) (b := 200) (by decide +kernel) (by decide +kernel) (by decide) (by decide) (by decide)
theorem wide2 : CMulW ((10 : Int) ^ (60 : Int).toNat * (10 : Int) ^ (60 : Int).toNat) ((10 : Int) ^ (60 : Int).toNat) := wide_mul (a := 400) (b := 200) (by decide +kernel) (by decide +kernel) (by decide) (by decide) (by decide)
theorem wide3 : (0 : Int) < (10 : Int) ^ (60 : Int).toNat * (10 : Int) ^ (60 : Int).toNat * (10 : Int) ^ (60 : Int).toNat := by decide +kernel
theorem fin_draws {H : Hp} {Q : VK} {a : Addr} {k : Nat} (q : ∀ (H' : Hp) (p : Addr), Same H H' → H p = none → PotAt H' p 0 → Q (V.ref p) H') (hk : k ≤ 1000) (cell great : Int) :
    tRet (tLst (tCons (tVar 3) (tCons (tOp (rI (fun x j => 0 < j) fun i j => V.int (i % j)) (tOp (rI0 fun i j => V.int (i + j)) (tOp (rI0 fun i j => V.int (i + j))
      (tOp (rI CMul fun i j => V.int (i * j)) (tOp (rI (fun x j => 0 < j) fun i j => V.int (i % j)) (tVar 2) (tC (V.int 2305843009213693951))) (tC (V.int 1000033)))
      (tOp (rI CMul fun i j => V.int (i * j)) (tC (V.int 7919)) (tVar 1))) (tC (V.int 41))) (tC (V.int 2305843009213693921))) (tCons (tC (V.int 0)) tNil))))
      { nx := fun x H' => Q V.non H', rt := Q } [some (V.ref a), some (V.int (k : Int)), some (V.int cell), some (V.int great)] H := by
  refine ⟨.int great, rfl, .int cell, rfl, cell, 2305843009213693951, rfl, rfl, (by show (0 : Int) < 2305843009213693951; decide), _, 1000033, rfl, rfl, .inr ⟨by decide, by decide⟩, .int (k : Int), rfl, 7919, (k : Int), rfl, rfl, .inl ⟨by decide, by decide⟩, _, _, rfl, rfl, _, 41, rfl, rfl, _, _, rfl, rfl, (by show (0 : Int) < 2305843009213693921; decide), by show 3 ≤ sizeLine; decide, fun p np => ?_⟩
  exact q _ p (same_upd np) np ⟨_, _, _, upd_same, Int.le_refl _, Int.le_refl _⟩
theorem ok_draws {f : Addr} {fd : FuncData} {k : Nat} (F : Fun K "_law_pot" "_law_pot" sDraws f fd) (ml : mg "len" = none) (ma : mg "abs" = none) : FnOk P w K mg base CX0 (k + 1) f fd ["_law_script", "_law_k"] (spDraws K) := by
  refine F.ok scDraws (fun vs H Q E h => ?_) (fun cdv A outer s H vs Q E hr h => ?_)
  · obtain ⟨a, ns, k, rfl, _⟩ := h
    rfl
  · obtain ⟨a, ns, k, rfl, hS, hk, q⟩ := h
    refine ⟨_, pss_cons (ps_set (i := 2) scDraws.nd rfl (.inl rfl) (pe_ifExp (pt_cmpR op_lt (pv 1) (pe_callB call_len_seq (by rfl) ml PySem.boot_len (pa_cons (pv 0) pa_nil)) (nomark _))
          (pe_ix ix_list (pv 0) (pv 1) (fun _ _ => rfl)) (pe_op op_add (pe_op op_mul pe_int (pv 1)) pe_int)))
      (pss_cons (ps_set (i := 3) scDraws.nd rfl (.inl rfl) (pe_ifExp (pt_cmpR op_ge (pe_callB call_abs (by rfl) ma (by decide +kernel) (pa_cons (pv 2) pa_nil)) (pe_op op_pow pe_int pe_int) (nomark _))
          (pe_op op_mod (pe_callB call_abs (by rfl) ma (by decide +kernel) (pa_cons (pv 2) pa_nil)) (pe_op op_mulW (pe_op op_mulW (pe_op op_pow pe_int pe_int) (pe_op op_pow pe_int pe_int)) (pe_op op_pow pe_int pe_int))) pe_int))
      (pss_one (ps_ret (pe_lst (pa_cons (pv 3) (pa_cons (pe_op op_mod (pe_op op_add (pe_op op_add (pe_op op_mul (pe_op op_mod (pv 2) pe_int) pe_int) (pe_op op_mul pe_int (pv 1))) pe_int) pe_int) (pa_cons pe_int pa_nil))))))), ?_⟩
    refine ⟨.int (k : Int), rfl, .ref a, rfl, a, _, rfl, .inl hS, _, _, rfl, rfl, _, rfl, ite2 (fun e => ?_) (fun e => ?_)⟩
    · have e1 : k < ns.length := by
        have := of_decide_eq_true e
        rw [List.length_map] at this
        omega
      refine ⟨.ref a, rfl, .int (k : Int), rfl, a, _, _, .int ns[k], rfl, rfl, hS, atI_nat (by rw [List.getElem?_map, List.getElem?_eq_getElem e1]; rfl), ?_⟩
      generalize ns[k] = cell
      refine ⟨.int cell, rfl, cell, rfl, 10, 18, rfl, rfl, pow_ok1, _, _, rfl, rfl, _, rfl, ite2 (fun e => ?_) (fun e => ?_)⟩
      · refine ⟨.int cell, rfl, cell, rfl, 10, 60, rfl, rfl, pow_ok2, 10, 60, rfl, rfl, pow_ok2, _, _, rfl, rfl, wide1, 10, 60, rfl, rfl, pow_ok2, _, _, rfl, rfl, wide2, _, _, rfl, rfl, wide3, ?_⟩
        exact fin_draws q hk _ _
      · exact fin_draws q hk _ _
    · refine ⟨.int (k : Int), rfl, 5, (k : Int), rfl, rfl, .inl ⟨by decide, by decide⟩, _, 3, rfl, rfl, ?_⟩
      refine ⟨_, rfl, _, rfl, 10, 18, rfl, rfl, pow_ok1, _, _, rfl, rfl, _, rfl, ite2 (fun e => ?_) (fun e => ?_)⟩
      · refine ⟨_, rfl, _, rfl, 10, 60, rfl, rfl, pow_ok2, 10, 60, rfl, rfl, pow_ok2, _, _, rfl, rfl, wide1, 10, 60, rfl, rfl, pow_ok2, _, _, rfl, rfl, wide2, _, _, rfl, rfl, wide3, ?_⟩
        exact fin_draws q hk _ _
      · exact fin_draws q hk _ _
end
end C2

namespace C2
set_option Elab.async false
set_option linter.all false
set_option maxRecDepth 100000
set_option maxHeartbeats 4000000
open PySem PySem.Spec PyProof.Rows L2
section
variable {P : Program} {w : World} {K : PySem.W.Frag} {mg : Str → Option Value} {base : Heap}
def primes : List V := [.int 2147483647, .int 2147483629, .int 2147483587, .int 2147483579, .int 2147483563, .int 2147483549, .int 2147483543]
theorem primes_at {r : Int} (h0 : 0 ≤ r) (h1 : r < 7) : ∃ v : Int, atI primes r = some (.int v) ∧ 0 < v ∧ v < 2147483648 := by
  have : r = 0 ∨ r = 1 ∨ r = 2 ∨ r = 3 ∨ r = 4 ∨ r = 5 ∨ r = 6 := by omega
  rcases this with rfl | rfl | rfl | rfl | rfl | rfl | rfl <;> exact ⟨_, rfl, by decide, by decide⟩
def spTake : Sp := fun vs H Q _ => ∃ (p : Addr) (m : Int) (n : Nat), vs = [.ref p, .int m] ∧ PotAt H p n ∧ n < 1000000 ∧ 0 < m ∧ m < 1073741824 ∧
  ∀ (d : Int) H', Fr p H H' → PotAt H' p (n + 1) → 0 ≤ d → d < m → Q (.int d) H'
theorem ok_take {f : Addr} {fd : FuncData} {k : Nat} (F : Fun K "_law_take" "_law_take" sTake f fd) : FnOk P w K mg base CX0 (k + 1) f fd ["_law_pot_here", "_law_many"] spTake := by
  refine F.ok scTake (fun vs H Q E h => ?_) (fun cdv A outer s H vs Q E hr h => ?_)
  · obtain ⟨a, ns, k, rfl, _⟩ := h
    rfl
  · obtain ⟨p, m, n, rfl, ⟨g, c, t, hp, ht0, ht1⟩, hn, hm0, hm1, q⟩ := h
    refine ⟨_, pss_cons (ps_if (pt_cmpR op_gt (pe_ix ix_list (pv 0) pe_int (fun _ _ => rfl)) pe_int (nomark _))
        (pss_cons (ps_set (i := 2) scTake.nd rfl (.inl rfl) (pe_op op_mod (pe_ix ix_list (pv 0) pe_int (fun _ _ => rfl)) (pv 1)))
          (pss_cons (ps_asg (pe_op op_fdiv (pe_ix ix_list (pv 0) pe_int (fun _ _ => rfl)) (pv 1)) (pg_sub (pv 0) pe_int set_list)) (pss_one (ps_ret (pv 2))))) pss_nil)
      (pss_cons (ps_set (i := 3) scTake.nd rfl (.inl rfl) (pe_op op_add (pe_ix ix_list (pv 0) pe_int (fun _ _ => rfl)) pe_int))
      (pss_cons (ps_asg (pv 3) (pg_sub (pv 0) pe_int set_list))
      (pss_cons (ps_set (i := 4) scTake.nd rfl (.inl rfl) (pe_ix ix_list (pe_lst (pa_cons pe_int (pa_cons pe_int (pa_cons pe_int (pa_cons pe_int (pa_cons pe_int (pa_cons pe_int (pa_cons pe_int pa_nil))))))))
          (pe_op op_mod (pv 3) pe_int) (fun _ _ => rfl)))
      (pss_cons (ps_set (i := 5) scTake.nd rfl (.inl rfl) (pe_op op_add (pe_op op_mod (pe_op op_mod (pe_op op_add (pe_ix ix_list (pv 0) pe_int (fun _ _ => rfl))
          (pe_op op_mul (pe_op op_mul pe_int (pv 3)) (pv 3))) (pe_op op_mul (pv 4) (pv 4))) (pv 4)) pe_int))
      (pss_one (ps_ret (pe_op op_mod (pe_op op_fdiv (pe_op op_mod (pe_op op_mul (pv 5) (pe_op op_add (pe_op op_mod (pv 5) pe_int) (pv 3))) (pv 4)) pe_int) (pv 1)))))))), ?_⟩
    have L0 : SqL K H p [.int g, .int c, .int t] := .inl (.inl hp)
    refine ⟨.ref p, rfl, p, _, 0, .int g, rfl, rfl, L0, rfl, _, _, rfl, rfl, _, rfl, ite2 (fun e => ?_) (fun e => ?_)⟩
    · refine ⟨.ref p, rfl, p, _, 0, .int g, rfl, rfl, L0, rfl, .int m, rfl, _, _, rfl, rfl, hm0, ?_⟩
      refine ⟨.ref p, rfl, p, _, 0, .int g, rfl, rfl, L0, rfl, .int m, rfl, _, _, rfl, rfl, ⟨hm0, hm1⟩, ?_⟩
      refine ⟨.ref p, rfl, p, _, 0, 0, rfl, rfl, hp, rfl, ?_⟩
      refine ⟨_, rfl, q _ _ Fr.upd ⟨_, _, _, upd_same, ht0, by omega⟩ (Int.emod_nonneg _ (by omega)) (Int.emod_lt_of_pos _ hm0)⟩
    · refine ⟨.ref p, rfl, p, _, 2, .int t, rfl, rfl, L0, rfl, _, 1, rfl, rfl, ?_⟩
      refine ⟨.int (t + 1), rfl, .ref p, rfl, p, _, 2, 2, rfl, rfl, hp, rfl, ?_⟩
      have hp2 : (upd H p (.lst (List.set [.int g, .int c, .int t] 2 (.int (t + 1))))) p = some (.lst [.int g, .int c, .int (t + 1)]) := upd_same
      refine ⟨by show 7 ≤ sizeLine; decide, fun o no => ?_⟩
      have npo : p ≠ o := ne_of_none hp2 no
      have hp3 : (upd (upd H p (.lst (List.set [.int g, .int c, .int t] 2 (.int (t + 1))))) o (.lst primes)) p = some (.lst [.int g, .int c, .int (t + 1)]) := by
        rw [upd_ne npo]
        exact hp2
      have fr3 : Fr p H (upd (upd H p (.lst (List.set [.int g, .int c, .int t] 2 (.int (t + 1))))) o (.lst primes)) := Fr.trans Fr.upd (Fr.new no)
      have L3 : SqL K (upd (upd H p (.lst (List.set [.int g, .int c, .int t] 2 (.int (t + 1))))) o (.lst primes)) p [.int g, .int c, .int (t + 1)] := .inl (.inl hp3)
      have LO : SqL K (upd (upd H p (.lst (List.set [.int g, .int c, .int t] 2 (.int (t + 1))))) o (.lst primes)) o primes := .inl (.inl upd_same)
      obtain ⟨v, hv, v0, v1⟩ := primes_at (r := (t + 1) % 7) (Int.emod_nonneg _ (by decide)) (Int.emod_lt_of_pos _ (by decide))
      have b20 : (-(2 ^ 64) : Int) < t + 1 ∧ t + 1 < 2 ^ 64 := ⟨by omega, by omega⟩
      have bv : (-(2 ^ 64) : Int) < v ∧ v < 2 ^ 64 := ⟨by omega, by omega⟩
      refine ⟨.int (t + 1), rfl, _, 7, rfl, rfl, (by show (0 : Int) < 7; decide), o, _, _, _, rfl, rfl, LO, hv, ?_⟩
      refine ⟨.ref p, rfl, p, _, 1, .int c, rfl, rfl, L3, rfl, .int (t + 1), rfl, 69621, _, rfl, rfl, .inr b20, .int (t + 1), rfl, _, _, rfl, rfl, .inr b20, _, _, rfl, rfl,
        .int v, rfl, .int v, rfl, v, v, rfl, rfl, .inl bv, _, _, rfl, rfl, (Int.mul_pos v0 v0), .int v, rfl, _, _, rfl, rfl, v0, _, 1, rfl, rfl, ?_⟩
      have z0 := Int.emod_nonneg ((c + 69621 * (t + 1) * (t + 1)) % (v * v)) (show v ≠ 0 by omega)
      have z1 := Int.emod_lt_of_pos ((c + 69621 * (t + 1) * (t + 1)) % (v * v)) v0
      generalize (c + 69621 * (t + 1) * (t + 1)) % (v * v) % v = z at z0 z1
      have bz : (-(2 ^ 64) : Int) < z + 1 ∧ z + 1 < 2 ^ 64 := ⟨by omega, by omega⟩
      refine ⟨.int (z + 1), rfl, .int (z + 1), rfl, z + 1, 1009, rfl, rfl, (by show (0 : Int) < 1009; decide), .int (t + 1), rfl, _, _, rfl, rfl, _, _, rfl, rfl, .inl bz, .int v, rfl, _, _, rfl, rfl, v0, _, 7, rfl, rfl, ⟨by decide, by decide⟩,
        .int m, rfl, _, _, rfl, rfl, hm0, ?_⟩
      exact q _ _ fr3 ⟨_, _, _, hp3, by omega, by omega⟩ (Int.emod_nonneg _ (by omega)) (Int.emod_lt_of_pos _ hm0)
end
end C2

namespace C2
set_option Elab.async false
set_option linter.all false
set_option maxRecDepth 100000
set_option maxHeartbeats 4000000
open PySem PySem.Spec PyProof.Rows L2
theorem seqAsg {ta : TE} {i : Nat} {t : TS} {D : _} {σ : L2.St} {H : Hp} (h : ta σ H fun x H1 => t D (σ.set i (some x)) H1) : tSeq (tAsg ta (gName i)) t D σ H := h
theorem tcb_run {r : List V → Hp → VK → Prop} {te : TE} {σ : L2.St} {H : Hp} {Q : VK} (h : te σ H fun x H1 => r [x] H1 Q) : tCB r (tCons te tNil) σ H Q := h
theorem gName_run {i : Nat} {v : V} {σ : L2.St} {H : Hp} {Q : L2.St → Hp → Prop} (h : Q (σ.set i (some v)) H) : gName i v σ H Q := h
theorem PotAt.mono {H : Hp} {p : Addr} {n m : Nat} (h : PotAt H p n) (l : n ≤ m) : PotAt H p m := by
  obtain ⟨g, c, t, a, b, d⟩ := h
  exact ⟨g, c, t, a, b, by omega⟩
theorem PotAt.new {H : Hp} {p t : Addr} {n : Nat} {o : HO} (h : PotAt H p n) (nt : H t = none) : PotAt (upd H t o) p n := by
  obtain ⟨g, c, u, hp, r⟩ := h
  exact ⟨g, c, u, by rw [upd_ne (ne_of_none hp nt)]; exact hp, r⟩
theorem PotAt.ne {H : Hp} {p t : Addr} {n : Nat} (h : PotAt H p n) (nt : H t = none) : t ≠ p := by
  obtain ⟨g, c, u, hp, r⟩ := h
  exact fun e => by rw [e, hp] at nt; cases nt
theorem PotAt.same {H H' : Hp} {p : Addr} {n : Nat} (h : PotAt H p n) (s : Same H H') : PotAt H' p n := by
  obtain ⟨g, c, u, hp, r⟩ := h
  exact ⟨g, c, u, s _ _ hp, r⟩
theorem PotAt.at {H : Hp} {p D : Addr} {o : HO} {n : Nat} (h : PotAt H p n) (ne : D ≠ p) : PotAt (upd H D o) p n := by
  obtain ⟨g, c, u, hp, r⟩ := h
  exact ⟨g, c, u, by rw [upd_ne ne.symm]; exact hp, r⟩
section
variable {P : Program} {w : World} {K : PySem.W.Frag} {mg : Str → Option Value} {base : Heap}
abbrev NSz : List Str := ["_law_pot_here", "_law_most", "_law_way"]
theorem scSize : FnScope NSz ["_law_pot_here", "_law_most"] (defScope sSize) := ⟨rfl, rfl, rfl, by decide +kernel, rfl, by decide +kernel, by decide +kernel⟩
/-- size: two small numbers -/
def spSize : Sp := fun vs H Q _ => ∃ (p : Addr) (m : Int) (n : Nat), vs = [.ref p, .int m] ∧ 1 ≤ m ∧ m ≤ 9 ∧ PotAt H p n ∧ n < 900000 ∧
  ∀ (a b : Nat) t H', a ≤ 10 → b ≤ 10 → Fr p H H' → PotAt H' p (n + 4) → H' t = some (.tup [.int (a : Int), .int (b : Int)]) → Q (.ref t) H'
theorem ok_size {f fT : Addr} {fd fdT : FuncData} {k : Nat} (F : Fun K "_law_size" "_law_size" sSize f fd) (FT : Fun K "_law_take" "_law_take" sTake fT fdT) (bT : Binds K fdT ["_law_pot_here", "_law_many"] []) (gT : mg "_law_take" = some (.ref fT)) :
    FnOk P w K mg base CX0 (k + 2) f fd ["_law_pot_here", "_law_most"] spSize := by
  have GT : FnOk P w K mg base CX0 (k + 1) fT fdT ["_law_pot_here", "_law_many"] spTake := ok_take FT
  refine F.ok scSize (fun vs H Q E h => ?_) (fun cdv A outer s H vs Q E hr h => ?_)
  · obtain ⟨p, m, n, rfl, _⟩ := h
    rfl
  · obtain ⟨p, m, n, rfl, m0, m1, hP, hn, q⟩ := h
    have nd := scSize.nd
    refine ⟨_, pss_cons (ps_set (i := 2) nd rfl (.inl rfl) (pe_call GT hr (by rfl) gT FT.kp bT .nil pass0 (pa_cons (pv 0) (pa_cons pe_int pa_nil))))
      (pss_cons (ps_if (pt_cmpR op_eq (pv 2) pe_int (nomark _)) (pss_one (ps_ret (pe_ix ix_list (pe_lst (pa_cons (pe_tup (pa_cons pe_int (pa_cons (pe_call GT hr (by rfl) gT FT.kp bT .nil pass0 (pa_cons (pv 0) (pa_cons pe_int pa_nil))) pa_nil))) (pa_cons (pe_tup (pa_cons (pe_call GT hr (by rfl) gT FT.kp bT .nil pass0 (pa_cons (pv 0) (pa_cons pe_int pa_nil))) (pa_cons pe_int pa_nil))) pa_nil))) (pe_call GT hr (by rfl) gT FT.kp bT .nil pass0 (pa_cons (pv 0) (pa_cons pe_int pa_nil))) (fun _ _ => rfl)))) pss_nil)
      (pss_one (ps_ret (pe_tup (pa_cons (pe_op op_add pe_int (pe_call GT hr (by rfl) gT FT.kp bT .nil pass0 (pa_cons (pv 0) (pa_cons (pv 1) pa_nil)))) (pa_cons (pe_op op_add pe_int (pe_call GT hr (by rfl) gT FT.kp bT .nil pass0 (pa_cons (pv 0) (pa_cons (pv 1) pa_nil)))) pa_nil)))))), ?_⟩
    refine ⟨.ref p, rfl, p, 8, n, rfl, hP, by omega, by decide, by decide, fun kd H1 f1 P1 k0 k1 => ?_⟩
    have fin : ∀ (x y : Int) (t : Addr) (G : Hp), 0 ≤ x → x ≤ 10 → 0 ≤ y → y ≤ 10 → Fr p H G → PotAt G p (n + 4) → G t = some (.tup [.int x, .int y]) → Q (.ref t) G := by
      intro x y t G x0 x1 y0 y1 fr pt ht
      have z := q x.toNat y.toNat t G (by omega) (by omega) fr pt
      rw [Int.toNat_of_nonneg x0, Int.toNat_of_nonneg y0] at z
      exact z ht
    refine ⟨.int kd, rfl, rfl, _, rfl, ite2 (fun e => ?_) (fun e => ?_)⟩
    · refine ⟨.ref p, rfl, p, 5, n + 1, rfl, P1, by omega, by decide, by decide, fun x H2 f2 P2 x0 x1 => ⟨by show 2 ≤ sizeLine; decide, fun t1 n1 => ?_⟩⟩
      refine ⟨.ref p, rfl, p, 5, n + 2, rfl, P2.new n1, by omega, by decide, by decide, fun y H3 f3 P3 y0 y1 => ⟨by show 2 ≤ sizeLine; decide, fun t2 n2 => ⟨by show 2 ≤ sizeLine; decide, fun l nl => ?_⟩⟩⟩
      have P4 := (P3.new (o := .tup [.int y, .int 0]) n2).new (o := .lst [.ref t1, .ref t2]) nl
      have nt1 : t1 ≠ p := P2.ne n1
      have nt2 : t2 ≠ p := P3.ne n2
      have nl' : l ≠ p := (P3.new (o := .tup [.int y, .int 0]) n2).ne nl
      have a1 := f3 _ _ nt1 (upd_same (H := H2) (a := t1) (o := .tup [.int 0, .int x]))
      have a1' := (same_upd (o := .lst [.ref t1, .ref t2]) nl) _ _ ((same_upd (o := .tup [.int y, .int 0]) n2) _ _ a1)
      have a2' := (same_upd (o := .lst [.ref t1, .ref t2]) nl) _ _ (upd_same (H := H3) (a := t2) (o := .tup [.int y, .int 0]))
      have al := upd_same (H := upd H3 t2 (.tup [.int y, .int 0])) (a := l) (o := .lst [.ref t1, .ref t2])
      have f4 : Fr p H (upd (upd H3 t2 (.tup [.int y, .int 0])) l (.lst [.ref t1, .ref t2])) := f1.trans (f2.trans ((Fr.new n1).trans (f3.trans ((Fr.new n2).trans (Fr.new nl)))))
      refine ⟨.ref p, rfl, p, 2, n + 3, rfl, P4, by omega, by decide, by decide, fun z H5 f5 P5 z0 z1 => ?_⟩
      have al5 := f5 _ _ nl' al
      have c : z = 0 ∨ z = 1 := by omega
      rcases c with rfl | rfl
      · exact ⟨l, _, _, .ref t1, rfl, rfl, .inl (.inl al5), rfl, fin 0 x t1 H5 (by decide) (by decide) x0 (by omega) (f4.trans f5) P5 (f5 _ _ nt1 a1')⟩
      · exact ⟨l, _, _, .ref t2, rfl, rfl, .inl (.inl al5), rfl, fin y 0 t2 H5 y0 (by omega) (by decide) (by decide) (f4.trans f5) P5 (f5 _ _ nt2 a2')⟩
    · refine ⟨.ref p, rfl, .int m, rfl, p, m, n + 1, rfl, P1, by omega, by omega, by omega, fun x H2 f2 P2 x0 x1 => ⟨_, _, rfl, rfl, ?_⟩⟩
      refine ⟨.ref p, rfl, .int m, rfl, p, m, n + 2, rfl, P2, by omega, by omega, by omega, fun y H3 f3 P3 y0 y1 => ⟨_, _, rfl, rfl, by show 2 ≤ sizeLine; decide, fun t nt => ?_⟩⟩
      exact fin _ _ t _ (by omega) (by omega) (by omega) (by omega) (f1.trans (f2.trans (f3.trans (Fr.new nt)))) ((P3.new nt).mono (by omega)) upd_same
end
end C2

namespace C2
set_option Elab.async false
set_option linter.all false
set_option maxRecDepth 100000
set_option maxHeartbeats 4000000
open PySem PySem.Spec PyProof.Rows L2
def rTupOf (K : PySem.W.Frag) : List V → Hp → VK → Prop := fun xs H Q => ∃ p ys, xs = [.ref p] ∧ ((SqL K H p ys ∧ ∀ l, H l = none → Q (.ref l) (upd H l (.tup ys))) ∨ (SqT K H p ys ∧ Q (.ref p) H))
/-- numbers from nought to m -/
def Upto (m : Nat) (vs : List Int) : Prop := ∀ v ∈ vs, 0 ≤ v ∧ v ≤ (m : Int)
theorem Upto.snoc {m : Nat} {vs : List Int} {v : Int} (h : Upto m vs) (h0 : 0 ≤ v) (h1 : v ≤ (m : Int)) : Upto m (vs ++ [v]) := fun x hx => by
  rcases List.mem_append.mp hx with hx | hx
  · exact h x hx
  · rw [List.mem_singleton.mp hx]
    exact ⟨h0, h1⟩
theorem Upto.set {m : Nat} {vs : List Int} {v : Int} {j : Nat} (h : Upto m vs) (h0 : 0 ≤ v) (h1 : v ≤ (m : Int)) : Upto m (vs.set j v) := fun x hx => by
  rcases List.mem_or_eq_of_mem_set hx with hx | hx
  · exact h x hx
  · rw [hx]
    exact ⟨h0, h1⟩
theorem set_ints (vs : List Int) (j : Nat) (v : Int) : (vs.map V.int).set j (.int v) = (vs.set j v).map V.int := by rw [List.map_set]
/-- a comprehension over a range, each item drawn -/
theorem lc_draw {te : TE} {ta : TA} {σ : L2.St} {H : Hp} {Q : VK} {p : Addr} {sl n len m : Nat} (hs : ∀ v, wipe ((wipe σ [sl]).set sl (some v)) [sl] = wipe σ [sl]) (hlen : len ≤ 40) (hta : ∀ R : List V → Hp → Prop, R [.int (len : Int)] H → ta σ H R) (hP : PotAt H p n)
    (hte : ∀ (j : Nat) (G : Hp) (R : VK), j < len → PotAt G p (n + 3 * j) → (∀ (d : Int) G', Fr p G G' → PotAt G' p (n + 3 * (j + 1)) → 0 ≤ d → d ≤ (m : Int) → R (.int d) G') → te ((wipe σ [sl]).set sl (some (.int (j : Int)))) G R)
    (k : ∀ D vs G, Fr p H G → PotAt G p (n + 3 * len) → H D = none → D ≠ p → G D = some (.lst (vs.map V.int)) → vs.length = len → Upto m vs → Q (.ref D) G) : tLc (iRng1 ta) (gName sl) tYes te [sl] σ H Q := by
  refine hta _ ⟨(len : Int), rfl, by omega, by omega, fun D nD => ?_⟩
  have nDp : D ≠ p := hP.ne nD
  refine lc_range (lo := 0) (n := len) (fun j G => Fr p H G ∧ PotAt G p (n + 3 * j) ∧ ∃ vs : List Int, G D = some (.lst (vs.map V.int)) ∧ vs.length = j ∧ Upto m vs) ⟨Fr.new nD, hP.new nD, [], upd_same, rfl, fun v hv => by cases hv⟩ ?_ ?_
  · rintro j G hj ⟨fr, pt, vs, hD, hl, up⟩
    rw [Int.zero_add]
    refine ⟨hs _, ?_⟩
    simp only [tYes, ↓reduceIte]
    refine hte j G _ hj pt fun d G' f P d0 d1 => ⟨_, f _ _ nDp hD, ?_, ?_, P.at nDp, vs ++ [d], ?_, ?_, up.snoc d0 d1⟩
    · rw [List.length_map, hl]
      exact Nat.lt_of_lt_of_le (show j < 1000 by omega) (by decide)
    · intro b o nb e
      rw [upd_ne (ne_of_none e nD)]
      exact f _ _ nb (fr _ _ nb e)
    · rw [upd_same, List.map_append]
      rfl
    · rw [List.length_append, hl]
      rfl
  · rintro G ⟨fr, pt, vs, hD, hl, up⟩
    exact k D vs G fr pt nD nDp hD hl up
section
variable {P : Program} {w : World} {K : PySem.W.Frag} {mg : Str → Option Value} {base : Heap}
def tTk (e : TE) : TE := tCall spTake [] E0 (tCons (tVar 0) (tCons e tNil))
def tUp (c : Nat) : TE := tTk (tOp (rI0 fun i j => V.int (i + j)) (tVar c) (tC (V.int 1)))
def teP (K : PySem.W.Frag) (c : Nat) : TE := tOp (rIxL K) (tLst (tCons (tUp c) (tCons (tOp (rI CMul fun i j => V.int (i * j)) (tVar c) (tTk (tC (V.int 2)))) tNil))) (tVar 3)
theorem tk_ok {e : TE} {σ : L2.St} {G : Hp} {R : VK} {p : Addr} {m : Int} {n : Nat} (h0 : σ[0]? = some (some (.ref p))) (he : ∀ R : VK, R (.int m) G → e σ G R) (hP : PotAt G p n) (hn : n < 1000000) (m0 : 0 < m) (m1 : m < 1000)
    (k : ∀ d G', Fr p G G' → PotAt G' p (n + 1) → 0 ≤ d → d < m → R (.int d) G') : tTk e σ G R :=
  ⟨.ref p, h0, he _ ⟨p, m, n, rfl, hP, hn, m0, by omega, k⟩⟩
theorem up_ok {c : Nat} {σ : L2.St} {G : Hp} {R : VK} {p : Addr} {a n : Nat} (h0 : σ[0]? = some (some (.ref p))) (hc : σ[c]? = some (some (.int (a : Int)))) (hP : PotAt G p n) (hn : n < 1000000) (ha : a ≤ 40)
    (k : ∀ d G', Fr p G G' → PotAt G' p (n + 1) → 0 ≤ d → d ≤ (a : Int) → R (.int d) G') : tUp c σ G R :=
  tk_ok (m := (a : Int) + 1) h0 (fun R q => ⟨.int (a : Int), hc, _, 1, rfl, rfl, q⟩) hP hn (by omega) (by omega) fun d G' f P d0 d1 => k d G' f P d0 (by omega)
theorem teP_ok {c : Nat} {σ : L2.St} {G : Hp} {R : VK} {p : Addr} {a n : Nat} {way : Int} (h0 : σ[0]? = some (some (.ref p))) (hc : σ[c]? = some (some (.int (a : Int)))) (h3 : σ[3]? = some (some (.int way))) (hw : way = 0 ∨ way = 1) (hP : PotAt G p n) (hn : n < 999000) (ha : a ≤ 40)
    (k : ∀ d G', Fr p G G' → PotAt G' p (n + 3) → 0 ≤ d → d ≤ (a : Int) → R (.int d) G') : teP K c σ G R := by
  refine up_ok h0 hc hP (by omega) ha fun d G1 f1 P1 d0 d1 => ?_
  refine ⟨.int (a : Int), hc, tk_ok (m := 2) h0 (fun R q => q) P1 (by omega) (by decide) (by decide) fun x G2 f2 P2 x0 x1 => ?_⟩
  refine ⟨_, _, rfl, rfl, .inl ⟨by omega, by omega⟩, by show 2 ≤ sizeLine; decide, fun l nl => ⟨.int way, h3, ?_⟩⟩
  have f3 : Fr p G (upd G2 l (.lst [.int d, .int ((a : Int) * x)])) := f1.trans (f2.trans (Fr.new nl))
  have P3 := (P2.new (o := .lst [.int d, .int ((a : Int) * x)]) nl).mono (show n + 1 + 1 ≤ n + 3 by omega)
  rcases hw with rfl | rfl
  · exact ⟨l, _, _, .int d, rfl, rfl, .inl (.inl upd_same), rfl, k d _ f3 P3 d0 d1⟩
  · have cx : x = 0 ∨ x = 1 := by omega
    refine ⟨l, _, _, .int ((a : Int) * x), rfl, rfl, .inl (.inl upd_same), rfl, k _ _ f3 P3 ?_ ?_⟩
    · rcases cx with rfl | rfl <;> omega
    · rcases cx with rfl | rfl <;> omega
abbrev NPk : List Str := ["_law_pot_here", "_law_a", "_law_b", "_law_way", "_law_xs", "_law_ys", "_law_turn", "_law_line", "_law_spot", "_law_x"]
theorem scPick : FnScope NPk ["_law_pot_here", "_law_a", "_law_b"] (defScope sPick) := ⟨rfl, rfl, rfl, by decide +kernel, rfl, by decide +kernel, by decide +kernel⟩
abbrev scSpot : Scope := { kind := .function, names := [(".0", .local), ("_law_spot", .cell), ("len", .globalImplicit), ("_law_xs", .cell)], isGenerator := false, isCoroutine := false }
def ttLe : TT := tTest (tOp (rI0 fun i j => V.bl (decide (i ≤ j))) (tVar 9) (tVar 8))
def teCo (K : PySem.W.Frag) : TE := tCB (fun xs H Q => ∃ p ys, xs = [.ref p] ∧ (SqL K H p ys ∨ SqT K H p ys) ∧ Q (.int (ys.length : Nat)) H) (tCons (tLc (iList K (tVar 4)) (gName 9) ttLe (tVar 9) [9]) tNil)
/-- a pick of this size stands there -/
def PickAt (G : Hp) (t : Addr) (a b : Nat) (xs ys : List Int) : Prop := ∃ tx ty, G t = some (.tup [.ref tx, .ref ty]) ∧ G tx = some (.tup (xs.map V.int)) ∧ G ty = some (.tup (ys.map V.int)) ∧ xs.length = b ∧ ys.length = a ∧ Upto a xs ∧ Upto b ys
theorem PickAt.same {G G' : Hp} {t : Addr} {a b : Nat} {xs ys : List Int} (h : PickAt G t a b xs ys) (s : Same G G') : PickAt G' t a b xs ys := by
  obtain ⟨tx, ty, h1, h2, h3, r⟩ := h
  exact ⟨tx, ty, s _ _ h1, s _ _ h2, s _ _ h3, r⟩
def spPick : Sp := fun vs H Q _ => ∃ (p : Addr) (a b n : Nat), vs = [.ref p, .int (a : Int), .int (b : Int)] ∧ a ≤ 40 ∧ b ≤ 40 ∧ PotAt H p n ∧ n < 900000 ∧
  ∀ t xs ys H', Fr p H H' → PotAt H' p (n + 300) → PickAt H' t a b xs ys → Q (.ref t) H'
def tTups (K : PySem.W.Frag) : TE := tTup (tCons (tCB (rTupOf K) (tCons (tVar 4) tNil)) (tCons (tCB (rTupOf K) (tCons (tVar 5) tNil)) tNil))
theorem tups_ok {σ : L2.St} {G : Hp} {R : VK} {lx ly : Addr} {a b : Nat} {xs ys : List Int} (h4 : σ[4]? = some (some (.ref lx))) (h5 : σ[5]? = some (some (.ref ly))) (hx : G lx = some (.lst (xs.map V.int))) (hy : G ly = some (.lst (ys.map V.int)))
    (l1 : xs.length = b) (l2 : ys.length = a) (u1 : Upto a xs) (u2 : Upto b ys) (k : ∀ t G', Same G G' → PickAt G' t a b xs ys → R (.ref t) G') : tTups K σ G R := by
  refine ⟨.ref lx, h4, lx, _, rfl, .inl ⟨.inl (.inl hx), fun t1 n1 => ?_⟩⟩
  have s1 := same_upd (o := .tup (xs.map V.int)) n1
  refine ⟨.ref ly, h5, ly, _, rfl, .inl ⟨.inl (.inl (s1 _ _ hy)), fun t2 n2 => ⟨by show 2 ≤ sizeLine; decide, fun t nt => ?_⟩⟩⟩
  have s2 := same_upd (o := .tup (ys.map V.int)) n2
  have s3 := same_upd (o := .tup [.ref t1, .ref t2]) nt
  exact k t _ (s1.trans (s2.trans s3)) ⟨t1, t2, upd_same, s3 _ _ (s2 _ _ upd_same), s3 _ _ upd_same, l1, l2, u1, u2⟩
/-! ### letters put at drawn places -/
def tMany : TA := tCons (tOp (rI CMul fun i j => V.int (i * j)) (tOp (rI0 fun i j => V.int (i - j)) (tOp (rI CDiv fun i j => V.int (i / j)) (tVar 3) (tC (V.int 2))) (tC (V.int 1))) (tOp (rI0 fun i j => V.int (i + j)) (tC (V.int 1)) (tTk (tC (V.int 2))))) tNil
def tPut (c s d : Nat) : TS := tAsg (tUp c) (gSub (tVar s) (tTk (tVar d)) rSetL)
def tElse : TS := tIfS (tTest (tOp (rI0 fun i j => V.bl (decide (j < i))) (tVar 1) (tC (V.int 0)))) (tPut 2 5 1) tNext
def tTurn : TS := tIfS (tAnd (tTest (tOp (rI0 fun i j => V.bl (decide (j < i))) (tVar 2) (tC (V.int 0)))) (tTest (tOp rEq (tTk (tC (V.int 2))) (tC (V.int 0))))) (tPut 1 4 2) tElse
def tRest (K : PySem.W.Frag) : TS := tSeq (tFor (iRng1 tMany) (gName 6) tTurn) (tRet (tTups K))
theorem put_ok {c sl d : Nat} {σ : L2.St} {G : Hp} {D : Ends} {p l : Addr} {a b n : Nat} {vs : List Int} (h0 : σ[0]? = some (some (.ref p))) (hc : σ[c]? = some (some (.int (a : Int)))) (hs : σ[sl]? = some (some (.ref l))) (hd : σ[d]? = some (some (.int (b : Int))))
    (hl : G l = some (.lst (vs.map V.int))) (lv : vs.length = b) (b0 : 0 < b) (hb : b ≤ 40) (ha : a ≤ 40) (np : l ≠ p) (hP : PotAt G p n) (hn : n < 999000) (up : Upto a vs)
    (k : ∀ ws G', G' l = some (.lst (ws.map V.int)) → ws.length = b → Upto a ws → (∀ e o, e ≠ p → e ≠ l → G e = some o → G' e = some o) → PotAt G' p (n + 2) → D.nx σ G') : tPut c sl d D σ G := by
  refine up_ok h0 hc hP (by omega) ha fun v G1 f1 P1 v0 v1 => ?_
  refine ⟨.ref l, hs, tk_ok (m := (b : Int)) h0 (fun R q => ⟨.int (b : Int), hd, q⟩) P1 (by omega) (by omega) (by omega) fun j G2 f2 P2 j0 j1 => ?_⟩
  have h2 := f2 _ _ np (f1 _ _ np hl)
  have ej : j = ((j.toNat : Nat) : Int) := by omega
  refine ⟨l, vs.map V.int, j, j.toNat, rfl, rfl, h2, ?_, ?_⟩
  · rw [List.length_map, lv]
    unfold ixN
    rw [if_pos j0, if_pos j1]
  · refine k (vs.set j.toNat v) _ ?_ (by rw [List.length_set]; exact lv) (up.set v0 v1) (fun e o ne nl he => ?_) (P2.at np)
    · rw [upd_same, set_ints]
    · rw [upd_ne nl]
      exact f2 _ _ ne (f1 _ _ ne he)
theorem rest_ok {D : Ends} {H0 G : Hp} {p lx ly : Addr} {a b n : Nat} {way : Int} {xs ys : List Int} {y6 y7 y8 y9 : Option V} (w0 : 2 ≤ way) (w1 : way < 6) (ha : a ≤ 40) (hb : b ≤ 40) (fr : Fr p H0 G) (hP : PotAt G p n) (hn : n < 990000)
    (nx : H0 lx = none) (ny : H0 ly = none) (npx : lx ≠ p) (npy : ly ≠ p) (nxy : lx ≠ ly) (hx : G lx = some (.lst (xs.map V.int))) (hy : G ly = some (.lst (ys.map V.int))) (l1 : xs.length = b) (l2 : ys.length = a) (u1 : Upto a xs) (u2 : Upto b ys)
    (k : ∀ t xs ys G', Fr p H0 G' → PotAt G' p (n + 10) → PickAt G' t a b xs ys → D.rt (.ref t) G') :
    tRest K D [some (.ref p), some (.int (a : Int)), some (.int (b : Int)), some (.int way), some (.ref lx), some (.ref ly), y6, y7, y8, y9] G := by
  have hw : way / 2 = 1 ∨ way / 2 = 2 := by omega
  refine ⟨.int way, rfl, way, 2, rfl, rfl, ⟨by decide, by decide⟩, _, 1, rfl, rfl, tk_ok (m := 2) rfl (fun R q => q) hP (by omega) (by decide) (by decide) fun d G1 f1 P1 d0 d1 => ⟨1, d, rfl, rfl, _, _, rfl, rfl, .inl ⟨by omega, by omega⟩, ?_⟩⟩
  have hm : 0 ≤ (way / 2 - 1) * (1 + d) ∧ (way / 2 - 1) * (1 + d) ≤ 2 := by rcases hw with e | e <;> rw [e] <;> omega
  obtain ⟨mm, em, hm⟩ : ∃ mm, (way / 2 - 1) * (1 + d) = mm ∧ 0 ≤ mm ∧ mm ≤ 2 := ⟨_, rfl, hm⟩
  refine ⟨mm, congrArg (fun z => [V.int z]) em, by omega, by omega, ?_⟩
  have inv0 : Fr p H0 G1 := fr.trans f1
  refine for_range (lo := 0) (n := mm.toNat) (fun i σ G' => Fr p H0 G' ∧ PotAt G' p (n + 1 + 3 * i) ∧ ∃ xs ys : List Int, G' lx = some (.lst (xs.map V.int)) ∧ G' ly = some (.lst (ys.map V.int)) ∧ xs.length = b ∧ ys.length = a ∧ Upto a xs ∧ Upto b ys ∧
    ∃ y6, σ = [some (.ref p), some (.int (a : Int)), some (.int (b : Int)), some (.int way), some (.ref lx), some (.ref ly), y6, y7, y8, y9]) ⟨inv0, P1, xs, ys, f1 _ _ npx hx, f1 _ _ npy hy, l1, l2, u1, u2, _, rfl⟩ ?_ ?_
  · rintro i σ G2 hi ⟨fr2, P2, xs2, ys2, hx2, hy2, l1, l2, u1, u2, y6, rfl⟩
    rw [Int.zero_add]
    have i2 : i < 2 := by omega
    have other : ∀ G3, Fr p H0 G3 → PotAt G3 p (n + 1 + 3 * i + 1) → G3 lx = some (.lst (xs2.map V.int)) → G3 ly = some (.lst (ys2.map V.int)) → ∀ E : Ends, (∀ σ G', (Fr p H0 G' ∧ PotAt G' p (n + 1 + 3 * (i + 1)) ∧ ∃ xs ys : List Int, G' lx = some (.lst (xs.map V.int)) ∧ G' ly = some (.lst (ys.map V.int)) ∧ xs.length = b ∧ ys.length = a ∧ Upto a xs ∧ Upto b ys ∧
        ∃ y6, σ = [some (.ref p), some (.int (a : Int)), some (.int (b : Int)), some (.int way), some (.ref lx), some (.ref ly), y6, y7, y8, y9]) → E.nx σ G') →
        tElse E [some (.ref p), some (.int (a : Int)), some (.int (b : Int)), some (.int way), some (.ref lx), some (.ref ly), some (.int (i : Int)), y7, y8, y9] G3 := by
      intro G3 fr3 P3 hx3 hy3 E fin
      refine ⟨.int (a : Int), rfl, _, _, rfl, rfl, _, rfl, ite2 (fun e => ?_) (fun e => ?_)⟩
      · have a0 : 0 < a := by
          have := of_decide_eq_true e
          omega
        refine put_ok (a := b) (b := a) (l := ly) (vs := ys2) rfl rfl rfl rfl hy3 l2 a0 ha hb npy P3 (by omega) u2 fun ws G4 h4 lw uw kp P4 => fin _ _ ⟨fun e o ne he => ?_, P4.mono (by omega), xs2, ws, kp _ _ npx nxy hx3, h4, l1, lw, u1, uw, _, rfl⟩
        exact kp e o ne (ne_of_none he ny) (fr3 e o ne he)
      · exact fin _ _ ⟨fr3, P3.mono (by omega), xs2, ys2, hx3, hy3, l1, l2, u1, u2, _, rfl⟩
    refine ⟨.int (b : Int), rfl, _, _, rfl, rfl, _, rfl, ite2 (fun e => ?_) (fun e => ?_)⟩
    · have b0 : 0 < b := by
        have := of_decide_eq_true e
        omega
      refine tk_ok (m := 2) rfl (fun R q => q) P2 (by omega) (by decide) (by decide) fun d G3 f3 P3 d0 d1 => ⟨rfl, _, rfl, ite2 (fun e2 => ?_) (fun e2 => ?_)⟩
      · refine put_ok (a := a) (b := b) (l := lx) (vs := xs2) rfl rfl rfl rfl (f3 _ _ npx hx2) l1 b0 hb ha npx P3 (by omega) u1 fun ws G4 h4 lw uw kp P4 => ⟨fun e o ne he => ?_, P4.mono (by omega), ws, ys2, h4, kp _ _ npy nxy.symm (f3 _ _ npy hy2), lw, l2, uw, u2, _, rfl⟩
        exact kp e o ne (ne_of_none he nx) (f3 _ _ ne (fr2 e o ne he))
      · exact other G3 (fr2.trans f3) P3 (f3 _ _ npx hx2) (f3 _ _ npy hy2) _ fun _ _ h => h
    · exact other G2 fr2 (P2.mono (by omega)) hx2 hy2 _ fun _ _ h => h
  · rintro σ G2 ⟨fr2, P2, xs2, ys2, hx2, hy2, l1, l2, u1, u2, y6, rfl⟩
    exact tups_ok rfl rfl hx2 hy2 l1 l2 u1 u2 fun t G3 s3 pk => k t xs2 ys2 G3 (fr2.trans (Fr.same s3)) ((P2.same s3).mono (by omega)) pk
end
end C2

namespace C2
set_option Elab.async false
set_option linter.all false
set_option maxRecDepth 100000
set_option maxHeartbeats 4000000
open PySem PySem.Spec PyProof.Rows L2
section
variable {P : Program} {w : World} {K : PySem.W.Frag} {mg : Str → Option Value} {base : Heap}
/-- how many are at most so great -/
def upCount (xs : List Int) (i : Nat) : Int := ((xs.filter fun x => decide (x ≤ (i : Int))).length : Nat)
theorem upCount_le {b : Nat} {xs : List Int} (h : xs.length = b) (i : Nat) : 0 ≤ upCount xs i ∧ upCount xs i ≤ (b : Int) := by
  unfold upCount
  have := List.length_filter_le (fun x => decide (x ≤ (i : Int))) xs
  omega
theorem ok_pick {f fT : Addr} {fd fdT : FuncData} {k : Nat} (F : Fun K "_law_pick" "_law_pick" sPick f fd) (FT : Fun K "_law_take" "_law_take" sTake fT fdT) (bT : Binds K fdT ["_law_pot_here", "_law_many"] []) (gT : mg "_law_take" = some (.ref fT))
    (mr : mg "range" = none) (mt : mg "tuple" = none) (ms : mg "sorted" = none) (ml : mg "len" = none) : FnOk P w K mg base CX0 (k + 2) f fd ["_law_pot_here", "_law_a", "_law_b"] spPick := by
  have GT : FnOk P w K mg base CX0 (k + 1) fT fdT ["_law_pot_here", "_law_many"] spTake := ok_take FT
  refine F.ok scPick (fun vs H Q E h => ?_) (fun cdv A outer s H vs Q E hr h => ?_)
  · obtain ⟨p, a, b, n, rfl, _⟩ := h
    rfl
  · obtain ⟨p, a, b, n, rfl, ha, hb, hP, hn, q⟩ := h
    have nd := scPick.nd
    refine ⟨_, pss_cons (ps_set (i := 3) nd rfl (.inr rfl) (pe_call GT hr (by rfl) gT FT.kp bT .nil pass0 (pa_cons (pv 0) (pa_cons pe_int pa_nil))))
      (pss_cons (ps_if (pt_cmpR op_lt (pv 3) pe_int (nomark _)) (pss_cons (ps_set (i := 4) nd rfl (.inr rfl) (pe_lc (own := [("_law_line", 7)]) (g := gName 7) (tt := tYes) (te := teP K 1) rfl nd (pi_range1 (by rfl) mr (pa_cons (pv 2) pa_nil)) (blkOk_by (own := [("_law_line", 7)]) (N := NPk) (sc := defScope sPick) (by decide +kernel)) (fun _ _ _ _ _ => pg_name (i := 7) nd rfl (.inl rfl)) (fun _ _ _ _ _ => pts_nil) (fun _ _ _ _ _ => (pe_ix ix_list (pe_lst (pa_cons (pe_call GT hr (by rfl) gT FT.kp bT .nil pass0 (pa_cons (pv 0) (pa_cons (pe_op op_add (pv 1) pe_int) pa_nil))) (pa_cons (pe_op op_mul (pv 1) (pe_call GT hr (by rfl) gT FT.kp bT .nil pass0 (pa_cons (pv 0) (pa_cons pe_int pa_nil)))) pa_nil))) (pv 3) (fun _ _ => rfl)))))
      (pss_one (ps_ret (pe_tup (pa_cons (pe_callTy call_tuple_of (by rfl) mt (by decide +kernel) (pa_cons (pv 4) pa_nil)) (pa_cons (pe_callTy call_tuple_of (by rfl) mt (by decide +kernel) (pa_cons (pe_lc (own := [("_law_spot", 8)]) (g := gName 8) (tt := tYes) (te := teP K 2) rfl nd (pi_range1 (by rfl) mr (pa_cons (pv 1) pa_nil)) (blkOk_by (own := [("_law_spot", 8)]) (N := NPk) (sc := defScope sPick) (by decide +kernel)) (fun _ _ _ _ _ => pg_name (i := 8) nd rfl (.inl rfl)) (fun _ _ _ _ _ => pts_nil) (fun _ _ _ _ _ => (pe_ix ix_list (pe_lst (pa_cons (pe_call GT hr (by rfl) gT FT.kp bT .nil pass0 (pa_cons (pv 0) (pa_cons (pe_op op_add (pv 2) pe_int) pa_nil))) (pa_cons (pe_op op_mul (pv 2) (pe_call GT hr (by rfl) gT FT.kp bT .nil pass0 (pa_cons (pv 0) (pa_cons pe_int pa_nil)))) pa_nil))) (pv 3) (fun _ _ => rfl)))) pa_nil)) pa_nil)))))) pss_nil)
      (pss_cons (ps_set (i := 4) nd rfl (.inr rfl) (pe_callB cr_sorted (by rfl) ms (by decide +kernel) (pa_cons (pe_lc (own := [("_law_line", 7)]) (g := gName 7) (tt := tYes) (te := tUp 1) rfl nd (pi_range1 (by rfl) mr (pa_cons (pv 2) pa_nil)) (blkOk_by (own := [("_law_line", 7)]) (N := NPk) (sc := defScope sPick) (by decide +kernel)) (fun _ _ _ _ _ => pg_name (i := 7) nd rfl (.inl rfl)) (fun _ _ _ _ _ => pts_nil) (fun _ _ _ _ _ => (pe_call GT hr (by rfl) gT FT.kp bT .nil pass0 (pa_cons (pv 0) (pa_cons (pe_op op_add (pv 1) pe_int) pa_nil))))) pa_nil)))
      (pss_cons (ps_setLc (i := 5) (own := [("_law_spot", 8)]) (g := gName 8) (tt := tYes) (te := teCo K) rfl nd rfl rfl (sw_true rfl rfl rfl (by decide +kernel)) (pi_range1 (by rfl) mr (pa_cons (pv 1) pa_nil)) (blkOk_by (own := [("_law_spot", 8)]) (N := NPk) (sc := defScope sPick) (by decide +kernel)) (fun _ _ _ _ _ => (pg_name (i := 8) nd rfl (.inr rfl))) (fun _ _ _ _ _ => pts_nil) (fun _ _ _ _ _ => (pe_callB call_len_seq (by rfl) ml PySem.boot_len (pa_cons (pe_lc (own := [("_law_x", 9)]) (g := gName 9) (tt := ttLe) (te := tVar 9) rfl nd (pi_list (pv 4)) (blkOk_by (own := [("_law_x", 9)]) (N := NPk) (sc := scSpot) (by decide +kernel)) (fun _ _ _ _ _ => pg_name (i := 9) nd rfl (.inl rfl)) (fun _ _ _ _ _ => pts_one (pt_cmpR op_le (pv 9) (pv 8) (nomark _))) (fun _ _ _ _ _ => (pv 9))) pa_nil))))
      (pss_cons (ps_if (pt_cmpR op_eq (pe_op op_mod (pv 3) pe_int) pe_int (nomark _)) (pss_one (ps_asg (pe_tup (pa_cons (pe_lc (own := [("_law_x", 9)]) (g := gName 9) (tt := tYes) (te := tOp (rI0 fun i j => V.int (i - j)) (tVar 1) (tVar 9)) rfl nd (pi_list (pv 4)) (blkOk_by (own := [("_law_x", 9)]) (N := NPk) (sc := defScope sPick) (by decide +kernel)) (fun _ _ _ _ _ => pg_name (i := 9) nd rfl (.inl rfl)) (fun _ _ _ _ _ => pts_nil) (fun _ _ _ _ _ => (pe_op op_sub (pv 1) (pv 9)))) (pa_cons (pe_revL (pv 5)) pa_nil))) (pg_tup rfl (pgs_cons (pg_name (i := 4) nd rfl (.inr rfl)) (pgs_cons (pg_name (i := 5) nd rfl (.inl rfl)) pgs_nil))))) pss_nil)
      (pss_cons (ps_for PassesOwn.never rfl (pi_range1 (by rfl) mr (pa_cons (pe_op op_mul (pe_op op_sub (pe_op op_fdiv (pv 3) pe_int) pe_int) (pe_op op_add pe_int (pe_call GT hr (by rfl) gT FT.kp bT .nil pass0 (pa_cons (pv 0) (pa_cons pe_int pa_nil))))) pa_nil)) (pg_name (i := 6) nd rfl (.inl rfl)) (pss_one (ps_if (PW.pt (pw_and (pt_cmpR op_gt (pv 2) pe_int (nomark _)) (pw_and1 (pt_cmpR op_eq (pe_call GT hr (by rfl) gT FT.kp bT .nil pass0 (pa_cons (pv 0) (pa_cons pe_int pa_nil))) pe_int (nomark _))))) (pss_one (ps_asg (pe_call GT hr (by rfl) gT FT.kp bT .nil pass0 (pa_cons (pv 0) (pa_cons (pe_op op_add (pv 1) pe_int) pa_nil))) (pg_sub (pv 4) (pe_call GT hr (by rfl) gT FT.kp bT .nil pass0 (pa_cons (pv 0) (pa_cons (pv 2) pa_nil))) set_list))) (pss_one (ps_if (pt_cmpR op_gt (pv 1) pe_int (nomark _)) (pss_one (ps_asg (pe_call GT hr (by rfl) gT FT.kp bT .nil pass0 (pa_cons (pv 0) (pa_cons (pe_op op_add (pv 2) pe_int) pa_nil))) (pg_sub (pv 5) (pe_call GT hr (by rfl) gT FT.kp bT .nil pass0 (pa_cons (pv 0) (pa_cons (pv 1) pa_nil))) set_list))) pss_nil)))))
      (pss_one (ps_ret (pe_tup (pa_cons (pe_callTy call_tuple_of (by rfl) mt (by decide +kernel) (pa_cons (pv 4) pa_nil)) (pa_cons (pe_callTy call_tuple_of (by rfl) mt (by decide +kernel) (pa_cons (pv 5) pa_nil)) pa_nil)))))))))), ?_⟩
    refine ⟨.ref p, rfl, p, 6, n, rfl, hP, by omega, by decide, by decide, fun way H1 f1 P1 w0 w1 => ?_⟩
    refine ⟨.int way, rfl, _, _, rfl, rfl, _, rfl, ite2 (fun e => ?_) (fun e => ?_)⟩
    · have w2 : way = 0 ∨ way = 1 := by
        have := of_decide_eq_true e
        omega
      refine seqAsg (lc_draw (te := teP K 1) (sl := 7) (len := b) (m := a) (n := n + 1) (p := p) (fun v => rfl) hb (fun R h => ⟨.int (b : Int), rfl, h⟩) P1 (fun j G R hj pt kk => teP_ok (a := a) (n := n + 1 + 3 * j) (way := way) rfl rfl rfl w2 pt (by omega) ha fun d G' f P d0 d1 => kk d G' f (P.mono (by omega)) d0 d1) fun D vs G2 f2 P2 nD nDp hD l1 u1 => ?_)
      refine ⟨.ref D, rfl, D, _, rfl, .inl ⟨.inl (.inl hD), fun t1 n1 => ?_⟩⟩
      have s1 := same_upd (o := .tup (vs.map V.int)) n1
      refine tcb_run (lc_draw (te := teP K 2) (sl := 8) (len := a) (m := b) (n := n + 1 + 3 * b) (p := p) (fun v => rfl) ha (fun R h => ⟨.int (a : Int), rfl, h⟩) (P2.same s1) (fun j G R hj pt kk => teP_ok (a := b) (n := n + 1 + 3 * b + 3 * j) (way := way) rfl rfl rfl w2 pt (by omega) hb fun d G' f P d0 d1 => kk d G' f (P.mono (by omega)) d0 d1) fun D2 ws G3 f3 P3 nD2 nDp2 hD2 l2 u2 => ?_)
      refine ⟨D2, _, rfl, .inl ⟨.inl (.inl hD2), fun t2 n2 => ⟨by show 2 ≤ sizeLine; decide, fun t nt => ?_⟩⟩⟩
      have s2 := same_upd (o := .tup (ws.map V.int)) n2
      have s3 := same_upd (o := .tup [.ref t1, .ref t2]) nt
      have nt1 : t1 ≠ p := P2.ne n1
      refine q t vs ws _ (f1.trans (f2.trans ((Fr.same s1).trans (f3.trans (Fr.same (s2.trans s3)))))) (((P3.same s2).same s3).mono (by omega)) ⟨t1, t2, upd_same, s3 _ _ (s2 _ _ (f3 _ _ nt1 upd_same)), s3 _ _ upd_same, l1, l2, u1, u2⟩
    · have w2 : 2 ≤ way := by
        by_cases c : way < 2
        · exact absurd (decide_eq_true c) e
        · omega
      show tSeq (tAsg (tCB (rSorted K) (tCons (tLc (iRng1 (tCons (tVar 2) tNil)) (gName 7) tYes (tUp 1) [7]) tNil)) (gName 4)) _ _ _ _
      refine seqAsg (tcb_run (lc_draw (te := tUp 1) (sl := 7) (len := b) (m := a) (n := n + 1) (p := p) (fun v => rfl) hb (fun R h => ⟨.int (b : Int), rfl, h⟩) P1 (fun j G R hj pt kk => up_ok (a := a) (n := n + 1 + 3 * j) rfl rfl pt (by omega) ha fun d G' f P d0 d1 => kk d G' f (P.mono (by omega)) d0 d1) fun D vs G2 f2 P2 nD nDp hD l1 u1 => ?_))
      refine ⟨D, vs, rfl, .inl (.inl hD), by omega, fun xs lx pm srt nlx => ?_⟩
      have sx := same_upd (o := .lst (xs.map V.int)) nlx
      have nlxp : lx ≠ p := P2.ne nlx
      have l1' : xs.length = b := by rw [pm.length_eq, l1]
      have u1' : Upto a xs := fun v hv => u1 v (pm.mem_iff.mp hv)
      have P3 := P2.new (o := .lst (xs.map V.int)) nlx
      have f3 : Fr p H (upd G2 lx (.lst (xs.map V.int))) := f1.trans (f2.trans (Fr.same sx))
      have hx3 : (upd G2 lx (.lst (xs.map V.int))) lx = some (.lst (xs.map V.int)) := upd_same
      generalize upd G2 lx (.lst (xs.map V.int)) = G3 at P3 f3 hx3
      -- the counts
      refine ⟨.int (a : Int), rfl, (a : Int), rfl, by omega, by omega, fun ly nly => ?_⟩
      refine lc_range (lo := 0) (n := a) (fun i G => Same G3 G ∧ G ly = some (.lst (((List.range i).map fun i => upCount xs i).map V.int))) ⟨same_upd nly, upd_same⟩ ?_ ?_
      · rintro i G hi ⟨sm, hly⟩
        rw [Int.zero_add]
        have hxG := sm _ _ hx3
        refine ⟨rfl, .ref lx, rfl, lx, rfl, ⟨_, .inl (.inl hxG)⟩, fun D2 nD2 => ?_⟩
        refine lc_list (xs := xs.map V.int) (fun m G' => Same G G' ∧ G' D2 = some (.lst (((xs.take m).filter fun x => decide (x ≤ (i : Int))).map V.int))) ⟨same_upd nD2, upd_same⟩ (fun m G' _ h => .inl (.inl (h.1 _ _ hxG))) ?_ ?_
        · rintro m x G' hx ⟨s2, h2⟩
          have hm : m < xs.length := by
            have := (List.getElem?_eq_some_iff.mp hx).1
            rw [List.length_map] at this
            exact this
          have ex : x = .int xs[m] := by
            rw [List.getElem?_map, List.getElem?_eq_getElem hm] at hx
            exact (Option.some.inj hx).symm
          subst ex
          have tk : (xs.take (m + 1)).filter (fun x => decide (x ≤ (i : Int))) = (xs.take m).filter (fun x => decide (x ≤ (i : Int))) ++ if xs[m] ≤ (i : Int) then [xs[m]] else [] := by
            rw [List.take_add_one, List.getElem?_eq_getElem hm, List.filter_append]
            congr 1
            show List.filter _ [xs[m]] = _
            by_cases c : xs[m] ≤ (i : Int)
            · simp [c]
            · simp [c]
          refine ⟨rfl, .int xs[m], rfl, .int (i : Int), rfl, _, _, rfl, rfl, _, rfl, ite2 (fun c => ?_) (fun c => ?_)⟩
          · have c' := of_decide_eq_true c
            refine ⟨.int xs[m], rfl, _, h2, ?_, ?_, ?_⟩
            · rw [List.length_map]
              refine Nat.lt_of_le_of_lt (List.length_filter_le _ _) (Nat.lt_of_lt_of_le (show (xs.take m).length < 1000 by rw [List.length_take]; omega) (by decide))
            · intro b' o e'
              rw [upd_ne (ne_of_none e' nD2)]
              exact s2 _ _ e'
            · rw [upd_same, tk, if_pos c', List.map_append]
              rfl
          · have c' : ¬ xs[m] ≤ (i : Int) := fun z => c (decide_eq_true z)
            rw [tk, if_neg c', List.append_nil]
            exact ⟨s2, h2⟩
        · rintro G' ⟨s2, h2⟩
          rw [List.take_of_length_le (by rw [List.length_map]; exact Nat.le_refl _)] at h2
          refine ⟨D2, _, rfl, .inl (.inl (.inl h2)), _, s2 _ _ hly, ?_, ?_, ?_⟩
          · rw [List.length_map, List.length_map, List.length_range]
            exact Nat.lt_of_lt_of_le (show i < 1000 by omega) (by decide)
          · intro b' o e'
            rw [upd_ne (ne_of_none e' nly)]
            exact s2 _ _ (sm _ _ e')
          · rw [upd_same, List.range_succ, List.map_append, List.map_append, List.length_map]
            rfl
      · rintro G4 ⟨s4, h4⟩
        have hx4 := s4 _ _ hx3
        have P4 := P3.same s4
        have f4 := f3.trans (Fr.same s4)
        have nlyp : ly ≠ p := P3.ne nly
        have nxy : lx ≠ ly := ne_of_none hx3 nly
        have lys : ((List.range a).map fun i => upCount xs i).length = a := by rw [List.length_map, List.length_range]
        have uys : Upto b ((List.range a).map fun i => upCount xs i) := fun v hv => by
          obtain ⟨i, _, rfl⟩ := List.mem_map.mp hv
          exact upCount_le l1' i
        generalize (List.range a).map (fun i => upCount xs i) = ys at h4 lys uys
        have nH : ∀ z, z ≠ p → G3 z = none → H z = none := fun z nz h => f3.free nz h
        have nHx : H lx = none := (f1.trans f2).free nlxp nlx
        have nHy : H ly = none := nH ly nlyp nly
        refine gName_run ?_
        refine ⟨.int way, rfl, _, _, rfl, rfl, (by show (0 : Int) < 2; decide), rfl, _, rfl, ite2 (fun c => ?_) (fun c => ?_)⟩
        · refine ⟨.ref lx, rfl, lx, rfl, ⟨_, .inl (.inl hx4)⟩, fun D3 nD3 => ?_⟩
          refine lc_list (xs := xs.map V.int) (fun m G' => Same G4 G' ∧ G' D3 = some (.lst (((xs.take m).map fun x => (a : Int) - x).map V.int))) ⟨same_upd nD3, upd_same⟩ (fun m G' _ h => .inl (.inl (h.1 _ _ hx4))) ?_ ?_
          · rintro m x G' hx ⟨s5, h5⟩
            have hm : m < xs.length := by
              have := (List.getElem?_eq_some_iff.mp hx).1
              rw [List.length_map] at this
              exact this
            have ex : x = .int xs[m] := by
              rw [List.getElem?_map, List.getElem?_eq_getElem hm] at hx
              exact (Option.some.inj hx).symm
            subst ex
            refine ⟨rfl, .int (a : Int), rfl, .int xs[m], rfl, _, _, rfl, rfl, _, h5, ?_, ?_, ?_⟩
            · rw [List.length_map, List.length_map, List.length_take]
              exact Nat.lt_of_le_of_lt (Nat.min_le_left _ _) (Nat.lt_of_lt_of_le (show m < 1000 by omega) (by decide))
            · intro b' o e'
              rw [upd_ne (ne_of_none e' nD3)]
              exact s5 _ _ e'
            · rw [upd_same, List.take_add_one, List.getElem?_eq_getElem hm, List.map_append, List.map_append]
              rfl
          · rintro G5 ⟨s5, h5⟩
            rw [List.take_of_length_le (by rw [List.length_map]; exact Nat.le_refl _)] at h5
            have h4' := s5 _ _ h4
            refine ⟨.ref ly, rfl, ly, _, rfl, .inl (.inl h4'), fun D4 nD4 => ⟨by show 2 ≤ sizeLine; decide, fun T nT => ?_⟩⟩
            have s6 := same_upd (o := .lst (ys.map V.int).reverse) nD4
            have s7 := same_upd (o := .tup [.ref D3, .ref D4]) nT
            refine ⟨T, _, rfl, .inl (.inl upd_same), rfl, _, _, rfl, _, _, rfl, rfl, ?_⟩
            have s57 := s5.trans (s6.trans s7)
            have nD3p : D3 ≠ p := P4.ne nD3
            have nD4p : D4 ≠ p := (P4.same s5).ne nD4
            refine rest_ok (H0 := H) (n := n + 1 + 3 * b) (xs := xs.map fun x => (a : Int) - x) (ys := ys.reverse) w2 w1 ha hb (f4.trans (Fr.same s57)) (P4.same s57) (by omega) ((f4.free nD3p) nD3) ((f4.trans (Fr.same s5)).free nD4p nD4) nD3p nD4p (ne_of_none h5 nD4) (s7 _ _ (s6 _ _ h5)) ?_ ?_ ?_ ?_ ?_ fun t xs' ys' G' fr' pt' pk => q t xs' ys' G' fr' (pt'.mono (by omega)) pk
            · rw [← List.map_reverse] at s7 ⊢
              exact s7 _ _ (by rw [upd_same, List.map_reverse])
            · rw [List.length_map]; exact l1'
            · rw [List.length_reverse]; exact lys
            · intro v hv
              obtain ⟨x, hx, rfl⟩ := List.mem_map.mp hv
              have := u1' x hx
              omega
            · intro v hv
              exact uys v (List.mem_reverse.mp hv)
        · exact rest_ok (H0 := H) (n := n + 1 + 3 * b) w2 w1 ha hb f4 P4 (by omega) nHx nHy nlxp nlyp nxy hx4 h4 l1' lys u1' uys fun t xs' ys' G' fr' pt' pk => q t xs' ys' G' fr' (pt'.mono (by omega)) pk
end
end C2

namespace C2
set_option Elab.async false
set_option linter.all false
set_option maxRecDepth 100000
set_option maxHeartbeats 4000000
open PySem PySem.Spec PyProof.Rows L2
/-! ### zip of a list and a tuple -/
def ItLT (K : PySem.W.Frag) (a b : Addr) : It :=
  ⟨fun j G => ∃ (us vs : List V) (u v : V), SqL K G a us ∧ SqT K G b vs ∧ us[j]? = some u ∧ vs[j]? = some v,
    fun j G r G' => ∃ T u v, r = .ref T ∧ G T = none ∧ G' = upd G T (.tup [u, v]) ∧ (∀ us, SqL K G a us → us[j]? = some u) ∧ ∀ vs, SqT K G b vs → vs[j]? = some v,
    fun j G => ∃ us vs : List V, SqL K G a us ∧ SqT K G b vs ∧ j ≤ us.length ∧ j ≤ vs.length ∧ (j = us.length ∨ j = vs.length)⟩
def tnLT (a b z TI TO i1 i2 : Addr) (j : Nat) (h : Heap) : Prop :=
  IsZip h z TI TO .none ∧ IsTupOf2 h TI (.ref i1) (.ref i2) ∧ (∃ u v, IsTupOf2 h TO u v) ∧ h.IsListIter i1 a j ∧ h.IsTupleIter i2 b j
theorem in5 {c z TI TO i1 i2 : Addr} (h : c ∈ [z, TI, TO, i1, i2]) : c = z ∨ c = TI ∨ c = TO ∨ c = i1 ∨ c = i2 := by simpa using h
theorem turnLT {P : Program} {w : World} {K : PySem.W.Frag} {elts : List Expr} {kk : Nat} {tpos : Pos} {a b z TI TO i1 i2 : Addr} (S : ZipSep2 z TI TO i1 i2 [i1, a] [i2, b]) :
    Turn P w K (.Tuple elts kk tpos) (ItLT K a b) [z, TI, TO, i1, i2] z (tnLT a b z TI TO i1 i2) where
  mem := by simp
  obj := by
    rintro j h ⟨q1, q2, ⟨u, v, q3⟩, ⟨o4, q4, _, d4⟩, ⟨o5, q5, _, d5⟩⟩ c hc
    rcases in5 hc with rfl | rfl | rfl | rfl | rfl
    · exact ⟨_, q1, fun _ e => nomatch e⟩
    · exact ⟨_, q2, fun _ e => nomatch e⟩
    · exact ⟨_, q3, fun _ e => nomatch e⟩
    · exact ⟨o4, q4, fun _ e => by rw [d4] at e; cases e⟩
    · exact ⟨o5, q5, fun _ e => by rw [d5] at e; cases e⟩
  keep := by
    rintro j h h' ⟨q1, q2, ⟨u, v, q3⟩, q4, q5⟩ kp
    exact ⟨kp z (by simp) _ q1, kp TI (by simp) _ q2, ⟨u, v, kp TO (by simp) _ q3⟩, q4.at fun o e => kp i1 (by simp) o e, q5.at fun o e => kp i2 (by simp) o e⟩
  item := by
    intro X hP hw hK hc j pins s σ G E I hf st hg
    subst hP hw hK
    obtain ⟨q1, q2, ⟨u0, v0, q3⟩, q4, q5⟩ := st
    obtain ⟨us, vs, u, v, su, sv, gu, gv⟩ := hg
    obtain ⟨uits, ru, pu, _⟩ := I.list su
    obtain ⟨vits, rv, pv, _⟩ := I.tuple sv
    obtain ⟨uu, huu, ruu⟩ := ru.get gu
    obtain ⟨vv, hvv, rvv⟩ := rv.get gv
    have hd : X.A.handled = none := I.ok.hd hc
    have hzl : z < s.heap.objs.size := Heap.lt_size q1
    have ne1 : a ≠ i1 := fun e => by
      obtain ⟨o4, e4, c4, _⟩ := q4
      obtain ⟨o, oe, oc, _⟩ := pu.isList
      rw [e, e4] at oe
      cases oe
      rw [c4] at oc
      exact absurd oc (by decide)
    have ne2 : b ≠ i2 := fun e => by
      obtain ⟨o4, e4, c4, _⟩ := q5
      obtain ⟨o, oe, oc, _⟩ := pv
      rw [e, e4] at oe
      cases oe
      rw [c4] at oc
      exact absurd oc (by decide)
    have D1 := Draws.list (prog := X.prog) (w := X.w) (A := X.A.in1) hd i1 a ne1 uits.toArray
    have D2 := Draws.tuple (prog := X.prog) (w := X.w) (A := X.A.in1) hd i2 b ne2 vits.toArray
    have l1 : j < uits.toArray.size := by
      have := (List.getElem?_eq_some_iff.mp huu).1
      simpa using this
    have l2 : j < vits.toArray.size := by
      have := (List.getElem?_eq_some_iff.mp hvv).1
      simpa using this
    refine wpAny_pyNext_zipD2_item S D1 D2 q1 q2 q3 ⟨q4, pu.isList⟩ ⟨q5, pv⟩ l1 l2 fun x1 x2 h' tk e1 e2 n1 n3 n4 n5 nT nsz nk => ?_
    have ex1 : x1 = uu := Option.some.inj (e1.symm.trans (by simpa using huu))
    have ex2 : x2 = vv := Option.some.inj (e2.symm.trans (by simpa using hvv))
    subst ex1 ex2
    refine ⟨_, rfl, wpAny_letOwnedTupleGo_zip (s := { s with heap := h', toks := tk }) n1 fun h'' m1 sb => ?_⟩
    have mT : h''.get? s.heap.objs.size = some { cls := .type "tuple", data := .seq #[x1, x2] } := (sb.2 _ (Nat.ne_of_gt hzl)).trans nT
    have new : ObjOk X.prog X.w (upd G s.heap.objs.size (.tup [u, v])) h'' s.heap.objs.size (.tup [u, v]) :=
      ⟨by show 2 ≤ sizeLine; decide, [x1, x2], .cons ruu (.cons rvv .nil), ⟨_, mT, rfl, _, rfl⟩⟩
    have I1 : Inv X pins σ (upd G s.heap.objs.size (.tup [u, v])) { s with heap := h'', toks := tk } :=
      I.turnedNew (t' := tk) (ch := [z, TI, TO, i1, i2]) (fun c o hb q => (sb.2 c (fun e => hb (by simp [e]))).trans
        (nk c o (fun e => hb (by simp [e])) (fun e => hb (by simp [e])) (fun e => hb (by simp [e])) (fun e => hb (by simp [e])) q)) hf (Nat.le_refl _) new
    refine ⟨.ref s.heap.objs.size, _, I1, rfl, ⟨_, u, v, rfl, I.hok.fresh (Nat.le_refl _), rfl, fun l hl => ?_, fun l hl => ?_⟩, ⟨m1, ?_, ⟨x1, x2, ?_⟩, ?_, ?_⟩, fun c hcm => ?_⟩
    · rw [I.list_inj hl su]; exact gu
    · rw [I.tuple_inj hl sv]; exact gv
    · exact (sb.2 _ S.TIz).trans (nk _ _ S.TIz S.TITO S.TIi1 S.TIi2 q2)
    · exact (sb.2 _ S.TOz).trans n3
    · exact n4.1.at fun o e => (sb.2 _ S.zi1.symm).trans e
    · exact n5.1.at fun o e => (sb.2 _ S.zi2.symm).trans e
    · have low : c < s.heap.objs.size := by
        rcases in5 hcm with rfl | rfl | rfl | rfl | rfl
        · exact hzl
        · exact Heap.lt_size q2
        · exact Heap.lt_size q3
        · obtain ⟨_, y, _⟩ := q4; exact Heap.lt_size y
        · obtain ⟨_, y, _⟩ := q5; exact Heap.lt_size y
      rw [upd_ne (Nat.ne_of_lt low)]
      exact (hf c hcm).1
  done := by
    intro X hP hw hK hc j pins s σ G E I hf st hg
    subst hP hw hK
    obtain ⟨q1, q2, ⟨u0, v0, q3⟩, q4, q5⟩ := st
    obtain ⟨us, vs, su, sv, b1, b2, b3⟩ := hg
    obtain ⟨uits, ru, pu, _⟩ := I.list su
    obtain ⟨vits, rv, pv, _⟩ := I.tuple sv
    have hd : X.A.handled = none := I.ok.hd hc
    have ne1 : a ≠ i1 := fun e => by
      obtain ⟨o4, e4, c4, _⟩ := q4
      obtain ⟨o, oe, oc, _⟩ := pu.isList
      rw [e, e4] at oe
      cases oe
      rw [c4] at oc
      exact absurd oc (by decide)
    have ne2 : b ≠ i2 := fun e => by
      obtain ⟨o4, e4, c4, _⟩ := q5
      obtain ⟨o, oe, oc, _⟩ := pv
      rw [e, e4] at oe
      cases oe
      rw [c4] at oc
      exact absurd oc (by decide)
    have D1 := Draws.list (prog := X.prog) (w := X.w) (A := X.A.in1) hd i1 a ne1 uits.toArray
    have D2 := Draws.tuple (prog := X.prog) (w := X.w) (A := X.A.in1) hd i2 b ne2 vits.toArray
    have l1 := ru.length
    have l2 := rv.length
    refine wpAny_pyNext_zipD2_end S D1 D2 q1 q2 q3 ⟨q4, pu.isList⟩ ⟨q5, pv⟩ (by simp; omega) (by simp; omega) (by simp; omega) fun h' tk nk => ⟨rfl, ?_⟩
    exact I.turnedL (t' := tk) (ch := [z, TI, TO, i1, i2]) (fun c o hb q =>
      nk c o (fun e => hb (by simp [e])) (fun e => hb (by simp [e])) (fun e => hb (by simp [e])) (fun e => hb (by simp [e])) q) hf
  self := fun A j s Q E st h => wpAny_pyIter_zip st.1 h
def iZipLT (K : PySem.W.Frag) (ta : TA) : TI := fun σ G R => ta σ G fun vs G1 => ∃ a b us ys, vs = [.ref a, .ref b] ∧ SqL K G1 a us ∧ SqT K G1 b ys ∧ R (ItLT K a b) G1
theorem pi_zipLT {X : Cx} {e e2 : Expr} {ta : TA} {p pos tpos : Pos} {elts : List Expr} {kk : Nat} (hg : Gl X "zip") (hm : X.mg "zip" = none) (ha : PA X [e, e2] ta)
    (plainArgs : starEach [e, e2] X.env = (false, eval e X.env) :: starEach [e2] X.env := by rfl)
    (noStar : (backTo pos (starEach [e2] X.env)).any (·.1) = false := by rfl) :
    PI X (.Tuple elts kk tpos) (.Call (.Name "zip" p) [e, e2] [] pos) (iZipLT X.K ta) := by
  refine ⟨fun pins s σ G R I h => Call_ (ld_blt I hg hm PyProof.Rows.boot_zip (PyProof.Rows.callWith_type1 (thn (ha.run pos pins s σ G _ I h) fun us s1 ⟨vs, G1, I1, r1, q1⟩ => ?_) plainArgs noStar))⟩
  obtain ⟨a, b, xs, ys, rfl, sx, sy, q⟩ := q1
  cases r1 with
  | cons r rr => cases rr with
    | cons r' rr =>
      cases rr
      cases r
      cases r'
      obtain ⟨uits, ru, pu, _⟩ := I1.list sx
      obtain ⟨vits, rv, pv, _⟩ := I1.tuple sy
      obtain ⟨oa, ea, _⟩ := id pu.isList
      obtain ⟨ob, eb, _⟩ := id pv
      have S := zip_sep2 (N := s1.heap.objs.size) (fp1 := [a]) (fp2 := [b]) (fun c hc => by rw [List.mem_singleton.mp hc]; exact Heap.lt_size ea) (fun c hc => by rw [List.mem_singleton.mp hc]; exact Heap.lt_size eb)
      refine zip_begins2 (begins_list a uits.toArray) (begins_tuple b vits.toArray) pu.isList pv fun h' g1 g2 g3 g4 g5 gsz gk => wpAny_pyIter_zip g1 ?_
      refine ⟨s1.heap.objs.size + 4, [s1.heap.objs.size + 4, s1.heap.objs.size + 2, s1.heap.objs.size + 3, s1.heap.objs.size, s1.heap.objs.size + 1], _, _, G1, rfl, I1.kept (t' := s1.toks) gk, turnLT S,
        ⟨g1, g2, ⟨_, _, g3⟩, ⟨_, g4, rfl, rfl⟩, ⟨_, g5, rfl, rfl⟩⟩, fun c hc => ?_, q⟩
      have above : s1.heap.objs.size ≤ c := by
        rcases in5 hc with rfl | rfl | rfl | rfl | rfl
        · exact Nat.le_add_right _ _
        · exact Nat.le_add_right _ _
        · exact Nat.le_add_right _ _
        · exact Nat.le_refl _
        · exact Nat.le_add_right _ _
      exact I1.fpOk above (I1.hok.fresh above)
theorem walkLT {K : PySem.W.Frag} {a b : Addr} {xs ys : List V} {n : Nat} (h1 : xs.length = n) (h2 : ys.length = n) : Walk (ItLT K a b) n (fun G => SqL K G a xs ∧ SqT K G b ys) (YPair (fun i => xs[i]?) (fun i => ys[i]?)) := by
  refine ⟨fun i G hi q => ⟨xs, ys, xs[i]'(by omega), ys[i]'(by omega), q.1, q.2, List.getElem?_eq_getElem _, List.getElem?_eq_getElem _⟩, fun G q => ⟨xs, ys, q.1, q.2, by omega, by omega, by omega⟩, fun i G v G' _ q y => ?_⟩
  obtain ⟨T, u, v, e1, e2, e3, e4, e5⟩ := y
  exact ⟨T, u, v, e1, e2, e3, e4 xs q.1, e5 ys q.2⟩
/-! ### repr of data -/
def rReprD (K : PySem.W.Frag) : List V → Hp → VK → Prop := fun xs G Q => ∃ a d, xs = [.ref a] ∧ Dp K G (.ref a) d ∧ d.showable = true ∧ d.hasDict = false ∧ d.depth ≤ 60 ∧ d.shown.length ≤ sizeLine ∧ Q (.str d.shown) G
theorem call_reprD {X : Cx} (hu : X.A.units + 64 < cLine) (hgd : X.A.guards = some []) : CallR X (.builtin "repr") (rReprD X.K) := by
  intro pins s σ G xs us Q I r h
  obtain ⟨a, d, rfl, hd, s1, s2, s3, s4, q⟩ := h
  obtain ⟨given, rfl, rel⟩ := vals1 r
  obtain ⟨as, rd⟩ := Dp.reads I d _ _ hd rel
  cases rel
  refine repr_of_reads' rd s1 (fun e => by rw [s2] at e; cases e) hgd (by omega) (fun _ _ e => e) (fun h' t tk kp => ?_) s4
  exact ⟨.str d.shown, G, I.kept (t' := tk) kp, ⟨_, rfl⟩, q⟩
end C2

namespace C2
set_option Elab.async false
set_option linter.all false
set_option maxRecDepth 100000
set_option maxHeartbeats 4000000
open PySem PySem.Spec PyProof.Rows L2
/-! ### a def's promise where no repr is under way -/
structure FnG (P : Program) (w : World) (K : PySem.W.Frag) (mg : Str → Option Value) (base : Heap) (k : Nat) (f : Addr) (fd : FuncData) (ps : List Str) (sp : Sp) : Prop where
  len : ∀ vs G Q E, sp vs G Q E → vs.length = ps.length
  run : ∀ (A : Around) (outer : List Env) (s : Shared) (G : Hp) (args : Args) (us : List Value) (vs : List V) (Q : VK) (E : XK), A.guards = some [] → Room k A →
    Env0 P w K mg base A outer s G → BindsTo s fd args (ps.zip us) → Vals vs us → sp vs G Q E → codeAny (model P w) A (.call (.ref f) args) (CR CX0 outer P w G s Q E) s
section
variable {P : Program} {w : World} {K : PySem.W.Frag} {mg : Str → Option Value} {base : Heap}
theorem deeper_guards {A : Around} {env : Env} (h : A.guards = some []) : (A.deeper env).guards = some [] := h
theorem okG {x qual : Str} {st : Stmt} {f : Addr} {fd : FuncData} {N ps : List Str} {k : Nat} {sp : Sp} (F : Fun K x qual st f fd) (S : FnScope N ps (defScope st)) (len : ∀ vs G Q E, sp vs G Q E → vs.length = ps.length)
    (body : ∀ (cdv : Value) (A : Around) (outer : List Env) (s : Shared) (G : Hp) (vs : List V) (Q : VK) (E : XK), A.guards = some [] → Room k (A.deeper (envOfC qual (defScope st) s.heap.objs.size f cdv)) → sp vs G Q E →
      ∃ t, PSs (cxOf CX0 P w K mg base N qual (defScope st) f cdv A outer s G E).nox (defBody st) t ∧ t { nx := fun _ G' => Q .non G', rt := Q } (start N vs) G) : FnG P w K mg base (k + 1) f fd ps sp := by
  obtain ⟨v1, v2, v3, v4, v5, v6, cdv, v7, v8, rfl, lk, hcd⟩ := F.ex
  refine ⟨len, fun A outer s G args us vs Q E hgd hr e0 hb r hsp => ?_⟩
  have ln := len vs G Q E hsp
  have inK : K.In s.heap := e0.mod.kin.keeps fun c y e => (e0.bs c y e).left
  have noL : s.heap.NoLimit := e0.mod.nolimit.keeps fun c y e => (e0.bs c y e).left
  refine codeAny_call_function hr.depth (inK _ _ lk) rfl S.co S.gen rfl (PySem.W.codeRec_of inK hcd) (hb _ _ _ _ ?_)
  refine wpAny_newFunctionEnv_cells S.kind (fun y hy => ?_) fun env he s1 x => ?_
  · rcases S.par y.1 (List.of_mem_zip (a := y.1) (b := y.2) hy).1 with q | q
    · exact Or.inl q
    · exact Or.inr ⟨q, PySem.W.cellsFrom_some _ _ _ (Or.inl q)⟩
  · subst he
    refine ⟨noL.keeps x.toInCall.keep, codeAny_func ?_⟩
    obtain ⟨t, ht, hq⟩ := body cdv A outer s G vs Q E hgd (hr.deeper _) hsp
    have J0 := inv_start (CX := CX0) (E := E) S hr.hd e0 ln r x
    refine wpAny_mono (ht.nox.run [] s1 (start N vs) G _ J0 hq) (fun fl s' hs => ?_) fun _ _ hs => hs
    cases fl with
    | ret u =>
      obtain ⟨v, σ', G', J, rv, q⟩ := hs
      exact ⟨v, G', J.os, J.bare, J.base, J.hok, rv, q⟩
    | next =>
      obtain ⟨σ', G', J, q⟩ := hs
      exact ⟨V.non, G', J.os, J.bare, J.base, J.hok, rfl, q⟩
    | brk =>
      obtain ⟨_, _, _, q⟩ := hs
      exact q.elim
    | cont =>
      obtain ⟨_, _, _, q⟩ := hs
      exact q.elim
/-- what the law's own call leaves: True, and what stood before as it was -/
def Leaves (s₁ : Shared) : Except Value Flow → Shared → Prop := fun r s' => r = .ok (.ret (.bool true)) ∧ OldK s₁.heap s'.heap ∧
  s'.os = s₁.os ∧ AllBare s'.gens
/-- the law's own call -/
theorem law_callG {mb : Str → Option Value} {k : Nat} {fa a : Addr} {fd : FuncData} {x : Str} {sp : Sp} {s₁ : Shared} {vs : List Value} {ns : List Int}
    (inK : K.In s₁.heap) (hns : s₁.heap.Ns mainGlobals mg) (hb : s₁.heap.Ns builtinsNs mb) (hbb : ∀ x : Str, x ≠ "__name__" → mb x = bootBuiltins x) (hlim : s₁.heap.NoLimit) (hg : s₁.gens = #[])
    (hr : Room k callerA) (hl : ns.length ≤ sizeLine) (hi : IntsAre vs ns)
    (ha : s₁.heap.get? a = some { cls := .type "list", data := .seq vs.toArray })
    (F : ∀ base : Heap, K.In base → base.Ns mainGlobals mg → FnG P w K mg base k fa fd [x] sp) (hbind : ∀ (s : Shared) (u : Value), BindsTo s fd ⟨[u], []⟩ [(x, u)])
    (hsp : ∀ G : Hp, SqL K G a (ns.map V.int) → sp [.ref a] G (fun v _ => v = .bl true) fun _ _ _ => False) :
    codeAny (model P w) callerA (.call (.ref fa) ⟨[.ref a], []⟩) (Leaves s₁) s₁ := by
  have main : ∀ G : Hp, Only G → SqL K G a (ns.map V.int) → HOk P w G s₁.heap → (∀ b, G b ≠ none → b = a) → (G a ≠ none → K.lookup a = none) →
      codeAny (model P w) callerA (.call (.ref fa) ⟨[.ref a], []⟩) (Leaves s₁) s₁ := by
    intro G only sq hok one off
    have hid : ∀ {b : Addr} {y : Obj}, s₁.heap.get? b = some y → (G b = none) → (hidT s₁.heap G).get? b = some y := fun e n => hidT_get e n
    have dct : ∀ {b : Addr} {y : Obj} {es : Array DictEntry} {ep : Nat}, s₁.heap.get? b = some y → y.data = .dict es ep → G b = none := by
      intro b y es ep e d
      cases q : G b with
      | none => rfl
      | some u =>
        have z : b = a := one b (by rw [q]; exact Option.some_ne_none u)
        rw [z, ha] at e
        cases e
        exact absurd d (by intro c; cases c)
    have nsp : ∀ {b : Addr} {m : Str → Option Value}, s₁.heap.Ns b m → (hidT s₁.heap G).Ns b m := by
      rintro b m ⟨y, es, ep, e, d, r⟩
      exact ⟨y, es, ep, hid e (dct e d), d, r⟩
    have kb : K.In (hidT s₁.heap G) := by
      intro b y e
      refine hid (inK b y e) ?_
      cases q : G b with
      | none => rfl
      | some u =>
        have z : b = a := one b (by rw [q]; exact Option.some_ne_none u)
        rw [z] at q e
        rw [off (by rw [q]; exact Option.some_ne_none u)] at e
        cases e
    have md : Mod K mg (hidT s₁.heap G) := by
      refine ⟨kb, nsp hns, ⟨mb, nsp hb, hbb⟩, ?_⟩
      obtain ⟨mc, y1, y2⟩ := hlim
      exact ⟨mc, nsp y1, y2⟩
    have e0 : Env0 P w K mg (hidT s₁.heap G) callerA [] s₁ G :=
      ⟨rfl, md, fun b y e => of_hidT e, Nat.le_of_eq (hidT_size _ _), trivial, fun b z => absurd (show b ∈ ([] : List Addr) from z) List.not_mem_nil, hok, .of_eq hg⟩
    refine codeAny_mono ((F _ kb (nsp hns)).run callerA [] s₁ G ⟨[.ref a], []⟩ [.ref a] [.ref a] _ _ rfl hr e0 (hbind s₁ (.ref a)) (.cons rfl .nil) (hsp G sq)) fun r s' h => ?_
    cases r with
    | error e => exact False.elim h
    | ok fl => cases fl with
      | next => exact False.elim h
      | brk => exact False.elim h
      | cont => exact False.elim h
      | ret u =>
        obtain ⟨v, G', os, bare, un, hok', r', (q : v = .bl true)⟩ := h
        subst q
        cases (show u = Value.bool true from r')
        refine ⟨rfl, OldK.of_keep fun b y e => ?_, os, bare⟩
        cases q : G b with
        | none => exact un.keep b y e q (fun z => absurd (show b ∈ ([] : List Addr) from z) List.not_mem_nil) List.not_mem_nil
        | some u => rcases only b with z | ⟨ob, xs, z⟩
                    · rw [q] at z; cases z
                    · have f1 := (hok b _ z).1
                      have f2 := (hok' b _ (un.frzs b ob _ z)).1
                      rw [e] at f1
                      cases f1
                      exact f2
  have rv := vals_ints hi
  have ln := hi.length
  cases hk : K.lookup a with
  | some y =>
    have e := inK a y hk
    rw [ha] at e
    cases e
    exact main (fun _ => none) (fun _ => .inl rfl) (.inr ⟨_, vs.toArray, _, hk, rfl, rfl, rfl, by rw [List.size_toArray, ln]; exact hl, by simpa using rv⟩)
      (fun b u z => by cases (show (none : Option HO) = some u from z)) (fun b z => absurd rfl z) fun z => absurd rfl z
  | none =>
    obtain ⟨G, at_a, not_a⟩ : ∃ G : Hp, (∀ b, b = a → G b = some (.frz { cls := .type "list", data := .seq vs.toArray } (.lst (ns.map V.int)))) ∧ ∀ b, b ≠ a → G b = none :=
      ⟨fun b => if b = a then some (HO.frz { cls := .type "list", data := .seq vs.toArray } (.lst (ns.map V.int))) else none, fun b e => if_pos e, fun b e => if_neg e⟩
    refine main G (fun b => ?_) (.inl (.inr ⟨_, at_a a rfl⟩)) (fun b u z => ?_) (fun b z => ?_) fun _ => hk
    · by_cases c : b = a
      · exact .inr ⟨_, _, at_a b c⟩
      · exact .inl (not_a b c)
    · by_cases c : b = a
      · rw [at_a b c] at z
        cases z
        rw [c]
        refine ⟨ha, ?_, vs, _, rv, ha⟩
        rw [List.length_map]
        exact hl
      · rw [not_a b c] at z
        cases z
    · by_cases c : b = a
      · exact c
      · exact absurd (not_a b c) z
end
theorem walkG {l : PySem.W.OpenLaw} {n k : Nat} {q : Program} {loose : List Str} {XP : (Str → Option Value) → Heap → Prop} {YP : World → Heap → Prop} {d : DefRec} {K : Params → PySem.W.Frag} {sp : PySem.W.Frag → Sp} {x : Str}
    (most : l.most = some n) (short : n ≤ sizeLine) (bare : d.params.defaults = []) (room : Room k callerA)
    (stands : ∀ (w : World) (h : Heap), YP w h → (K w.params).In h)
    (promise : ∀ (w : World) (mg : Str → Option Value) (fa : Addr) (h : Heap), (K w.params).In h → h.Ns mainGlobals mg →
      mg d.name = some (.ref fa) →
      ∃ fd : FuncData, (∀ (s : Shared) (u : Value), BindsTo s fd ⟨[u], []⟩ [(x, u)]) ∧ ∀ base : Heap, (K w.params).In base → base.Ns mainGlobals mg → FnG l.prog w (K w.params) mg base k fa fd [x] (sp (K w.params)))
    (hsp : ∀ (K : PySem.W.Frag) (G : Hp) (a : Addr) (ns : List Int), ns.length ≤ n → SqL K G a (ns.map V.int) → sp K [.ref a] G (fun v _ => v = .bl true) fun _ _ _ => False) :
    PySem.W.WalkO q loose XP YP l.row.toRowW d []
      (fun f vs => PySem.call f vs) := by
  refine Att.attach_call most bare fun w _ s₁ mg mb fa _ _ _ _ a vs ns G Y _ _ _ hmg there nums few gens => ?_
  have inK := stands w _ Y
  obtain ⟨fd, binds, ok⟩ := promise w mg fa _ inK G.T.g hmg
  exact law_callG inK G.T.g G.T.b G.T.builtins G.T.nolimit gens room (Nat.le_trans few short) nums there ok binds fun H hS => hsp _ H a ns few hS
end C2

namespace C2
set_option Elab.async false
set_option linter.all false
set_option maxRecDepth 100000
set_option maxHeartbeats 4000000
open PySem PySem.Spec PyProof.Rows L2
/-! ### enumerate(t), t a tuple -/
abbrev enumNew (it : Addr) : Obj := { cls := .type "enumerate", data := .fields #[.none, .bool false, .ref it, rawInt 0, .none, .none] }
theorem enumMade {v : Value} {o : Obj} {Hh : Heap → Prop} (B : Begins v o Hh) :
    Meets (Builtin.«enumerate.__new__» ⟨[.type "enumerate", v], []⟩) (fun _ R s => Hh s.heap ∧ R (.ok (.ret (.ref (s.heap.push o).objs.size))) { s with heap := (s.heap.push o).push (enumNew s.heap.objs.size) }) :=
  .of_wp fun prog w A R s hx => by
    obtain ⟨hp, gs, dr, tk, os⟩ := s
    obtain ⟨b1, fin⟩ := hx
    have hsub := sub_enumerate
    have go : ∀ {A' : Around} {E : Value → Shared → Prop} {Q : Value → Shared → Prop}, Q (.ref hp.objs.size) ⟨hp.push o, gs, dr, tk, os⟩ → wpAny (model prog w) A' (pyIter v) Q E ⟨hp, gs, dr, tk, os⟩ := fun q => B.iter prog w _ _ ⟨hp, gs, dr, tk, os⟩ _ b1 q
    wp_walk using go
    refine wpAny_stack_any fun _ => wpAny_pure ?_
    split
    · rename_i cc _ _ _ _ _
      cases (cc == Value.type "enumerate") <;> (wp_walk using go; exact ⟨_, rfl, fin⟩)
    · wp_walk using go
      exact ⟨_, rfl, fin⟩
theorem enum_call {prog : Program} {w : World} {A : Around} {E : Value → Shared → Prop} {s : Shared} {v : Value} {o : Obj} {Hh : Heap → Prop} {Q : Value → Shared → Prop} (B : Begins v o Hh) (b1 : Hh s.heap)
    (fin : ∀ h', IsEnum h' (s.heap.objs.size + 1) s.heap.objs.size 0 .none → h'.get? s.heap.objs.size = some o → (∀ b u, s.heap.get? b = some u → h'.get? b = some u) → Q (.ref (s.heap.objs.size + 1)) { s with heap := h' }) :
    wpAny (model prog w) A (call (.type "enumerate") [v]) Q E s := by
  refine callType_new F.called_enumerate (by decide) (F.typeCall_enumerate_1 _) (F.newCall_enumerate_1 _) (fun x => F.args_object_init_2 x _) F.entry_enumerate_new (enumMade B) ⟨b1, ?_⟩
  have sz : (s.heap.push o).objs.size = s.heap.objs.size + 1 := Heap.size_push ..
  show _ ∧ _
  rw [sz]
  have made : IsEnum ((s.heap.push o).push (enumNew s.heap.objs.size)) (s.heap.objs.size + 1) s.heap.objs.size 0 .none := by
    have z := Heap.get?_push_size (s.heap.push o) (o := enumNew s.heap.objs.size) rfl
    rw [sz] at z
    exact z
  exact ⟨⟨_, made, rfl⟩, fin _ made (Heap.get?_push_of_some _ (Heap.get?_push_size _ B.free)) fun b u x => Heap.get?_push_of_some _ (Heap.get?_push_of_some _ x)⟩
def ItET (K : PySem.W.Frag) (a : Addr) : It :=
  ⟨fun i G => ∃ (xs : List V) (x : V), SqT K G a xs ∧ xs[i]? = some x, fun i G v G' => ∃ T x, v = .ref T ∧ G T = none ∧ G' = upd G T (.tup [.int (i : Nat), x]) ∧ ∀ xs, SqT K G a xs → xs[i]? = some x,
    fun i G => ∃ xs : List V, SqT K G a xs ∧ xs.length = i⟩
theorem turnET {P : Program} {w : World} {K : PySem.W.Frag} {elts : List Expr} {kk : Nat} {tpos : Pos} (a e it : Addr) (hea : e ≠ a) :
    Turn P w K (.Tuple elts kk tpos) (ItET K a) [e, it] e (fun i h => (∃ old, IsEnum h e it ((i : Nat) : Int) old) ∧ h.IsTupleIter it a i ∧ e ≠ it) where
  mem := by simp
  obj := by
    rintro i h ⟨⟨old, he⟩, ⟨o, ho, _, hd⟩, _⟩ b hb
    rcases (show b = e ∨ b = it by simpa using hb) with rfl | rfl
    · exact ⟨_, he, fun v q => nomatch q⟩
    · exact ⟨o, ho, fun v q => by rw [hd] at q; cases q⟩
  keep := by
    rintro i h h' ⟨⟨old, he⟩, hi, hne⟩ kp
    exact ⟨⟨old, kp e (by simp) _ he⟩, hi.at fun o q => kp it (by simp) o q, hne⟩
  item := by
    intro X hP hw hK hc i pins s σ G E I hf st hg
    subst hP hw hK
    obtain ⟨⟨before, he⟩, hit, hne⟩ := st
    obtain ⟨xs, x, hq, hx⟩ := hg
    obtain ⟨its, rv, p, _⟩ := I.tuple hq
    obtain ⟨u, hu, rel⟩ := rv.get hx
    have eold : e < s.heap.objs.size := Heap.lt_size he
    have hil : it < s.heap.objs.size := by
      obtain ⟨_, q, _⟩ := hit
      exact Heap.lt_size q
    have ne2 : a ≠ it := fun z => by
      obtain ⟨o4, e4, c4, _⟩ := hit
      obtain ⟨o, oe, oc, _⟩ := p
      rw [z, e4] at oe
      cases oe
      rw [c4] at oc
      exact absurd oc (by decide)
    have D := Draws.tuple (prog := X.prog) (w := X.w) (A := X.A.in1) (I.ok.hd hc) it a ne2 its.toArray
    have lt : i < its.toArray.size := by
      have := (List.getElem?_eq_some_iff.mp hu).1
      simpa using this
    refine wpAny_pyNext_enum_itemD D he ⟨hit, p⟩ lt hne (by simp [hne, hea]) fun y h' tk py out st' at' _ kp => ?_
    have ey : y = u := Option.some.inj (py.symm.trans (by simpa using hu))
    subst ey
    refine ⟨_, rfl, wpAny_letOwnedTupleGo_enum (s := { s with heap := h', toks := tk + 1 }) out fun h'' he' sb => ?_⟩
    have at2 : h''.get? s.heap.objs.size = some { cls := .type "tuple", data := .seq #[.int i tk, y] } := (sb.2 _ (Nat.ne_of_gt eold)).trans at'
    have new : ObjOk X.prog X.w (upd G s.heap.objs.size (.tup [.int (i : Nat), x])) h'' s.heap.objs.size (.tup [.int (i : Nat), x]) :=
      ⟨by show 2 ≤ sizeLine; decide, [.int i tk, y], .cons ⟨_, rfl⟩ (.cons rel .nil), ⟨_, at2, rfl, _, rfl⟩⟩
    have I1 : Inv X pins σ (upd G s.heap.objs.size (.tup [.int (i : Nat), x])) { s with heap := h'', toks := tk + 1 } :=
      I.turnedNew (t' := tk + 1) (ch := [e, it]) (fun b ob hb q => (sb.2 b (fun z => hb (by simp [z]))).trans (kp b ob (fun z => hb (by simp [z])) (fun z => hb (by simp [z])) q)) hf (Nat.le_refl _) new
    refine ⟨.ref s.heap.objs.size, _, I1, rfl, ⟨_, x, rfl, I.hok.fresh (Nat.le_refl _), rfl, fun ys hy => by rw [I.tuple_inj hy hq]; exact hx⟩, ⟨⟨y, ?_⟩, st'.1.at fun o q => (sb.2 it (Ne.symm hne)).trans q, hne⟩, fun b hb => ?_⟩
    · rw [show ((i + 1 : Nat) : Int) = (i : Int) + 1 from Int.natCast_succ i]
      exact he'
    · have low : b < s.heap.objs.size := by
        rcases (show b = e ∨ b = it by simpa using hb) with rfl | rfl
        · exact eold
        · exact hil
      rw [upd_ne (Nat.ne_of_lt low)]
      exact (hf b hb).1
  done := by
    intro X hP hw hK hc i pins s σ G E I hf st hg
    subst hP hw hK
    obtain ⟨⟨before, he⟩, hit, hne⟩ := st
    obtain ⟨xs, hq, hx⟩ := hg
    obtain ⟨its, rv, p, _⟩ := I.tuple hq
    obtain ⟨f0, f1, _, f3, f4, f5⟩ := hf it (by simp)
    have ne2 : a ≠ it := fun z => by
      obtain ⟨o4, e4, c4, _⟩ := hit
      obtain ⟨o, oe, oc, _⟩ := p
      rw [z, e4] at oe
      cases oe
      rw [c4] at oc
      exact absurd oc (by decide)
    have D := Draws.tuple (prog := X.prog) (w := X.w) (A := X.A.in1) (I.ok.hd hc) it a ne2 its.toArray
    have ln : its.toArray.size = i := by
      rw [List.size_toArray, ← rv.length]
      exact hx
    refine wpAny_pyNext_enum_endD D he (by rw [ln]; exact ⟨hit, p⟩) fun h' eb => ⟨rfl, I.turned (t' := s.toks) (fun b o hb q => eb b o hb q) f0 f1 f3 f4 f5⟩
  self := by
    rintro A i s Q E ⟨⟨_, he⟩, _⟩ h
    exact wpAny_pyIter_enum he h
def iEnT (K : PySem.W.Frag) (ta : TA) : TI := fun σ G R => ta σ G fun vs G1 => ∃ a xs, vs = [.ref a] ∧ SqT K G1 a xs ∧ R (ItET K a) G1
theorem pi_enT {X : Cx} {e : Expr} {ta : TA} {p pos tpos : Pos} {elts : List Expr} {kk : Nat} (hg : Gl X "enumerate") (hm : X.mg "enumerate" = none) (ha : PA X [e] ta) (hs : starEach [e] X.env = [(false, eval e X.env)] := by rfl) :
    PI X (.Tuple elts kk tpos) (.Call (.Name "enumerate" p) [e] [] pos) (iEnT X.K ta) := by
  refine ⟨fun pins s σ G R I h => Call_ (ld_blt I hg hm boot_enumerate (PyProof.Rows.callWith_type1 (thn (ha.run pos pins s σ G _ I h) fun us s1 ⟨vs, G1, I1, r1, q1⟩ => ?_) hs rfl))⟩
  obtain ⟨a, xs, rfl, hq, q⟩ := q1
  cases r1 with
  | cons r rr =>
    cases rr
    cases r
    obtain ⟨its, rv, p', _⟩ := I1.tuple hq
    refine enum_call (begins_tuple a its.toArray) p' fun h' he hit kp => wpAny_pyIter_enum he ?_
    have low : a < s1.heap.objs.size := by
      obtain ⟨o, ho, _⟩ := p'
      exact Heap.lt_size ho
    refine ⟨s1.heap.objs.size + 1, [s1.heap.objs.size + 1, s1.heap.objs.size], _, _, G1, rfl, I1.kept (t' := s1.toks) kp, turnET a (s1.heap.objs.size + 1) s1.heap.objs.size (Nat.ne_of_gt (Nat.lt_succ_of_lt low)), ⟨⟨.none, he⟩, ⟨_, hit, rfl, rfl⟩, Nat.succ_ne_self _⟩, fun b hb => ?_, q⟩
    have le : s1.heap.objs.size ≤ b := by
      rcases (show b = s1.heap.objs.size + 1 ∨ b = s1.heap.objs.size by simpa using hb) with rfl | rfl
      · exact Nat.le_add_right _ _
      · exact Nat.le_refl _
    exact I1.fpOk le (I1.hok.fresh le)
end C2

namespace C2
set_option Elab.async false
set_option linter.all false
set_option maxRecDepth 100000
set_option maxHeartbeats 4000000
open PySem PySem.Spec PyProof.Rows L2
abbrev vrefs (cs : List (Addr × List V)) : List V := cs.map fun c => V.ref c.1
def CellsV (G : Hp) (cs : List (Addr × List V)) : Prop := ∀ c ∈ cs, G c.1 = some (.tup c.2)
theorem CellsV.same {G G' : Hp} {cs : List (Addr × List V)} (h : CellsV G cs) (s : Same G G') : CellsV G' cs := fun c hc => s _ _ (h c hc)
def GrowV (xs : List (List V)) (H : Hp) (D : Addr) (G : Hp) : Prop := ∃ cs : List (Addr × List V), Same H G ∧ G D = some (.lst (vrefs cs)) ∧ CellsV G cs ∧ cs.map (·.2) = xs
theorem GrowV.step {xs : List (List V)} {y : List V} {H G G2 : Hp} {D T : Addr} (I : GrowV xs H D G) (lo : xs.length < 100000) (nD : H D = none) (sm2 : Same G G2) (nT : G T = none) (hT : G2 T = some (.tup y)) :
    ∃ acc, G2 D = some (.lst acc) ∧ acc.length < sizeLine ∧ GrowV (xs ++ [y]) H D (upd G2 D (.lst (acc ++ [.ref T]))) := by
  obtain ⟨cs, sm, hD, hcs, e⟩ := I
  have ln : cs.length < 100000 := by
    have e1 : cs.length = (cs.map (·.2)).length := (List.length_map _).symm
    rw [e1, e]
    exact lo
  have hne : T ≠ D := fun z => by rw [z, hD] at nT; cases nT
  refine ⟨vrefs cs, sm2 _ _ hD, ?_, cs ++ [(T, y)], ?_, ?_, ?_, ?_⟩
  · rw [List.length_map]
    exact Nat.lt_of_lt_of_le ln (by decide)
  · intro b o eb
    rw [upd_ne (ne_of_none eb nD)]
    exact sm2 _ _ (sm _ _ eb)
  · rw [upd_same]
    show _ = some (HO.lst (List.map _ (cs ++ [_])))
    rw [List.map_append]
    rfl
  · intro c hc
    rcases List.mem_append.mp hc with hc | hc
    · have hh := hcs c hc
      rw [upd_ne (ne_of hh hD (by intro z; cases z))]
      exact sm2 _ _ hh
    · rw [List.mem_singleton] at hc
      subst hc
      rw [upd_ne hne]
      exact hT
  · rw [List.map_append, e]
    rfl
theorem GrowV.len {xs : List (List V)} {H G : Hp} {D : Addr} (I : GrowV xs H D G) : ∃ ys, G D = some (.lst ys) ∧ ys.length = xs.length := by
  obtain ⟨cs, _, h, _, e⟩ := I
  exact ⟨_, h, by rw [List.length_map, ← e, List.length_map]⟩
theorem GrowV.ext {xs ys : List (List V)} {H G G' : Hp} {D l : Addr} (I : GrowV xs H l G) (J : GrowV ys G D G') (nl : H l = none) :
    ∃ as bs, G' l = some (.lst as) ∧ G' D = some (.lst bs) ∧ as.length = xs.length ∧ bs.length = ys.length ∧ GrowV (xs ++ ys) H l (upd G' l (.lst (as ++ bs))) := by
  obtain ⟨cs, sm, hl, hc, e⟩ := I
  obtain ⟨ds, sm2, hD, hd, e2⟩ := J
  have hl2 := sm2 _ _ hl
  refine ⟨_, _, hl2, hD, by rw [List.length_map, ← e, List.length_map], by rw [List.length_map, ← e2, List.length_map], cs ++ ds, ?_, ?_, ?_, ?_⟩
  · intro b o eb
    rw [upd_ne (ne_of_none eb nl)]
    exact sm2 _ _ (sm _ _ eb)
  · rw [upd_same]
    show _ = some (HO.lst (List.map _ (cs ++ ds)))
    rw [List.map_append]
  · intro c hcc
    rcases List.mem_append.mp hcc with hcc | hcc
    · have hh := sm2 _ _ (hc c hcc)
      rw [upd_ne (ne_of hh hl2 (by intro z; cases z))]
      exact hh
    · have hh := hd c hcc
      rw [upd_ne (ne_of hh hl2 (by intro z; cases z))]
      exact hh
  · rw [List.map_append, e, e2]
theorem lc_enT {K : PySem.W.Frag} {a : Addr} {xs : List V} {g : TG} {tt : TT} {te : TE} {vs : List Nat} {σ : L2.St} {H1 : Hp} {D : Addr} {Qd : Hp → Prop} (Pv : Nat → Hp → Prop) (h0 : Pv 0 (upd H1 D (.lst []))) (hl : ∀ i H, i ≤ xs.length → Pv i H → SqT K H a xs)
    (hs : ∀ i x H T, xs[i]? = some x → Pv i H → H T = none → g (.ref T) (wipe σ vs) (upd H T (.tup [.int (i : Nat), x])) fun σ2 H2 => wipe σ2 vs = wipe σ vs ∧ tt σ2 H2 fun b H3 =>
      if b = true then te σ2 H3 fun item G4 => ∃ made, G4 D = some (.lst made) ∧ made.length < sizeLine ∧
        Pv (i + 1) (upd G4 D (.lst (made ++ [item]))) else Pv (i + 1) H3) (hd : ∀ H, Pv xs.length H → Qd H) :
    ∃ Wh : Nat → Nat → Hp → Prop, (∃ left, Wh 0 left (upd H1 D (.lst []))) ∧ ∀ i m H, Wh i m H →
      ((ItET K a).stop i H ∧ Qd H) ∨ ((ItET K a).go i H ∧ ∃ Nx : Hp → Prop, (∀ H', Nx H' → ∃ m', m' < m ∧ Wh (i + 1) m' H') ∧ ∀ x H', (ItET K a).yld i H x H' → g x (wipe σ vs) H' fun σ2 H2 => wipe σ2 vs = wipe σ vs ∧ tt σ2 H2 fun b H3 =>
        if b = true then te σ2 H3 fun item G4 => ∃ made, G4 D = some (.lst made) ∧ made.length < sizeLine ∧
          Nx (upd G4 D (.lst (made ++ [item]))) else Nx H3) := by
  refine ⟨fun i m H => m = xs.length - i ∧ i ≤ xs.length ∧ Pv i H, ⟨xs.length, by omega, Nat.zero_le _, h0⟩, ?_⟩
  rintro i m G ⟨rfl, hi, p⟩
  have q := hl i G hi p
  by_cases lt : i < xs.length
  · refine .inr ⟨⟨xs, xs[i], q, by simp [lt]⟩, Pv (i + 1), fun G' p' => ⟨xs.length - (i + 1), by omega, rfl, lt, p'⟩, fun x G' y => ?_⟩
    obtain ⟨T, x', rfl, nT, rfl, y⟩ := y
    exact hs i x' G T (y xs q) p nT
  · obtain rfl : i = xs.length := by omega
    exact .inl ⟨⟨xs, q, rfl⟩, hd G p⟩
/-! ### wires of a pick -/
def wireP (word : Str) (vs : List Int) (i : Nat) : List V := [.str word, .int (i : Int), .int (vs.getD i 0)]
def wiresP (word : Str) (vs : List Int) : List (List V) := (List.range vs.length).map (wireP word vs)
theorem getD_at {vs : List Int} {i : Nat} {x : V} (h : (vs.map V.int)[i]? = some x) : i < vs.length ∧ x = .int (vs.getD i 0) := by
  have hi : i < vs.length := by
    have := (List.getElem?_eq_some_iff.mp h).1
    rw [List.length_map] at this
    exact this
  refine ⟨hi, ?_⟩
  rw [List.getElem?_map, List.getElem?_eq_getElem hi] at h
  rw [List.getD_eq_getElem?_getD, List.getElem?_eq_getElem hi]
  exact (Option.some.inj h).symm
theorem atD {vs : List Int} {i : Nat} (hi : i < vs.length) : atI (vs.map V.int) (i : Int) = some (.int (vs.getD i 0)) := by
  refine atI_nat ?_
  rw [List.getElem?_map, List.getElem?_eq_getElem hi, List.getD_eq_getElem?_getD, List.getElem?_eq_getElem hi]
  rfl
def teWr (word : Str) (i j : Nat) : TE := tTup (tCons (tC (V.str word)) (tCons (tVar i) (tCons (tVar j) tNil)))
/-- [(word, i, v) for i, v in enumerate(vs)] -/
theorem enum_wires {K : PySem.W.Frag} {ta : TA} {σ : L2.St} {H : Hp} {Q : VK} {word : Str} {c d : Nat} {t : Addr} {vs : List Int} (hta : ∀ R : List V → Hp → Prop, R [.ref t] H → ta σ H R) (ht : H t = some (.tup (vs.map V.int))) (hl : vs.length ≤ 40)
    (hw : ∀ (u v : V), wipe (((wipe σ [c, d]).set c (some u)).set d (some v)) [c, d] = wipe σ [c, d]) (hc : ∀ (u v : V), (((wipe σ [c, d]).set c (some u)).set d (some v))[c]? = some (some u)) (hd : ∀ (u v : V), (((wipe σ [c, d]).set c (some u)).set d (some v))[d]? = some (some v))
    (k : ∀ D G, GrowV (wiresP word vs) H D G → H D = none → Q (.ref D) G) :
    tLc (iEnT K ta) (gTup K 2 (gCons (gName c) (gCons (gName d) gNil))) tYes (teWr word c d) [c, d] σ H Q := by
  refine hta _ ⟨t, vs.map V.int, rfl, .inl (.inl ht), fun D nD => ?_⟩
  refine lc_enT (xs := vs.map V.int) (fun i G => GrowV ((List.range i).map (wireP word vs)) H D G) ⟨[], same_upd nD, upd_same, fun c hc => (by cases hc), rfl⟩ ?_ ?_ ?_
  · rintro i G _ ⟨cs, sm, _⟩
    exact .inl (.inl (sm _ _ ht))
  · rintro i x G T hx I nT
    obtain ⟨hi, rfl⟩ := getD_at hx
    refine ⟨T, _, rfl, .inl (.inl upd_same), rfl, _, _, rfl, _, _, rfl, rfl, hw _ _, ?_⟩
    simp only [tYes, ↓reduceIte]
    refine ⟨_, hc _ _, _, hd _ _, by show 3 ≤ sizeLine; decide, fun T2 nT2 => ?_⟩
    have s1 := same_upd (o := .tup [.int (i : Nat), .int (vs.getD i 0)]) nT
    have s2 := same_upd (o := .tup (wireP word vs i)) nT2
    have z := I.step (y := wireP word vs i) (by rw [List.length_map, List.length_range]; omega) nD (s1.trans s2) (s1.free nT2) upd_same
    rw [List.range_succ, List.map_append]
    exact z
  · rintro G I
    rw [List.length_map] at I
    exact k D G I nD
end C2

namespace C2
set_option Elab.async false
set_option linter.all false
set_option maxRecDepth 100000
set_option maxHeartbeats 4000000
open PySem PySem.Spec PyProof.Rows L2
section
variable {P : Program} {w : World} {K : PySem.W.Frag} {mg : Str → Option Value} {base : Heap}
abbrev NPi : List Str := ["pick", "xs", "ys", "columns", "rows", "i", "y", "j", "x"]
theorem scPicked : FnScope NPi ["pick"] (defScope sPicked) := ⟨rfl, rfl, rfl, by decide +kernel, rfl, by decide +kernel, by decide +kernel⟩
def spPicked : Sp := fun vs H Q _ => ∃ (t : Addr) (a b : Nat) (xs ys : List Int), vs = [.ref t] ∧ PickAt H t a b xs ys ∧ a ≤ 40 ∧ b ≤ 40 ∧
  ∀ H' T cs, Same H H' → H T = none → H' T = some (.tup (vrefs cs)) → CellsV H' cs → cs.map (·.2) = wiresP "column" ys ++ wiresP "row" xs → Q (.ref T) H'
theorem ok_picked {f : Addr} {fd : FuncData} {k : Nat} (F : Fun K "picked" "picked" sPicked f fd) (men : mg "enumerate" = none) (mt : mg "tuple" = none) : FnOk P w K mg base CX0 (k + 1) f fd ["pick"] spPicked := by
  refine F.ok scPicked (fun vs H Q E h => ?_) (fun cdv A outer s H vs Q E hr h => ?_)
  · obtain ⟨t, a, b, xs, ys, rfl, _⟩ := h
    rfl
  · obtain ⟨t, a, b, xs, ys, rfl, ⟨tx, ty, h1, h2, h3, l1, l2, u1, u2⟩, ha, hb, q⟩ := h
    have nd := scPicked.nd
    refine ⟨_, pss_cons (ps_asg (pv 0) (pg_tup rfl (pgs_cons (pg_name (i := 1) nd rfl (.inl rfl)) (pgs_cons (pg_name (i := 2) nd rfl (.inl rfl)) pgs_nil))))
      (pss_cons (ps_setLc (i := 3) (own := [("i", 5), ("y", 6)]) (g := gTup K 2 (gCons (gName 5) (gCons (gName 6) gNil))) (tt := tYes) (te := teWr "column" 5 6) rfl nd rfl rfl (sw_true rfl rfl rfl (by decide +kernel)) (pi_enT (by rfl) men (pa_cons (pv 2) pa_nil)) (blkOk_by (own := [("i", 5), ("y", 6)]) (N := NPi) (sc := defScope sPicked) (by decide +kernel)) (fun _ _ _ _ _ => pg_tup rfl (pgs_cons (pg_name (i := 5) nd rfl (.inl rfl)) (pgs_cons (pg_name (i := 6) nd rfl (.inl rfl)) pgs_nil))) (fun _ _ _ _ _ => pts_nil) (fun _ _ _ _ _ => (pe_tup (pa_cons pe_str (pa_cons (pv 5) (pa_cons (pv 6) pa_nil))))))
      (pss_cons (ps_setLc (i := 4) (own := [("j", 7), ("x", 8)]) (g := gTup K 2 (gCons (gName 7) (gCons (gName 8) gNil))) (tt := tYes) (te := teWr "row" 7 8) rfl nd rfl rfl (sw_true rfl rfl rfl (by decide +kernel)) (pi_enT (by rfl) men (pa_cons (pv 1) pa_nil)) (blkOk_by (own := [("j", 7), ("x", 8)]) (N := NPi) (sc := defScope sPicked) (by decide +kernel)) (fun _ _ _ _ _ => pg_tup rfl (pgs_cons (pg_name (i := 7) nd rfl (.inl rfl)) (pgs_cons (pg_name (i := 8) nd rfl (.inl rfl)) pgs_nil))) (fun _ _ _ _ _ => pts_nil) (fun _ _ _ _ _ => (pe_tup (pa_cons pe_str (pa_cons (pv 7) (pa_cons (pv 8) pa_nil))))))
      (pss_one (ps_ret (pe_callTy call_tuple_of (by rfl) mt (by decide +kernel) (pa_cons (pe_op op_cat (pv 3) (pv 4)) pa_nil)))))), ?_⟩
    refine ⟨.ref t, rfl, t, _, rfl, .inl (.inl h1), rfl, _, _, rfl, _, _, rfl, rfl, ?_⟩
    show tSeq (tAsg (tLc (iEnT K (tCons (tVar 2) tNil)) (gTup K 2 (gCons (gName 5) (gCons (gName 6) gNil))) tYes (teWr "column" 5 6) [5, 6]) (gName 3)) _ _ _ _
    refine seqAsg (enum_wires (vs := ys) (t := ty) (fun R h => ⟨.ref ty, rfl, h⟩) h3 (by omega) (fun u v => rfl) (fun u v => rfl) (fun u v => rfl) fun D1 G1 I1 n1 => ?_)
    show tSeq (tAsg (tLc (iEnT K (tCons (tVar 1) tNil)) (gTup K 2 (gCons (gName 7) (gCons (gName 8) gNil))) tYes (teWr "row" 7 8) [7, 8]) (gName 4)) _ _ _ _
    obtain ⟨cs1, sm1, hD1, hc1, e1⟩ := I1
    refine seqAsg (enum_wires (vs := xs) (t := tx) (fun R h => ⟨.ref tx, rfl, h⟩) (sm1 _ _ h2) (by omega) (fun u v => rfl) (fun u v => rfl) (fun u v => rfl) fun D2 G2 I2 n2 => ?_)
    obtain ⟨cs2, sm2, hD2, hc2, e2⟩ := I2
    have z1 := congrArg List.length e1
    have z2 := congrArg List.length e2
    unfold wiresP at z1 z2
    rw [List.length_map, List.length_map, List.length_range] at z1 z2
    refine ⟨.ref D1, rfl, .ref D2, rfl, D1, D2, _, _, rfl, rfl, sm2 _ _ hD1, hD2, ?_, fun p np => ?_⟩
    · rw [List.length_map, List.length_map]
      exact Nat.le_trans (show cs1.length + cs2.length ≤ 4000 by omega) (by decide)
    · have s3 := same_upd (o := .lst (vrefs cs1 ++ vrefs cs2)) np
      refine ⟨p, _, rfl, .inl ⟨.inl (.inl upd_same), fun T nT => ?_⟩⟩
      have s4 := same_upd (o := .tup (vrefs cs1 ++ vrefs cs2)) nT
      have s13 := sm1.trans (sm2.trans s3)
      refine q _ T (cs1 ++ cs2) (s13.trans s4) (s13.free nT) ?_ ?_ ?_
      · rw [upd_same]
        show _ = some (HO.tup (List.map _ (cs1 ++ cs2)))
        rw [List.map_append]
      · intro c hc
        rcases List.mem_append.mp hc with h | h
        · exact s4 _ _ (s3 _ _ (sm2 _ _ (hc1 c h)))
        · exact s4 _ _ (s3 _ _ (hc2 c h))
      · rw [List.map_append, e1, e2]
abbrev NCo : List Str := ["pick", "i", "j", "xs", "ys"]
theorem scComes : FnScope NCo ["pick", "i", "j"] (defScope sComes) := ⟨rfl, rfl, rfl, by decide +kernel, rfl, by decide +kernel, by decide +kernel⟩
def crI (xs : List Int) (i j : Nat) : Int := if xs.getD j 0 ≤ (i : Int) then 0 else 2
def ccI (ys : List Int) (i j : Nat) : Int := if ys.getD i 0 ≤ (j : Int) then 1 else 3
def spComes : Sp := fun vs H Q _ => ∃ (t : Addr) (a b i j : Nat) (xs ys : List Int), vs = [.ref t, .int (i : Int), .int (j : Int)] ∧ PickAt H t a b xs ys ∧ i < a ∧ j < b ∧
  ∀ H' T, Same H H' → H T = none → H' T = some (.tup [.int (crI xs i j), .int (ccI ys i j)]) → Q (.ref T) H'
theorem ok_comes {f : Addr} {fd : FuncData} {k : Nat} (F : Fun K "comes" "comes" sComes f fd) : FnOk P w K mg base CX0 (k + 1) f fd ["pick", "i", "j"] spComes := by
  refine F.ok scComes (fun vs H Q E h => ?_) (fun cdv A outer s H vs Q E hr h => ?_)
  · obtain ⟨t, a, b, i, j, xs, ys, rfl, _⟩ := h
    rfl
  · obtain ⟨t, a, b, i, j, xs, ys, rfl, ⟨tx, ty, h1, h2, h3, l1, l2, u1, u2⟩, hi, hj, q⟩ := h
    have nd := scComes.nd
    refine ⟨_, pss_cons (ps_asg (pv 0) (pg_tup rfl (pgs_cons (pg_name (i := 3) nd rfl (.inl rfl)) (pgs_cons (pg_name (i := 4) nd rfl (.inl rfl)) pgs_nil))))
      (pss_one (ps_ret (pe_tup (pa_cons (pe_ifExp (pt_cmpR op_le (pe_ix ix_tup (pv 3) (pv 2) (fun _ _ => rfl)) (pv 1) (nomark _)) pe_int pe_int) (pa_cons (pe_ifExp (pt_cmpR op_le (pe_ix ix_tup (pv 4) (pv 1) (fun _ _ => rfl)) (pv 2) (nomark _)) pe_int pe_int) pa_nil))))), ?_⟩
    refine ⟨.ref t, rfl, t, _, rfl, .inl (.inl h1), rfl, _, _, rfl, _, _, rfl, rfl, ?_⟩
    have fin : ∀ T, H T = none → Q (.ref T) (upd H T (.tup [.int (crI xs i j), .int (ccI ys i j)])) := fun T nT => q _ T (same_upd nT) nT upd_same
    unfold crI ccI at fin
    refine ⟨.ref tx, rfl, .int (j : Int), rfl, tx, _, _, _, rfl, rfl, .inl (.inl h2), atD (by omega), .int (i : Int), rfl, _, _, rfl, rfl, _, rfl, ite2 (fun e => ?_) (fun e => ?_)⟩
    · rw [if_pos (of_decide_eq_true e)] at fin
      refine ⟨.ref ty, rfl, .int (i : Int), rfl, ty, _, _, _, rfl, rfl, .inl (.inl h3), atD (by omega), .int (j : Int), rfl, _, _, rfl, rfl, _, rfl, ite2 (fun e => ?_) (fun e => ?_)⟩
      · rw [if_pos (of_decide_eq_true e)] at fin
        exact ⟨by show 2 ≤ sizeLine; decide, fin⟩
      · rw [if_neg (fun z => e (decide_eq_true z))] at fin
        exact ⟨by show 2 ≤ sizeLine; decide, fin⟩
    · rw [if_neg (fun z => e (decide_eq_true z))] at fin
      refine ⟨.ref ty, rfl, .int (i : Int), rfl, ty, _, _, _, rfl, rfl, .inl (.inl h3), atD (by omega), .int (j : Int), rfl, _, _, rfl, rfl, _, rfl, ite2 (fun e => ?_) (fun e => ?_)⟩
      · rw [if_pos (of_decide_eq_true e)] at fin
        exact ⟨by show 2 ≤ sizeLine; decide, fin⟩
      · rw [if_neg (fun z => e (decide_eq_true z))] at fin
        exact ⟨by show 2 ≤ sizeLine; decide, fin⟩
abbrev NOu : List Str := ["_law_feet", "_law_at", "_law_low", "_law_high"]
theorem scOutward : FnScope NOu NOu (defScope sOutward) := ⟨rfl, rfl, rfl, by decide +kernel, rfl, by decide +kernel, by decide +kernel⟩
theorem rep_flat (n : Nat) (c : Int) : (List.replicate n [V.int c]).flatten = (List.replicate n c).map V.int := by
  induction n with
  | zero => rfl
  | succ n ih => rw [List.replicate_succ, List.flatten_cons, ih, List.replicate_succ]; rfl
theorem shaped_ints (ns : List Int) : SeqAt.shaped (.list (ns.map PyData.int)) = true := by
  have c : ∀ xs : List Int, PyData.canLayAll0 (xs.map PyData.int) = true ∧ PyData.depthAll (xs.map PyData.int) = 0 := by
    intro xs
    induction xs with
    | nil => exact ⟨by simp [PyData.canLayAll0], by simp [PyData.depthAll]⟩
    | cons x r ih => exact ⟨by simp [PyData.canLayAll0, PyData.canLay0, ih.1], by simp [PyData.depthAll, PyData.depth, ih.2]⟩
  unfold SeqAt.shaped
  have e1 : PyData.canLay0 (.list (ns.map PyData.int)) = true := by simp [PyData.canLay0, (c ns).1]
  have e2 : PyData.depth (.list (ns.map PyData.int)) = 1 := by simp [PyData.depth, (c ns).2]
  rw [e1, e2]
  rfl
theorem eqv_one (ns : List Int) : PyData.eqv (.list (ns.map PyData.int)) (.list (ns.map PyData.int)) = true := by
  have z := shaped_ints ns
  unfold SeqAt.shaped at z
  rw [Bool.and_eq_true] at z
  exact SeqAt.eqv_refl _ z.1
theorem dp_ints {G : Hp} : ∀ x : List Int, DpAll K G (x.map V.int) (x.map PyData.int)
  | [] => .nil
  | v :: r => .cons (.int v) (dp_ints r)
def spOutward : Sp := fun vs H Q _ => ∃ (l : Addr) (fs : List Int) (n m : Nat) (lo hi : Int), vs = [.ref l, .int (n : Int), .int lo, .int hi] ∧ H l = some (.lst (fs.map V.int)) ∧ n + m ≤ 40 ∧ fs = List.replicate n hi ++ List.replicate m lo ∧ ∀ H', Same H H' → Q (.bl true) H'
theorem ok_outward {f : Addr} {fd : FuncData} {k : Nat} (F : Fun K "_law_outward" "_law_outward" sOutward f fd) (ml : mg "len" = none) : FnOk P w K mg base CX0 (k + 1) f fd NOu spOutward := by
  refine F.ok scOutward (fun vs H Q E h => ?_) (fun cdv A outer s H vs Q E hr h => ?_)
  · obtain ⟨l, fs, n, m, lo, hi, rfl, _⟩ := h
    rfl
  · obtain ⟨l, fs, n, m, lo, hi, rfl, hl, nm, ef, q⟩ := h
    have lf : fs.length = n + m := by rw [ef, List.length_append, List.length_replicate, List.length_replicate]
    refine ⟨_, pss_one (ps_ret (pe_cmpR (op_eqD hr.units) (pv 0) (pe_op op_cat (pe_op op_rep (pe_lst (pa_cons (pv 3) pa_nil)) (pv 1)) (pe_op op_rep (pe_lst (pa_cons (pv 2) pa_nil)) (pe_op op_sub (pe_callB call_len_seq (by rfl) ml PySem.boot_len (pa_cons (pv 0) pa_nil)) (pv 1)))) (nomark _))), ?_⟩
    refine ⟨.ref l, rfl, .int hi, rfl, by show 1 ≤ sizeLine; decide, fun l1 n1 => ⟨.int (n : Int), rfl, l1, (n : Int), [.int hi], rfl, rfl, upd_same, by omega, by omega, ?_, fun l2 n2 => ?_⟩⟩
    · show 1 * (n : Int).toNat ≤ sizeLine
      exact Nat.le_trans (show 1 * (n : Int).toNat ≤ 40 by omega) (by decide)
    have s1 := same_upd (o := .lst [.int hi]) n1
    have s2 := same_upd (o := .lst (List.replicate (n : Int).toNat [V.int hi]).flatten) n2
    refine ⟨.int lo, rfl, by show 1 ≤ sizeLine; decide, fun l3 n3 => ?_⟩
    have s3 := same_upd (o := .lst [.int lo]) n3
    refine ⟨.ref l, rfl, l, _, rfl, .inl (.inl (.inl (s3 _ _ (s2 _ _ (s1 _ _ hl))))), .int (n : Int), rfl, _, _, rfl, rfl, l3, _, [.int lo], rfl, rfl, upd_same, ?_, ?_, ?_, fun l4 n4 => ?_⟩
    · rw [List.length_map, lf]; omega
    · rw [List.length_map, lf]; omega
    · rw [List.length_map, lf]
      exact Nat.le_trans (show 1 * (((n + m : Nat) : Int) - (n : Int)).toNat ≤ 40 by omega) (by decide)
    have em : (((fs.map V.int).length : Nat) : Int) - (n : Int) = (m : Int) := by rw [List.length_map, lf]; omega
    have s4 := same_upd (o := .lst (List.replicate ((((fs.map V.int).length : Nat) : Int) - (n : Int)).toNat [V.int lo]).flatten) n4
    have h2 := s4 _ _ (s3 _ _ (upd_same (H := upd H l1 (.lst [.int hi])) (a := l2) (o := .lst (List.replicate (n : Int).toNat [V.int hi]).flatten)))
    have whole : (List.replicate (n : Int).toNat [V.int hi]).flatten ++ (List.replicate ((((fs.map V.int).length : Nat) : Int) - (n : Int)).toNat [V.int lo]).flatten = fs.map V.int := by
      rw [em, Int.toNat_natCast, Int.toNat_natCast, rep_flat, rep_flat, ← List.map_append, ← ef]
    refine ⟨l2, l4, _, _, rfl, rfl, h2, upd_same, ?_, fun l5 n5 => ?_⟩
    · rw [← List.length_append]
      refine Nat.le_trans (Nat.le_of_eq (congrArg List.length whole)) ?_
      rw [List.length_map, lf]
      exact Nat.le_trans nm (by decide)
    · have s5 := same_upd (o := .lst ((List.replicate (n : Int).toNat [V.int hi]).flatten ++ (List.replicate ((((fs.map V.int).length : Nat) : Int) - (n : Int)).toNat [V.int lo]).flatten)) n5
      have h5 := upd_same (H := upd (upd (upd (upd H l1 (.lst [.int hi])) l2 (.lst (List.replicate (n : Int).toNat [V.int hi]).flatten)) l3 (.lst [.int lo])) l4 (.lst (List.replicate ((((fs.map V.int).length : Nat) : Int) - (n : Int)).toNat [V.int lo]).flatten)) (a := l5) (o := .lst ((List.replicate (n : Int).toNat [V.int hi]).flatten ++ (List.replicate ((((fs.map V.int).length : Nat) : Int) - (n : Int)).toNat [V.int lo]).flatten))
      have h5' := h5.trans (congrArg (fun z => some (HO.lst z)) whole)
      have hl5 := s5 _ _ (s4 _ _ (s3 _ _ (s2 _ _ (s1 _ _ hl))))
      refine ⟨.list (fs.map PyData.int), .list (fs.map PyData.int), .lst (.inl (.inl hl5)) (dp_ints fs), .lst (.inl (.inl h5')) (dp_ints fs), shaped_ints fs, shaped_ints fs, ?_⟩
      rw [eqv_one]
      exact q _ (s1.trans (s2.trans (s3.trans (s4.trans s5))))
end
end C2

namespace C2
set_option Elab.async false
set_option linter.all false
set_option maxRecDepth 100000
set_option maxHeartbeats 4000000
open PySem PySem.Spec PyProof.Rows L2
/-! ### wires, sorted -/
abbrev WB := Addr × Bool × Int × Int
def wordOf (r : Bool) : Str := if r then "row" else "column"
def wv (b : Bool × Int × Int) : List V := [.str (wordOf b.1), .int b.2.1, .int b.2.2]
def encW (b : WB) : PyData := .tuple [.str (wordOf b.2.1), .int b.2.2.1, .int b.2.2.2]
/-- less, as tuples rise -/
def ltW (x y : WB) : Prop := (x.2.1 = false ∧ y.2.1 = true) ∨ (x.2.1 = y.2.1 ∧ (x.2.2.1 < y.2.2.1 ∨ (x.2.2.1 = y.2.2.1 ∧ x.2.2.2 < y.2.2.2)))
instance (x y : WB) : Decidable (ltW x y) := by unfold ltW; infer_instance
theorem word_eqv : ∀ r r' : Bool, PyData.eqv (.str (wordOf r)) (.str (wordOf r')) = decide (r = r') := by decide +kernel
theorem word_lt : ∀ r r' : Bool, PySem.W.dataLt (.str (wordOf r)) (.str (wordOf r')) = decide (r = false ∧ r' = true) := by decide +kernel
theorem dataLt_w (x y : WB) : PySem.W.dataLt (encW x) (encW y) = decide (ltW x y) := by
  obtain ⟨a, r, i, j⟩ := x
  obtain ⟨a', r', i', j'⟩ := y
  unfold encW
  rw [PySem.W.dataLt_tuple, PySem.W.dataLt_cons (by simp [PySem.W.alike]), PySem.W.dataLt_cons (by simp [PySem.W.alike]), PySem.W.dataLt_cons (by simp [PySem.W.alike]), word_eqv, word_lt, PySem.W.dataLt_int, PySem.W.dataLt_int]
  have e : PyProof.Rows.lexLt itemOrd (PySem.W.keyToksAll []) (PySem.W.keyToksAll []) = false := lex_irrefl _
  rw [e]
  unfold ltW
  simp only [PyData.eqv]
  by_cases hr : r = r'
  · subst hr
    by_cases hi : i = i'
    · subst hi
      by_cases hj : j = j'
      · subst hj
        cases r <;> simp
      · cases r <;> simp [hj]
    · cases r <;> simp [hi]
  · cases r <;> cases r' <;> simp at hr ⊢
def leW (x y : WB) : Bool := !decide (ltW y x)
theorem dataLe_w : PySem.W.dataLe false encW = leW := by
  rw [PySem.W.dataLe_eq]
  funext x y
  show (!PySem.W.dataLt (encW y) (encW x)) = _
  rw [dataLt_w]
  rfl
def bI (b : Bool) : Int := if b then 1 else 0
theorem ltW_iff (x y : WB) : ltW x y ↔ (bI x.2.1 < bI y.2.1 ∨ (bI x.2.1 = bI y.2.1 ∧ (x.2.2.1 < y.2.2.1 ∨ (x.2.2.1 = y.2.2.1 ∧ x.2.2.2 < y.2.2.2)))) := by
  obtain ⟨a, r, i, j⟩ := x
  obtain ⟨a', r', i', j'⟩ := y
  unfold ltW bI
  cases r <;> cases r' <;> simp
theorem leW_trans (x y z : WB) (h1 : leW x y = true) (h2 : leW y z = true) : leW x z = true := by
  unfold leW at *
  simp only [Bool.not_eq_true', decide_eq_false_iff_not, ltW_iff] at *
  omega
theorem leW_total (x y : WB) : (leW x y || leW y x) = true := by
  unfold leW
  by_cases h : ltW y x
  · have : ¬ ltW x y := by
      rw [ltW_iff] at h ⊢
      omega
    simp [h, this]
  · simp [h]
theorem ltW_le {x y : WB} (h : ltW x y) : leW x y = true := by
  unfold leW
  have : ¬ ltW y x := by
    rw [ltW_iff] at h ⊢
    omega
  simp [this]
/-- the one risen row of unlike wires -/
theorem sorted_w {bs ts : List WB} (p : ts.Perm bs) (s : ts.Pairwise ltW) : bs.mergeSort leW = ts := by
  have h1 := List.pairwise_mergeSort leW_trans leW_total bs
  have h2 : ts.Pairwise fun x y => leW x y = true := s.imp ltW_le
  have pm : (bs.mergeSort leW).Perm ts := (List.mergeSort_perm bs leW).trans p.symm
  have un : ∀ x y : WB, x ∈ ts → y ∈ ts → leW x y = true → leW y x = true → x = y := by
    intro x y hx hy a b
    obtain ⟨i, hi, rfl⟩ := List.getElem_of_mem hx
    obtain ⟨j, hj, rfl⟩ := List.getElem_of_mem hy
    have key : ∀ i j (hi : i < ts.length) (hj : j < ts.length), i < j → ¬ leW ts[j] ts[i] = true := by
      intro i j hi hj lt c
      have z := (List.pairwise_iff_getElem.mp s) i j hi hj lt
      unfold leW at c
      simp [z] at c
    rcases Nat.lt_trichotomy i j with lt | eq | lt
    · exact absurd b (key i j hi hj lt)
    · subst eq; rfl
    · exact absurd a (key j i hj hi lt)
  exact List.Perm.eq_of_pairwise (fun x y hx hy a b => un x y (pm.mem_iff.mp hx) hy a b) h1 h2 pm
abbrev brefs (bs : List WB) : List V := bs.map fun b => V.ref b.1
def rSortW (K : PySem.W.Frag) : List V → Hp → VK → Prop := fun vs H Q => ∃ (a : Addr) (bs ts : List WB), vs = [V.ref a] ∧ SqL K H a (brefs bs) ∧ (∀ b ∈ bs, H b.1 = some (.tup (wv b.2))) ∧ bs.length ≤ 1000 ∧ ts.Perm bs ∧ ts.Pairwise ltW ∧
  ∀ p, H p = none → Q (.ref p) (upd H p (.lst (brefs ts)))
theorem wv_dp {K : PySem.W.Frag} {G : Hp} (b : WB) (h : G b.1 = some (.tup (wv b.2))) : Dp K G (.ref b.1) (encW b) := .tup (.inl (.inl h)) (.cons (.str _) (.cons (.int _) (.cons (.int _) .nil)))
section
variable {X : Cx}
theorem each_refs : ∀ {bs : List WB} {us : List Value}, Vals (brefs bs) us → PySem.W.EachIs (fun v (b : WB) => v = Value.ref b.1) us bs
  | [], _, r => by
    cases r
    exact .nil
  | b :: bs, _, r => by
    cases r with
    | cons r1 r2 =>
      cases r1
      exact .cons rfl (each_refs r2)
theorem refs_each : ∀ {bs : List WB} {us : List Value}, PySem.W.EachIs (fun v (b : WB) => v = Value.ref b.1) us bs → Vals (brefs bs) us
  | _, _, .nil => .nil
  | _, _, .cons e r => by
    subst e
    exact .cons rfl (refs_each r)
theorem each_reads {pins : List (Addr × Obj)} {σ : L2.St} {H : Hp} {s : Shared} (I : Inv X pins σ H s) : ∀ {bs : List WB} {us : List Value}, Vals (brefs bs) us → (∀ b ∈ bs, H b.1 = some (.tup (wv b.2))) → PySem.W.EachIs (fun v b => ∃ as, Reads s.heap v (encW b) as) us bs
  | [], _, r, _ => by
    cases r
    exact .nil
  | b :: bs, _, r, h => by
    cases r with
    | cons r1 r2 => exact .cons (Dp.reads I _ _ _ (wv_dp b (h b List.mem_cons_self)) r1) (each_reads I r2 fun c hc => h c (List.mem_cons_of_mem _ hc))
theorem cr_sortW (hu : X.A.units + 64 < cLine) : CallR X (.builtin "sorted") (rSortW X.K) := by
  intro pins s σ H vs us Q I r h
  obtain ⟨a, bs, ts, rfl, hs, hb, hl, pm, pw, q⟩ := h
  obtain ⟨its, rv, at_, _⟩ := I.list hs
  rw [Vals.ref1 r]
  have big : (1000 : Nat) ≤ sizeLine := by decide
  refine PySem.W.sorted_data (enc := encW) (vs := its) at_.isList (each_refs rv) (each_reads I rv hb) (PySem.W.AllAlike.of fun x y => ?_) (PySem.W.Sortable.tuples fun x => ⟨_, _, rfl⟩) (by omega) (fun x _ => ?_) fun out lo ho => ?_
  · unfold encW
    simp [PySem.W.alike, PySem.W.alikeAll]
  · have d1 : PyData.depth (encW x) = 1 := by unfold encW; simp [PyData.depth, PyData.depthAll]
    omega
  · rw [dataLe_w, sorted_w pm pw] at ho
    obtain ⟨ep, there⟩ := PyProof.Rows.sortedAll_at s.heap its out.toArray
    have lts : (brefs ts).length ≤ sizeLine := by
      rw [List.length_map, pm.length_eq]
      omega
    refine ⟨.ref _, upd H (s.heap.objs.size + 1) (.lst (brefs ts)), I.laid (t' := s.toks) (fun _ _ => PyProof.Rows.sortedAll_old) (Nat.le_succ _) ⟨lts, out.toArray.toList, ep, ?_, there⟩, rfl, q _ (I.hok.fresh (Nat.le_succ _))⟩
    simpa using refs_each ho
end
end C2

namespace C2
set_option Elab.async false
set_option linter.all false
set_option maxRecDepth 100000
set_option maxHeartbeats 4000000
open PySem PySem.Spec PyProof.Rows L2
/-! ### wires of a pick as they are sorted, as data -/
def bW (r : Bool) (as : List Addr) (vs : List Int) : List WB := (List.range vs.length).map fun i => (as.getD i 0, r, (i : Int), vs.getD i 0)
theorem bW_len (r : Bool) (as : List Addr) (vs : List Int) : (bW r as vs).length = vs.length := by
  unfold bW
  rw [List.length_map, List.length_range]
theorem bW_pw (r : Bool) (as : List Addr) (vs : List Int) : (bW r as vs).Pairwise ltW := by
  unfold bW
  rw [List.pairwise_map]
  refine List.pairwise_lt_range.imp fun {i j} h => .inr ⟨rfl, .inl ?_⟩
  show (i : Int) < (j : Int)
  omega
theorem wire_wv (r : Bool) (as : List Addr) (vs : List Int) (i : Nat) : wv (r, (i : Int), vs.getD i 0) = wireP (wordOf r) vs i := rfl
theorem cs_at {word : Str} {vs : List Int} {cs : List (Addr × List V)} (e : cs.map (·.2) = wiresP word vs) {i : Nat} (hi : i < cs.length) : cs[i].2 = wireP word vs i := by
  have z : (cs.map (·.2))[i]? = (wiresP word vs)[i]? := by rw [e]
  have l : cs.length = vs.length := by
    have := congrArg List.length e
    unfold wiresP at this
    rw [List.length_map, List.length_map, List.length_range] at this
    exact this
  unfold wiresP at z
  rw [List.getElem?_map, List.getElem?_eq_getElem hi, List.getElem?_map, List.getElem?_range (by omega)] at z
  exact Option.some.inj z
theorem cs_len {word : Str} {vs : List Int} {cs : List (Addr × List V)} (e : cs.map (·.2) = wiresP word vs) : cs.length = vs.length := by
  have := congrArg List.length e
  unfold wiresP at this
  rw [List.length_map, List.length_map, List.length_range] at this
  exact this
theorem bW_refs {r : Bool} {vs : List Int} {cs : List (Addr × List V)} (e : cs.map (·.2) = wiresP (wordOf r) vs) : vrefs cs = brefs (bW r (cs.map (·.1)) vs) := by
  have l := cs_len e
  refine List.ext_getElem? fun i => ?_
  show (cs.map fun c => V.ref c.1)[i]? = ((bW r (cs.map (·.1)) vs).map fun b => V.ref b.1)[i]?
  by_cases hi : i < cs.length
  · unfold bW
    rw [List.getElem?_map, List.getElem?_eq_getElem hi, List.map_map, List.getElem?_map, List.getElem?_range (by omega)]
    show some (V.ref cs[i].1) = some (V.ref ((cs.map (·.1)).getD i 0))
    rw [List.getD_eq_getElem?_getD, List.getElem?_map, List.getElem?_eq_getElem hi]
    rfl
  · rw [List.getElem?_eq_none (by rw [List.length_map]; omega), List.getElem?_eq_none (by rw [List.length_map, bW_len]; omega)]
theorem bW_at {r : Bool} {vs : List Int} {cs : List (Addr × List V)} {G : Hp} (e : cs.map (·.2) = wiresP (wordOf r) vs) (h : CellsV G cs) : ∀ b ∈ bW r (cs.map (·.1)) vs, G b.1 = some (.tup (wv b.2)) := by
  intro b hb
  have l := cs_len e
  obtain ⟨i, hi, rfl⟩ := List.mem_map.mp hb
  have hi := List.mem_range.mp hi
  have hc : i < cs.length := by omega
  have z := h cs[i] (List.getElem_mem hc)
  rw [cs_at e hc] at z
  show G ((cs.map (·.1)).getD i 0) = _
  rw [List.getD_eq_getElem?_getD, List.getElem?_map, List.getElem?_eq_getElem hc]
  exact z
/-- a wire's data -/
def dP (word : Str) (vs : List Int) (i : Nat) : PyData := .tuple [.str word, .int (i : Int), .int (vs.getD i 0)]
def dPs (xs ys : List Int) : List PyData := (List.range ys.length).map (dP "column" ys) ++ (List.range xs.length).map (dP "row" xs)
theorem bW_enc (r : Bool) (as : List Addr) (vs : List Int) : (bW r as vs).map encW = (List.range vs.length).map (dP (wordOf r) vs) := by
  unfold bW
  rw [List.map_map]
  rfl
theorem dp_brefs {K : PySem.W.Frag} {G : Hp} : ∀ bs : List WB, (∀ b ∈ bs, G b.1 = some (.tup (wv b.2))) → DpAll K G (brefs bs) (bs.map encW)
  | [], _ => .nil
  | b :: r, h => .cons (wv_dp b (h b List.mem_cons_self)) (dp_brefs r fun c hc => h c (List.mem_cons_of_mem _ hc))
theorem dp_wires {K : PySem.W.Frag} {G : Hp} {word : Str} {vs : List Int} : ∀ {is : List Nat} {cs : List (Addr × List V)}, cs.map (·.2) = is.map (wireP word vs) → CellsV G cs → DpAll K G (vrefs cs) (is.map (dP word vs))
  | [], [], _, _ => .nil
  | [], _ :: _, e, _ => nomatch e
  | _ :: _, [], e, _ => nomatch e
  | i :: is, c :: cs, e, h => by
    rw [List.map_cons, List.map_cons] at e
    obtain ⟨e1, e2⟩ := List.cons.inj e
    have hc := h c List.mem_cons_self
    rw [e1] at hc
    exact .cons (.tup (.inl (.inl hc)) (.cons (.str _) (.cons (.int _) (.cons (.int _) .nil)))) (dp_wires e2 fun d hd => h d (List.mem_cons_of_mem _ hd))
theorem DpAll.app {K : PySem.W.Frag} {G : Hp} : ∀ {xs ys : List V} {ds es : List PyData}, DpAll K G xs ds → DpAll K G ys es → DpAll K G (xs ++ ys) (ds ++ es)
  | _, _, _, _, .nil, h => h
  | _, _, _, _, .cons a r, h => .cons a (DpAll.app r h)
theorem dp_split {K : PySem.W.Frag} {G : Hp} {xs ys : List Int} {cs : List (Addr × List V)} (e : cs.map (·.2) = wiresP "column" ys ++ wiresP "row" xs) (h : CellsV G cs) : DpAll K G (vrefs cs) (dPs xs ys) := by
  obtain ⟨c1, c2, rfl, e1, e2⟩ := List.map_eq_append_iff.mp e
  have z1 := dp_wires (K := K) (is := List.range ys.length) (word := "column") (vs := ys) e1 (fun d hd => h d (List.mem_append.mpr (.inl hd)))
  have z2 := dp_wires (K := K) (is := List.range xs.length) (word := "row") (vs := xs) e2 (fun d hd => h d (List.mem_append.mpr (.inr hd)))
  show DpAll K G (List.map _ (c1 ++ c2)) _
  rw [List.map_append]
  exact DpAll.app z1 z2
structure Plain (ds : List PyData) (dp wt : Nat) : Prop where
  sh : PyData.showableAll ds = true
  hd : PyData.hasDictAll ds = false
  ls : PyData.leavesShortAll 8 ds = true
  dp : PyData.depthAll ds ≤ dp
  wt : PyData.weightAll ds ≤ wt
  cl : PyData.canLayAll0 ds = true
theorem Plain.nil (dp : Nat) : Plain [] dp 0 := ⟨by simp [PyData.showableAll], by simp [PyData.hasDictAll], by simp [PyData.leavesShortAll], by simp [PyData.depthAll], by simp [PyData.weightAll], by simp [PyData.canLayAll0]⟩
theorem Plain.tup {ds : List PyData} {dp wt : Nat} (h : Plain ds dp wt) : Plain [.tuple ds] (dp + 1) (wt + 1) := by
  obtain ⟨i1, i2, i3, i4, i5, i6⟩ := h
  refine ⟨?_, ?_, ?_, ?_, ?_, ?_⟩ <;> simp only [PyData.showableAll, PyData.hasDictAll, PyData.leavesShortAll, PyData.depthAll, PyData.weightAll, PyData.canLayAll0, PyData.showable, PyData.hasDict, PyData.leavesShort, PyData.depth, PyData.weight, PyData.canLay0, i1, i2, i3, i6]
  · rfl
  · rfl
  · rfl
  · omega
  · omega
  · rfl
theorem Plain.lst {ds : List PyData} {dp wt : Nat} (h : Plain ds dp wt) : Plain [.list ds] (dp + 1) (wt + 1) := by
  obtain ⟨i1, i2, i3, i4, i5, i6⟩ := h
  refine ⟨?_, ?_, ?_, ?_, ?_, ?_⟩ <;> simp only [PyData.showableAll, PyData.hasDictAll, PyData.leavesShortAll, PyData.depthAll, PyData.weightAll, PyData.canLayAll0, PyData.showable, PyData.hasDict, PyData.leavesShort, PyData.depth, PyData.weight, PyData.canLay0, i1, i2, i3, i6]
  · rfl
  · rfl
  · rfl
  · omega
  · omega
  · rfl
theorem Plain.cons {d : PyData} {ds : List PyData} {dp wt wt' : Nat} (h : Plain [d] dp wt) (h' : Plain ds dp wt') : Plain (d :: ds) dp (wt + wt') := by
  obtain ⟨i1, i2, i3, i4, i5, i6⟩ := h
  obtain ⟨j1, j2, j3, j4, j5, j6⟩ := h'
  simp only [PyData.showableAll, PyData.hasDictAll, PyData.leavesShortAll, PyData.depthAll, PyData.weightAll, PyData.canLayAll0, Bool.and_true, Bool.or_false] at i1 i2 i3 i4 i5 i6
  refine ⟨?_, ?_, ?_, ?_, ?_, ?_⟩ <;> simp only [PyData.showableAll, PyData.hasDictAll, PyData.leavesShortAll, PyData.depthAll, PyData.weightAll, PyData.canLayAll0, i1, i2, i3, i6, j1, j2, j3, j6]
  · rfl
  · rfl
  · rfl
  · omega
  · omega
  · rfl
/-- what repr and == ask of a thing -/
structure Fine (d : PyData) : Prop where
  sh : d.showable = true
  hd : d.hasDict = false
  dp : d.depth ≤ 60
  ln : d.shown.length ≤ sizeLine
  sp : SeqAt.shaped d = true
theorem Plain.fine {d : PyData} {dp wt : Nat} (h : Plain [d] dp wt) (hd : dp ≤ 60) (hw : wt ≤ 210000) : Fine d := by
  obtain ⟨i1, i2, i3, i4, i5, i6⟩ := h
  simp only [PyData.showableAll, PyData.hasDictAll, PyData.leavesShortAll, PyData.depthAll, PyData.weightAll, PyData.canLayAll0, Bool.and_true, Bool.or_false] at i1 i2 i3 i4 i5 i6
  refine ⟨i1, i2, by omega, ?_, ?_⟩
  · have := PyData.shown_le 8 (by decide) d i3
    have s : 4000000 ≤ sizeLine := by decide
    omega
  · unfold SeqAt.shaped
    rw [i6, decide_eq_true (show d.depth ≤ 64 by omega)]
    rfl
theorem freshSeq {K : PySem.W.Frag} {p a : Addr} {G G' : Hp} {xs : List V} (h : SqL K G a xs) (n : G p = none) (f : Fr p G G') : SqL K G' a xs := by
  rcases h with (h | ⟨o, h⟩) | h
  · exact .inl (.inl (f _ _ (ne_of_none h n) h))
  · exact .inl (.inr ⟨o, f _ _ (ne_of_none h n) h⟩)
  · exact .inr h

def okD (d : PyData) : Bool := PyData.showable d && PyData.leavesShort 8 d && decide (PyData.weight d ≤ 19) && PyData.canLay0 d && !PyData.hasDict d && decide (PyData.depth d ≤ 0)
theorem okD_ints : ((List.range 42).all fun n => okD (.int (n : Int))) = true := by decide +kernel
theorem okD_row : okD (.str "row") = true := by decide +kernel
theorem okD_col : okD (.str "column") = true := by decide +kernel
theorem okD_int {n : Nat} (h : n < 42) : okD (.int (n : Int)) = true := List.all_eq_true.mp okD_ints n (List.mem_range.mpr h)
theorem Plain.one {d : PyData} (h : okD d = true) : Plain [d] 0 20 := by
  unfold okD at h
  simp only [Bool.and_eq_true, decide_eq_true_eq, Bool.not_eq_true'] at h
  obtain ⟨⟨⟨⟨⟨h1, h2⟩, h3⟩, h4⟩, h5⟩, h6⟩ := h
  have h6' : PyData.depth d = 0 := Nat.le_zero.mp h6
  refine ⟨?_, ?_, ?_, ?_, ?_, ?_⟩ <;> simp only [PyData.showableAll, PyData.hasDictAll, PyData.leavesShortAll, PyData.depthAll, PyData.weightAll, PyData.canLayAll0, h1, h2, h4, h5, h6']
  · rfl
  · rfl
  · rfl
  · decide
  · omega
  · rfl
theorem plainP {word : Str} {vs : List Int} (hw : okD (.str word) = true) (hv : ∀ v ∈ vs, 0 ≤ v ∧ v < 42) : ∀ is : List Nat, (∀ i ∈ is, i < vs.length ∧ i < 42) → Plain (is.map (dP word vs)) 1 (61 * is.length)
  | [], _ => Plain.nil 1
  | i :: r, h => by
    have hi := h i List.mem_cons_self
    have hg := hv (vs.getD i 0) (by rw [List.getD_eq_getElem?_getD, List.getElem?_eq_getElem hi.1]; exact List.getElem_mem hi.1)
    have o := okD_int (n := (vs.getD i 0).toNat) (by omega)
    rw [Int.toNat_of_nonneg hg.1] at o
    have p1 := ((Plain.one hw).cons ((Plain.one (okD_int hi.2)).cons (Plain.one o))).tup
    have z := p1.cons (plainP hw hv r fun j hj => h j (List.mem_cons_of_mem _ hj))
    have e : PyData.weightAll (List.map (dP word vs) (i :: r)) ≤ 20 + (20 + 20) + 1 + 61 * r.length := z.wt
    exact ⟨z.sh, z.hd, z.ls, z.dp, by rw [List.length_cons]; omega, z.cl⟩
theorem Plain.app : ∀ {ds es : List PyData} {dp w1 w2 : Nat}, Plain ds dp w1 → Plain es dp w2 → Plain (ds ++ es) dp (w1 + w2)
  | [], es, dp, w1, w2, _, h => ⟨h.sh, h.hd, h.ls, h.dp, Nat.le_trans h.wt (by omega), h.cl⟩
  | d :: r, es, dp, w1, w2, p, h => by
    obtain ⟨i1, i2, i3, i4, i5, i6⟩ := p
    simp only [PyData.showableAll, PyData.hasDictAll, PyData.leavesShortAll, PyData.depthAll, PyData.weightAll, PyData.canLayAll0, Bool.and_eq_true, Bool.or_eq_false_iff] at i1 i2 i3 i4 i5 i6
    have hp : Plain [d] dp (PyData.weightAll [d]) := by
      refine ⟨?_, ?_, ?_, ?_, Nat.le_refl _, ?_⟩ <;> simp only [PyData.showableAll, PyData.hasDictAll, PyData.leavesShortAll, PyData.depthAll, PyData.canLayAll0, i1.1, i2.1, i3.1, i6.1]
      · rfl
      · rfl
      · rfl
      · omega
      · rfl
    have hr : Plain r dp (PyData.weightAll r) := ⟨i1.2, i2.2, i3.2, by omega, Nat.le_refl _, i6.2⟩
    have z := hp.cons (hr.app h)
    refine ⟨z.sh, z.hd, z.ls, z.dp, Nat.le_trans z.wt ?_, z.cl⟩
    simp only [PyData.weightAll] at i5 ⊢
    omega
theorem plainPs {a b : Nat} {xs ys : List Int} (ha : a ≤ 40) (hb : b ≤ 40) (l1 : xs.length = b) (l2 : ys.length = a) (u1 : Upto a xs) (u2 : Upto b ys) : Plain (dPs xs ys) 1 (61 * a + 61 * b) := by
  have p1 := plainP okD_col (fun v hv => by have := u2 v hv; omega) (List.range ys.length) fun i hi => by have := List.mem_range.mp hi; omega
  have p2 := plainP okD_row (fun v hv => by have := u1 v hv; omega) (List.range xs.length) fun i hi => by have := List.mem_range.mp hi; omega
  rw [List.length_range, l2] at p1
  rw [List.length_range, l1] at p2
  have z := p1.app p2
  rw [← l1, ← l2] at z ⊢
  exact z
/-- two of the same wires, in a list -/
theorem fineTwo {ds : List PyData} {w : Nat} (h : Plain ds 1 w) (hw : w ≤ 10000) : Fine (.list [.tuple ds, .tuple ds]) := (h.tup.cons h.tup).lst.fine (by decide) (by omega)
theorem split_at (x : Int) (n m : Nat) (e : x = (n : Int)) (lo hi : Int) : ((List.range (n + m)).map fun i : Nat => if x ≤ (i : Int) then lo else hi) = List.replicate n hi ++ List.replicate m lo := by
  subst e
  induction m with
  | zero =>
    rw [Nat.add_zero, List.replicate_zero, List.append_nil]
    refine List.eq_replicate_iff.mpr ⟨by rw [List.length_map, List.length_range], fun b hb => ?_⟩
    obtain ⟨i, hi, rfl⟩ := List.mem_map.mp hb
    have := List.mem_range.mp hi
    exact if_neg (by omega)
  | succ m ih =>
    rw [← Nat.add_assoc, List.range_succ, List.map_append, ih, List.replicate_succ', List.append_assoc]
    congr 2
    show [if (n : Int) ≤ ((n + m : Nat) : Int) then lo else hi] = [lo]
    rw [if_pos (by omega)]
end C2

namespace C2
set_option Elab.async false
set_option linter.all false
set_option maxRecDepth 100000
set_option maxHeartbeats 4000000
open PySem PySem.Spec PyProof.Rows L2
/-! ### a call by names alone -/
section
variable {X : Cx} {k : Nat} {f : Addr} {fd : FuncData} {ps ks : List Str} {sp : Sp} {E : XK} {x : Str} {p pos : Pos} {kws : List Keyword} {tk : TA} {g : List Value → List Value → List Value} {gV : List V → List V → List V}
theorem pe_callKW (G : FnOk X.prog X.w X.K X.mg X.base CX0 k f fd ps sp) (room : Room k X.A) (glob : Gl X x) (at_ : X.mg x = some (.ref f)) (kept : PySem.W.keepIn X.K (.ref f) = true) (binds : KBinds X.K fd ps ks g gV) (pass : Passes CX0 X E) (named : PK X kws tk)
    (each : (backToKw pos (keywordEach kws X.env)).all (·.1.isSome) = true := by rfl) (names : (backToKw pos (keywordEach kws X.env)).filterMap (·.1) = ks := by rfl) (plainName : (x == ("__debug__" : Str)) = false := by decide)
    (plain : ((backTo pos (starEach [] X.env)).any (·.1) || (backToKw pos (keywordEach kws X.env)).any (·.1.isNone)) = false := by rfl) : PE X (.Call (.Name x p) [] kws pos) (tCallK sp gV E tNil tk) := by
  constructor
  intro pins s σ H Q I h
  have args := named.run pos pins s σ H _ I h
  refine wpAny_Call_Name_kw (ld_glob I glob at_ (PySem.W.callWith_KW0 (h₀ := X.base) I.ok.mod.kin kept each (thn args ?_) plain) plainName)
  rintro ws s2 ⟨zs, H2, I2, rz, q2⟩
  rw [names]
  exact ⟨I2.kIn, run_fnk (us := []) (vs := []) G room binds pass I2 .nil rz q2⟩
end
/-- one, and three values by name, in the contrary order -/
def sw1 {α : Type} : List α → List α → List α
  | [], [a] => [a]
  | _, _ => []
def sw3 {α : Type} : List α → List α → List α
  | [], [a, b, c] => [c, b, a]
  | _, _ => []
theorem sw1_vals {vs zs : List V} {us ws : List Value} (r : Vals vs us) (rz : Vals zs ws) : Vals (sw1 vs zs) (sw1 us ws) := by
  cases r with
  | cons _ _ => exact .nil
  | nil => cases rz with
    | nil => exact .nil
    | cons r1 r2 => cases r2 with
      | nil => exact .cons r1 .nil
      | cons _ _ => exact .nil
theorem sw3_vals {vs zs : List V} {us ws : List Value} (r : Vals vs us) (rz : Vals zs ws) : Vals (sw3 vs zs) (sw3 us ws) := by
  cases r with
  | cons _ _ => exact .nil
  | nil => cases rz with
    | nil => exact .nil
    | cons r1 r2 => cases r2 with
      | nil => exact .nil
      | cons r3 r4 => cases r4 with
        | nil => exact .nil
        | cons r5 r6 => cases r6 with
          | nil => exact .cons r5 (.cons r3 (.cons r1 .nil))
          | cons _ _ => exact .nil
section
variable {P : Program} {w : World} {K : PySem.W.Frag} {mg : Str → Option Value} {base : Heap}
theorem kb_picked {f : Addr} {fd : FuncData} (F : Fun K "picked" "picked" sPicked f fd) : KBinds K fd ["pick"] ["pick"] sw1 sw1 := by
  obtain ⟨v1, v2, v3, v4, v5, v6, v7, v8, v9, rfl, _, _⟩ := F.ex
  refine ⟨fun s us ws _ hl => ?_, fun r rz => sw1_vals r rz⟩
  match us, ws, hl with
  | [], [a], _ => exact .of_eq rfl
  | [], [], hl => cases hl
  | [], _ :: _ :: _, hl => cases hl
  | _ :: _, _, hl => cases hl
theorem kb_comes {f : Addr} {fd : FuncData} (F : Fun K "comes" "comes" sComes f fd) : KBinds K fd ["pick", "i", "j"] ["j", "i", "pick"] sw3 sw3 := by
  obtain ⟨v1, v2, v3, v4, v5, v6, v7, v8, v9, rfl, _, _⟩ := F.ex
  refine ⟨fun s us ws _ hl => ?_, fun r rz => sw3_vals r rz⟩
  match us, ws, hl with
  | [], [a, b, c], _ => exact .of_eq rfl
  | [], [], hl => cases hl
  | [], [_], hl => cases hl
  | [], [_, _], hl => cases hl
  | [], _ :: _ :: _ :: _ :: _, hl => cases hl
  | _ :: _, _, hl => cases hl
/-! ### what comes tells of all crossings -/
def cellF (xs ys : List Int) (j i : Nat) : List V := [.int (crI xs i j), .int (ccI ys i j)]
def RowAt (G : Hp) (r : Addr) (xs ys : List Int) (a j : Nat) : Prop := ∃ cs : List (Addr × List V), G r = some (.lst (vrefs cs)) ∧ CellsV G cs ∧ cs.map (·.2) = (List.range a).map (cellF xs ys j)
theorem RowAt.same {G G' : Hp} {r : Addr} {xs ys : List Int} {a j : Nat} (h : RowAt G r xs ys a j) (s : Same G G') : RowAt G' r xs ys a j := by
  obtain ⟨cs, h1, h2, h3⟩ := h
  exact ⟨cs, s _ _ h1, h2.same s, h3⟩
theorem RowAt.upd {G : Hp} {r D : Addr} {o : HO} {xs ys : List Int} {a j : Nat} {zs : List V} (h : RowAt G r xs ys a j) (ne : r ≠ D) (hD : G D = some (.lst zs)) : RowAt (L2.upd G D o) r xs ys a j := by
  obtain ⟨cs, h1, h2, h3⟩ := h
  refine ⟨cs, by rw [upd_ne ne]; exact h1, fun c hc => ?_, h3⟩
  rw [upd_ne (ne_of (h2 c hc) hD (by intro z; cases z))]
  exact h2 c hc
theorem RowAt.get {G : Hp} {r : Addr} {xs ys : List Int} {a j i : Nat} (h : RowAt G r xs ys a j) (hi : i < a) : ∃ (zs : List V) (c : Addr), G r = some (.lst zs) ∧ zs.length = a ∧ zs[i]? = some (.ref c) ∧ G c = some (.tup (cellF xs ys j i)) := by
  obtain ⟨cs, h1, h2, h3⟩ := h
  have l : cs.length = a := by
    have := congrArg List.length h3
    rw [List.length_map, List.length_map, List.length_range] at this
    exact this
  have hc : i < cs.length := by omega
  have z : (cs.map (·.2))[i]? = ((List.range a).map (cellF xs ys j))[i]? := by rw [h3]
  rw [List.getElem?_map, List.getElem?_eq_getElem hc, List.getElem?_map, List.getElem?_range hi] at z
  have z' : cs[i].2 = cellF xs ys j i := Option.some.inj z
  refine ⟨_, cs[i].1, h1, by rw [List.length_map]; exact l, by rw [List.getElem?_map, List.getElem?_eq_getElem hc]; rfl, ?_⟩
  rw [← z']
  exact h2 _ (List.getElem_mem hc)
structure FoundAt (G : Hp) (l : Addr) (xs ys : List Int) (a b : Nat) (rs : List Addr) : Prop where
  at_ : G l = some (.lst (rs.map V.ref))
  ln : rs.length = b
  row : ∀ j (h : j < rs.length), RowAt G rs[j] xs ys a j
theorem FoundAt.same {G G' : Hp} {l : Addr} {xs ys : List Int} {a b : Nat} {rs : List Addr} (h : FoundAt G l xs ys a b rs) (s : Same G G') : FoundAt G' l xs ys a b rs := ⟨s _ _ h.at_, h.ln, fun j hj => (h.row j hj).same s⟩
theorem FoundAt.get {G : Hp} {l : Addr} {xs ys : List Int} {a b j : Nat} {rs : List Addr} (h : FoundAt G l xs ys a b rs) (hj : j < b) : ∃ r, (rs.map V.ref)[j]? = some (.ref r) ∧ RowAt G r xs ys a j := by
  have hl := h.ln
  have hj' : j < rs.length := by omega
  exact ⟨rs[j], by rw [List.getElem?_map, List.getElem?_eq_getElem hj']; rfl, h.row j hj'⟩
abbrev NLw : List Str := ["_law_script", "_law_k", "_law_pot_here", "_law_a", "_law_b", "_law_chosen", "_law_xs", "_law_ys", "_law_line", "_law_due", "_law_spot", "_law_found", "_law_x", "_law_y", "_law_one"]
theorem scLaw : FnScope NLw ["_law_script"] (defScope sLaw) := ⟨rfl, rfl, rfl, by decide +kernel, rfl, by decide +kernel, by decide +kernel⟩
abbrev scLi : Scope := { kind := .function, names := [(".0", .local), ("_law_line", .cell), ("range", .globalImplicit), ("_law_a", .cell), ("_law_chosen", .cell)], isGenerator := false, isCoroutine := false }
def teCm : TE := tCall spComes [] E0 (tCons (tVar 5) (tCons (tVar 10) (tCons (tVar 8) tNil)))
def teLi : TE := tLc (iRng1 (tCons (tVar 3) tNil)) (gName 10) tYes teCm [10]
def rLenS (K : PySem.W.Frag) : List V → Hp → VK → Prop := fun xs H Q => ∃ p ys, xs = [.ref p] ∧ (SqL K H p ys ∨ SqT K H p ys) ∧ Q (.int (ys.length : Nat)) H
def teF0 (K : PySem.W.Frag) : TE := tOp (rIxT K) (tVar 14) (tC (V.int 0))
def teF1 (K : PySem.W.Frag) : TE := tOp (rIxT K) (tOp (rIxL K) (tOp (rIxL K) (tVar 11) (tVar 8)) (tVar 10)) (tC (V.int 1))
def spLaw (K : PySem.W.Frag) : Sp := fun vs H Q _ => ∃ (a : Addr) (ns : List Int), vs = [.ref a] ∧ SqL K H a (ns.map V.int) ∧ ns.length ≤ 63 ∧ ∀ H', Q (.bl true) H'
/-- the list of lists -/
theorem found_ok {σ : L2.St} {H : Hp} {Q : VK} {t : Addr} {a b : Nat} {xs ys : List Int} {ta : TA} (hta : ∀ R : List V → Hp → Prop, R [.int (b : Int)] H → ta σ H R) (ha : a ≤ 40) (hb : b ≤ 40) (pk : PickAt H t a b xs ys)
    (h3 : ∀ j : Nat, ((wipe σ [8]).set 8 (some (.int (j : Int))))[3]? = some (some (.int (a : Int)))) (h5 : ∀ i j : Nat, ((wipe ((wipe σ [8]).set 8 (some (.int (j : Int)))) [10]).set 10 (some (.int (i : Int))))[5]? = some (some (.ref t)))
    (h8 : ∀ i j : Nat, ((wipe ((wipe σ [8]).set 8 (some (.int (j : Int)))) [10]).set 10 (some (.int (i : Int))))[8]? = some (some (.int (j : Int)))) (h10 : ∀ i j : Nat, ((wipe ((wipe σ [8]).set 8 (some (.int (j : Int)))) [10]).set 10 (some (.int (i : Int))))[10]? = some (some (.int (i : Int))))
    (w1 : ∀ v, wipe ((wipe σ [8]).set 8 (some v)) [8] = wipe σ [8]) (w2 : ∀ (j : Nat) (v : V), wipe ((wipe ((wipe σ [8]).set 8 (some (.int (j : Int)))) [10]).set 10 (some v)) [10] = wipe ((wipe σ [8]).set 8 (some (.int (j : Int)))) [10])
    (k : ∀ D rs G, Same H G → H D = none → FoundAt G D xs ys a b rs → Q (.ref D) G) : tLc (iRng1 ta) (gName 8) tYes teLi [8] σ H Q := by
  refine hta _ ⟨(b : Int), rfl, by omega, by omega, fun D nD => ?_⟩
  refine lc_range (lo := 0) (n := b) (fun j G => Same H G ∧ ∃ rs : List Addr, FoundAt G D xs ys a j rs ∧ ∀ r ∈ rs, r ≠ D) ⟨same_upd nD, [], ⟨upd_same, rfl, fun j h => absurd h (Nat.not_lt_zero _)⟩, fun r hr => by cases hr⟩ ?_ ?_
  · rintro j G hj ⟨sm, rs, fa, nr⟩
    rw [Int.zero_add]
    refine ⟨w1 _, ?_⟩
    simp only [tYes, ↓reduceIte]
    refine ⟨.int (a : Int), h3 j, (a : Int), rfl, by omega, by omega, fun D2 nD2 => ?_⟩
    refine lc_range (lo := 0) (n := a) (fun i G' => GrowV ((List.range i).map (cellF xs ys j)) G D2 G') ⟨[], same_upd nD2, upd_same, fun c hc => (by cases hc), rfl⟩ ?_ ?_
    · rintro i G' hi I
      obtain ⟨cs, sm2, _⟩ := id I
      rw [Int.zero_add]
      refine ⟨w2 j _, ?_⟩
      simp only [tYes, ↓reduceIte]
      refine ⟨.ref t, h5 i j, .int (i : Int), h10 i j, .int (j : Int), h8 i j, t, a, b, i, j, xs, ys, rfl, pk.same (sm.trans sm2), hi, hj, fun G2 T s2 nT hT => ?_⟩
      have z := I.step (y := cellF xs ys j i) (by rw [List.length_map, List.length_range]; omega) nD2 s2 nT hT
      rw [List.range_succ, List.map_append]
      exact z
    · rintro G' ⟨cs, sm2, hD2, hc, e⟩
      have nDD : D2 ≠ D := fun z => by rw [z, fa.at_] at nD2; cases nD2
      have fa2 := fa.same sm2
      refine ⟨_, fa2.at_, ?_, ?_, rs ++ [D2], ⟨?_, ?_, ?_⟩, ?_⟩
      · rw [List.length_map, fa.ln]
        exact Nat.lt_of_lt_of_le (show j < 1000 by omega) (by decide)
      · intro c o ec
        rw [upd_ne (ne_of_none ec nD)]
        exact sm2 _ _ (sm _ _ ec)
      · rw [upd_same, List.map_append]
        rfl
      · rw [List.length_append, fa.ln]
        rfl
      · intro m hm
        rw [List.length_append] at hm
        have ln := fa.ln
        by_cases c : m < rs.length
        · rw [List.getElem_append_left c]
          exact (fa2.row m c).upd (nr _ (List.getElem_mem c)) fa2.at_
        · have em : m = rs.length := by
            have : m < rs.length + 1 := hm
            omega
          subst em
          rw [List.getElem_append_right (Nat.le_refl _)]
          have er : RowAt G' D2 xs ys a rs.length := ⟨cs, hD2, hc, by rw [ln]; exact e⟩
          simp only [Nat.sub_self, List.getElem_cons_zero]
          exact er.upd nDD fa2.at_
      · intro r hr
        rcases List.mem_append.mp hr with h | h
        · exact nr r h
        · rw [List.mem_singleton.mp h]; exact nDD
  · rintro G ⟨sm, rs, fa, _⟩
    exact k D rs G sm nD fa
end
end C2

namespace C2
set_option Elab.async false
set_option linter.all false
set_option maxRecDepth 100000
set_option maxHeartbeats 4000000
open PySem PySem.Spec PyProof.Rows L2
theorem all_rep (n : Nat) : (List.replicate n true).all id = true := by
  rw [List.all_eq_true]
  intro b hb
  exact (List.mem_replicate.mp hb).2
theorem all_step {H G : Hp} {D : Addr} {i : Nat} (sm : Same H G) (nD : H D = none) : Same H (upd G D (.lst ((List.replicate i true).map V.bl ++ [.bl true]))) ∧
    (upd G D (.lst ((List.replicate i true).map V.bl ++ [.bl true]))) D = some (.lst ((List.replicate (i + 1) true).map V.bl)) := by
  refine ⟨fun b o e => ?_, ?_⟩
  · rw [upd_ne (ne_of_none e nD)]
    exact sm _ _ e
  · rw [upd_same, List.replicate_succ', List.map_append]
    rfl
theorem ints_step {H G : Hp} {D : Addr} {xs : List Int} {v : Int} (sm : Same H G) (nD : H D = none) : Same H (upd G D (.lst (xs.map V.int ++ [.int v]))) ∧ (upd G D (.lst (xs.map V.int ++ [.int v]))) D = some (.lst ((xs ++ [v]).map V.int)) := by
  refine ⟨fun b o e => ?_, ?_⟩
  · rw [upd_ne (ne_of_none e nD)]
    exact sm _ _ e
  · rw [upd_same, List.map_append]
    rfl
theorem range_snoc {α : Type} (f : Nat → α) (n : Nat) : (List.range (n + 1)).map f = (List.range n).map f ++ [f n] := by rw [List.range_succ, List.map_append]; rfl
def dCell (xs ys : List Int) (j i : Nat) : PyData := .tuple [.int (crI xs i j), .int (ccI ys i j)]
theorem fineCell (xs ys : List Int) (j i : Nat) : Fine (dCell xs ys j i) := by
  have h1 : crI xs i j = ((0 : Nat) : Int) ∨ crI xs i j = ((2 : Nat) : Int) := by unfold crI; split <;> simp
  have h2 : ccI ys i j = ((1 : Nat) : Int) ∨ ccI ys i j = ((3 : Nat) : Int) := by unfold ccI; split <;> simp
  have o1 : okD (.int (crI xs i j)) = true := by rcases h1 with e | e <;> rw [e] <;> exact okD_int (by decide)
  have o2 : okD (.int (ccI ys i j)) = true := by rcases h2 with e | e <;> rw [e] <;> exact okD_int (by decide)
  exact ((Plain.one o1).cons (Plain.one o2)).tup.fine (by decide) (by decide)
theorem both_of {c : Bool} {ta tb : TE} {σ : L2.St} {H : Hp} {K1 : VK} (C : V → Hp → Prop) (hk : ∀ x H', C x H' → K1 x H') (ha : (∀ x H', C x H' → K1 x H') → c = true → ta σ H K1) (hb : (∀ x H', C x H' → K1 x H') → ¬ c = true → tb σ H K1) : if c = true then ta σ H K1 else tb σ H K1 := by
  by_cases e : c = true
  · rw [if_pos e]; exact ha hk e
  · rw [if_neg e]; exact hb hk e
theorem and_false {c : Bool} {u : TT} {σ : L2.St} {H : Hp} {Q : Bool → Hp → Prop} (C : Hp → Prop) (h0 : C H) (hf : ∀ H', C H' → Q false H') (h1 : (∀ H', C H' → Q false H') → c = true → u σ H Q) : if c = true then u σ H Q else Q false H := by
  by_cases e : c = true
  · rw [if_pos e]; exact h1 hf e
  · rw [if_neg e]; exact hf H h0
theorem op_run {r : R2} {i : Nat} {tb : TE} {σ : L2.St} {H : Hp} {Q : VK} {v : V} (hv : σ[i]? = some (some v)) (h : tb σ H fun y H2 => r v y H2 Q) : tOp r (tVar i) tb σ H Q := ⟨v, hv, h⟩
section
variable {P : Program} {w : World} {K : PySem.W.Frag} {mg : Str → Option Value} {base : Heap}
def teOk (K : PySem.W.Frag) : TE := tAndV (tCB (rIsi K) (tCons (tVar 14) (tCons (tC (.ty "tuple")) tNil))) (tOp rEq (tCB (rLenS K) (tCons (tVar 14) tNil)) (tC (V.int 2)))
def tLine (K : PySem.W.Frag) : TS := tFor (iRng1 (tCons (tVar 4) tNil)) (gName 8) (tSeq (tIfS (tNot (tB (tCB (rAll K) (tCons (tLc (iList K (tOp (rIxL K) (tVar 11) (tVar 8))) (gName 14) tYes (teOk K) [14]) tNil)))) (tRet (tC (V.bl false))) tNext)
  (tIfS (tNot (tB (tCall spOutward [] E0 (tCons (tLc (iList K (tOp (rIxL K) (tVar 11) (tVar 8))) (gName 14) tYes (teF0 K) [14]) (tCons (tOp (rIxT K) (tVar 6) (tVar 8)) (tCons (tC (V.int 0)) (tCons (tC (V.int 2)) tNil))))))) (tRet (tC (V.bl false))) tNext))
def tSpot (K : PySem.W.Frag) : TS := tFor (iRng1 (tCons (tVar 3) tNil)) (gName 10) (tIfS (tNot (tB (tCall spOutward [] E0 (tCons (tLc (iRng1 (tCons (tVar 4) tNil)) (gName 8) tYes (teF1 K) [8]) (tCons (tOp (rIxT K) (tVar 7) (tVar 10)) (tCons (tC (V.int 1)) (tCons (tC (V.int 3)) tNil))))))) (tRet (tC (V.bl false))) tNext)
theorem upto_at {m : Nat} {vs : List Int} {i : Nat} (h : Upto m vs) (hi : i < vs.length) : 0 ≤ vs.getD i 0 ∧ vs.getD i 0 ≤ (m : Int) := by
  rw [List.getD_eq_getElem?_getD, List.getElem?_eq_getElem hi]
  exact h _ (List.getElem_mem hi)
theorem feet_at {m : Nat} {x lo hi : Int} (h0 : 0 ≤ x) (h1 : x ≤ (m : Int)) : ((List.range m).map fun i : Nat => if x ≤ (i : Int) then lo else hi) = List.replicate x.toNat hi ++ List.replicate (m - x.toNat) lo := by
  have e := split_at x x.toNat (m - x.toNat) (by omega) lo hi
  rw [show x.toNat + (m - x.toNat) = m by omega] at e
  exact e
theorem loops_ok {D : Ends} {G : Hp} {z t tx ty l : Addr} {a b : Nat} {xs ys : List Int} {rs : List Addr} {y1 y2 y8 y9 y10 y12 y13 y14 : Option V} (ha : a ≤ 40) (hb : b ≤ 40) (hx : G tx = some (.tup (xs.map V.int))) (hy : G ty = some (.tup (ys.map V.int))) (l1 : xs.length = b) (l2 : ys.length = a) (u1 : Upto a xs) (u2 : Upto b ys) (fa : FoundAt G l xs ys a b rs)
    (k : ∀ G' y8 y10, Same G G' → D.nx [some (.ref z), y1, y2, some (.int (a : Int)), some (.int (b : Int)), some (.ref t), some (.ref tx), some (.ref ty), y8, y9, y10, some (.ref l), y12, y13, y14] G') :
    tSeq (tLine K) (tSpot K) D [some (.ref z), y1, y2, some (.int (a : Int)), some (.int (b : Int)), some (.ref t), some (.ref tx), some (.ref ty), y8, y9, y10, some (.ref l), y12, y13, y14] G := by
  refine ⟨.int (b : Int), rfl, (b : Int), rfl, by omega, by omega, ?_⟩
  refine for_range (lo := 0) (n := b) (fun j σ G' => Same G G' ∧ ∃ y8, σ = [some (.ref z), y1, y2, some (.int (a : Int)), some (.int (b : Int)), some (.ref t), some (.ref tx), some (.ref ty), y8, y9, y10, some (.ref l), y12, y13, y14]) ⟨Same.refl _, _, rfl⟩ ?_ ?_
  · rintro j σ G1 hj ⟨s1, y8, rfl⟩
    rw [Int.zero_add]
    have fa1 := fa.same s1
    obtain ⟨r, hr, row⟩ := fa1.get hj
    obtain ⟨cs, hcs, hcc, ec⟩ := id row
    have lcs : cs.length = a := by
      have := congrArg List.length ec
      rw [List.length_map, List.length_map, List.length_range] at this
      exact this
    refine ⟨.ref l, rfl, .int (j : Int), rfl, l, _, _, .ref r, rfl, rfl, .inl (.inl fa1.at_), atI_nat hr, r, rfl, ⟨_, .inl (.inl hcs)⟩, fun D5 n5 => ?_⟩
    refine lc_list (xs := vrefs cs) (fun i G' => Same G1 G' ∧ G' D5 = some (.lst ((List.replicate i true).map V.bl))) ⟨same_upd n5, upd_same⟩ (fun i G' _ h => .inl (.inl (h.1 _ _ hcs))) ?_ ?_
    · rintro i x G' hx' ⟨s5, h5⟩
      have hi : i < cs.length := by
        have := (List.getElem?_eq_some_iff.mp hx').1
        rw [List.length_map] at this
        exact this
      rw [List.getElem?_map, List.getElem?_eq_getElem hi] at hx'
      obtain rfl : V.ref cs[i].1 = x := Option.some.inj hx'
      have z' : cs[i].2 = cellF xs ys j i := by
        have q : (cs.map (·.2))[i]? = ((List.range a).map (cellF xs ys j))[i]? := by rw [ec]
        rw [List.getElem?_map, List.getElem?_eq_getElem hi, List.getElem?_map, List.getElem?_range (by omega)] at q
        exact Option.some.inj q
      have hcell := s5 _ _ (hcc cs[i] (List.getElem_mem hi))
      rw [z'] at hcell
      have e2 : decide (V.int (((cellF xs ys j i).length : Nat) : Int) = V.int 2) = true := decide_eq_true rfl
      refine ⟨rfl, .ref cs[i].1, rfl, .ref cs[i].1, .ty "tuple", _, _, true, rfl, .ty "tuple", .base (.tup hcell), kit_ty (by decide +kernel), true, rfl, iteT ⟨.ref cs[i].1, rfl, cs[i].1, _, rfl, .inr (.inl (.inl hcell)), rfl, ?_⟩⟩
      rw [e2]
      refine ⟨_, h5, ?_, all_step s5 n5⟩
      rw [List.length_map, List.length_replicate]
      exact Nat.lt_of_lt_of_le (show i < 1000 by omega) (by decide)
    · rintro G2 ⟨s5, h5⟩
      refine ⟨D5, List.replicate (vrefs cs).length true, rfl, .inl (.inl h5), _, rfl, ?_⟩
      rw [all_rep]
      refine iteF ?_
      have fa2 := fa1.same s5
      have hcs2 := s5 _ _ hcs
      have hcc2 := hcc.same s5
      refine ⟨.ref l, rfl, .int (j : Int), rfl, l, _, _, .ref r, rfl, rfl, .inl (.inl fa2.at_), atI_nat hr, r, rfl, ⟨_, .inl (.inl hcs2)⟩, fun D6 n6 => ?_⟩
      refine lc_list (xs := vrefs cs) (fun i G' => Same G2 G' ∧ G' D6 = some (.lst (((List.range i).map fun i => crI xs i j).map V.int))) ⟨same_upd n6, upd_same⟩ (fun i G' _ h => .inl (.inl (h.1 _ _ hcs2))) ?_ ?_
      · rintro i x G' hx' ⟨s6, h6⟩
        have hi : i < cs.length := by
          have := (List.getElem?_eq_some_iff.mp hx').1
          rw [List.length_map] at this
          exact this
        rw [List.getElem?_map, List.getElem?_eq_getElem hi] at hx'
        obtain rfl : V.ref cs[i].1 = x := Option.some.inj hx'
        have z' : cs[i].2 = cellF xs ys j i := by
          have q : (cs.map (·.2))[i]? = ((List.range a).map (cellF xs ys j))[i]? := by rw [ec]
          rw [List.getElem?_map, List.getElem?_eq_getElem hi, List.getElem?_map, List.getElem?_range (by omega)] at q
          exact Option.some.inj q
        have hcell := s6 _ _ (hcc2 cs[i] (List.getElem_mem hi))
        rw [z'] at hcell
        refine ⟨rfl, .ref cs[i].1, rfl, cs[i].1, _, 0, .int (crI xs i j), rfl, rfl, .inl (.inl hcell), rfl, _, h6, ?_, ?_⟩
        · rw [List.length_map, List.length_map, List.length_range]
          exact Nat.lt_of_lt_of_le (show i < 1000 by omega) (by decide)
        · rw [range_snoc]
          exact ints_step s6 n6
      · rintro G3 ⟨s6, h6⟩
        rw [List.length_map, lcs] at h6
        have sm3 := s1.trans (s5.trans s6)
        have bd := upto_at u1 (show j < xs.length by omega)
        refine ⟨.ref tx, rfl, .int (j : Int), rfl, tx, _, _, _, rfl, rfl, .inl (.inl (sm3 _ _ hx)), atD (by omega), D6, _, (xs.getD j 0).toNat, a - (xs.getD j 0).toNat, 0, 2, ?_, h6, by omega, feet_at bd.1 bd.2, fun G4 s7 => ⟨true, rfl, iteF ⟨sm3.trans s7, _, rfl⟩⟩⟩
        rw [Int.toNat_of_nonneg bd.1]
        rfl
  · rintro σ G1 ⟨s1, y8, rfl⟩
    refine ⟨.int (a : Int), rfl, (a : Int), rfl, by omega, by omega, ?_⟩
    refine for_range (lo := 0) (n := a) (fun i σ G' => Same G G' ∧ ∃ y10, σ = [some (.ref z), y1, y2, some (.int (a : Int)), some (.int (b : Int)), some (.ref t), some (.ref tx), some (.ref ty), y8, y9, y10, some (.ref l), y12, y13, y14]) ⟨s1, _, rfl⟩ ?_ ?_
    · rintro i σ G2 hi ⟨s2, y10, rfl⟩
      rw [Int.zero_add]
      have fa2 := fa.same s2
      refine ⟨.int (b : Int), rfl, (b : Int), rfl, by omega, by omega, fun D7 n7 => ?_⟩
      refine lc_range (lo := 0) (n := b) (fun j G' => Same G2 G' ∧ G' D7 = some (.lst (((List.range j).map fun j => ccI ys i j).map V.int))) ⟨same_upd n7, upd_same⟩ ?_ ?_
      · rintro j G' hj ⟨s7, h7⟩
        rw [Int.zero_add]
        have fa7 := fa2.same s7
        obtain ⟨r, hr, row⟩ := fa7.get hj
        obtain ⟨zs, c, hzs, lz, hz, hcell⟩ := row.get hi
        refine ⟨rfl, .ref l, rfl, .int (j : Int), rfl, l, _, _, .ref r, rfl, rfl, .inl (.inl fa7.at_), atI_nat hr, .int (i : Int), rfl, r, _, _, .ref c, rfl, rfl, .inl (.inl hzs), atI_nat hz, c, _, 1, .int (ccI ys i j), rfl, rfl, .inl (.inl hcell), rfl, _, h7, ?_, ?_⟩
        · rw [List.length_map, List.length_map, List.length_range]
          exact Nat.lt_of_lt_of_le (show j < 1000 by omega) (by decide)
        · rw [range_snoc]
          exact ints_step s7 n7
      · rintro G3 ⟨s7, h7⟩
        have sm3 := s2.trans s7
        have bd := upto_at u2 (show i < ys.length by omega)
        refine ⟨.ref ty, rfl, .int (i : Int), rfl, ty, _, _, _, rfl, rfl, .inl (.inl (sm3 _ _ hy)), atD (by omega), D7, _, (ys.getD i 0).toNat, b - (ys.getD i 0).toNat, 1, 3, ?_, h7, by omega, feet_at bd.1 bd.2, fun G4 s8 => ⟨true, rfl, iteF ⟨sm3.trans s8, _, rfl⟩⟩⟩
        rw [Int.toNat_of_nonneg bd.1]
        rfl
    · rintro σ G2 ⟨s2, y10, rfl⟩
      exact k G2 y8 y10 s2
end
end C2

namespace C2
set_option Elab.async false
set_option linter.all false
set_option maxRecDepth 100000
set_option maxHeartbeats 4000000
open PySem PySem.Spec PyProof.Rows L2
section
variable {P : Program} {w : World} {K : PySem.W.Frag} {mg : Str → Option Value} {base : Heap}
theorem ok_law {f fP fT fC fS fO fD fM : Addr} {fd fdP fdT fdC fdS fdO fdD fdM : FuncData} (F : Fun K "law" "law" sLaw f fd) (FP : Fun K "_law_pot" "_law_pot" sDraws fP fdP) (FT : Fun K "_law_take" "_law_take" sTake fT fdT) (FC : Fun K "_law_pick" "_law_pick" sPick fC fdC) (FS : Fun K "_law_size" "_law_size" sSize fS fdS) (FO : Fun K "_law_outward" "_law_outward" sOutward fO fdO) (FD : Fun K "picked" "picked" sPicked fD fdD) (FM : Fun K "comes" "comes" sComes fM fdM)
    (bP : Binds K fdP ["_law_script", "_law_k"] []) (bT : Binds K fdT ["_law_pot_here", "_law_many"] []) (bC : Binds K fdC ["_law_pot_here", "_law_a", "_law_b"] []) (bS : Binds K fdS ["_law_pot_here", "_law_most"] []) (bO : Binds K fdO ["_law_feet", "_law_at", "_law_low", "_law_high"] []) (bD : Binds K fdD ["pick"] []) (bM : Binds K fdM ["pick", "i", "j"] [])
    (gP : mg "_law_pot" = some (.ref fP)) (gT : mg "_law_take" = some (.ref fT)) (gC : mg "_law_pick" = some (.ref fC)) (gS : mg "_law_size" = some (.ref fS)) (gO : mg "_law_outward" = some (.ref fO)) (gD : mg "picked" = some (.ref fD)) (gM : mg "comes" = some (.ref fM))
    (ml : mg "len" = none) (ma : mg "abs" = none) (mr : mg "range" = none) (mt : mg "tuple" = none) (ms : mg "sorted" = none) (mmax : mg "max" = none) (mmin : mg "min" = none) (mrep : mg "repr" = none) (men : mg "enumerate" = none) (mall : mg "all" = none) (mi : mg "isinstance" = none) :
    FnG P w K mg base 3 f fd ["_law_script"] (spLaw K) := by
  have GP : FnOk P w K mg base CX0 1 fP fdP ["_law_script", "_law_k"] (spDraws K) := ok_draws FP ml ma
  have GT : FnOk P w K mg base CX0 1 fT fdT ["_law_pot_here", "_law_many"] spTake := ok_take FT
  have GS : FnOk P w K mg base CX0 2 fS fdS ["_law_pot_here", "_law_most"] spSize := ok_size FS FT bT gT
  have GC : FnOk P w K mg base CX0 2 fC fdC ["_law_pot_here", "_law_a", "_law_b"] spPick := ok_pick FC FT bT gT mr mt ms ml
  have GO : FnOk P w K mg base CX0 1 fO fdO ["_law_feet", "_law_at", "_law_low", "_law_high"] spOutward := ok_outward FO ml
  have GD : FnOk P w K mg base CX0 1 fD fdD ["pick"] spPicked := ok_picked FD men mt
  have GM : FnOk P w K mg base CX0 1 fM fdM ["pick", "i", "j"] spComes := ok_comes FM
  have kD := kb_picked FD
  have kM := kb_comes FM
  refine okG F scLaw (fun vs H Q E h => ?_) (fun cdv A outer s H vs Q E hgd hr h => ?_)
  · obtain ⟨a, ns, rfl, _⟩ := h
    rfl
  · obtain ⟨z, ns, rfl, hS, hlen, q⟩ := h
    have nd := scLaw.nd
    refine ⟨_, pss_cons (ps_for PassesOwn.never rfl (pi_range1 (by rfl) mr (pa_cons (pe_callB (call_max2 rfl) (by rfl) mmax (by decide +kernel) (pa_cons pe_int (pa_cons (pe_callB (call_min2 rfl) (by rfl) mmin (by decide +kernel) (pa_cons pe_int (pa_cons (pe_callB call_len_seq (by rfl) ml PySem.boot_len (pa_cons (pv 0) pa_nil)) pa_nil))) pa_nil))) pa_nil)) (pg_name (i := 1) nd rfl (.inl rfl)) (pss_cons (ps_set (i := 2) nd rfl (.inl rfl) (pe_call GP (hr.mono (by decide)) (by rfl) gP FP.kp bP .nil pass0 (pa_cons (pv 0) (pa_cons (pv 1) pa_nil))))
      (pss_cons (ps_asg (pe_ifExp (pt_cmpR op_gt (pe_call GT (hr.mono (by decide)) (by rfl) gT FT.kp bT .nil pass0 (pa_cons (pv 2) (pa_cons pe_int pa_nil))) pe_int (nomark _)) (pe_call GS hr (by rfl) gS FS.kp bS .nil pass0 (pa_cons (pv 2) (pa_cons pe_int pa_nil))) (pe_tup (pa_cons pe_int (pa_cons pe_int pa_nil)))) (pg_tup rfl (pgs_cons (pg_name (i := 3) nd rfl (.inr rfl)) (pgs_cons (pg_name (i := 4) nd rfl (.inl rfl)) pgs_nil))))
      (pss_cons (ps_set (i := 5) nd rfl (.inr rfl) (pe_call GC hr (by rfl) gC FC.kp bC .nil pass0 (pa_cons (pv 2) (pa_cons (pv 3) (pa_cons (pv 4) pa_nil)))))
      (pss_cons (ps_asg (pv 5) (pg_tup rfl (pgs_cons (pg_name (i := 6) nd rfl (.inl rfl)) (pgs_cons (pg_name (i := 7) nd rfl (.inl rfl)) pgs_nil))))
      (pss_cons (ps_setLc (i := 9) (own := [("_law_line", 8), ("_law_x", 12)]) (g := gTup K 2 (gCons (gName 8) (gCons (gName 12) gNil))) (tt := tYes) (te := teWr "row" 8 12) rfl nd rfl rfl (sw_true rfl rfl rfl (by decide +kernel)) (pi_enT (by rfl) men (pa_cons (pv 6) pa_nil)) (blkOk_by (own := [("_law_line", 8), ("_law_x", 12)]) (N := NLw) (sc := defScope sLaw) (by decide +kernel)) (fun _ _ _ _ _ => pg_tup rfl (pgs_cons (pg_name (i := 8) nd rfl (.inl rfl)) (pgs_cons (pg_name (i := 12) nd rfl (.inl rfl)) pgs_nil))) (fun _ _ _ _ _ => pts_nil) (fun _ _ _ _ _ => (pe_tup (pa_cons pe_str (pa_cons (pv 8) (pa_cons (pv 12) pa_nil))))))
      (pss_cons (ps_set (i := 9) nd rfl (.inl rfl) (pe_callB (cr_sortW hr.units) (by rfl) ms (by decide +kernel) (pa_cons (pe_op op_cat (pv 9) (pe_lc (own := [("_law_spot", 10), ("_law_y", 13)]) (g := gTup K 2 (gCons (gName 10) (gCons (gName 13) gNil))) (tt := tYes) (te := teWr "column" 10 13) rfl nd  (pi_enT (by rfl) men (pa_cons (pv 7) pa_nil)) (blkOk_by (own := [("_law_spot", 10), ("_law_y", 13)]) (N := NLw) (sc := defScope sLaw) (by decide +kernel)) (fun _ _ _ _ _ => pg_tup rfl (pgs_cons (pg_name (i := 10) nd rfl (.inl rfl)) (pgs_cons (pg_name (i := 13) nd rfl (.inl rfl)) pgs_nil))) (fun _ _ _ _ _ => pts_nil) (fun _ _ _ _ _ => (pe_tup (pa_cons pe_str (pa_cons (pv 10) (pa_cons (pv 13) pa_nil))))))) pa_nil)))
      (pss_cons (ps_if (pt_cmpR op_ne (pe_callB (call_reprD hr.units hgd) (by rfl) mrep (by decide +kernel) (pa_cons (pe_lst (pa_cons (pe_call GD (hr.mono (by decide)) (by rfl) gD FD.kp bD .nil pass0 (pa_cons (pv 5) pa_nil)) (pa_cons (pe_callKW GD (hr.mono (by decide)) (by rfl) gD FD.kp kD pass0 (pk_cons (pv 5) pk_nil)) pa_nil))) pa_nil)) (pe_callB (call_reprD hr.units hgd) (by rfl) mrep (by decide +kernel) (pa_cons (pe_op op_rep (pe_lst (pa_cons (pe_callTy call_tuple_of (by rfl) mt (by decide +kernel) (pa_cons (pv 9) pa_nil)) pa_nil)) pe_int) pa_nil)) (nomark _)) (pss_one (ps_ret pe_bl)) pss_nil)
      (pss_cons (ps_set (i := 11) nd rfl (.inr rfl) (pe_lc (own := [("_law_line", 8)]) (g := gName 8) (tt := tYes) (te := teLi) rfl nd (pi_range1 (by rfl) mr (pa_cons (pv 4) pa_nil)) (blkOk_by (own := [("_law_line", 8)]) (N := NLw) (sc := defScope sLaw) (by decide +kernel)) (fun _ _ _ _ _ => pg_name (i := 8) nd rfl (.inr rfl)) (fun _ _ _ _ _ => pts_nil) (fun _ _ _ _ _ => (pe_lc (own := [("_law_spot", 10)]) (g := gName 10) (tt := tYes) (te := teCm) rfl nd (pi_range1 (by rfl) mr (pa_cons (pv 3) pa_nil)) (blkOk_by (own := [("_law_spot", 10)]) (N := NLw) (sc := scLi) (by decide +kernel)) (fun _ _ _ _ _ => pg_name (i := 10) nd rfl (.inl rfl)) (fun _ _ _ _ _ => pts_nil) (fun _ _ _ _ _ => (pe_call GM (hr.mono (by decide)) (by rfl) gM FM.kp bM .nil pass0 (pa_cons (pv 5) (pa_cons (pv 10) (pa_cons (pv 8) pa_nil)))))))))
      (pss_cons (ps_if (PW.pt (pw_and (pt_cmpR op_gt (pe_op op_mul (pv 4) (pv 3)) pe_int (nomark _)) (pw_and1 (pt_cmpR op_ne (pe_callB (call_reprD hr.units hgd) (by rfl) mrep (by decide +kernel) (pa_cons (pe_callKW GM (hr.mono (by decide)) (by rfl) gM FM.kp kM pass0 (pk_cons (pe_op op_sub (pv 4) pe_int) (pk_cons pe_int (pk_cons (pv 5) pk_nil)))) pa_nil)) (pe_callB (call_reprD hr.units hgd) (by rfl) mrep (by decide +kernel) (pa_cons (pe_ix ix_list (pe_ix ix_list (pv 11) (pe_op op_sub (pv 4) pe_int) (fun _ _ => rfl)) pe_int (fun _ _ => rfl)) pa_nil)) (nomark _))))) (pss_one (ps_ret pe_bl)) pss_nil)
      (pss_cons (ps_for PassesOwn.never rfl (pi_range1 (by rfl) mr (pa_cons (pv 4) pa_nil)) (pg_name (i := 8) nd rfl (.inl rfl)) (pss_cons (ps_if (pt_not (pt_val (pe_callB (cr_all rfl) (by rfl) mall (by decide +kernel) (pa_cons (pe_lc (own := [("_law_one", 14)]) (g := gName 14) (tt := tYes) (te := teOk K) rfl nd (pi_list (pe_ix ix_list (pv 11) (pv 8) (fun _ _ => rfl))) (blkOk_by (own := [("_law_one", 14)]) (N := NLw) (sc := defScope sLaw) (by decide +kernel)) (fun _ _ _ _ _ => pg_name (i := 14) nd rfl (.inl rfl)) (fun _ _ _ _ _ => pts_nil) (fun _ _ _ _ _ => (pe_and (pe_callB call_isi (by rfl) mi (by decide +kernel) (pa_cons (pv 14) (pa_cons (pe_bltn (v := .ty "tuple") (by rfl) mt (by decide +kernel) rfl) pa_nil))) (pe_one (pe_cmpR op_eq (pe_callB call_len_seq (by rfl) ml PySem.boot_len (pa_cons (pv 14) pa_nil)) pe_int (nomark _)))))) pa_nil)))) (pss_one (ps_ret pe_bl)) pss_nil)
      (pss_one (ps_if (pt_not (pt_val (pe_call GO (hr.mono (by decide)) (by rfl) gO FO.kp bO .nil pass0 (pa_cons (pe_lc (own := [("_law_one", 14)]) (g := gName 14) (tt := tYes) (te := teF0 K) rfl nd (pi_list (pe_ix ix_list (pv 11) (pv 8) (fun _ _ => rfl))) (blkOk_by (own := [("_law_one", 14)]) (N := NLw) (sc := defScope sLaw) (by decide +kernel)) (fun _ _ _ _ _ => pg_name (i := 14) nd rfl (.inl rfl)) (fun _ _ _ _ _ => pts_nil) (fun _ _ _ _ _ => (pe_ix ix_tup (pv 14) pe_int (fun _ _ => rfl)))) (pa_cons (pe_ix ix_tup (pv 6) (pv 8) (fun _ _ => rfl)) (pa_cons pe_int (pa_cons pe_int pa_nil))))))) (pss_one (ps_ret pe_bl)) pss_nil))))
      (pss_one (ps_for PassesOwn.never rfl (pi_range1 (by rfl) mr (pa_cons (pv 3) pa_nil)) (pg_name (i := 10) nd rfl (.inr rfl)) (pss_one (ps_if (pt_not (pt_val (pe_call GO (hr.mono (by decide)) (by rfl) gO FO.kp bO .nil pass0 (pa_cons (pe_lc (own := [("_law_line", 8)]) (g := gName 8) (tt := tYes) (te := teF1 K) rfl nd (pi_range1 (by rfl) mr (pa_cons (pv 4) pa_nil)) (blkOk_by (own := [("_law_line", 8)]) (N := NLw) (sc := defScope sLaw) (by decide +kernel)) (fun _ _ _ _ _ => pg_name (i := 8) nd rfl (.inl rfl)) (fun _ _ _ _ _ => pts_nil) (fun _ _ _ _ _ => (pe_ix ix_tup (pe_ix ix_list (pe_ix ix_list (pv 11) (pv 8) (fun _ _ => rfl)) (pv 10) (fun _ _ => rfl)) pe_int (fun _ _ => rfl)))) (pa_cons (pe_ix ix_tup (pv 7) (pv 10) (fun _ _ => rfl)) (pa_cons pe_int (pa_cons pe_int pa_nil))))))) (pss_one (ps_ret pe_bl)) pss_nil)))))))))))))))
      (pss_one (ps_ret pe_bl)), ?_⟩
    refine ⟨.ref z, rfl, z, _, rfl, .inl hS, 3, _, rfl, 1, _, rfl, _, rfl, ?_, ?_, ?_⟩
    · split <;> split <;> omega
    · rw [List.length_map]
      split <;> split <;> omega
    · refine for_range (lo := 0) (n := _) (fun i σ G => SqL K G z (ns.map V.int) ∧ ∃ y1 y2 y3 y4 y5 y6 y7 y8 y9 y10 y11 y12 y13 y14, σ = [some (.ref z), y1, y2, y3, y4, y5, y6, y7, y8, y9, y10, y11, y12, y13, y14]) ⟨hS, _, _, _, _, _, _, _, _, _, _, _, _, _, _, rfl⟩ ?_ ?_
      · rintro i σ G hi ⟨hSG, y1, y2, y3, y4, y5, y6, y7, y8, y9, y10, y11, y12, y13, y14, rfl⟩
        have hi3 : i < 3 := by
          rw [List.length_map] at hi
          revert hi
          split <;> split <;> omega
        rw [Int.zero_add]
        refine ⟨.ref z, rfl, .int (i : Int), rfl, z, ns, i, rfl, hSG, by omega, fun H1 p sm1 np hP1 => ?_⟩
        refine ⟨.ref p, rfl, p, 9, 0, rfl, hP1, by decide, by decide, by decide, fun d H2 f2 P2 d0 d1 => ⟨_, _, rfl, rfl, _, rfl, ?_⟩⟩
        have fr2 : Fr p G H2 := (Fr.same sm1).trans f2
        refine both_of (fun x H' => ∃ (a b : Nat) (u : Addr), x = .ref u ∧ a ≤ 40 ∧ b ≤ 40 ∧ Fr p G H' ∧ PotAt H' p 10 ∧ H' u = some (.tup [.int (a : Int), .int (b : Int)])) ?_ (fun hk e => ?_) (fun hk e => ?_)
        · rintro x H3 ⟨a, b, u, rfl, ha, hb, fr3, P3, hu⟩
          refine ⟨u, _, rfl, .inl (.inl hu), rfl, _, _, rfl, _, _, rfl, rfl, ?_⟩
          refine ⟨.ref p, rfl, .int (a : Int), rfl, .int (b : Int), rfl, p, a, b, 10, rfl, ha, hb, P3, by decide, fun t xs ys H4 f4 P4 pk => ?_⟩
          have fr4 := fr3.trans f4
          have hS4 : SqL K H4 z (ns.map V.int) := freshSeq hSG np fr4
          obtain ⟨tx, ty, h1, h2, h3, l1, l2, u1, u2⟩ := id pk
          refine ⟨.ref t, rfl, t, _, rfl, .inl (.inl h1), rfl, _, _, rfl, _, _, rfl, rfl, ?_⟩
          show tSeq (tAsg (tLc (iEnT K (tCons (tVar 6) tNil)) (gTup K 2 (gCons (gName 8) (gCons (gName 12) gNil))) tYes (teWr "row" 8 12) [8, 12]) (gName 9)) _ _ _ _
          refine seqAsg (enum_wires (vs := xs) (t := tx) (fun R h => ⟨.ref tx, rfl, h⟩) h2 (by omega) (fun u v => rfl) (fun u v => rfl) (fun u v => rfl) fun D1 G1 I1 n1 => ?_)
          obtain ⟨cs1, sm1, hD1, hc1, e1⟩ := I1
          show tSeq (tAsg (tCB (rSortW K) (tCons (tOp rCat (tVar 9) (tLc (iEnT K (tCons (tVar 7) tNil)) (gTup K 2 (gCons (gName 10) (gCons (gName 13) gNil))) tYes (teWr "column" 10 13) [10, 13])) tNil)) (gName 9)) _ _ _ _
          refine seqAsg (tcb_run (op_run (v := .ref D1) rfl (enum_wires (vs := ys) (t := ty) (fun R h => ⟨.ref ty, rfl, h⟩) (sm1 _ _ h3) (by omega) (fun u v => rfl) (fun u v => rfl) (fun u v => rfl) fun D2 G2 I2 n2 => ?_)))
          obtain ⟨cs2, sm2, hD2, hc2, e2⟩ := I2
          have lc1 := cs_len e1
          have lc2 := cs_len e2
          refine ⟨D1, D2, _, _, rfl, rfl, sm2 _ _ hD1, hD2, ?_, fun D3 n3 => ?_⟩
          · rw [List.length_map, List.length_map]
            exact Nat.le_trans (show cs1.length + cs2.length ≤ 4000 by omega) (by decide)
          have s3 := same_upd (o := .lst (vrefs cs1 ++ vrefs cs2)) n3
          have b1 := bW_refs (r := true) e1
          have b2 := bW_refs (r := false) e2
          have c1 := hc1.same (sm2.trans s3)
          have c2 := hc2.same s3
          have m1 := bW_at (r := true) e1 c1
          have m2 := bW_at (r := false) e2 c2
          have ets : (bW false (cs2.map (·.1)) ys ++ bW true (cs1.map (·.1)) xs).map encW = dPs xs ys := by
            rw [List.map_append, bW_enc, bW_enc]
            rfl
          refine ⟨D3, bW true (cs1.map (·.1)) xs ++ bW false (cs2.map (·.1)) ys, bW false (cs2.map (·.1)) ys ++ bW true (cs1.map (·.1)) xs, rfl, .inl (.inl ?_), ?_, ?_, List.perm_append_comm, ?_, fun D4 n4 => ?_⟩
          · rw [upd_same]
            show some (HO.lst (vrefs cs1 ++ vrefs cs2)) = some (HO.lst (List.map _ (_ ++ _)))
            rw [List.map_append, b1, b2]
          · intro x hx
            rcases List.mem_append.mp hx with h | h
            · exact m1 x h
            · exact m2 x h
          · rw [List.length_append, bW_len, bW_len]
            omega
          · refine List.pairwise_append.mpr ⟨bW_pw _ _ _, bW_pw _ _ _, fun x hx y hy => .inl ⟨?_, ?_⟩⟩
            · obtain ⟨_, _, rfl⟩ := List.mem_map.mp hx
              rfl
            · obtain ⟨_, _, rfl⟩ := List.mem_map.mp hy
              rfl
          have m3 : ∀ x ∈ bW false (cs2.map (·.1)) ys ++ bW true (cs1.map (·.1)) xs, (upd G2 D3 (.lst (vrefs cs1 ++ vrefs cs2))) x.1 = some (.tup (wv x.2)) := fun x hx => by
            rcases List.mem_append.mp hx with h | h
            · exact m2 x h
            · exact m1 x h
          generalize bW false (cs2.map (·.1)) ys ++ bW true (cs1.map (·.1)) xs = ts at ets m3
          have s4 := same_upd (o := .lst (brefs ts)) n4
          have sA := sm1.trans (sm2.trans (s3.trans s4))
          have hD4 := upd_same (H := upd G2 D3 (.lst (vrefs cs1 ++ vrefs cs2))) (a := D4) (o := .lst (brefs ts))
          have m4 : ∀ x ∈ ts, (upd (upd G2 D3 (.lst (vrefs cs1 ++ vrefs cs2))) D4 (.lst (brefs ts))) x.1 = some (.tup (wv x.2)) := fun x hx => s4 _ _ (m3 x hx)
          have plan := plainPs ha hb l1 l2 u1 u2
          have fg := fineTwo plan (by omega)
          have dsp : ∀ (G' : Hp) (T' : Addr) (c' : List (Addr × List V)), G' T' = some (.tup (vrefs c')) → CellsV G' c' → c'.map (·.2) = wiresP "column" ys ++ wiresP "row" xs → Dp K G' (.ref T') (.tuple (dPs xs ys)) := fun G' T' c' x y e => .tup (.inl (.inl x)) (dp_split e y)
          generalize dPs xs ys = dd at ets fg dsp
          refine ⟨.ref t, rfl, t, a, b, xs, ys, rfl, pk.same sA, ha, hb, fun H5 T5 c5 s5 n5 h5 hc5 e5 => ?_⟩
          refine ⟨.ref t, rfl, t, a, b, xs, ys, rfl, (pk.same sA).same s5, ha, hb, fun H6 T6 c6 s6 n6 h6 hc6 e6 => ?_⟩
          refine ⟨by show 2 ≤ sizeLine; decide, fun l7 n7 => ?_⟩
          have s7 := same_upd (o := .lst [.ref T5, .ref T6]) n7
          have d7 : Dp K (upd H6 l7 (.lst [.ref T5, .ref T6])) (.ref l7) (.list [.tuple dd, .tuple dd]) := .lst (.inl (.inl upd_same)) (.cons (dsp _ T5 c5 (s7 _ _ (s6 _ _ h5)) (hc5.same (s6.trans s7)) e5) (.cons (dsp _ T6 c6 (s7 _ _ h6) (hc6.same s7) e6) .nil))
          refine ⟨l7, _, rfl, d7, fg.sh, fg.hd, fg.dp, fg.ln, ?_⟩
          have hD4' := s7 _ _ (s6 _ _ (s5 _ _ hD4))
          refine ⟨.ref D4, rfl, D4, _, rfl, .inl ⟨.inl (.inl hD4'), fun T8 n8 => ⟨by show 1 ≤ sizeLine; decide, fun l9 n9 => ⟨l9, 2, [.ref T8], rfl, rfl, upd_same, by decide, by decide, by show 1 * 2 ≤ sizeLine; decide, fun l10 n10 => ?_⟩⟩⟩⟩
          have s8 := same_upd (o := .tup (brefs ts)) n8
          have s9 := same_upd (o := .lst [.ref T8]) n9
          have s10 := same_upd (o := .lst (List.replicate (2 : Int).toNat [V.ref T8]).flatten) n10
          have s57 := s5.trans (s6.trans (s7.trans (s8.trans (s9.trans s10))))
          have hT8 := s10 _ _ (s9 _ _ (upd_same (H := upd H6 l7 (.lst [.ref T5, .ref T6])) (a := T8) (o := .tup (brefs ts))))
          have dt := dp_brefs (K := K) ts (fun x hx => s57 _ _ (m4 x hx))
          rw [ets] at dt
          have dT : Dp K _ (.ref T8) (.tuple dd) := .tup (.inl (.inl hT8)) dt
          have h10 := upd_same (H := upd (upd (upd H6 l7 (.lst [.ref T5, .ref T6])) T8 (.tup (brefs ts))) l9 (.lst [.ref T8])) (a := l10) (o := .lst (List.replicate (2 : Int).toNat [V.ref T8]).flatten)
          have d10 : Dp K _ (.ref l10) (.list [.tuple dd, .tuple dd]) := .lst (.inl (.inl h10)) (.cons dT (.cons dT .nil))
          refine ⟨l10, _, rfl, d10, fg.sh, fg.hd, fg.dp, fg.ln, rfl, _, rfl, iteNS (congrArg (fun d => V.str (PyData.shown (.list [.tuple d, .tuple d]))) (Eq.refl dd)) ?_⟩
          have sB := sA.trans s57
          have pkB := pk.same sB
          show tSeq (tAsg (tLc (iRng1 (tCons (tVar 4) tNil)) (gName 8) tYes teLi [8]) (gName 11)) _ _ _ _
          refine seqAsg (found_ok (t := t) (a := a) (b := b) (xs := xs) (ys := ys) (fun R h => ⟨.int (b : Int), rfl, h⟩) ha hb pkB (fun j => rfl) (fun i j => rfl) (fun i j => rfl) (fun i j => rfl) (fun v => rfl) (fun j v => rfl) fun D rs G11 s11 nD fa => ?_)
          have sC := sB.trans s11
          have pkC := pk.same sC
          have hSC : SqL K G11 z (ns.map V.int) := sC.seq hS4
          refine ⟨.int (b : Int), rfl, .int (a : Int), rfl, _, _, rfl, rfl, .inl ⟨by omega, by omega⟩, _, _, rfl, rfl, _, rfl, ?_⟩
          refine and_false (fun H' => Same G11 H') (Same.refl _) ?_ fun hk e => ?_
          · intro G12 s12
            refine iteF ?_
            exact loops_ok (z := z) (t := t) (tx := tx) (ty := ty) (l := D) ha hb ((sC.trans s12) _ _ h2) ((sC.trans s12) _ _ h3) l1 l2 u1 u2 (fa.same s12) fun G' y8 y10 s' => ⟨(s12.trans s').seq hSC, _, _, _, _, _, _, _, _, _, _, _, _, _, _, rfl⟩
          · have pos : (0 : Int) < (b : Int) * (a : Int) := of_decide_eq_true e
            have a0 : 0 < a := by
              rcases Nat.eq_zero_or_pos a with h | h
              · rw [h] at pos; simp at pos
              · exact h
            have b0 : 0 < b := by
              rcases Nat.eq_zero_or_pos b with h | h
              · rw [h] at pos; simp at pos
              · exact h
            have eb : (b : Int) - 1 = ((b - 1 : Nat) : Int) := by omega
            have vsE : sw3 ([] : List V) [V.int ((b : Int) - 1), V.int 0, V.ref t] = [V.ref t, V.int ((0 : Nat) : Int), V.int ((b - 1 : Nat) : Int)] := by
              rw [eb]
              rfl
            obtain ⟨r, hr, row⟩ := fa.get (show b - 1 < b by omega)
            obtain ⟨zs, c, hzs, lz, hz, hcell⟩ := row.get a0
            have hr' : atI (rs.map V.ref) ((b : Int) - 1) = some (.ref r) := by
              rw [eb]
              exact atI_nat hr
            have fc := fineCell xs ys (b - 1) 0
            have dc : ∀ (G' : Hp) (T' : Addr), G' T' = some (.tup (cellF xs ys (b - 1) 0)) → Dp K G' (.ref T') (dCell xs ys (b - 1) 0) := fun G' T' h => .tup (.inl (.inl h)) (.cons (.int _) (.cons (.int _) .nil))
            generalize dCell xs ys (b - 1) 0 = dv at fc dc
            have en : (!decide (V.str (PyData.shown dv) = V.str (PyData.shown dv))) = false := by rw [decide_eq_true rfl]; rfl
            refine ⟨.int (b : Int), rfl, _, 1, rfl, rfl, .ref t, rfl, t, a, b, 0, b - 1, xs, ys, vsE, pkC, a0, by omega, fun H12 T12 s12 n12 h12 => ?_⟩
            refine ⟨T12, dv, rfl, dc _ _ h12, fc.sh, fc.hd, fc.dp, fc.ln, ?_⟩
            refine ⟨.ref D, rfl, .int (b : Int), rfl, _, 1, rfl, rfl, D, _, _, .ref r, rfl, rfl, .inl (.inl (s12 _ _ fa.at_)), hr', r, zs, 0, .ref c, rfl, rfl, .inl (.inl (s12 _ _ hzs)), atI_nat (j := 0) hz, ?_⟩
            refine ⟨c, dv, rfl, dc _ _ (s12 _ _ hcell), fc.sh, fc.hd, fc.dp, fc.ln, rfl, ?_⟩
            rw [en]
            exact ⟨false, rfl, hk _ s12⟩
        · have d9 := of_decide_eq_true e
          exact ⟨.ref p, rfl, p, 8, 1, rfl, by decide, by decide, P2, by decide, fun a b t H' ha hb f P ht => hk _ _ ⟨a, b, t, rfl, by omega, by omega, fr2.trans f, P.mono (by omega), ht⟩⟩
        · exact ⟨by show 2 ≤ sizeLine; decide, fun t nt => hk _ _ ⟨40, 40, t, rfl, by decide, by decide, fr2.trans (Fr.new nt), (P2.new nt).mono (by omega), upd_same⟩⟩
      · rintro σ G ⟨hSG, y1, y2, y3, y4, y5, y6, y7, y8, y9, y10, y11, y12, y13, y14, rfl⟩
        exact q G
end
end C2

namespace C2
set_option Elab.async false
set_option linter.all false
set_option maxRecDepth 100000
set_option maxHeartbeats 4000000
open PySem PySem.Spec PyProof.Rows L2
theorem all_mk {l : PySem.W.OpenLaw} {w : World} {K : PySem.W.Frag} {h : Heap} {mg : Str → Option Value} {fa f1 f2 f3 f4 f5 f6 f7 f8 : Addr} (X : K.In h) (G : h.Ns mainGlobals mg) (hfa : mg "law" = some (.ref fa))
    {od1 an1 od2 an2 od3 an3 od4 an4 od5 an5 od6 an6 od7 an7 od8 an8 : Option Addr} {sl1 sl2 sl3 sl4 sl5 sl6 sl7 sl8 : Array (Option Value)}
    {oc1 kV1 dc1 pm1 cd1 ct1 oc2 kV2 dc2 pm2 cd2 ct2 oc3 kV3 dc3 pm3 cd3 ct3 oc4 kV4 dc4 pm4 cd4 ct4 oc5 kV5 dc5 pm5 cd5 ct5 oc6 kV6 dc6 pm6 cd6 ct6 oc7 kV7 dc7 pm7 cd7 ct7 oc8 kV8 dc8 pm8 cd8 ct8 : Value}
    (a1 : PySem.W.nsIn K mainGlobals "_law_pot" = some (some (.ref f1))) (l1 : K.lookup f1 = some ⟨oc1, od1, .func (PySem.W.fnOf "_law_pot" "_law_pot" (defArgs sDraws) (defBody sDraws) (defScope sDraws) .none kV1 dc1 pm1 an1 cd1 ct1), sl1⟩) (c1 : PySem.W.codeIn K cd1 "_law_pot" = true) (k1 : PySem.W.keepIn K (.ref f1) = true)
    (a2 : PySem.W.nsIn K mainGlobals "_law_take" = some (some (.ref f2))) (l2 : K.lookup f2 = some ⟨oc2, od2, .func (PySem.W.fnOf "_law_take" "_law_take" (defArgs sTake) (defBody sTake) (defScope sTake) .none kV2 dc2 pm2 an2 cd2 ct2), sl2⟩) (c2 : PySem.W.codeIn K cd2 "_law_take" = true) (k2 : PySem.W.keepIn K (.ref f2) = true)
    (a3 : PySem.W.nsIn K mainGlobals "_law_pick" = some (some (.ref f3))) (l3 : K.lookup f3 = some ⟨oc3, od3, .func (PySem.W.fnOf "_law_pick" "_law_pick" (defArgs sPick) (defBody sPick) (defScope sPick) .none kV3 dc3 pm3 an3 cd3 ct3), sl3⟩) (c3 : PySem.W.codeIn K cd3 "_law_pick" = true) (k3 : PySem.W.keepIn K (.ref f3) = true)
    (a4 : PySem.W.nsIn K mainGlobals "_law_size" = some (some (.ref f4))) (l4 : K.lookup f4 = some ⟨oc4, od4, .func (PySem.W.fnOf "_law_size" "_law_size" (defArgs sSize) (defBody sSize) (defScope sSize) .none kV4 dc4 pm4 an4 cd4 ct4), sl4⟩) (c4 : PySem.W.codeIn K cd4 "_law_size" = true) (k4 : PySem.W.keepIn K (.ref f4) = true)
    (a5 : PySem.W.nsIn K mainGlobals "_law_outward" = some (some (.ref f5))) (l5 : K.lookup f5 = some ⟨oc5, od5, .func (PySem.W.fnOf "_law_outward" "_law_outward" (defArgs sOutward) (defBody sOutward) (defScope sOutward) .none kV5 dc5 pm5 an5 cd5 ct5), sl5⟩) (c5 : PySem.W.codeIn K cd5 "_law_outward" = true) (k5 : PySem.W.keepIn K (.ref f5) = true)
    (a6 : PySem.W.nsIn K mainGlobals "picked" = some (some (.ref f6))) (l6 : K.lookup f6 = some ⟨oc6, od6, .func (PySem.W.fnOf "picked" "picked" (defArgs sPicked) (defBody sPicked) (defScope sPicked) .none kV6 dc6 pm6 an6 cd6 ct6), sl6⟩) (c6 : PySem.W.codeIn K cd6 "picked" = true) (k6 : PySem.W.keepIn K (.ref f6) = true)
    (a7 : PySem.W.nsIn K mainGlobals "comes" = some (some (.ref f7))) (l7 : K.lookup f7 = some ⟨oc7, od7, .func (PySem.W.fnOf "comes" "comes" (defArgs sComes) (defBody sComes) (defScope sComes) .none kV7 dc7 pm7 an7 cd7 ct7), sl7⟩) (c7 : PySem.W.codeIn K cd7 "comes" = true) (k7 : PySem.W.keepIn K (.ref f7) = true)
    (a8 : PySem.W.nsIn K mainGlobals "law" = some (some (.ref f8))) (l8 : K.lookup f8 = some ⟨oc8, od8, .func (PySem.W.fnOf "law" "law" (defArgs sLaw) (defBody sLaw) (defScope sLaw) .none kV8 dc8 pm8 an8 cd8 ct8), sl8⟩) (c8 : PySem.W.codeIn K cd8 "law" = true) (k8 : PySem.W.keepIn K (.ref f8) = true)
    (z1 : PySem.W.nsIn K mainGlobals "len" = some none) (z2 : PySem.W.nsIn K mainGlobals "abs" = some none) (z3 : PySem.W.nsIn K mainGlobals "range" = some none) (z4 : PySem.W.nsIn K mainGlobals "tuple" = some none) (z5 : PySem.W.nsIn K mainGlobals "sorted" = some none) (z6 : PySem.W.nsIn K mainGlobals "max" = some none) (z7 : PySem.W.nsIn K mainGlobals "min" = some none) (z8 : PySem.W.nsIn K mainGlobals "repr" = some none) (z9 : PySem.W.nsIn K mainGlobals "enumerate" = some none) (z10 : PySem.W.nsIn K mainGlobals "all" = some none) (z11 : PySem.W.nsIn K mainGlobals "isinstance" = some none) :
    ∃ fd : FuncData, (∀ (s : Shared) (v : Value), BindsTo s fd ⟨[v], []⟩ [("_law_script", v)]) ∧ ∀ base : Heap, K.In base → base.Ns mainGlobals mg → FnG l.prog w K mg base 3 fa fd ["_law_script"] (spLaw K) := by
  have e := hfa.symm.trans (PySem.W.mg_of X G a8)
  cases e
  have F1 := fun_mk (st := sDraws) l1 c1 k1
  have F2 := fun_mk (st := sTake) l2 c2 k2
  have F3 := fun_mk (st := sPick) l3 c3 k3
  have F4 := fun_mk (st := sSize) l4 c4 k4
  have F5 := fun_mk (st := sOutward) l5 c5 k5
  have F6 := fun_mk (st := sPicked) l6 c6 k6
  have F7 := fun_mk (st := sComes) l7 c7 k7
  have F8 := fun_mk (st := sLaw) l8 c8 k8
  have b1 := F1.binds (ps := ["_law_script", "_law_k"]) fun _ _ _ _ _ _ us hl => match us, hl with | [_, _], _ => rfl
  have b2 := F2.binds (ps := ["_law_pot_here", "_law_many"]) fun _ _ _ _ _ _ us hl => match us, hl with | [_, _], _ => rfl
  have b3 := F3.binds (ps := ["_law_pot_here", "_law_a", "_law_b"]) fun _ _ _ _ _ _ us hl => match us, hl with | [_, _, _], _ => rfl
  have b4 := F4.binds (ps := ["_law_pot_here", "_law_most"]) fun _ _ _ _ _ _ us hl => match us, hl with | [_, _], _ => rfl
  have b5 := F5.binds (ps := ["_law_feet", "_law_at", "_law_low", "_law_high"]) fun _ _ _ _ _ _ us hl => match us, hl with | [_, _, _, _], _ => rfl
  have b6 := F6.binds (ps := ["pick"]) fun _ _ _ _ _ _ us hl => match us, hl with | [_], _ => rfl
  have b7 := F7.binds (ps := ["pick", "i", "j"]) fun _ _ _ _ _ _ us hl => match us, hl with | [_, _, _], _ => rfl
  exact ⟨PySem.W.fnOf "law" "law" (defArgs sLaw) (defBody sLaw) (defScope sLaw) .none kV8 dc8 pm8 an8 cd8 ct8, fun s v => .of_eq rfl, fun base _ _ =>
    ok_law F8 F1 F2 F3 F4 F5 F6 F7 b1 b2 b3 b4 b5 b6 b7 (PySem.W.mg_of X G a1) (PySem.W.mg_of X G a2) (PySem.W.mg_of X G a3) (PySem.W.mg_of X G a4) (PySem.W.mg_of X G a5) (PySem.W.mg_of X G a6) (PySem.W.mg_of X G a7) (PySem.W.mg_none_of X G z1) (PySem.W.mg_none_of X G z2) (PySem.W.mg_none_of X G z3) (PySem.W.mg_none_of X G z4) (PySem.W.mg_none_of X G z5) (PySem.W.mg_none_of X G z6) (PySem.W.mg_none_of X G z7) (PySem.W.mg_none_of X G z8) (PySem.W.mg_none_of X G z9) (PySem.W.mg_none_of X G z10) (PySem.W.mg_none_of X G z11)⟩
end C2
open PySem PySem.W PyProof.Rows
set_option maxRecDepth 100000 in
set_option maxHeartbeats 0 in
theorem PySem.Challenge.cw_cornertold_k24_threads_from_their_picks_holds : PySem.Challenge.rw_cornertold_k24_threads_from_their_picks.Holds := by
  w_on; o_law; k_head; (case hw => w_witness2)
  k_fill
  refine C2.walkG (l := PySem.Challenge.rw_cornertold_k24_threads_from_their_picks) (n := 63) (k := 3) (x := "_law_script") (sp := C2.spLaw) rfl (by decide) rfl ⟨rfl, by decide, by decide⟩ (fun w h Y => PySem.W.kIn_of Y) ?F (fun _ _ a ns hl hS => ⟨a, ns, rfl, hS, hl, fun _ => rfl⟩)
  case F =>
    intro w mg fa h KX G hmg
    refine' C2.all_mk KX G hmg ?a1 ?l1 ?c1 ?k1 ?a2 ?l2 ?c2 ?k2 ?a3 ?l3 ?c3 ?k3 ?a4 ?l4 ?c4 ?k4 ?a5 ?l5 ?c5 ?k5 ?a6 ?l6 ?c6 ?k6 ?a7 ?l7 ?c7 ?k7 ?a8 ?l8 ?c8 ?k8 ?z1 ?z2 ?z3 ?z4 ?z5 ?z6 ?z7 ?z8 ?z9 ?z10 ?z11
    (case a1 => k_is); (case l1 => k_is); (case c1 => k_is); (case k1 => k_is); (case a2 => k_is); (case l2 => k_is); (case c2 => k_is); (case k2 => k_is)
    (case a3 => k_is); (case l3 => k_is); (case c3 => k_is); (case k3 => k_is); (case a4 => k_is); (case l4 => k_is); (case c4 => k_is); (case k4 => k_is)
    (case a5 => k_is); (case l5 => k_is); (case c5 => k_is); (case k5 => k_is); (case a6 => k_is); (case l6 => k_is); (case c6 => k_is); (case k6 => k_is)
    (case a7 => k_is); (case l7 => k_is); (case c7 => k_is); (case k7 => k_is); (case a8 => k_is); (case l8 => k_is); (case c8 => k_is); (case k8 => k_is)
    (case z1 => k_is); (case z2 => k_is); (case z3 => k_is); (case z4 => k_is); (case z5 => k_is); (case z6 => k_is); (case z7 => k_is); (case z8 => k_is)
    (case z9 => k_is); (case z10 => k_is); (case z11 => k_is)
