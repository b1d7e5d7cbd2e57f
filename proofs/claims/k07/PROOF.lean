import PyProof.Rows.All
import Wide.All
import OpenK.AllK
import Wide.FinOn
import HandS.ForMost
import HandS.Wide
import HandS.Conv
import HandS.Style
import HandS.Comp
import HandS.IsInst
import PyProof.DictMoreH
import HandS.SetKeys
import HandS.Walk
import HandS.Zip
import KE.GoesMore
import KE.GoesEnum
import PySem.Challenge.RW_cornertold_k07_wires_and_legs
set_option Elab.async false
set_option linter.all false
set_option maxRecDepth 100000
namespace C2
set_option Elab.async false
set_option linter.all false
set_option maxRecDepth 100000
set_option maxHeartbeats 4000000
open PySem PySem.Spec PyProof.Rows L2
def topS (i : Nat) : Stmt := PySem.Challenge.pw_cornertold_k07_wires_and_legs.main.body.getD i (.Pass ⟨0, 0, 0, 0⟩)
abbrev sPWhole : Stmt := topS 1
abbrev sBetween : Stmt := topS 2
abbrev sTupOf : Stmt := topS 3
abbrev sIsWire : Stmt := topS 5
abbrev sWires : Stmt := topS 6
abbrev sLegs : Stmt := topS 7
abbrev sDraws : Stmt := topS 9
abbrev sTake : Stmt := topS 10
abbrev sOf : Stmt := topS 11
abbrev sWhole : Stmt := topS 12
abbrev sDeep : Stmt := topS 13
abbrev sSize : Stmt := topS 14
abbrev sAll : Stmt := topS 15
abbrev sNear : Stmt := topS 16
abbrev sIsOne : Stmt := topS 17
abbrev sLegsRight : Stmt := topS 18
abbrev sLaw : Stmt := topS 19
theorem scDraws : FnScope ["_law_script", "_law_k", "_law_cell", "_law_great"] ["_law_script", "_law_k"] (defScope sDraws) := ⟨rfl, rfl, rfl, by decide +kernel, rfl, by decide +kernel, by decide +kernel⟩
theorem scTake : FnScope ["_law_pot", "_law_many", "_law_digit", "_law_prime", "_law_drawn"] ["_law_pot", "_law_many"] (defScope sTake) := ⟨rfl, rfl, rfl, by decide +kernel, rfl, by decide +kernel, by decide +kernel⟩
theorem scOf : FnScope ["_law_pot", "_law_some"] ["_law_pot", "_law_some"] (defScope sOf) := ⟨rfl, rfl, rfl, by decide +kernel, rfl, by decide +kernel, by decide +kernel⟩

/-- all that was tracked, but what stands at p, is as it was -/
def Fr (p : Addr) (H H' : Hp) : Prop := ∀ b o, b ≠ p → H b = some o → H' b = some o
theorem Fr.refl (p : Addr) (H : Hp) : Fr p H H := fun _ _ _ h => h
theorem Fr.trans {p : Addr} {H H1 H2 : Hp} (a : Fr p H H1) (b : Fr p H1 H2) : Fr p H H2 := fun c o n h => b c o n (a c o n h)
theorem Fr.same {p : Addr} {H H1 : Hp} (a : Same H H1) : Fr p H H1 := fun c o _ h => a c o h
theorem Fr.upd {p : Addr} {H : Hp} {o : HO} : Fr p H (upd H p o) := fun c u n h => by rw [upd_ne n]; exact h
theorem Fr.new {p q : Addr} {H : Hp} {o : HO} (h : H q = none) : Fr p H (L2.upd H q o) := fun c u n e => by rw [upd_ne (ne_of_none e h)]; exact e
theorem Fr.free {p : Addr} {H H' : Hp} (e : Fr p H H') {l : Addr} (n : l ≠ p) (h : H' l = none) : H l = none := by
  cases q : H l with
  | none => rfl
  | some o => rw [e l o n q] at h; cases h
theorem same_upd {H : Hp} {p : Addr} {o : HO} (h : H p = none) : Same H (upd H p o) := fun b x e => by
  rw [upd_ne (ne_of_none e h)]
  exact e
def PotAt (H : Hp) (p : Addr) (n : Nat) : Prop := ∃ g c t : Int, H p = some (.lst [.int g, .int c, .int t]) ∧ 0 ≤ t ∧ t ≤ (n : Int)
section
variable {P : Program} {w : World} {K : PySem.W.Frag} {mg : Str → Option Value} {base : Heap}
/-! ### draws -/
def spDraws (K : PySem.W.Frag) : Sp := fun vs H Q _ => ∃ (a : Addr) (ns : List Int) (k : Nat), vs = [.ref a, .int (k : Int)] ∧ SqL K H a (ns.map V.int) ∧ k ≤ 1000 ∧
  ∀ H' p, Same H H' → H p = none → PotAt H' p 0 → Q (.ref p) H'
theorem pow_ok1 : CPow 10 18 := ⟨by decide, by decide, by decide⟩
theorem pow_ok2 : CPow 10 60 := ⟨by decide, by decide, by decide⟩
theorem wide1 : CMulW ((10 : Int) ^ (60 : Int).toNat) ((10 : Int) ^ (60 : Int).toNat) := wide_mul (a := 200) (b := 200) (by decide +kernel) (by decide +kernel) (by decide) (by decide) (by decide)
theorem wide2 : CMulW ((10 : Int) ^ (60 : Int).toNat * (10 : Int) ^ (60 : Int).toNat) ((10 : Int) ^ (60 : Int).toNat) := wide_mul (a := 400) (b := 200) (by decide +kernel) (by decide +kernel) (by decide) (by decide) (by decide)
theorem wide3 : (0 : Int) < (10 : Int) ^ (60 : Int).toNat * (10 : Int) ^ (60 : Int).toNat * (10 : Int) ^ (60 : Int).toNat := by decide +kernel
theorem fin_draws {H : Hp} {Q : VK} {a : Addr} {k : Nat} (q : ∀ (H' : Hp) (p : Addr), Same H H' → H p = none → PotAt H' p 0 → Q (V.ref p) H') (hk : k ≤ 1000) (cell great : Int) :
    tRet (tLst (tCons (tVar 3) (tCons (tOp (rI (fun x j => 0 < j) fun i j => V.int (i % j)) (tOp (rI0 fun i j => V.int (i + j)) (tOp (rI0 fun i j => V.int (i + j))
      (tOp (rI CMul fun i j => V.int (i * j)) (tOp (rI (fun x j => 0 < j) fun i j => V.int (i % j)) (tVar 2) (tC (V.int 2305843009213693951))) (tC (V.int 1000033)))
      (tOp (rI CMul fun i j => V.int (i * j)) (tC (V.int 7919)) (tVar 1))) (tC (V.int 41))) (tC (V.int 2305843009213693921))) (tCons (tC (V.int 0)) tNil))))
      { nx := fun x H' => Q V.non H', rt := Q } [some (V.ref a), some (V.int (k : Int)), some (V.int cell), some (V.int great)] H := by
  refine ⟨.int great, rfl, .int cell, rfl, cell, 2305843009213693951, rfl, rfl, (by show (0 : Int) < 2305843009213693951; decide), _, 1000033, rfl, rfl, .inr ⟨by decide, by decide⟩, .int (k : Int), rfl, 7919, (k : Int), rfl, rfl, .inl ⟨by decide, by decide⟩, _, _, rfl, rfl, _, 41, rfl, rfl, _, _, rfl, rfl, (by show (0 : Int) < 2305843009213693921; decide), by show 3 ≤ sizeLine; decide, fun p np => ?_⟩
  exact q _ p (same_upd np) np ⟨_, _, _, upd_same, Int.le_refl _, Int.le_refl _⟩
theorem ok_draws {f : Addr} {fd : FuncData} {k : Nat} (F : Fun K "_law_draws" "_law_draws" sDraws f fd) (ml : mg "len" = none) (ma : mg "abs" = none) : FnOk P w K mg base CX0 (k + 1) f fd ["_law_script", "_law_k"] (spDraws K) := by
  refine F.ok scDraws (fun vs H Q E h => ?_) (fun cdv A outer s H vs Q E hr h => ?_)
  · obtain ⟨a, ns, k, rfl, _⟩ := h
    rfl
  · obtain ⟨a, ns, k, rfl, hS, hk, q⟩ := h
    refine ⟨_, pss_cons (ps_set (i := 2) scDraws.nd rfl (.inl rfl) (pe_ifExp (pt_cmpR op_lt (pv 1) (pe_callB call_len_seq (by rfl) ml PySem.boot_len (pa_cons (pv 0) pa_nil)) (nomark _))
          (pe_ix ix_list (pv 0) (pv 1) (fun _ _ => rfl)) (pe_op op_add (pe_op op_mul pe_int (pv 1)) pe_int)))
      (pss_cons (ps_set (i := 3) scDraws.nd rfl (.inl rfl) (pe_ifExp (pt_cmpR op_ge (pe_callB call_abs (by rfl) ma (by decide +kernel) (pa_cons (pv 2) pa_nil)) (pe_op op_pow pe_int pe_int) (nomark _))
          (pe_op op_mod (pe_callB call_abs (by rfl) ma (by decide +kernel) (pa_cons (pv 2) pa_nil)) (pe_op op_mulW (pe_op op_mulW (pe_op op_pow pe_int pe_int) (pe_op op_pow pe_int pe_int)) (pe_op op_pow pe_int pe_int))) pe_int))
      (pss_one (ps_ret (pe_lst (pa_cons (pv 3) (pa_cons (pe_op op_mod (pe_op op_add (pe_op op_add (pe_op op_mul (pe_op op_mod (pv 2) pe_int) pe_int) (pe_op op_mul pe_int (pv 1))) pe_int) pe_int) (pa_cons pe_int pa_nil))))))), ?_⟩
    refine ⟨.int (k : Int), rfl, .ref a, rfl, a, _, rfl, .inl hS, _, _, rfl, rfl, _, rfl, ite2 (fun e => ?_) (fun e => ?_)⟩
    · have e1 : k < ns.length := by
        have := of_decide_eq_true e
        rw [List.length_map] at this
        omega
      refine ⟨.ref a, rfl, .int (k : Int), rfl, a, _, _, .int ns[k], rfl, rfl, hS, atI_nat (by rw [List.getElem?_map, List.getElem?_eq_getElem e1]; rfl), ?_⟩
      generalize ns[k] = cell
      refine ⟨.int cell, rfl, cell, rfl, 10, 18, rfl, rfl, pow_ok1, _, _, rfl, rfl, _, rfl, ite2 (fun e => ?_) (fun e => ?_)⟩
      · refine ⟨.int cell, rfl, cell, rfl, 10, 60, rfl, rfl, pow_ok2, 10, 60, rfl, rfl, pow_ok2, _, _, rfl, rfl, wide1, 10, 60, rfl, rfl, pow_ok2, _, _, rfl, rfl, wide2, _, _, rfl, rfl, wide3, ?_⟩
        exact fin_draws q hk _ _
      · exact fin_draws q hk _ _
    · refine ⟨.int (k : Int), rfl, 5, (k : Int), rfl, rfl, .inl ⟨by decide, by decide⟩, _, 3, rfl, rfl, ?_⟩
      refine ⟨_, rfl, _, rfl, 10, 18, rfl, rfl, pow_ok1, _, _, rfl, rfl, _, rfl, ite2 (fun e => ?_) (fun e => ?_)⟩
      · refine ⟨_, rfl, _, rfl, 10, 60, rfl, rfl, pow_ok2, 10, 60, rfl, rfl, pow_ok2, _, _, rfl, rfl, wide1, 10, 60, rfl, rfl, pow_ok2, _, _, rfl, rfl, wide2, _, _, rfl, rfl, wide3, ?_⟩
        exact fin_draws q hk _ _
      · exact fin_draws q hk _ _
end
end C2

namespace C2
set_option Elab.async false
set_option linter.all false
set_option maxRecDepth 100000
set_option maxHeartbeats 4000000
open PySem PySem.Spec PyProof.Rows L2
section
variable {P : Program} {w : World} {K : PySem.W.Frag} {mg : Str → Option Value} {base : Heap}
def primes : List V := [.int 2147483647, .int 2147483629, .int 2147483587, .int 2147483579, .int 2147483563, .int 2147483549, .int 2147483543]
theorem primes_at {r : Int} (h0 : 0 ≤ r) (h1 : r < 7) : ∃ v : Int, atI primes r = some (.int v) ∧ 0 < v ∧ v < 2147483648 := by
  have : r = 0 ∨ r = 1 ∨ r = 2 ∨ r = 3 ∨ r = 4 ∨ r = 5 ∨ r = 6 := by omega
  rcases this with rfl | rfl | rfl | rfl | rfl | rfl | rfl <;> exact ⟨_, rfl, by decide, by decide⟩
def spTake : Sp := fun vs H Q _ => ∃ (p : Addr) (m : Int) (n : Nat), vs = [.ref p, .int m] ∧ PotAt H p n ∧ n < 1000000 ∧ 0 < m ∧ m < 1073741824 ∧
  ∀ (d : Int) H', Fr p H H' → PotAt H' p (n + 1) → 0 ≤ d → d < m → Q (.int d) H'
theorem ok_take {f : Addr} {fd : FuncData} {k : Nat} (F : Fun K "_law_take" "_law_take" sTake f fd) : FnOk P w K mg base CX0 (k + 1) f fd ["_law_pot", "_law_many"] spTake := by
  refine F.ok scTake (fun vs H Q E h => ?_) (fun cdv A outer s H vs Q E hr h => ?_)
  · obtain ⟨a, ns, k, rfl, _⟩ := h
    rfl
  · obtain ⟨p, m, n, rfl, ⟨g, c, t, hp, ht0, ht1⟩, hn, hm0, hm1, q⟩ := h
    refine ⟨_, pss_cons (ps_if (pt_cmpR op_gt (pe_ix ix_list (pv 0) pe_int (fun _ _ => rfl)) pe_int (nomark _))
        (pss_cons (ps_set (i := 2) scTake.nd rfl (.inl rfl) (pe_op op_mod (pe_ix ix_list (pv 0) pe_int (fun _ _ => rfl)) (pv 1)))
          (pss_cons (ps_asg (pe_op op_fdiv (pe_ix ix_list (pv 0) pe_int (fun _ _ => rfl)) (pv 1)) (pg_sub (pv 0) pe_int set_list)) (pss_one (ps_ret (pv 2))))) pss_nil)
      (pss_cons (ps_asg (pe_op op_add (pe_ix ix_list (pv 0) pe_int (fun _ _ => rfl)) pe_int) (pg_sub (pv 0) pe_int set_list))
      (pss_cons (ps_set (i := 3) scTake.nd rfl (.inl rfl) (pe_ix ix_list (pe_lst (pa_cons pe_int (pa_cons pe_int (pa_cons pe_int (pa_cons pe_int (pa_cons pe_int (pa_cons pe_int (pa_cons pe_int pa_nil))))))))
          (pe_op op_mod (pe_ix ix_list (pv 0) pe_int (fun _ _ => rfl)) pe_int) (fun _ _ => rfl)))
      (pss_cons (ps_set (i := 4) scTake.nd rfl (.inl rfl) (pe_op op_add (pe_op op_mod (pe_op op_mod (pe_op op_add (pe_ix ix_list (pv 0) pe_int (fun _ _ => rfl))
          (pe_op op_mul (pe_op op_mul pe_int (pe_ix ix_list (pv 0) pe_int (fun _ _ => rfl))) (pe_ix ix_list (pv 0) pe_int (fun _ _ => rfl)))) (pe_op op_mul (pv 3) (pv 3))) (pv 3)) pe_int))
      (pss_one (ps_ret (pe_op op_mod (pe_op op_fdiv (pe_op op_mod (pe_op op_mul (pv 4) (pe_op op_add (pe_op op_mod (pv 4) pe_int) (pe_ix ix_list (pv 0) pe_int (fun _ _ => rfl)))) (pv 3)) pe_int) (pv 1))))))), ?_⟩
    have L0 : SqL K H p [.int g, .int c, .int t] := .inl (.inl hp)
    refine ⟨.ref p, rfl, p, _, 0, .int g, rfl, rfl, L0, rfl, _, _, rfl, rfl, _, rfl, ite2 (fun e => ?_) (fun e => ?_)⟩
    · refine ⟨.ref p, rfl, p, _, 0, .int g, rfl, rfl, L0, rfl, .int m, rfl, _, _, rfl, rfl, hm0, ?_⟩
      refine ⟨.ref p, rfl, p, _, 0, .int g, rfl, rfl, L0, rfl, .int m, rfl, _, _, rfl, rfl, ⟨hm0, hm1⟩, ?_⟩
      refine ⟨.ref p, rfl, p, _, 0, 0, rfl, rfl, hp, rfl, ?_⟩
      refine ⟨_, rfl, q _ _ Fr.upd ⟨_, _, _, upd_same, ht0, by omega⟩ (Int.emod_nonneg _ (by omega)) (Int.emod_lt_of_pos _ hm0)⟩
    · refine ⟨.ref p, rfl, p, _, 2, .int t, rfl, rfl, L0, rfl, _, 1, rfl, rfl, ?_⟩
      refine ⟨.ref p, rfl, p, _, 2, 2, rfl, rfl, hp, rfl, ?_⟩
      have hp2 : (upd H p (.lst (List.set [.int g, .int c, .int t] 2 (.int (t + 1))))) p = some (.lst [.int g, .int c, .int (t + 1)]) := upd_same
      refine ⟨by show 7 ≤ sizeLine; decide, fun o no => ?_⟩
      have npo : p ≠ o := ne_of_none hp2 no
      have hp3 : (upd (upd H p (.lst (List.set [.int g, .int c, .int t] 2 (.int (t + 1))))) o (.lst primes)) p = some (.lst [.int g, .int c, .int (t + 1)]) := by
        rw [upd_ne npo]
        exact hp2
      have fr3 : Fr p H (upd (upd H p (.lst (List.set [.int g, .int c, .int t] 2 (.int (t + 1))))) o (.lst primes)) := Fr.trans Fr.upd (Fr.new no)
      have L3 : SqL K (upd (upd H p (.lst (List.set [.int g, .int c, .int t] 2 (.int (t + 1))))) o (.lst primes)) p [.int g, .int c, .int (t + 1)] := .inl (.inl hp3)
      have LO : SqL K (upd (upd H p (.lst (List.set [.int g, .int c, .int t] 2 (.int (t + 1))))) o (.lst primes)) o primes := .inl (.inl upd_same)
      obtain ⟨v, hv, v0, v1⟩ := primes_at (r := (t + 1) % 7) (Int.emod_nonneg _ (by decide)) (Int.emod_lt_of_pos _ (by decide))
      have b20 : (-(2 ^ 64) : Int) < t + 1 ∧ t + 1 < 2 ^ 64 := ⟨by omega, by omega⟩
      have bv : (-(2 ^ 64) : Int) < v ∧ v < 2 ^ 64 := ⟨by omega, by omega⟩
      refine ⟨.ref p, rfl, p, _, 2, .int (t + 1), rfl, rfl, L3, rfl, _, 7, rfl, rfl, (by show (0 : Int) < 7; decide), o, _, _, _, rfl, rfl, LO, hv, ?_⟩
      refine ⟨.ref p, rfl, p, _, 1, .int c, rfl, rfl, L3, rfl, .ref p, rfl, p, _, 2, .int (t + 1), rfl, rfl, L3, rfl, 69621, _, rfl, rfl, .inr b20, .ref p, rfl, p, _, 2, .int (t + 1), rfl, rfl, L3, rfl, _, _, rfl, rfl, .inr b20, _, _, rfl, rfl,
        .int v, rfl, .int v, rfl, v, v, rfl, rfl, .inl bv, _, _, rfl, rfl, (Int.mul_pos v0 v0), .int v, rfl, _, _, rfl, rfl, v0, _, 1, rfl, rfl, ?_⟩
      have z0 := Int.emod_nonneg ((c + 69621 * (t + 1) * (t + 1)) % (v * v)) (show v ≠ 0 by omega)
      have z1 := Int.emod_lt_of_pos ((c + 69621 * (t + 1) * (t + 1)) % (v * v)) v0
      generalize (c + 69621 * (t + 1) * (t + 1)) % (v * v) % v = z at z0 z1
      have bz : (-(2 ^ 64) : Int) < z + 1 ∧ z + 1 < 2 ^ 64 := ⟨by omega, by omega⟩
      refine ⟨.int (z + 1), rfl, .int (z + 1), rfl, z + 1, 1009, rfl, rfl, (by show (0 : Int) < 1009; decide), .ref p, rfl, p, _, 2, .int (t + 1), rfl, rfl, L3, rfl, _, _, rfl, rfl, _, _, rfl, rfl, .inl bz, .int v, rfl, _, _, rfl, rfl, v0, _, 7, rfl, rfl, ⟨by decide, by decide⟩,
        .int m, rfl, _, _, rfl, rfl, hm0, ?_⟩
      exact q _ _ fr3 ⟨_, _, _, hp3, by omega, by omega⟩ (Int.emod_nonneg _ (by omega)) (Int.emod_lt_of_pos _ hm0)
end
end C2

namespace C2
set_option Elab.async false
set_option linter.all false
set_option maxRecDepth 100000
set_option maxHeartbeats 4000000
open PySem PySem.Spec PyProof.Rows L2
section
variable {P : Program} {w : World} {K : PySem.W.Frag} {mg : Str → Option Value} {base : Heap}
theorem frSeq {p : Addr} {H H' : Hp} {a : Addr} {xs : List V} (e : Fr p H H') (n : a ≠ p) (h : SqL K H a xs) : SqL K H' a xs := by
  rcases h with (h | ⟨o, h⟩) | h
  · exact .inl (.inl (e _ _ n h))
  · exact .inl (.inr ⟨o, e _ _ n h⟩)
  · exact .inr h
def spOf (K : PySem.W.Frag) : Sp := fun vs H Q _ => ∃ (p a : Addr) (xs : List V) (n : Nat), vs = [.ref p, .ref a] ∧ PotAt H p n ∧ n < 1000000 ∧ a ≠ p ∧ SqL K H a xs ∧ 0 < xs.length ∧ xs.length < 1000000 ∧
  ∀ v H', Fr p H H' → PotAt H' p (n + 1) → v ∈ xs → Q v H'
theorem ok_of {f fT : Addr} {fd fdT : FuncData} {k : Nat} (F : Fun K "_law_of" "_law_of" sOf f fd) (FT : Fun K "_law_take" "_law_take" sTake fT fdT) (bT : Binds K fdT ["_law_pot", "_law_many"] []) (gT : mg "_law_take" = some (.ref fT)) (ml : mg "len" = none) : FnOk P w K mg base CX0 (k + 2) f fd ["_law_pot", "_law_some"] (spOf K) := by
  have GT : FnOk P w K mg base CX0 (k + 1) fT fdT ["_law_pot", "_law_many"] spTake := ok_take FT
  refine F.ok scOf (fun vs H Q E h => ?_) (fun cdv A outer s H vs Q E hr h => ?_)
  · obtain ⟨p, a, xs, n, rfl, _⟩ := h
    rfl
  · obtain ⟨p, a, xs, n, rfl, hP, hn, hap, hS, h0, h1, q⟩ := h
    refine ⟨_, pss_one (ps_ret (pe_ix ix_list (pv 1) (pe_call GT hr (by rfl) gT FT.kp bT .nil pass0 (pa_cons (pv 0) (pa_cons (pe_callB call_len_seq (by rfl) ml PySem.boot_len (pa_cons (pv 1) pa_nil)) pa_nil))) (fun _ _ => rfl))), ?_⟩
    refine ⟨.ref a, rfl, .ref p, rfl, .ref a, rfl, a, _, rfl, .inl hS, p, _, n, rfl, hP, hn, by omega, by omega, fun d H1 fr hP1 d0 d1 => ?_⟩
    have hd : d.toNat < xs.length := by omega
    have ed : d = (d.toNat : Int) := by omega
    refine ⟨a, _, d, xs[d.toNat], rfl, rfl, frSeq fr hap hS, at_of ed (List.getElem?_eq_getElem hd), ?_⟩
    exact q _ _ fr hP1 (List.getElem_mem hd)
def rLen (K : PySem.W.Frag) : List V → Hp → VK → Prop := fun xs H Q => ∃ p ys, xs = [.ref p] ∧ (SqL K H p ys ∨ SqT K H p ys) ∧ Q (.int (ys.length : Nat)) H
end
end C2

namespace C2
set_option Elab.async false
set_option linter.all false
set_option maxRecDepth 100000
set_option maxHeartbeats 4000000
open PySem PySem.Spec PyProof.Rows L2
section
variable {P : Program} {w : World} {K : PySem.W.Frag} {mg : Str → Option Value} {base : Heap}
abbrev NSz : List Str := ["_law_pot", "_law_most", "_law_kind", "_law_a", "_law_b", "_law_long"]
theorem scSize : FnScope NSz ["_law_pot", "_law_most"] (defScope sSize) := ⟨rfl, rfl, rfl, by decide +kernel, rfl, by decide +kernel, by decide +kernel⟩
/-- size: some numbers of nought to forty -/
def spSize : Sp := fun vs H Q _ => ∃ (p : Addr) (m : Int) (n : Nat), vs = [.ref p, .int m] ∧ 0 ≤ m ∧ m < 40 ∧ PotAt H p n ∧ n < 999000 ∧
  ∀ (a b : Nat) t H', a ≤ 40 → b ≤ 40 → Fr p H H' → PotAt H' p (n + 4) → H t = none → H' t = some (.tup [.int (a : Int), .int (b : Int)]) → Q (.ref t) H'
theorem potUpd {H : Hp} {p t : Addr} {n : Nat} {o : HO} (h : PotAt H p n) (nt : H t = none) : PotAt (upd H t o) p n := by
  obtain ⟨g, c, u, hp, r⟩ := h
  exact ⟨g, c, u, by rw [upd_ne (ne_of_none hp nt)]; exact hp, r⟩
theorem ok_size {f fT : Addr} {fd fdT : FuncData} {k : Nat} (F : Fun K "_law_size" "_law_size" sSize f fd) (FT : Fun K "_law_take" "_law_take" sTake fT fdT) (bT : Binds K fdT ["_law_pot", "_law_many"] []) (gT : mg "_law_take" = some (.ref fT)) (mn : mg "min" = none) :
    FnOk P w K mg base CX0 (k + 2) f fd ["_law_pot", "_law_most"] spSize := by
  have GT : FnOk P w K mg base CX0 (k + 1) fT fdT ["_law_pot", "_law_many"] spTake := ok_take FT
  refine F.ok scSize (fun vs H Q E h => ?_) (fun cdv A outer s H vs Q E hr h => ?_)
  · obtain ⟨p, m, n, rfl, _⟩ := h
    rfl
  · obtain ⟨p, m, n, rfl, m0, m1, hP, hn, q⟩ := h
    have nd := scSize.nd
    refine ⟨_, pss_cons (ps_par3 (i := 2) (j := 3) (l := 4) rfl nd rfl rfl rfl (by decide) (by decide) (by decide) rfl rfl rfl (pa_cons (pe_call GT hr (by rfl) gT FT.kp bT .nil pass0 (pa_cons (pv 0) (pa_cons pe_int pa_nil))) (pa_cons (pe_call GT hr (by rfl) gT FT.kp bT .nil pass0 (pa_cons (pv 0) (pa_cons (pe_op op_add (pv 1) pe_int) pa_nil))) (pa_cons (pe_call GT hr (by rfl) gT FT.kp bT .nil pass0 (pa_cons (pv 0) (pa_cons (pe_op op_add (pv 1) pe_int) pa_nil))) pa_nil))) (by rfl))
      (pss_cons (ps_set (i := 5) nd rfl (.inl rfl) (pe_op op_add pe_int (pe_call GT hr (by rfl) gT FT.kp bT .nil pass0 (pa_cons (pv 0) (pa_cons pe_int pa_nil)))))
      (pss_cons (ps_if (pt_cmpR op_eq (pv 2) pe_int (nomark _)) (pss_one (ps_ret (pe_tup (pa_cons pe_int (pa_cons (pv 4) pa_nil))))) pss_nil)
      (pss_cons (ps_if (pt_cmpR op_eq (pv 2) pe_int (nomark _)) (pss_one (ps_ret (pe_tup (pa_cons (pv 3) (pa_cons pe_int pa_nil))))) pss_nil)
      (pss_cons (ps_if (pt_cmpR op_eq (pv 2) pe_int (nomark _)) (pss_one (ps_ret (pe_tup (pa_cons (pv 5) (pa_cons (pe_callB (call_min2 rfl) (by rfl) mn (by decide +kernel) (pa_cons (pv 4) (pa_cons pe_int pa_nil))) pa_nil))))) pss_nil)
      (pss_one (ps_ret (pe_ifExp (pt_cmpR op_eq (pv 2) pe_int (nomark _)) (pe_tup (pa_cons (pe_callB (call_min2 rfl) (by rfl) mn (by decide +kernel) (pa_cons (pv 3) (pa_cons pe_int pa_nil))) (pa_cons (pv 5) pa_nil))) (pe_tup (pa_cons (pv 3) (pa_cons (pv 4) pa_nil)))))))))), ?_⟩
    refine ⟨.ref p, rfl, p, 8, n, rfl, hP, by omega, by decide, by decide, fun kd H1 f1 P1 k0 k1 => ?_⟩
    refine ⟨.ref p, rfl, .int m, rfl, _, _, rfl, rfl, p, _, n + 1, rfl, P1, by omega, by omega, by omega, fun a H2 f2 P2 a0 a1 => ?_⟩
    refine ⟨.ref p, rfl, .int m, rfl, _, _, rfl, rfl, p, _, n + 2, rfl, P2, by omega, by omega, by omega, fun b H3 f3 P3 b0 b1 => ?_⟩
    refine ⟨_, _, _, rfl, ?_⟩
    refine ⟨.ref p, rfl, p, 40, n + 3, rfl, P3, by omega, by decide, by decide, fun l H4 f4 P4 l0 l1 => ⟨_, _, rfl, rfl, ?_⟩⟩
    have fr : Fr p H H4 := f1.trans (f2.trans (f3.trans f4))
    have fin : ∀ (x y : Int), 0 ≤ x → x ≤ 40 → 0 ≤ y → y ≤ 40 → ∀ T, H4 T = none → Q (.ref T) (upd H4 T (.tup [.int x, .int y])) := by
      intro x y x0 x1 y0 y1 T nT
      obtain ⟨g, c, u, hp, r⟩ := id P4
      have nTp : T ≠ p := fun e => by rw [e, hp] at nT; cases nT
      have z := q x.toNat y.toNat T (upd H4 T (.tup [.int x, .int y])) (by omega) (by omega) (fr.trans (Fr.new nT)) (potUpd P4 nT) (fr.free nTp nT)
      rw [Int.toNat_of_nonneg x0, Int.toNat_of_nonneg y0] at z
      exact z upd_same
    refine ⟨.int kd, rfl, rfl, _, rfl, ite2 (fun e => ?_) (fun e => ?_)⟩
    · exact ⟨.int b, rfl, by show 2 ≤ sizeLine; decide, fin 0 b (by omega) (by omega) (by omega) (by omega)⟩
    refine ⟨.int kd, rfl, rfl, _, rfl, ite2 (fun e => ?_) (fun e => ?_)⟩
    · exact ⟨.int a, rfl, by show 2 ≤ sizeLine; decide, fin a 0 (by omega) (by omega) (by omega) (by omega)⟩
    refine ⟨.int kd, rfl, rfl, _, rfl, ite2 (fun e => ?_) (fun e => ?_)⟩
    · refine ⟨.int (1 + l), rfl, .int b, rfl, b, 3, rfl, by show 2 ≤ sizeLine; decide, fin _ _ (by omega) (by omega) ?_ ?_⟩
      · split <;> omega
      · split <;> omega
    refine ⟨.int kd, rfl, rfl, _, rfl, ite2 (fun e => ?_) (fun e => ?_)⟩
    · refine ⟨.int a, rfl, a, 3, rfl, .int (1 + l), rfl, by show 2 ≤ sizeLine; decide, fin _ _ ?_ ?_ (by omega) (by omega)⟩
      · split <;> omega
      · split <;> omega
    · exact ⟨.int a, rfl, .int b, rfl, by show 2 ≤ sizeLine; decide, fin a b (by omega) (by omega) (by omega) (by omega)⟩
end
end C2

namespace C2
set_option Elab.async false
set_option linter.all false
set_option maxRecDepth 100000
set_option maxHeartbeats 4000000
open PySem PySem.Spec PyProof.Rows L2
theorem gName_run {i : Nat} {v : V} {σ : L2.St} {H : Hp} {Q : L2.St → Hp → Prop} (h : Q (σ.set i (some v)) H) : gName i v σ H Q := h
theorem free_of {H G : Hp} {t : Addr} (s : Same H G) (n : G t = none) : H t = none := by
  cases z : H t with
  | none => rfl
  | some o => rw [s _ _ z] at n; cases n
abbrev vrefs (cs : List (Addr × List V)) : List V := cs.map fun c => V.ref c.1
def CellsV (G : Hp) (cs : List (Addr × List V)) : Prop := ∀ c ∈ cs, G c.1 = some (.tup c.2)
theorem CellsV.same {G G' : Hp} {cs : List (Addr × List V)} (h : CellsV G cs) (s : Same G G') : CellsV G' cs := fun c hc => s _ _ (h c hc)
def rowsL (f : Nat → Nat → List V) (m n : Nat) : List (List V) := (List.range n).flatMap fun i => (List.range m).map (f i)
theorem rowsL_succ (f : Nat → Nat → List V) (m n : Nat) : rowsL f m (n + 1) = rowsL f m n ++ (List.range m).map (f n) := by
  unfold rowsL
  rw [List.range_succ, List.flatMap_append]
  simp
theorem rowsL_len (f : Nat → Nat → List V) (m : Nat) : ∀ n, (rowsL f m n).length = n * m
  | 0 => by simp [rowsL]
  | n + 1 => by rw [rowsL_succ, List.length_append, rowsL_len f m n, List.length_map, List.length_range, Nat.succ_mul]
def preL (f : Nat → Nat → List V) (m i j : Nat) : List (List V) := rowsL f m i ++ (List.range j).map (f i)
theorem preL_step (f : Nat → Nat → List V) (m i j : Nat) : preL f m i (j + 1) = preL f m i j ++ [f i j] := by
  unfold preL
  rw [List.range_succ, List.map_append, List.append_assoc]
  rfl
theorem preL_row (f : Nat → Nat → List V) (m i : Nat) : preL f m i m = preL f m (i + 1) 0 := by
  unfold preL
  rw [rowsL_succ]
  simp
theorem preL_zero (f : Nat → Nat → List V) (m i : Nat) : preL f m i 0 = rowsL f m i := by
  unfold preL
  simp
theorem preL_len (f : Nat → Nat → List V) (m i j : Nat) : (preL f m i j).length = i * m + j := by
  unfold preL
  rw [List.length_append, rowsL_len, List.length_map, List.length_range]
def colW (i y : Nat) : List V := [.str "column", .int (i : Int), .int (y : Int)]
def rowW (j x : Nat) : List V := [.str "row", .int (j : Int), .int (x : Int)]
def wiresOf (a b : Nat) : List (List V) := rowsL colW (b + 1) a ++ rowsL rowW (a + 1) b
def GrowV (xs : List (List V)) (H : Hp) (D : Addr) (G : Hp) : Prop := ∃ cs : List (Addr × List V), Same H G ∧ G D = some (.lst (vrefs cs)) ∧ CellsV G cs ∧ cs.map (·.2) = xs
theorem GrowV.step {xs : List (List V)} {y : List V} {H G G2 : Hp} {D T : Addr} (I : GrowV xs H D G) (lo : xs.length < 100000) (nD : H D = none) (sm2 : Same G G2) (nT : G T = none) (hT : G2 T = some (.tup y)) :
    ∃ acc, G2 D = some (.lst acc) ∧ acc.length < sizeLine ∧ GrowV (xs ++ [y]) H D (upd G2 D (.lst (acc ++ [.ref T]))) := by
  obtain ⟨cs, sm, hD, hcs, e⟩ := I
  have ln : cs.length < 100000 := by
    have e1 : cs.length = (cs.map (·.2)).length := (List.length_map _).symm
    rw [e1, e]
    exact lo
  have hne : T ≠ D := fun z => by rw [z, hD] at nT; cases nT
  refine ⟨vrefs cs, sm2 _ _ hD, ?_, cs ++ [(T, y)], ?_, ?_, ?_, ?_⟩
  · rw [List.length_map]
    exact Nat.lt_of_lt_of_le ln (by decide)
  · intro b o eb
    rw [upd_ne (ne_of_none eb nD)]
    exact sm2 _ _ (sm _ _ eb)
  · rw [upd_same]
    show _ = some (HO.lst (List.map _ (cs ++ [_])))
    rw [List.map_append]
    rfl
  · intro c hc
    rcases List.mem_append.mp hc with hc | hc
    · have hh := hcs c hc
      rw [upd_ne (ne_of hh hD (by intro z; cases z))]
      exact sm2 _ _ hh
    · rw [List.mem_singleton] at hc
      subst hc
      rw [upd_ne hne]
      exact hT
  · rw [List.map_append, e]
    rfl
theorem GrowV.len {xs : List (List V)} {H G : Hp} {D : Addr} (I : GrowV xs H D G) : ∃ ys, G D = some (.lst ys) ∧ ys.length = xs.length := by
  obtain ⟨cs, _, h, _, e⟩ := I
  exact ⟨_, h, by rw [List.length_map, ← e, List.length_map]⟩
theorem GrowV.ext {xs ys : List (List V)} {H G G' : Hp} {D l : Addr} (I : GrowV xs H l G) (J : GrowV ys G D G') (nl : H l = none) :
    ∃ as bs, G' l = some (.lst as) ∧ G' D = some (.lst bs) ∧ as.length = xs.length ∧ bs.length = ys.length ∧ GrowV (xs ++ ys) H l (upd G' l (.lst (as ++ bs))) := by
  obtain ⟨cs, sm, hl, hc, e⟩ := I
  obtain ⟨ds, sm2, hD, hd, e2⟩ := J
  have hl2 := sm2 _ _ hl
  refine ⟨_, _, hl2, hD, by rw [List.length_map, ← e, List.length_map], by rw [List.length_map, ← e2, List.length_map], cs ++ ds, ?_, ?_, ?_, ?_⟩
  · intro b o eb
    rw [upd_ne (ne_of_none eb nl)]
    exact sm2 _ _ (sm _ _ eb)
  · rw [upd_same]
    show _ = some (HO.lst (List.map _ (cs ++ ds)))
    rw [List.map_append]
  · intro c hcc
    rcases List.mem_append.mp hcc with hcc | hcc
    · have hh := sm2 _ _ (hc c hcc)
      rw [upd_ne (ne_of hh hl2 (by intro z; cases z))]
      exact hh
    · have hh := hd c hcc
      rw [upd_ne (ne_of hh hl2 (by intro z; cases z))]
      exact hh
  · rw [List.map_append, e, e2]
theorem small_pre {f : Nat → Nat → List V} {m n i j : Nat} (h1 : n ≤ 41) (h2 : m ≤ 41) (hi : i < n) (hj : j < m) : (preL f m i j).length < 100000 := by
  rw [preL_len]
  have : i * m ≤ 41 * 41 := Nat.mul_le_mul (by omega) h2
  omega
section
variable {P : Program} {w : World} {K : PySem.W.Frag} {mg : Str → Option Value} {base : Heap}
theorem lc2_rng {n m i1 i2 : Nat} {f : Nat → Nat → List V} {σ : L2.St} {ta ta1 : TA} {te : TE} {H1 : Hp} {Qv : VK} (h1 : n ≤ 41) (h2 : m ≤ 41) (hta : ∀ R : List V → Hp → Prop, R [.int (n : Int)] H1 → ta σ H1 R)
    (hta1 : ∀ (l : Nat) (G : Hp) (R : List V → Hp → Prop), R [.int (m : Int)] G → ta1 ((wipe σ [i1, i2]).set i1 (some (.int (l : Int)))) G R)
    (w1 : ∀ l : Nat, wipe ((wipe σ [i1, i2]).set i1 (some (.int (l : Int)))) [i1, i2] = wipe σ [i1, i2])
    (w2 : ∀ l w : Nat, wipe ((wipe ((wipe σ [i1, i2]).set i1 (some (.int (l : Int)))) [i2]).set i2 (some (.int (w : Int)))) [i2] = wipe ((wipe σ [i1, i2]).set i1 (some (.int (l : Int)))) [i2])
    (step : ∀ (l w : Nat) (G : Hp) (R : VK), l < n → w < m → Same H1 G → (∀ T, G T = none → R (.ref T) (upd G T (.tup (f l w)))) →
      te ((wipe ((wipe σ [i1, i2]).set i1 (some (.int (l : Int)))) [i2]).set i2 (some (.int (w : Int)))) G R)
    (k : ∀ D cs G, Same H1 G → H1 D = none → G D = some (.lst (vrefs cs)) → CellsV G cs → cs.map (·.2) = rowsL f m n → Qv (.ref D) G) :
    tLc2 (iRng1 ta) (gName i1) tYes (iRng1 ta1) (gName i2) tYes te [i1, i2] [i2] σ H1 Qv := by
  refine hta _ ⟨(n : Int), rfl, by omega, by omega, fun D nD => ?_⟩
  refine ⟨fun i k G => k = n - i ∧ i ≤ n ∧ GrowV (preL f m i 0) H1 D G, ⟨n, by omega, Nat.zero_le _, [], same_upd nD, upd_same, fun c hc => (by cases hc), rfl⟩, ?_⟩
  rintro i k G ⟨rfl, hi, I⟩
  by_cases lt : i < n
  · refine .inr ⟨lt, GrowV (preL f m (i + 1) 0) H1 D, fun G' h => ⟨n - (i + 1), by omega, rfl, lt, h⟩, fun x G' hx => ?_⟩
    obtain ⟨rfl, rfl⟩ := hx
    rw [Int.zero_add]
    refine ⟨w1 i, ?_⟩
    simp only [tYes, ↓reduceIte]
    refine hta1 i _ _ ⟨(m : Int), rfl, by omega, by omega, ?_⟩
    refine ⟨fun j k G => k = m - j ∧ j ≤ m ∧ GrowV (preL f m i j) H1 D G, ⟨m, by omega, Nat.zero_le _, I⟩, ?_⟩
    rintro j k G2 ⟨rfl, hj, J⟩
    by_cases lj : j < m
    · refine .inr ⟨lj, GrowV (preL f m i (j + 1)) H1 D, fun G' h => ⟨m - (j + 1), by omega, rfl, lj, h⟩, fun x G' hx => ?_⟩
      obtain ⟨rfl, rfl⟩ := hx
      rw [Int.zero_add]
      refine ⟨w2 i j, ?_⟩
      obtain ⟨cs, sm, _⟩ := id J
      rw [preL_step]
      exact step i j _ _ lt lj sm fun T nT => J.step (small_pre h1 h2 lt lj) nD (same_upd nT) nT upd_same
    · have e : j = m := by omega
      subst e
      rw [preL_row] at J
      exact .inl ⟨Nat.le_refl _, J⟩
  · have e : i = n := by omega
    subst e
    obtain ⟨cs, a1, a2, a3, a4⟩ := I
    exact .inl ⟨Nat.le_refl _, k D cs G a1 nD a2 a3 (by rw [a4, preL_zero])⟩
abbrev NWi : List Str := ["a", "b", "columns", "rows", "i", "y", "j", "x"]
abbrev NAl : List Str := ["_law_a", "_law_b", "_law_found", "_law_i", "_law_j", "_law_y", "_law_x"]
abbrev NLe : List Str := ["i", "j"]
theorem scWires : FnScope NWi ["a", "b"] (defScope sWires) := ⟨rfl, rfl, rfl, by decide +kernel, rfl, by decide +kernel, by decide +kernel⟩
theorem scAll : FnScope NAl ["_law_a", "_law_b"] (defScope sAll) := ⟨rfl, rfl, rfl, by decide +kernel, rfl, by decide +kernel, by decide +kernel⟩
theorem scLegs : FnScope NLe ["i", "j"] (defScope sLegs) := ⟨rfl, rfl, rfl, by decide +kernel, rfl, by decide +kernel, by decide +kernel⟩
/-- all wires, in their order -/
def spWires : Sp := fun vs H Q _ => ∃ a b : Nat, vs = [.int (a : Int), .int (b : Int)] ∧ a ≤ 40 ∧ b ≤ 40 ∧ ∀ H' t cs, Same H H' → H t = none → H' t = some (.tup (vrefs cs)) → CellsV H' cs → cs.map (·.2) = wiresOf a b → Q (.ref t) H'
theorem ok_wires {f : Addr} {fd : FuncData} {k : Nat} (F : Fun K "wires" "wires" sWires f fd) (mt : mg "tuple" = none) (mr : mg "range" = none) : FnOk P w K mg base CX0 (k + 1) f fd ["a", "b"] spWires := by
  refine F.ok scWires (fun vs H Q E h => ?_) (fun cdv A outer s H vs Q E hr h => ?_)
  · obtain ⟨a, b, rfl, _⟩ := h
    rfl
  · obtain ⟨a, b, rfl, ha, hb, q⟩ := h
    have nd := scWires.nd
    refine ⟨_, pss_cons (ps_setLc2 (i := 2) (own := [("i", 4), ("y", 5)]) (vs1 := [5]) (g := gName 4) (tt := tYes) (g1 := gName 5) (tt1 := tYes) (wi1 := iRng1 (tCons (tOp (rI0 fun i j => V.int (i + j)) (tVar 1) (tC (V.int 1))) tNil)) (te := (tTup (tCons (tC (V.str "column")) (tCons (tVar 4) (tCons (tVar 5) tNil))))) rfl nd rfl rfl (sw_true rfl rfl rfl (by decide +kernel)) (pi_range1 (by rfl) mr (pa_cons (pv 0) pa_nil)) (blkOk_by (own := [("i", 4), ("y", 5)]) (N := NWi) (sc := defScope sWires) (by decide +kernel)) (by decide) (fun _ _ _ _ _ => (pg_name (i := 4) nd rfl (Or.inl rfl))) (fun _ _ _ _ _ => pts_nil) (fun _ _ _ _ _ => (pi_range1 (by rfl) mr (pa_cons (pe_op op_add (pv 1) pe_int) pa_nil))) (fun _ _ _ _ _ => (pg_name (i := 5) nd rfl (Or.inl rfl))) (fun _ _ _ _ _ => pts_nil) (fun _ _ _ _ _ => (pe_tup (pa_cons pe_str (pa_cons (pv 4) (pa_cons (pv 5) pa_nil))))))
      (pss_cons (ps_setLc2 (i := 3) (own := [("j", 6), ("x", 7)]) (vs1 := [7]) (g := gName 6) (tt := tYes) (g1 := gName 7) (tt1 := tYes) (wi1 := iRng1 (tCons (tOp (rI0 fun i j => V.int (i + j)) (tVar 0) (tC (V.int 1))) tNil)) (te := (tTup (tCons (tC (V.str "row")) (tCons (tVar 6) (tCons (tVar 7) tNil))))) rfl nd rfl rfl (sw_true rfl rfl rfl (by decide +kernel)) (pi_range1 (by rfl) mr (pa_cons (pv 1) pa_nil)) (blkOk_by (own := [("j", 6), ("x", 7)]) (N := NWi) (sc := defScope sWires) (by decide +kernel)) (by decide) (fun _ _ _ _ _ => (pg_name (i := 6) nd rfl (Or.inl rfl))) (fun _ _ _ _ _ => pts_nil) (fun _ _ _ _ _ => (pi_range1 (by rfl) mr (pa_cons (pe_op op_add (pv 0) pe_int) pa_nil))) (fun _ _ _ _ _ => (pg_name (i := 7) nd rfl (Or.inl rfl))) (fun _ _ _ _ _ => pts_nil) (fun _ _ _ _ _ => (pe_tup (pa_cons pe_str (pa_cons (pv 6) (pa_cons (pv 7) pa_nil))))))
      (pss_one (ps_ret (pe_callTy call_tuple_of (by rfl) mt (by decide +kernel) (pa_cons (pe_op op_cat (pv 2) (pv 3)) pa_nil))))), ?_⟩
    unfold tSeq tAsg
    refine lc2_rng (n := a) (m := b + 1) (f := colW) (by omega) (by omega) (fun R h => ⟨.int (a : Int), rfl, h⟩) (fun l G R h => ⟨.int (b : Int), rfl, _, _, rfl, rfl, h⟩) (fun l => rfl) (fun l w => rfl) (fun l w G R hl hw sm h => ?_) fun D cs G sm nD hD hcs e => ?_
    · exact ⟨.int (l : Int), rfl, .int (w : Int), rfl, by show 3 ≤ sizeLine; decide, fun T nT => h T nT⟩
    refine gName_run ?_
    dsimp only
    refine lc2_rng (n := b) (m := a + 1) (f := rowW) (by omega) (by omega) (fun R h => ⟨.int (b : Int), rfl, h⟩) (fun l G R h => ⟨.int (a : Int), rfl, _, _, rfl, rfl, h⟩) (fun l => rfl) (fun l w => rfl) (fun l w G R hl hw sm h => ?_) fun D2 cs2 G2 sm2 nD2 hD2 hcs2 e2 => ?_
    · exact ⟨.int (l : Int), rfl, .int (w : Int), rfl, by show 3 ≤ sizeLine; decide, fun T nT => h T nT⟩
    have l1 : cs.length ≤ 1640 := by
      have z := congrArg List.length e
      rw [List.length_map, rowsL_len] at z
      have : a * (b + 1) ≤ 40 * 41 := Nat.mul_le_mul ha (by omega)
      omega
    have l2 : cs2.length ≤ 1640 := by
      have z := congrArg List.length e2
      rw [List.length_map, rowsL_len] at z
      have : b * (a + 1) ≤ 40 * 41 := Nat.mul_le_mul hb (by omega)
      omega
    refine ⟨.ref D, rfl, .ref D2, rfl, D, D2, _, _, rfl, rfl, sm2 _ _ hD, hD2, ?_, fun p np => ?_⟩
    · rw [List.length_map, List.length_map]
      exact Nat.le_trans (show cs.length + cs2.length ≤ 4000 by omega) (by decide)
    · have s3 := same_upd (o := .lst (vrefs cs ++ vrefs cs2)) np
      refine ⟨p, _, rfl, .inl ⟨.inl (.inl upd_same), fun t nt => ?_⟩⟩
      have s4 := same_upd (o := .tup (vrefs cs ++ vrefs cs2)) nt
      have s13 := sm.trans (sm2.trans s3)
      refine q _ t (cs ++ cs2) (s13.trans s4) ?_ ?_ ?_ ?_
      · exact free_of s13 nt
      · rw [upd_same]
        show _ = some (HO.tup (List.map _ (cs ++ cs2)))
        rw [List.map_append]
      · intro c hc
        rcases List.mem_append.mp hc with hc | hc
        · exact s4 _ _ (s3 _ _ (sm2 _ _ (hcs c hc)))
        · exact s4 _ _ (s3 _ _ (hcs2 c hc))
      · rw [List.map_append, e, e2]
        rfl
theorem ok_all {f : Addr} {fd : FuncData} {k : Nat} (F : Fun K "_law_all" "_law_all" sAll f fd) (mt : mg "tuple" = none) (mr : mg "range" = none) : FnOk P w K mg base CX0 (k + 1) f fd ["_law_a", "_law_b"] spWires := by
  refine F.ok scAll (fun vs H Q E h => ?_) (fun cdv A outer s H vs Q E hr h => ?_)
  · obtain ⟨a, b, rfl, _⟩ := h
    rfl
  · obtain ⟨a, b, rfl, ha, hb, q⟩ := h
    have nd := scAll.nd
    refine ⟨_, pss_cons (ps_set (i := 2) nd rfl (.inl rfl) (pe_lst pa_nil))
      (pss_cons (ps_for PassesOwn.never rfl (pi_range1 (by rfl) mr (pa_cons (pv 0) pa_nil)) (pg_name (i := 3) nd rfl (.inr rfl)) (pss_one (ps_expr (pe_bm PySem.F.plainAttrs_list PySem.F.slot_list_extend PySem.F.type_list_extend mt_extend (pv 2) (pa_cons (pe_lc (own := [("_law_y", 5)]) (g := gName 5) (tt := tYes) (te := (tTup (tCons (tC (V.str "column")) (tCons (tVar 3) (tCons (tVar 5) tNil))))) rfl nd (pi_range1 (by rfl) mr (pa_cons (pe_op op_add (pv 1) pe_int) pa_nil)) (blkOk_by (own := [("_law_y", 5)]) (N := NAl) (sc := defScope sAll) (by decide +kernel)) (fun _ _ _ _ _ => (pg_name (i := 5) nd rfl (Or.inl rfl))) (fun _ _ _ _ _ => pts_nil) (fun _ _ _ _ _ => (pe_tup (pa_cons pe_str (pa_cons (pv 3) (pa_cons (pv 5) pa_nil)))))) pa_nil)))))
      (pss_cons (ps_for PassesOwn.never rfl (pi_range1 (by rfl) mr (pa_cons (pv 1) pa_nil)) (pg_name (i := 4) nd rfl (.inr rfl)) (pss_one (ps_expr (pe_bm PySem.F.plainAttrs_list PySem.F.slot_list_extend PySem.F.type_list_extend mt_extend (pv 2) (pa_cons (pe_lc (own := [("_law_x", 6)]) (g := gName 6) (tt := tYes) (te := (tTup (tCons (tC (V.str "row")) (tCons (tVar 4) (tCons (tVar 6) tNil))))) rfl nd (pi_range1 (by rfl) mr (pa_cons (pe_op op_add (pv 0) pe_int) pa_nil)) (blkOk_by (own := [("_law_x", 6)]) (N := NAl) (sc := defScope sAll) (by decide +kernel)) (fun _ _ _ _ _ => (pg_name (i := 6) nd rfl (Or.inl rfl))) (fun _ _ _ _ _ => pts_nil) (fun _ _ _ _ _ => (pe_tup (pa_cons pe_str (pa_cons (pv 4) (pa_cons (pv 6) pa_nil)))))) pa_nil)))))
      (pss_one (ps_ret (pe_callTy call_tuple_of (by rfl) mt (by decide +kernel) (pa_cons (pv 2) pa_nil)))))), ?_⟩
    refine ⟨by decide, fun l nl => ?_⟩
    refine ⟨.int (a : Int), rfl, (a : Int), rfl, by omega, by omega, ?_⟩
    refine for_range (lo := 0) (n := a) (fun i σ G => GrowV (preL colW (b + 1) i 0) H l G ∧ ∃ y1 y2 y3 y4, σ = [some (.int (a : Int)), some (.int (b : Int)), some (.ref l), y1, y2, y3, y4]) ⟨⟨[], same_upd nl, upd_same, fun c hc => (by cases hc), rfl⟩, _, _, _, _, rfl⟩ ?_ ?_
    · rintro i σ G hi ⟨gr, y1, y2, y3, y4, rfl⟩
      rw [Int.zero_add]
      obtain ⟨ys, hl, _⟩ := gr.len
      refine ⟨.ref l, rfl, .inl ⟨rfl, _, .inl (.inl hl)⟩, .int (b : Int), rfl, _, _, rfl, rfl, ((b + 1 : Nat) : Int), rfl, by omega, by omega, fun D nD => ?_⟩
      refine lc_range (lo := 0) (n := b + 1) (fun j G' => GrowV ((List.range j).map (colW i)) G D G') ⟨[], same_upd nD, upd_same, fun c hc => (by cases hc), rfl⟩ ?_ ?_
      · rintro j G' hj J
        rw [Int.zero_add]
        refine ⟨rfl, .int (i : Int), rfl, .int (j : Int), rfl, by show 3 ≤ sizeLine; decide, fun T nT => ?_⟩
        have z := J.step (y := colW i j) (by rw [List.length_map, List.length_range]; omega) nD (same_upd nT) nT upd_same
        rw [List.range_succ, List.map_append]
        exact z
      · rintro G' J
        obtain ⟨as, bs, h1, h2, e1, e2, h3⟩ := gr.ext J nl
        refine ⟨l, D, as, bs, rfl, rfl, h1, h2, ?_, ?_⟩
        · rw [e1, e2, List.length_map, List.length_range]
          exact Nat.le_trans (show _ ≤ 100000 by rw [preL_len]; have : i * (b + 1) ≤ 40 * 41 := Nat.mul_le_mul (by omega) (by omega); omega) (by decide)
        · refine ⟨?_, _, _, _, _, rfl⟩
          rw [preL_zero] at h3 ⊢
          rw [rowsL_succ]
          exact h3
    · rintro σ G ⟨gr0, y1, y2, y3, y4, rfl⟩
      rw [preL_zero] at gr0
      refine ⟨.int (b : Int), rfl, (b : Int), rfl, by omega, by omega, ?_⟩
      refine for_range (lo := 0) (n := b) (fun i σ G => GrowV (rowsL colW (b + 1) a ++ rowsL rowW (a + 1) i) H l G ∧ ∃ y1 y2 y3 y4, σ = [some (.int (a : Int)), some (.int (b : Int)), some (.ref l), y1, y2, y3, y4]) ⟨by rw [show rowsL rowW (a + 1) 0 = [] from rfl, List.append_nil]; exact gr0, _, _, _, _, rfl⟩ ?_ ?_
      · rintro i σ G hi ⟨gr, y1, y2, y3, y4, rfl⟩
        rw [Int.zero_add]
        obtain ⟨ys, hl, _⟩ := gr.len
        refine ⟨.ref l, rfl, .inl ⟨rfl, _, .inl (.inl hl)⟩, .int (a : Int), rfl, _, _, rfl, rfl, ((a + 1 : Nat) : Int), rfl, by omega, by omega, fun D nD => ?_⟩
        refine lc_range (lo := 0) (n := a + 1) (fun j G' => GrowV ((List.range j).map (rowW i)) G D G') ⟨[], same_upd nD, upd_same, fun c hc => (by cases hc), rfl⟩ ?_ ?_
        · rintro j G' hj J
          rw [Int.zero_add]
          refine ⟨rfl, .int (i : Int), rfl, .int (j : Int), rfl, by show 3 ≤ sizeLine; decide, fun T nT => ?_⟩
          have z := J.step (y := rowW i j) (by rw [List.length_map, List.length_range]; omega) nD (same_upd nT) nT upd_same
          rw [List.range_succ, List.map_append]
          exact z
        · rintro G' J
          obtain ⟨as, bs, h1, h2, e1, e2, h3⟩ := gr.ext J nl
          refine ⟨l, D, as, bs, rfl, rfl, h1, h2, ?_, ?_⟩
          · rw [e1, e2, List.length_map, List.length_range]
            exact Nat.le_trans (show _ ≤ 100000 by rw [List.length_append, rowsL_len, rowsL_len]; have : a * (b + 1) ≤ 40 * 41 := Nat.mul_le_mul (by omega) (by omega); have : i * (a + 1) ≤ 40 * 41 := Nat.mul_le_mul (by omega) (by omega); omega) (by decide)
          · refine ⟨?_, _, _, _, _, rfl⟩
            rw [List.append_assoc] at h3
            rw [rowsL_succ]
            exact h3

      · rintro σ G ⟨⟨cs, sm, hl, hc, e⟩, y1, y2, y3, y4, rfl⟩
        refine ⟨.ref l, rfl, l, _, rfl, .inl ⟨.inl (.inl hl), fun t nt => ?_⟩⟩
        have s4 := same_upd (o := .tup (vrefs cs)) nt
        exact q _ t cs (sm.trans s4) (free_of sm nt) upd_same (hc.same s4) e
/-- the four legs, each a new tuple -/
def legsOf (i j : Nat) : List (List V) := [rowW j i, colW i j, rowW j (i + 1), colW i (j + 1)]
def spLegs : Sp := fun vs H Q _ => ∃ i j : Nat, vs = [.int (i : Int), .int (j : Int)] ∧ ∀ H' t cs, Same H H' → H t = none → H' t = some (.tup (vrefs cs)) → CellsV H' cs → cs.map (·.2) = legsOf i j → Q (.ref t) H'
theorem ok_legs {f : Addr} {fd : FuncData} {k : Nat} (F : Fun K "legs" "legs" sLegs f fd) : FnOk P w K mg base CX0 (k + 1) f fd ["i", "j"] spLegs := by
  refine F.ok scLegs (fun vs H Q E h => ?_) (fun cdv A outer s H vs Q E hr h => ?_)
  · obtain ⟨i, j, rfl, _⟩ := h
    rfl
  · obtain ⟨i, j, rfl, q⟩ := h
    refine ⟨_, pss_one (ps_ret (pe_tup (pa_cons (pe_tup (pa_cons pe_str (pa_cons (pv 1) (pa_cons (pv 0) pa_nil)))) (pa_cons (pe_tup (pa_cons pe_str (pa_cons (pv 0) (pa_cons (pv 1) pa_nil)))) (pa_cons (pe_tup (pa_cons pe_str (pa_cons (pv 1) (pa_cons (pe_op op_add (pv 0) pe_int) pa_nil)))) (pa_cons (pe_tup (pa_cons pe_str (pa_cons (pv 0) (pa_cons (pe_op op_add (pv 1) pe_int) pa_nil)))) pa_nil)))))), ?_⟩
    refine ⟨.int (j : Int), rfl, .int (i : Int), rfl, by show 3 ≤ sizeLine; decide, fun t1 n1 => ?_⟩
    refine ⟨.int (i : Int), rfl, .int (j : Int), rfl, by show 3 ≤ sizeLine; decide, fun t2 n2 => ?_⟩
    refine ⟨.int (j : Int), rfl, .int (i : Int), rfl, _, _, rfl, rfl, by show 3 ≤ sizeLine; decide, fun t3 n3 => ?_⟩
    refine ⟨.int (i : Int), rfl, .int (j : Int), rfl, _, _, rfl, rfl, by show 3 ≤ sizeLine; decide, fun t4 n4 => ?_⟩
    refine ⟨by show 4 ≤ sizeLine; decide, fun t nt => ?_⟩
    have s1 := same_upd (o := .tup (rowW j i)) n1
    have s2 := same_upd (o := .tup (colW i j)) n2
    have s3 := same_upd (o := .tup (rowW j (i + 1))) n3
    have s4 := same_upd (o := .tup (colW i (j + 1))) n4
    have s5 := same_upd (o := .tup [.ref t1, .ref t2, .ref t3, .ref t4]) nt
    have s14 := s1.trans (s2.trans (s3.trans s4))
    refine q _ t [(t1, rowW j i), (t2, colW i j), (t3, rowW j (i + 1)), (t4, colW i (j + 1))] (s14.trans s5) ?_ upd_same ?_ rfl
    · exact free_of s14 nt
    · intro c hc
      simp only [List.mem_cons, List.not_mem_nil, or_false] at hc
      rcases hc with rfl | rfl | rfl | rfl
      · exact s5 _ _ (s4 _ _ (s3 _ _ (s2 _ _ upd_same)))
      · exact s5 _ _ (s4 _ _ (s3 _ _ upd_same))
      · exact s5 _ _ (s4 _ _ upd_same)
      · exact s5 _ _ upd_same
end
end C2

namespace C2
set_option Elab.async false
set_option linter.all false
set_option maxRecDepth 100000
set_option maxHeartbeats 4000000
open PySem PySem.Spec PyProof.Rows L2
/-- a thing: a tuple of these, or none -/
inductive Thg (G : Hp) : V → Option (List V) → Prop where
  | non : Thg G .non none
  | bl (b : Bool) : Thg G (.bl b) none
  | int (i : Int) : Thg G (.int i) none
  | str (x : Str) : Thg G (.str x) none
  | lst {a : Addr} {xs : List V} (e : G a = some (.lst xs)) : Thg G (.ref a) none
  | dK {a : Addr} {kvs : List (Key × V)} (e : G a = some (.dK kvs)) : Thg G (.ref a) none
  | tup {a : Addr} {xs : List V} (e : G a = some (.tup xs)) : Thg G (.ref a) (some xs)
theorem Thg.same {G G' : Hp} {v : V} {o : Option (List V)} (h : Thg G v o) (s : Same G G') : Thg G' v o := by
  cases h with
  | non => exact .non
  | bl b => exact .bl b
  | int i => exact .int i
  | str x => exact .str x
  | lst e => exact .lst (s _ _ e)
  | dK e => exact .dK (s _ _ e)
  | tup e => exact .tup (s _ _ e)
def isIB : V → Bool
  | .int _ => true
  | .bl _ => true
  | _ => false
def isBo : V → Bool
  | .bl _ => true
  | _ => false
def isSt : V → Bool
  | .str _ => true
  | _ => false
def isIn : V → Bool
  | .int _ => true
  | _ => false
theorem isIn_int : ∀ {v : V}, isIn v = true → ∃ i, v = .int i
  | .int i, _ => ⟨i, rfl⟩
theorem isIB_not : ∀ {v : V}, isIB v = true → (!isBo v) = isIn v
  | .int _, _ => rfl
  | .bl _, _ => rfl
theorem isIB_int : ∀ {v : V}, isIB v = true → isBo v = false → ∃ i, v = .int i
  | .int i, _, _ => ⟨i, rfl⟩
theorem isIB_no : ∀ {v : V}, ¬ isIB v = true → isIn v = false
  | .int _, e => absurd rfl e
  | .bl _, _ | .non, _ | .str _, _ | .byt _, _ | .flt _, _ | .ref _, _ | .ty _, _ => rfl
theorem isSt_str : ∀ {v : V}, isSt v = true → ∃ x, v = .str x
  | .str x, _ => ⟨x, rfl⟩
def betw : V → Int → Int → Bool
  | .int i, lo, hi => decide (lo ≤ i ∧ i ≤ hi)
  | _, _, _ => false
theorem betw_no : ∀ {v : V} {lo hi : Int}, isIn v = false → betw v lo hi = false
  | .bl _, _, _, _ | .non, _, _, _ | .str _, _, _, _ | .byt _, _, _, _ | .flt _, _, _, _ | .ref _, _, _, _ | .ty _, _, _, _ => rfl
theorem Thg.some_tup {G : Hp} {v : V} {xs : List V} (h : Thg G v (some xs)) : ∃ a, v = .ref a ∧ G a = some (.tup xs) := by
  cases h with
  | tup e => exact ⟨_, rfl, e⟩
theorem Thg.kit {K : PySem.W.Frag} {G : Hp} {v : V} {o : Option (List V)} (h : Thg G v o) : ∃ n, TyX K G v (.type n) ∧ kitB n "int" = some (isIB v) ∧ kitB n "bool" = some (isBo v) ∧ kitB n "tuple" = some o.isSome ∧ kitB n "str" = some (isSt v) := by
  cases h with
  | non => exact ⟨_, .base .non, by decide +kernel, by decide +kernel, by decide +kernel, by decide +kernel⟩
  | bl b => exact ⟨_, .base (.bl b), (by decide +kernel : kitB "bool" "int" = some true), (by decide +kernel : kitB "bool" "bool" = some true), by decide +kernel, (by decide +kernel : kitB "bool" "str" = some false)⟩
  | int i => exact ⟨_, .base (.int i), (by decide +kernel : kitB "int" "int" = some true), (by decide +kernel : kitB "int" "bool" = some false), by decide +kernel, (by decide +kernel : kitB "int" "str" = some false)⟩
  | str x => exact ⟨_, .base (.str x), (by decide +kernel : kitB "str" "int" = some false), (by decide +kernel : kitB "str" "bool" = some false), by decide +kernel, (by decide +kernel : kitB "str" "str" = some true)⟩
  | lst e => exact ⟨_, .base (.lst e), (by decide +kernel : kitB "list" "int" = some false), (by decide +kernel : kitB "list" "bool" = some false), by decide +kernel, (by decide +kernel : kitB "list" "str" = some false)⟩
  | dK e => exact ⟨_, .base (.dK e), (by decide +kernel : kitB "dict" "int" = some false), (by decide +kernel : kitB "dict" "bool" = some false), by decide +kernel, (by decide +kernel : kitB "dict" "str" = some false)⟩
  | tup e => exact ⟨_, .base (.tup e), (by decide +kernel : kitB "tuple" "int" = some false), (by decide +kernel : kitB "tuple" "bool" = some false), (by decide +kernel : kitB "tuple" "tuple" = some true), (by decide +kernel : kitB "tuple" "str" = some false)⟩
section
variable {P : Program} {w : World} {K : PySem.W.Frag} {mg : Str → Option Value} {base : Heap}
theorem scPWhole : FnScope ["thing"] ["thing"] (defScope sPWhole) := ⟨rfl, rfl, rfl, by decide +kernel, rfl, by decide +kernel, by decide +kernel⟩
theorem scBetween : FnScope ["thing", "least", "most"] ["thing", "least", "most"] (defScope sBetween) := ⟨rfl, rfl, rfl, by decide +kernel, rfl, by decide +kernel, by decide +kernel⟩
theorem scTupOf : FnScope ["thing", "many"] ["thing", "many"] (defScope sTupOf) := ⟨rfl, rfl, rfl, by decide +kernel, rfl, by decide +kernel, by decide +kernel⟩
abbrev NIW : List Str := ["a", "b", "thing", "word", "number", "place"]
theorem scIsWire : FnScope NIW ["a", "b", "thing"] (defScope sIsWire) := ⟨rfl, rfl, rfl, by decide +kernel, rfl, by decide +kernel, by decide +kernel⟩
theorem scWhole : FnScope ["_law_thing", "_law_below"] ["_law_thing", "_law_below"] (defScope sWhole) := ⟨rfl, rfl, rfl, by decide +kernel, rfl, by decide +kernel, by decide +kernel⟩
theorem scIsOne : FnScope ["_law_a", "_law_b", "_law_thing"] ["_law_a", "_law_b", "_law_thing"] (defScope sIsOne) := ⟨rfl, rfl, rfl, by decide +kernel, rfl, by decide +kernel, by decide +kernel⟩
def spPWhole : Sp := fun vs H Q _ => ∃ v o, vs = [v] ∧ Thg H v o ∧ Q (.bl (isIn v)) H
theorem ok_pwhole {f : Addr} {fd : FuncData} {k : Nat} (F : Fun K "is_whole" "is_whole" sPWhole f fd) (mi : mg "isinstance" = none) (mint : mg "int" = none) (mbool : mg "bool" = none) : FnOk P w K mg base CX0 (k + 1) f fd ["thing"] spPWhole := by
  refine F.ok scPWhole (fun vs H Q E h => ?_) (fun cdv A outer s H vs Q E hr h => ?_)
  · obtain ⟨v, o, rfl, _⟩ := h
    rfl
  · obtain ⟨v, o, rfl, t, q⟩ := h
    obtain ⟨n, ty, k1, k2, _, _⟩ := t.kit (K := K)
    refine ⟨_, pss_one (ps_ret (pe_and (pe_callB call_isi (by rfl) mi (by decide +kernel) (pa_cons (pv 0) (pa_cons (pe_bltn (v := .ty "int") (by rfl) mint (by decide +kernel) rfl) pa_nil))) (pe_one (pe_not (pe_callB call_isi (by rfl) mi (by decide +kernel) (pa_cons (pv 0) (pa_cons (pe_bltn (v := .ty "bool") (by rfl) mbool (by decide +kernel) rfl) pa_nil))))))), ?_⟩
    refine ⟨v, rfl, v, .ty "int", _, _, _, rfl, .ty "int", ty, kit_ty k1, _, rfl, ite2 (fun e => ?_) (fun e => ?_)⟩
    · refine ⟨v, rfl, v, .ty "bool", _, _, _, rfl, .ty "bool", ty, kit_ty k2, _, rfl, ?_⟩
      have z : (!isBo v) = isIn v := isIB_not e
      show Q (V.bl (!isBo v)) H
      rw [z]
      exact q
    · have z : false = isIn v := (isIB_no e).symm
      show Q (V.bl false) H
      rw [z]
      exact q
def spBetween : Sp := fun vs H Q _ => ∃ v o lo hi, vs = [v, .int lo, .int hi] ∧ Thg H v o ∧ Q (.bl (betw v lo hi)) H
theorem ok_between {f fW : Addr} {fd fdW : FuncData} {k : Nat} (F : Fun K "is_between" "is_between" sBetween f fd) (FW : Fun K "is_whole" "is_whole" sPWhole fW fdW) (bW : Binds K fdW ["thing"] []) (gW : mg "is_whole" = some (.ref fW)) (mi : mg "isinstance" = none) (mint : mg "int" = none) (mbool : mg "bool" = none) : FnOk P w K mg base CX0 (k + 2) f fd ["thing", "least", "most"] spBetween := by
  have GW : FnOk P w K mg base CX0 (k + 1) fW fdW ["thing"] spPWhole := ok_pwhole FW mi mint mbool
  refine F.ok scBetween (fun vs H Q E h => ?_) (fun cdv A outer s H vs Q E hr h => ?_)
  · obtain ⟨v, o, lo, hi, rfl, _⟩ := h
    rfl
  · obtain ⟨v, o, lo, hi, rfl, t, q⟩ := h
    refine ⟨_, pss_one (ps_ret (pe_and (pe_call GW hr (by rfl) gW FW.kp bW .nil pass0 (pa_cons (pv 0) pa_nil)) (pe_one (pe_chain op_le op_le (pv 1) (pv 0) (pv 2))))), ?_⟩
    refine ⟨v, rfl, v, o, rfl, t, _, rfl, ite2 (fun e => ?_) (fun e => ?_)⟩
    · obtain ⟨i, rfl⟩ := isIn_int e
      refine ⟨.int lo, rfl, .int i, rfl, lo, i, rfl, rfl, _, rfl, ite2 (fun e1 => ?_) (fun e1 => ?_)⟩
      · refine ⟨.int hi, rfl, i, hi, rfl, rfl, ?_⟩
        have e2 := of_decide_eq_true e1
        have z : decide (i ≤ hi) = betw (.int i) lo hi := by
          show _ = decide (_ ∧ _)
          by_cases y : i ≤ hi <;> simp [y, e2]
        show Q (V.bl (decide (i ≤ hi))) H
        rw [z]
        exact q
      · have e2 : ¬ lo ≤ i := fun y => e1 (decide_eq_true y)
        have z : false = betw (.int i) lo hi := by
          show _ = decide (_ ∧ _)
          rw [decide_eq_false (by omega)]
        show Q (V.bl false) H
        rw [z]
        exact q
    · have z : false = betw v lo hi := (betw_no (Bool.eq_false_iff.mpr e)).symm
      show Q (V.bl false) H
      rw [z]
      exact q
def lenIs (o : Option (List V)) (m : Int) : Bool := match o with
  | some xs => decide ((xs.length : Int) = m)
  | none => false
def spTupOf : Sp := fun vs H Q _ => ∃ v o m, vs = [v, .int m] ∧ Thg H v o ∧ Q (.bl (lenIs o m)) H
theorem ok_tupOf {f : Addr} {fd : FuncData} {k : Nat} (F : Fun K "is_tuple_of" "is_tuple_of" sTupOf f fd) (mi : mg "isinstance" = none) (mtup : mg "tuple" = none) (ml : mg "len" = none) : FnOk P w K mg base CX0 (k + 1) f fd ["thing", "many"] spTupOf := by
  refine F.ok scTupOf (fun vs H Q E h => ?_) (fun cdv A outer s H vs Q E hr h => ?_)
  · obtain ⟨v, o, m, rfl, _⟩ := h
    rfl
  · obtain ⟨v, o, m, rfl, t, q⟩ := h
    obtain ⟨n, ty, _, _, k3, _⟩ := t.kit (K := K)
    refine ⟨_, pss_one (ps_ret (pe_and (pe_callB call_isi (by rfl) mi (by decide +kernel) (pa_cons (pv 0) (pa_cons (pe_bltn (v := .ty "tuple") (by rfl) mtup (by decide +kernel) rfl) pa_nil))) (pe_one (pe_cmpR op_eq (pe_callB call_len_seq (by rfl) ml (by decide +kernel) (pa_cons (pv 0) pa_nil)) (pv 1) (nomark _))))), ?_⟩
    refine ⟨v, rfl, v, .ty "tuple", _, _, _, rfl, .ty "tuple", ty, kit_ty k3, _, rfl, ite2 (fun e => ?_) (fun e => ?_)⟩
    · obtain ⟨xs, rfl⟩ : ∃ xs, o = some xs := by
        cases o with
        | none => cases (show false = true from e)
        | some xs => exact ⟨xs, rfl⟩
      obtain ⟨a, rfl, ea⟩ := t.some_tup
      refine ⟨.ref a, rfl, a, xs, rfl, .inr (.inl (.inl ea)), .int m, rfl, rfl, ?_⟩
      have z : decide (V.int (xs.length : Nat) = V.int m) = lenIs (some xs) m := by
        show _ = decide _
        by_cases y : (xs.length : Int) = m <;> simp [y]
      rw [z]
      exact q
    · have z : false = lenIs o m := by
        cases o with
        | none => rfl
        | some xs => exact absurd rfl e
      show Q (V.bl false) H
      rw [z]
      exact q
def wIf (a b : Nat) (n m : V) : V → Bool
  | .str x => if x = "row" then betw n 0 ((b : Int) - 1) && betw m 0 (a : Int) else if x = "column" then betw n 0 ((a : Int) - 1) && betw m 0 (b : Int) else false
  | _ => false
def isW (a b : Nat) : Option (List V) → Bool
  | some [x, n, m] => wIf a b n m x
  | _ => false
theorem lenIs3 : ∀ {o : Option (List V)}, lenIs o 3 = true → ∃ x y z, o = some [x, y, z]
  | some [x, y, z], _ => ⟨x, y, z, rfl⟩
  | some (_ :: _ :: _ :: _ :: r), e => by
    exfalso
    unfold lenIs at e
    have := of_decide_eq_true e
    simp only [List.length_cons] at this
    omega
theorem isW_len {a b : Nat} : ∀ {o : Option (List V)}, lenIs o 3 = false → isW a b o = false
  | none, _ => rfl
  | some [], _ => rfl
  | some [_], _ => rfl
  | some [_, _], _ => rfl
  | some [_, _, _], e => nomatch (show true = false from e)
  | some (_ :: _ :: _ :: _ :: _), _ => rfl
theorem isW_str {a b : Nat} {y z : V} : ∀ {x : V}, isSt x = false → isW a b (some [x, y, z]) = false
  | .int _, _ | .bl _, _ | .non, _ | .byt _, _ | .flt _, _ | .ref _, _ | .ty _, _ => rfl
def Deep (G : Hp) (v : V) (o : Option (List V)) : Prop := Thg G v o ∧ ∀ xs, o = some xs → ∀ x ∈ xs, ∃ o', Thg G x o'
def spIsWire : Sp := fun vs H Q _ => ∃ (a b : Nat) (v : V) (o : Option (List V)), vs = [.int (a : Int), .int (b : Int), v] ∧ Deep H v o ∧ Q (.bl (isW a b o)) H
theorem ok_iswire {f fW fB fU : Addr} {fd fdW fdB fdU : FuncData} {k : Nat} (F : Fun K "is_wire" "is_wire" sIsWire f fd) (FW : Fun K "is_whole" "is_whole" sPWhole fW fdW) (FB : Fun K "is_between" "is_between" sBetween fB fdB) (FU : Fun K "is_tuple_of" "is_tuple_of" sTupOf fU fdU)
    (bW : Binds K fdW ["thing"] []) (bB : Binds K fdB ["thing", "least", "most"] []) (bU : Binds K fdU ["thing", "many"] []) (gW : mg "is_whole" = some (.ref fW)) (gB : mg "is_between" = some (.ref fB)) (gU : mg "is_tuple_of" = some (.ref fU))
    (mi : mg "isinstance" = none) (mint : mg "int" = none) (mbool : mg "bool" = none) (mtup : mg "tuple" = none) (ml : mg "len" = none) (mstr : mg "str" = none) : FnOk P w K mg base CX0 (k + 3) f fd ["a", "b", "thing"] spIsWire := by
  have GB : FnOk P w K mg base CX0 (k + 2) fB fdB ["thing", "least", "most"] spBetween := ok_between FB FW bW gW mi mint mbool
  have GU : FnOk P w K mg base CX0 1 fU fdU ["thing", "many"] spTupOf := ok_tupOf FU mi mtup ml
  refine F.ok scIsWire (fun vs H Q E h => ?_) (fun cdv A outer s H vs Q E hr h => ?_)
  · obtain ⟨a, b, v, o, rfl, _⟩ := h
    rfl
  · obtain ⟨a, b, v, o, rfl, ⟨t, dp⟩, q⟩ := h
    have nd := scIsWire.nd
    refine ⟨_, pss_cons (ps_if (pt_not (pt_val (pe_call GU (hr.mono (by omega)) (by rfl) gU FU.kp bU .nil pass0 (pa_cons (pv 2) (pa_cons pe_int pa_nil))))) (pss_one (ps_ret pe_bl)) pss_nil)
      (pss_cons (ps_asg (pv 2) (pg_tup rfl (pgs_cons (pg_name (i := 3) nd rfl (.inl rfl)) (pgs_cons (pg_name (i := 4) nd rfl (.inl rfl)) (pgs_cons (pg_name (i := 5) nd rfl (.inl rfl)) pgs_nil)))))
      (pss_cons (ps_if (pt_not (pt_val (pe_callB call_isi (by rfl) mi (by decide +kernel) (pa_cons (pv 3) (pa_cons (pe_bltn (v := .ty "str") (by rfl) mstr (by decide +kernel) rfl) pa_nil))))) (pss_one (ps_ret pe_bl)) pss_nil)
      (pss_cons (ps_if (pt_cmpR op_eq (pv 3) pe_str (nomark _)) (pss_one (ps_ret (pe_and (pe_call GB hr (by rfl) gB FB.kp bB .nil pass0 (pa_cons (pv 4) (pa_cons pe_int (pa_cons (pe_op op_sub (pv 1) pe_int) pa_nil)))) (pe_one (pe_call GB hr (by rfl) gB FB.kp bB .nil pass0 (pa_cons (pv 5) (pa_cons pe_int (pa_cons (pv 0) pa_nil)))))))) pss_nil)
      (pss_one (ps_ret (pe_and (pe_cmpR op_eq (pv 3) pe_str (nomark _)) (pe_and (pe_call GB hr (by rfl) gB FB.kp bB .nil pass0 (pa_cons (pv 4) (pa_cons pe_int (pa_cons (pe_op op_sub (pv 0) pe_int) pa_nil)))) (pe_one (pe_call GB hr (by rfl) gB FB.kp bB .nil pass0 (pa_cons (pv 5) (pa_cons pe_int (pa_cons (pv 1) pa_nil)))))))))))), ?_⟩
    refine ⟨v, rfl, v, o, 3, rfl, t, _, rfl, ite2 (fun e => ?_) (fun e => ?_)⟩
    · have e1 : lenIs o 3 = false := by simpa using e
      show Q (V.bl false) H
      rw [← isW_len (a := a) (b := b) e1]
      exact q
    · have e1 : lenIs o 3 = true := by simpa using e
      obtain ⟨x, y, z, rfl⟩ := lenIs3 e1
      obtain ⟨r, rfl, er⟩ := t.some_tup
      obtain ⟨ox, tx⟩ := dp _ rfl x (by simp)
      obtain ⟨oy, ty⟩ := dp _ rfl y (by simp)
      obtain ⟨oz, tz⟩ := dp _ rfl z (by simp)
      obtain ⟨n, kx, _, _, _, k4⟩ := tx.kit (K := K)
      refine ⟨.ref r, rfl, r, _, rfl, .inl (.inl er), rfl, ?_⟩
      refine ⟨_, _, rfl, _, _, rfl, _, _, rfl, rfl, ?_⟩
      refine ⟨x, rfl, x, .ty "str", _, _, _, rfl, .ty "str", kx, kit_ty k4, _, rfl, ite2 (fun e2 => ?_) (fun e2 => ?_)⟩
      · have e3 : isSt x = false := by simpa using e2
        show Q (V.bl false) H
        rw [← isW_str (a := a) (b := b) (y := y) (z := z) e3]
        exact q
      · obtain ⟨u, rfl⟩ := isSt_str (by simpa using e2 : isSt x = true)
        refine ⟨.str u, rfl, rfl, _, rfl, ite2 (fun e3 => ?_) (fun e3 => ?_)⟩
        · have e4 : u = "row" := by simpa using e3
          have ew : isW a b (some [.str u, y, z]) = (betw y 0 ((b : Int) - 1) && betw z 0 (a : Int)) := if_pos e4
          rw [ew] at q
          refine ⟨y, rfl, .int (b : Int), rfl, _, _, rfl, rfl, y, oy, _, _, rfl, ty, _, rfl, ite2 (fun e5 => ?_) (fun e5 => ?_)⟩
          · rw [e5, Bool.true_and] at q
            exact ⟨z, rfl, .int (a : Int), rfl, z, oz, _, _, rfl, tz, q⟩
          · rw [Bool.eq_false_iff.mpr e5, Bool.false_and] at q
            exact q
        · have e4 : ¬ u = "row" := fun y => e3 (by rw [y]; rfl)
          refine ⟨.str u, rfl, rfl, _, rfl, ite2 (fun e5 => ?_) (fun e5 => ?_)⟩
          · have e6 : u = "column" := by simpa using e5
            have ew : isW a b (some [.str u, y, z]) = (betw y 0 ((a : Int) - 1) && betw z 0 (b : Int)) := (if_neg e4).trans (if_pos e6)
            rw [ew] at q
            refine ⟨y, rfl, .int (a : Int), rfl, _, _, rfl, rfl, y, oy, _, _, rfl, ty, _, rfl, ite2 (fun e7 => ?_) (fun e7 => ?_)⟩
            · rw [e7, Bool.true_and] at q
              exact ⟨z, rfl, .int (b : Int), rfl, z, oz, _, _, rfl, tz, q⟩
            · rw [Bool.eq_false_iff.mpr e7, Bool.false_and] at q
              exact q
          · have e6 : ¬ u = "column" := fun y => e5 (by rw [y]; rfl)
            have ew : isW a b (some [.str u, y, z]) = false := (if_neg e4).trans (if_neg e6)
            rw [ew] at q
            exact q
def spWhole : Sp := fun vs H Q _ => ∃ v o b, vs = [v, .int b] ∧ Thg H v o ∧ Q (.bl (betw v 0 (b - 1))) H
theorem ok_whole {f : Addr} {fd : FuncData} {k : Nat} (F : Fun K "_law_is_whole" "_law_is_whole" sWhole f fd) (mi : mg "isinstance" = none) (mint : mg "int" = none) (mbool : mg "bool" = none) : FnOk P w K mg base CX0 (k + 1) f fd ["_law_thing", "_law_below"] spWhole := by
  refine F.ok scWhole (fun vs H Q E h => ?_) (fun cdv A outer s H vs Q E hr h => ?_)
  · obtain ⟨v, o, b, rfl, _⟩ := h
    rfl
  · obtain ⟨v, o, b, rfl, t, q⟩ := h
    obtain ⟨n, ty, k1, k2, _, _⟩ := t.kit (K := K)
    refine ⟨_, pss_one (ps_ret (pe_and (pe_callB call_isi (by rfl) mi (by decide +kernel) (pa_cons (pv 0) (pa_cons (pe_bltn (v := .ty "int") (by rfl) mint (by decide +kernel) rfl) pa_nil))) (pe_and (pe_not (pe_callB call_isi (by rfl) mi (by decide +kernel) (pa_cons (pv 0) (pa_cons (pe_bltn (v := .ty "bool") (by rfl) mbool (by decide +kernel) rfl) pa_nil)))) (pe_one (pe_chain op_le op_lt pe_int (pv 0) (pv 1)))))), ?_⟩
    refine ⟨v, rfl, v, .ty "int", _, _, _, rfl, .ty "int", ty, kit_ty k1, _, rfl, ite2 (fun e => ?_) (fun e => ?_)⟩
    · refine ⟨v, rfl, v, .ty "bool", _, _, _, rfl, .ty "bool", ty, kit_ty k2, _, rfl, _, rfl, ite2 (fun e1 => ?_) (fun e1 => ?_)⟩
      · obtain ⟨i, rfl⟩ := isIB_int e (by simpa using e1)
        refine ⟨.int i, rfl, 0, i, rfl, rfl, _, rfl, ite2 (fun e2 => ?_) (fun e2 => ?_)⟩
        · refine ⟨.int b, rfl, i, b, rfl, rfl, ?_⟩
          have e3 := of_decide_eq_true e2
          have z : decide (i < b) = betw (.int i) 0 (b - 1) := by
            show _ = decide (_ ∧ _)
            by_cases y : i < b
            · rw [decide_eq_true y, decide_eq_true (by omega)]
            · rw [decide_eq_false y, decide_eq_false (by omega)]
          show Q (V.bl (decide (i < b))) H
          rw [z]
          exact q
        · have e3 : ¬ 0 ≤ i := fun y => e2 (decide_eq_true y)
          have z : false = betw (.int i) 0 (b - 1) := by
            show _ = decide (_ ∧ _)
            rw [decide_eq_false (by omega)]
          show Q (V.bl false) H
          rw [z]
          exact q
      · have z : false = betw v 0 (b - 1) := (betw_no (by rw [← isIB_not e]; simpa using e1)).symm
        show Q (V.bl false) H
        rw [z]
        exact q
    · have z : false = betw v 0 (b - 1) := (betw_no (isIB_no e)).symm
      show Q (V.bl false) H
      rw [z]
      exact q
theorem ok_isone {f fL : Addr} {fd fdL : FuncData} {k : Nat} (F : Fun K "_law_is_one" "_law_is_one" sIsOne f fd) (FL : Fun K "_law_is_whole" "_law_is_whole" sWhole fL fdL) (bL : Binds K fdL ["_law_thing", "_law_below"] []) (gL : mg "_law_is_whole" = some (.ref fL))
    (mi : mg "isinstance" = none) (mint : mg "int" = none) (mbool : mg "bool" = none) (mtup : mg "tuple" = none) (ml : mg "len" = none) (mstr : mg "str" = none) : FnOk P w K mg base CX0 (k + 2) f fd ["_law_a", "_law_b", "_law_thing"] spIsWire := by
  have GL : FnOk P w K mg base CX0 (k + 1) fL fdL ["_law_thing", "_law_below"] spWhole := ok_whole FL mi mint mbool
  refine F.ok scIsOne (fun vs H Q E h => ?_) (fun cdv A outer s H vs Q E hr h => ?_)
  · obtain ⟨a, b, v, o, rfl, _⟩ := h
    rfl
  · obtain ⟨a, b, v, o, rfl, ⟨t, dp⟩, q⟩ := h
    have nd := scIsOne.nd
    refine ⟨_, pss_cons (ps_if (PW.pt (pw_or (pt_not (pt_val (pe_callB call_isi (by rfl) mi (by decide +kernel) (pa_cons (pv 2) (pa_cons (pe_bltn (v := .ty "tuple") (by rfl) mtup (by decide +kernel) rfl) pa_nil))))) (pw_or (pt_cmpR op_ne (pe_callB call_len_seq (by rfl) ml (by decide +kernel) (pa_cons (pv 2) pa_nil)) pe_int (nomark _)) (pw_or1 (pt_not (pt_val (pe_callB call_isi (by rfl) mi (by decide +kernel) (pa_cons (pe_ix ix_tup (pv 2) pe_int (fun _ _ => rfl)) (pa_cons (pe_bltn (v := .ty "str") (by rfl) mstr (by decide +kernel) rfl) pa_nil))))))))) (pss_one (ps_ret pe_bl)) pss_nil)
      (pss_cons (ps_if (pt_cmpR op_eq (pe_ix ix_tup (pv 2) pe_int (fun _ _ => rfl)) pe_str (nomark _)) (pss_one (ps_ret (pe_and (pe_call GL hr (by rfl) gL FL.kp bL .nil pass0 (pa_cons (pe_ix ix_tup (pv 2) pe_int (fun _ _ => rfl)) (pa_cons (pv 1) pa_nil))) (pe_one (pe_call GL hr (by rfl) gL FL.kp bL .nil pass0 (pa_cons (pe_ix ix_tup (pv 2) pe_int (fun _ _ => rfl)) (pa_cons (pe_op op_add (pv 0) pe_int) pa_nil))))))) pss_nil)
      (pss_one (ps_ret (pe_and (pe_cmpR op_eq (pe_ix ix_tup (pv 2) pe_int (fun _ _ => rfl)) pe_str (nomark _)) (pe_and (pe_call GL hr (by rfl) gL FL.kp bL .nil pass0 (pa_cons (pe_ix ix_tup (pv 2) pe_int (fun _ _ => rfl)) (pa_cons (pv 0) pa_nil))) (pe_one (pe_call GL hr (by rfl) gL FL.kp bL .nil pass0 (pa_cons (pe_ix ix_tup (pv 2) pe_int (fun _ _ => rfl)) (pa_cons (pe_op op_add (pv 1) pe_int) pa_nil))))))))), ?_⟩
    obtain ⟨n0, ty0, _, _, k3, _⟩ := t.kit (K := K)
    have no : lenIs o 3 = false → Q (V.bl false) H := fun e => by
      rw [← isW_len (a := a) (b := b) e]
      exact q
    refine ⟨v, rfl, v, .ty "tuple", _, _, _, rfl, .ty "tuple", ty0, kit_ty k3, _, rfl, ite2 (fun e => ?_) (fun e => ?_)⟩
    · refine iteT (no ?_)
      cases o with
      | none => rfl
      | some xs => exact nomatch (show false = true from e)
    · obtain ⟨xs, rfl⟩ : ∃ xs, o = some xs := by
        cases o with
        | none => exact absurd rfl e
        | some xs => exact ⟨xs, rfl⟩
      obtain ⟨r, rfl, er⟩ := t.some_tup
      have sq : SqT K H r xs := .inl (.inl er)
      refine ⟨.ref r, rfl, r, xs, rfl, .inr sq, rfl, _, rfl, ite2 (fun e1 => ?_) (fun e1 => ?_)⟩
      · refine iteT (no ?_)
        have e2 : ¬ (xs.length : Int) = 3 := fun y => by
          rw [y] at e1
          exact absurd e1 (by decide)
        exact decide_eq_false e2
      · have e2 : lenIs (some xs) 3 = true := by
          have : (xs.length : Int) = 3 := by
            by_cases y : (xs.length : Int) = 3
            · exact y
            · exact absurd (by simp [y]) e1
          exact decide_eq_true this
        obtain ⟨x, y, z, exs⟩ := lenIs3 e2
        cases exs
        obtain ⟨ox, tx⟩ := dp _ rfl x (by simp)
        obtain ⟨oy, ty⟩ := dp _ rfl y (by simp)
        obtain ⟨oz, tz⟩ := dp _ rfl z (by simp)
        obtain ⟨n, kx, _, _, _, k4⟩ := tx.kit (K := K)
        have A1 : atI [x, y, z] 1 = some y := rfl
        have A2 : atI [x, y, z] 2 = some z := rfl
        refine ⟨.ref r, rfl, r, _, 0, x, rfl, rfl, sq, rfl, x, .ty "str", _, _, _, rfl, .ty "str", kx, kit_ty k4, _, rfl, ite2 (fun e3 => ?_) (fun e3 => ?_)⟩
        · have e4 : isSt x = false := by simpa using e3
          show Q (V.bl false) H
          rw [← isW_str (a := a) (b := b) (y := y) (z := z) e4]
          exact q
        · obtain ⟨u, rfl⟩ := isSt_str (by simpa using e3 : isSt x = true)
          refine ⟨.ref r, rfl, r, _, 0, .str u, rfl, rfl, sq, rfl, rfl, _, rfl, ite2 (fun e3 => ?_) (fun e3 => ?_)⟩
          · have e4 : u = "row" := by simpa using e3
            have ew : isW a b (some [.str u, y, z]) = (betw y 0 ((b : Int) - 1) && betw z 0 (a : Int)) := if_pos e4
            rw [ew] at q
            refine ⟨.ref r, rfl, r, _, 1, y, rfl, rfl, sq, A1, .int (b : Int), rfl, y, oy, _, rfl, ty, _, rfl, ite2 (fun e5 => ?_) (fun e5 => ?_)⟩
            · rw [e5, Bool.true_and] at q
              refine ⟨.ref r, rfl, r, _, 2, z, rfl, rfl, sq, A2, .int (a : Int), rfl, _, _, rfl, rfl, z, oz, _, rfl, tz, ?_⟩
              rw [Int.add_sub_cancel]
              exact q
            · rw [Bool.eq_false_iff.mpr e5, Bool.false_and] at q
              exact q
          · have e4 : ¬ u = "row" := fun y => e3 (by rw [y]; rfl)
            refine ⟨.ref r, rfl, r, _, 0, .str u, rfl, rfl, sq, rfl, rfl, _, rfl, ite2 (fun e5 => ?_) (fun e5 => ?_)⟩
            · have e6 : u = "column" := by simpa using e5
              have ew : isW a b (some [.str u, y, z]) = (betw y 0 ((a : Int) - 1) && betw z 0 (b : Int)) := (if_neg e4).trans (if_pos e6)
              rw [ew] at q
              refine ⟨.ref r, rfl, r, _, 1, y, rfl, rfl, sq, A1, .int (a : Int), rfl, y, oy, _, rfl, ty, _, rfl, ite2 (fun e7 => ?_) (fun e7 => ?_)⟩
              · rw [e7, Bool.true_and] at q
                refine ⟨.ref r, rfl, r, _, 2, z, rfl, rfl, sq, A2, .int (b : Int), rfl, _, _, rfl, rfl, z, oz, _, rfl, tz, ?_⟩
                rw [Int.add_sub_cancel]
                exact q
              · rw [Bool.eq_false_iff.mpr e7, Bool.false_and] at q
                exact q
            · have e6 : ¬ u = "column" := fun y => e5 (by rw [y]; rfl)
              have ew : isW a b (some [.str u, y, z]) = false := (if_neg e4).trans (if_neg e6)
              rw [ew] at q
              exact q
end
end C2

namespace C2
set_option Elab.async false
set_option linter.all false
set_option maxRecDepth 100000
set_option maxHeartbeats 4000000
open PySem PySem.Spec PyProof.Rows L2
section
variable {P : Program} {w : World} {K : PySem.W.Frag} {mg : Str → Option Value} {base : Heap}
theorem scDeep : FnScope ["_law_many", "_law_found", "_law_k"] ["_law_many"] (defScope sDeep) := ⟨rfl, rfl, rfl, by decide +kernel, rfl, by decide +kernel, by decide +kernel⟩
/-- deep(30) is some dict -/
def spDeep : Sp := fun vs H Q _ => vs = [.int 30] ∧ ∀ H' a kvs, Same H H' → H' a = some (.dK kvs) → Q (.ref a) H'
theorem ok_deep {f : Addr} {fd : FuncData} {k : Nat} (F : Fun K "_law_deep" "_law_deep" sDeep f fd) (mr : mg "range" = none) : FnOk P w K mg base CX0 (k + 1) f fd ["_law_many"] spDeep := by
  refine F.ok scDeep (fun vs H Q E h => ?_) (fun cdv A outer s H vs Q E hr h => ?_)
  · obtain ⟨rfl, _⟩ := h
    rfl
  · obtain ⟨rfl, q⟩ := h
    have nd := scDeep.nd
    refine ⟨_, pss_cons (ps_set (i := 1) nd rfl (.inl rfl) pe_int)
      (pss_cons (ps_for PassesOwn.never rfl (pi_range1 (by rfl) mr (pa_cons (pv 0) pa_nil)) (pg_name (i := 2) nd rfl (.inl rfl)) (pss_one (ps_set (i := 1) nd rfl (.inl rfl) (pe_ix ix_list (pe_lst (pa_cons (pe_tup (pa_cons (pv 1) pa_nil)) (pa_cons (pe_lst (pa_cons (pv 1) pa_nil)) (pa_cons (pe_disp (pps_cons pe_str (pv 1) pps_nil) rfl rfl (by simp) (by decide)) pa_nil)))) (pe_op op_mod (pv 2) pe_int) (fun _ _ => rfl)))))
      (pss_one (ps_ret (pv 1)))), ?_⟩
    refine ⟨.int 30, rfl, 30, rfl, by decide, by decide, ?_⟩
    refine for_range (lo := 0) (n := 30) (fun i σ G => Same H G ∧ ∃ v y, σ = [some (.int 30), some v, y] ∧ (i % 3 = 0 → 0 < i → ∃ a kvs, v = .ref a ∧ G a = some (.dK kvs))) ⟨Same.refl _, _, _, rfl, fun _ z => absurd z (Nat.lt_irrefl _)⟩ ?_ ?_
    · rintro i σ G hi ⟨sm, v, y, rfl, hv⟩
      rw [Int.zero_add]
      refine ⟨v, rfl, by show 1 ≤ sizeLine; decide, fun t1 n1 => ?_⟩
      refine ⟨v, rfl, by show 1 ≤ sizeLine; decide, fun t2 n2 => ?_⟩
      intro t3 n3
      refine ⟨v, rfl, upd_same, [(.inr "a", v)], rfl, by show 1 ≤ 15; decide, ?_⟩
      refine ⟨by show 3 ≤ sizeLine; decide, fun t4 n4 => ?_⟩
      have d4 : (upd (upd (upd (upd (upd G t1 (.tup [v])) t2 (.lst [v])) t3 (.dK [])) t3 (.dK (mergeK [] [(.inr "a", v)]))) t4 (.lst [.ref t1, .ref t2, .ref t3])) t3 = some (.dK (mergeK [] [(.inr "a", v)])) := by
        rw [upd_ne (ne_of_none upd_same n4)]
        exact upd_same
      have s4 : Same G (upd (upd (upd (upd (upd G t1 (.tup [v])) t2 (.lst [v])) t3 (.dK [])) t3 (.dK (mergeK [] [(.inr "a", v)]))) t4 (.lst [.ref t1, .ref t2, .ref t3])) := by
        refine (same_upd (o := .tup [v]) n1).trans ((same_upd (o := .lst [v]) n2).trans ?_)
        intro b o e
        have h1 : b ≠ t3 := ne_of_none e n3
        have e2 : (upd (upd (upd (upd G t1 (.tup [v])) t2 (.lst [v])) t3 (.dK [])) t3 (.dK (mergeK [] [(.inr "a", v)]))) b = some o := by
          rw [upd_ne h1, upd_ne h1]
          exact e
        exact same_upd n4 _ _ e2
      have l4 : SqL K (upd (upd (upd (upd (upd G t1 (.tup [v])) t2 (.lst [v])) t3 (.dK [])) t3 (.dK (mergeK [] [(.inr "a", v)]))) t4 (.lst [.ref t1, .ref t2, .ref t3])) t4 [.ref t1, .ref t2, .ref t3] := .inl (.inl upd_same)
      refine ⟨.int (i : Int), rfl, (i : Int), 3, rfl, rfl, (by show (0 : Int) < 3; decide), ?_⟩
      have c3 : i % 3 = 0 ∨ i % 3 = 1 ∨ i % 3 = 2 := by omega
      rcases c3 with c | c | c
      · refine ⟨t4, _, _, .ref t1, rfl, rfl, l4, ?_, sm.trans s4, _, _, rfl, fun z => ?_⟩
        · rw [show (i : Int) % 3 = 0 by omega]; rfl
        · omega
      · refine ⟨t4, _, _, .ref t2, rfl, rfl, l4, ?_, sm.trans s4, _, _, rfl, fun z => ?_⟩
        · rw [show (i : Int) % 3 = 1 by omega]; rfl
        · omega
      · refine ⟨t4, _, _, .ref t3, rfl, rfl, l4, ?_, sm.trans s4, _, _, rfl, fun z _ => ⟨t3, _, rfl, d4⟩⟩
        rw [show (i : Int) % 3 = 2 by omega]; rfl
    · rintro σ G ⟨sm, v, y, rfl, hv⟩
      obtain ⟨a, kvs, rfl, ha⟩ := hv rfl (by decide)
      exact ⟨_, rfl, q _ a kvs sm ha⟩
/-! ### readings that make things -/
def IA (σ : L2.St) (te : TE) (i : Int) : Prop := ∀ G Q, Q (.int i) G → te σ G Q
def SA (σ : L2.St) (te : TE) : Prop := ∀ (G : Hp) (Q : VK), (∀ v G' o, Same G G' → Thg G' v o → Q v G') → te σ G Q
def DA (σ : L2.St) (n : Nat) (ta : TA) : Prop := ∀ (G : Hp) (Q : List V → Hp → Prop), (∀ vs G', Same G G' → vs.length ≤ n → (∀ v ∈ vs, ∃ o, Thg G' v o) → Q vs G') → ta σ G Q
def DE (σ : L2.St) (te : TE) : Prop := ∀ (G : Hp) (Q : VK), (∀ v G' o, Same G G' → Deep G' v o → Q v G') → te σ G Q
def DD (σ : L2.St) (n : Nat) (ta : TA) : Prop := ∀ (G : Hp) (Q : List V → Hp → Prop), (∀ vs G', Same G G' → vs.length ≤ n → (∀ v ∈ vs, ∃ o, Deep G' v o) → Q vs G') → ta σ G Q
theorem Deep.same {G G' : Hp} {v : V} {o : Option (List V)} (h : Deep G v o) (s : Same G G') : Deep G' v o := ⟨h.1.same s, fun xs e x hx => by obtain ⟨o', t⟩ := h.2 xs e x hx; exact ⟨o', t.same s⟩⟩
theorem IA.v {σ : L2.St} {k : Nat} {i : Int} (h : σ[k]? = some (some (.int i))) : IA σ (tVar k) i := fun G Q q => ⟨_, h, q⟩
theorem IA.c {σ : L2.St} {i : Int} : IA σ (tC (.int i)) i := fun G Q q => q
theorem IA.op {σ : L2.St} {ta tb : TE} {f : Int → Int → Int} {i j : Int} (a : IA σ ta i) (b : IA σ tb j) : IA σ (tOp (rI0 fun i j => V.int (f i j)) ta tb) (f i j) := fun G Q q => a G _ (b G _ ⟨i, j, rfl, rfl, q⟩)
theorem IA.neg {σ : L2.St} {ta : TE} {i : Int} (a : IA σ ta i) : IA σ (tUn (rU fun i => V.int (-i)) ta) (-i) := fun G Q q => a G _ ⟨i, rfl, q⟩
theorem SA.i {σ : L2.St} {te : TE} {i : Int} (a : IA σ te i) : SA σ te := fun G Q q => a G _ (q _ G _ (Same.refl _) (.int i))
theorem SA.s {σ : L2.St} {k : Nat} {x : Str} (h : σ[k]? = some (some (.str x))) : SA σ (tVar k) := fun G Q q => ⟨_, h, q _ G _ (Same.refl _) (.str x)⟩
theorem SA.cs {σ : L2.St} {x : Str} : SA σ (tC (.str x)) := fun G Q q => q _ G _ (Same.refl _) (.str x)
theorem SA.cb {σ : L2.St} {b : Bool} : SA σ (tC (.bl b)) := fun G Q q => q _ G _ (Same.refl _) (.bl b)
theorem SA.cn {σ : L2.St} : SA σ (tC .non) := fun G Q q => q _ G _ (Same.refl _) .non
theorem DA.nil {σ : L2.St} {n : Nat} : DA σ n tNil := fun G Q q => q [] G (Same.refl _) (Nat.zero_le _) (fun v hv => (by cases hv))
theorem DA.cons {σ : L2.St} {n : Nat} {te : TE} {ta : TA} (a : SA σ te) (b : DA σ n ta) : DA σ (n + 1) (tCons te ta) := fun G Q q => a G _ fun v G1 o s1 t1 => b G1 _ fun vs G2 s2 l2 h2 => q _ G2 (s1.trans s2) (Nat.succ_le_succ l2) (fun x hx => by
  rcases List.mem_cons.mp hx with rfl | hx
  · exact ⟨o, t1.same s2⟩
  · exact h2 x hx)
theorem le8 {n : Nat} (h : n ≤ 8) : n ≤ sizeLine := Nat.le_trans h (by decide)
theorem SA.tup {σ : L2.St} {ta : TA} (a : DA σ 8 ta) : SA σ (tTup ta) := fun G Q q => a G _ fun vs G1 s1 l1 h1 => ⟨le8 l1, fun p np => q _ _ _ (s1.trans (same_upd np)) (.tup upd_same)⟩
theorem DE.tup {σ : L2.St} {ta : TA} (a : DA σ 8 ta) : DE σ (tTup ta) := fun G Q q => a G _ fun vs G1 s1 l1 h1 => ⟨le8 l1, fun p np => q _ _ (some vs) (s1.trans (same_upd np)) ⟨.tup upd_same, fun xs e x hx => by
  cases e
  obtain ⟨o, t⟩ := h1 x hx
  exact ⟨o, t.same (same_upd np)⟩⟩⟩
theorem DE.lst {σ : L2.St} {ta : TA} (a : DA σ 8 ta) : DE σ (tLst ta) := fun G Q q => a G _ fun vs G1 s1 l1 h1 => ⟨le8 l1, fun p np => q _ _ none (s1.trans (same_upd np)) ⟨.lst upd_same, fun xs e => nomatch e⟩⟩
theorem DE.s {σ : L2.St} {k : Nat} {x : Str} (h : σ[k]? = some (some (.str x))) : DE σ (tVar k) := fun G Q q => ⟨_, h, q _ G none (Same.refl _) ⟨.str x, fun xs e => nomatch e⟩⟩
theorem DE.cb {σ : L2.St} {b : Bool} : DE σ (tC (.bl b)) := fun G Q q => q _ G none (Same.refl _) ⟨.bl b, fun xs e => nomatch e⟩
theorem DE.cn {σ : L2.St} : DE σ (tC .non) := fun G Q q => q _ G none (Same.refl _) ⟨.non, fun xs e => nomatch e⟩
theorem DE.dn {σ : L2.St} : DE σ tDNewK := fun G Q q p np => q _ _ none (same_upd np) ⟨.dK upd_same, fun xs e => nomatch e⟩
theorem DE.dp {σ : L2.St} {E : XK} : DE σ (tCall spDeep [] E (tCons (tC (.int 30)) tNil)) := fun G Q q => ⟨rfl, fun G' a kvs s h => q _ _ none s ⟨.dK h, fun xs e => nomatch e⟩⟩
theorem DD.nil {σ : L2.St} {n : Nat} : DD σ n tNil := fun G Q q => q [] G (Same.refl _) (Nat.zero_le _) (fun v hv => (by cases hv))
theorem DD.cons {σ : L2.St} {n : Nat} {te : TE} {ta : TA} (a : DE σ te) (b : DD σ n ta) : DD σ (n + 1) (tCons te ta) := fun G Q q => a G _ fun v G1 o s1 t1 => b G1 _ fun vs G2 s2 l2 h2 => q _ G2 (s1.trans s2) (Nat.succ_le_succ l2) (fun x hx => by
  rcases List.mem_cons.mp hx with rfl | hx
  · exact ⟨o, t1.same s2⟩
  · exact h2 x hx)
theorem seqAsg {ta : TE} {i : Nat} {t : TS} {D : _} {σ : L2.St} {H : Hp} (h : ta σ H fun x H1 => t D (σ.set i (some x)) H1) : tSeq (tAsg ta (gName i)) t D σ H := h
theorem lstDD {σ : L2.St} {ta : TA} {G : Hp} {Q : VK} (d : DD σ 12 ta) (q : ∀ r xs G', Same G G' → G' r = some (.lst xs) → xs.length ≤ 12 → (∀ v ∈ xs, ∃ o, Deep G' v o) → Q (.ref r) G') : tLst ta σ G Q := by
  refine d G _ fun vs G1 s1 l1 h1 => ⟨Nat.le_trans l1 (by decide), fun p np => ?_⟩
  have s2 := same_upd (o := .lst vs) np
  exact q p _ _ (s1.trans s2) upd_same l1 fun v hv => by
    obtain ⟨o, t⟩ := h1 v hv
    exact ⟨o, t.same s2⟩
theorem catDD {σ : L2.St} {ta : TA} {k n : Nat} {r : Addr} {xs : List V} {G : Hp} {Q : VK} (hl : σ[k]? = some (some (.ref r))) (hr : G r = some (.lst xs)) (hx : ∀ v ∈ xs, ∃ o, Deep G v o) (d : DD σ 12 ta) (hn : xs.length ≤ n) (n40 : n ≤ 48)
    (q : ∀ r' xs' G', Same G G' → G' r' = some (.lst xs') → xs'.length ≤ n + 12 → (∀ v ∈ xs', ∃ o, Deep G' v o) → Q (.ref r') G') : tOp rCat (tVar k) (tLst ta) σ G Q := by
  refine ⟨_, hl, d G _ fun vs G1 s1 l1 h1 => ⟨Nat.le_trans l1 (by decide), fun p np => ?_⟩⟩
  have s2 := same_upd (o := .lst vs) np
  refine ⟨r, p, xs, vs, rfl, rfl, s2 _ _ (s1 _ _ hr), upd_same, Nat.le_trans (show xs.length + vs.length ≤ 60 by omega) (by decide), fun p2 np2 => ?_⟩
  have s3 := same_upd (o := .lst (xs ++ vs)) np2
  refine q p2 _ _ (s1.trans (s2.trans s3)) upd_same (by rw [List.length_append]; omega) fun v hv => ?_
  rcases List.mem_append.mp hv with hv | hv
  · obtain ⟨o, t⟩ := hx v hv
    exact ⟨o, t.same (s1.trans (s2.trans s3))⟩
  · obtain ⟨o, t⟩ := h1 v hv
    exact ⟨o, t.same (s2.trans s3)⟩
abbrev NNe : List Str := ["_law_pot", "_law_a", "_law_b", "_law_word", "_law_one", "_law_other", "_law_most", "_law_found"]
theorem scNear : FnScope NNe ["_law_pot", "_law_a", "_law_b"] (defScope sNear) := ⟨rfl, rfl, rfl, by decide +kernel, rfl, by decide +kernel, by decide +kernel⟩
/-- things near the wires: some list of things -/
def spNear : Sp := fun vs H Q _ => ∃ (p : Addr) (a b n : Nat), vs = [.ref p, .int (a : Int), .int (b : Int)] ∧ a ≤ 40 ∧ b ≤ 40 ∧ PotAt H p n ∧ n < 999000 ∧
  ∀ r xs H', Fr p H H' → PotAt H' p (n + 3) → H' r = some (.lst xs) → xs.length ≤ 60 → (∀ v ∈ xs, ∃ o, Deep H' v o) → Q (.ref r) H'
theorem ok_near {f fT fO fD : Addr} {fd fdT fdO fdD : FuncData} {k : Nat} (F : Fun K "_law_near" "_law_near" sNear f fd) (FT : Fun K "_law_take" "_law_take" sTake fT fdT) (FO : Fun K "_law_of" "_law_of" sOf fO fdO) (FD : Fun K "_law_deep" "_law_deep" sDeep fD fdD)
    (bT : Binds K fdT ["_law_pot", "_law_many"] []) (bO : Binds K fdO ["_law_pot", "_law_some"] []) (bD : Binds K fdD ["_law_many"] []) (gT : mg "_law_take" = some (.ref fT)) (gO : mg "_law_of" = some (.ref fO)) (gD : mg "_law_deep" = some (.ref fD)) (ml : mg "len" = none) (mr : mg "range" = none) (mmax : mg "max" = none) :
    FnOk P w K mg base CX0 (k + 3) f fd ["_law_pot", "_law_a", "_law_b"] spNear := by
  have GT : FnOk P w K mg base CX0 1 fT fdT ["_law_pot", "_law_many"] spTake := ok_take FT
  have GO : FnOk P w K mg base CX0 2 fO fdO ["_law_pot", "_law_some"] (spOf K) := ok_of FO FT bT gT ml
  have GD : FnOk P w K mg base CX0 1 fD fdD ["_law_many"] spDeep := ok_deep FD mr
  refine F.ok scNear (fun vs H Q E h => ?_) (fun cdv A outer s H vs Q E hr h => ?_)
  · obtain ⟨p, a, b, n, rfl, _⟩ := h
    rfl
  · obtain ⟨p, a, b, n, rfl, ha, hb, hP, hn, q⟩ := h
    have nd := scNear.nd
    refine ⟨_, pss_cons (ps_par3 (i := 3) (j := 4) (l := 5) rfl nd rfl rfl rfl (by decide) (by decide) (by decide) rfl rfl rfl (pa_cons (pe_call GO (hr.mono (by omega)) (by rfl) gO FO.kp bO .nil pass0 (pa_cons (pv 0) (pa_cons (pe_lst (pa_cons pe_str (pa_cons pe_str pa_nil))) pa_nil))) (pa_cons (pe_call GT (hr.mono (by omega)) (by rfl) gT FT.kp bT .nil pass0 (pa_cons (pv 0) (pa_cons (pe_op op_add (pv 2) pe_int) pa_nil))) (pa_cons (pe_call GT (hr.mono (by omega)) (by rfl) gT FT.kp bT .nil pass0 (pa_cons (pv 0) (pa_cons (pe_op op_add (pv 1) pe_int) pa_nil))) pa_nil))) (by rfl))
      (pss_cons (ps_set (i := 6) nd rfl (.inl rfl) (pe_callB (call_max2 rfl) (by rfl) mmax (by decide +kernel) (pa_cons (pv 1) (pa_cons (pv 2) pa_nil))))
      (pss_cons (ps_set (i := 7) nd rfl (.inl rfl) (pe_lst (pa_cons (pe_tup (pa_cons (pv 3) (pa_cons (pv 4) (pa_cons (pv 5) pa_nil)))) (pa_cons (pe_tup (pa_cons (pv 3) (pa_cons (pv 5) (pa_cons (pv 4) pa_nil)))) (pa_cons (pe_tup (pa_cons pe_str (pa_cons (pv 2) (pa_cons pe_int pa_nil)))) (pa_cons (pe_tup (pa_cons pe_str (pa_cons pe_int (pa_cons (pe_op op_add (pv 1) pe_int) pa_nil)))) (pa_cons (pe_tup (pa_cons pe_str (pa_cons (pv 1) (pa_cons pe_int pa_nil)))) pa_nil)))))))
      (pss_cons (ps_set (i := 7) nd rfl (.inl rfl) (pe_op op_cat (pv 7) (pe_lst (pa_cons (pe_tup (pa_cons pe_str (pa_cons pe_int (pa_cons (pe_op op_add (pv 2) pe_int) pa_nil)))) (pa_cons (pe_tup (pa_cons pe_str (pa_cons (pe_op op_sub (pv 2) pe_int) (pa_cons (pv 1) pa_nil)))) (pa_cons (pe_tup (pa_cons pe_str (pa_cons (pe_op op_sub (pv 1) pe_int) (pa_cons (pv 2) pa_nil)))) (pa_cons (pe_tup (pa_cons (pv 3) (pa_cons (pe_un un_neg pe_int) (pa_cons pe_int pa_nil)))) (pa_cons (pe_tup (pa_cons (pv 3) (pa_cons pe_int (pa_cons (pe_un un_neg pe_int) pa_nil)))) pa_nil))))))))
      (pss_cons (ps_set (i := 7) nd rfl (.inl rfl) (pe_op op_cat (pv 7) (pe_lst (pa_cons (pe_tup (pa_cons (pv 3) (pa_cons pe_bl (pa_cons pe_int pa_nil)))) (pa_cons (pe_tup (pa_cons (pv 3) (pa_cons pe_int (pa_cons pe_bl pa_nil)))) (pa_cons (pe_tup (pa_cons pe_str (pa_cons pe_int (pa_cons pe_int pa_nil)))) (pa_cons (pe_tup (pa_cons pe_str (pa_cons pe_int (pa_cons pe_int pa_nil)))) (pa_cons (pe_tup (pa_cons pe_int (pa_cons pe_int (pa_cons pe_int pa_nil)))) (pa_cons (pe_tup (pa_cons pe_non (pa_cons pe_int (pa_cons pe_int pa_nil)))) pa_nil)))))))))
      (pss_cons (ps_set (i := 7) nd rfl (.inl rfl) (pe_op op_cat (pv 7) (pe_lst (pa_cons (pe_lst (pa_cons (pv 3) (pa_cons pe_int (pa_cons pe_int pa_nil)))) (pa_cons (pe_tup (pa_cons (pv 3) (pa_cons pe_int pa_nil))) (pa_cons (pe_tup (pa_cons (pv 3) (pa_cons pe_int (pa_cons pe_int (pa_cons pe_int pa_nil))))) (pa_cons (pe_tup (pa_cons (pv 3) (pa_cons pe_str (pa_cons pe_int pa_nil)))) (pa_cons (pe_tup (pa_cons (pv 3) (pa_cons (pe_tup (pa_cons pe_int pa_nil)) (pa_cons pe_int pa_nil)))) (pa_cons (pe_tup (pa_cons (pe_tup (pa_cons (pv 3) pa_nil)) (pa_cons pe_int (pa_cons pe_int pa_nil)))) pa_nil)))))))))
      (pss_one (ps_ret (pe_op op_cat (pv 7) (pe_lst (pa_cons (pe_tup (pa_cons (pv 3) (pa_cons (pv 6) (pa_cons (pv 6) pa_nil)))) (pa_cons (pe_tup (pa_cons (pv 3) (pa_cons pe_int (pa_cons pe_int pa_nil)))) (pa_cons (pe_tup (pa_cons (pv 3) (pa_cons pe_non (pa_cons pe_int pa_nil)))) (pa_cons (pv 3) (pa_cons pe_non (pa_cons pe_bl (pa_cons (pe_tup pa_nil) (pa_cons (pe_lst pa_nil) (pa_cons pe_dnewK (pa_cons (pe_call GD (hr.mono (by omega)) (by rfl) gD FD.kp bD .nil pass0 (pa_cons pe_int pa_nil)) pa_nil))))))))))))))))))), ?_⟩
    refine ⟨.ref p, rfl, by show 2 ≤ sizeLine; decide, fun l nl => ?_⟩
    have hpl : l ≠ p := fun e => by
      obtain ⟨_, _, _, hp, _⟩ := hP
      rw [e, hp] at nl
      cases nl
    refine ⟨p, l, _, n, rfl, potUpd hP nl, by omega, hpl, .inl (.inl upd_same), by decide, by decide, fun wd H1 f1 P1 hw => ?_⟩
    have f01 : Fr p H H1 := (Fr.new nl).trans f1
    obtain ⟨x, rfl⟩ : ∃ x, wd = .str x := by
      simp only [List.mem_cons, List.not_mem_nil, or_false] at hw
      rcases hw with rfl | rfl <;> exact ⟨_, rfl⟩
    refine ⟨.ref p, rfl, .int (b : Int), rfl, _, _, rfl, rfl, p, _, n + 1, rfl, P1, by omega, by omega, by omega, fun c H2 f2 P2 c0 c1 => ?_⟩
    refine ⟨.ref p, rfl, .int (a : Int), rfl, _, _, rfl, rfl, p, _, n + 2, rfl, P2, by omega, by omega, by omega, fun d H3 f3 P3 d0 d1 => ?_⟩
    have f03 : Fr p H H3 := f01.trans (f2.trans f3)
    refine ⟨_, _, _, rfl, ?_⟩
    refine ⟨.int (a : Int), rfl, .int (b : Int), rfl, _, _, rfl, ?_⟩
    generalize (if (b : Int) > (a : Int) then (b : Int) else (a : Int)) = mo
    refine gName_run ?_
    dsimp only
    refine seqAsg (lstDD ?_ fun r0 x0 G0 s0 h0 l0 e0 => ?_)
    · (repeat' (first | exact DD.nil | refine DD.cons ?_ ?_ | refine DE.tup ?_ | refine DE.lst ?_ | exact DE.s rfl | exact DE.cb | exact DE.cn | exact DE.dn | exact DE.dp | exact DA.nil | refine DA.cons ?_ ?_ | refine SA.tup ?_ | exact SA.s rfl | exact SA.cs | exact SA.cb | exact SA.cn | exact SA.i (IA.v rfl) | exact SA.i IA.c | exact SA.i (IA.op (IA.v rfl) IA.c) | exact SA.i (IA.neg IA.c)))
    refine seqAsg (catDD (n := 12) rfl h0 e0 ?_ l0 (by decide) fun r1 x1 G1 s1 h1 l1 e1 => ?_)
    · (repeat' (first | exact DD.nil | refine DD.cons ?_ ?_ | refine DE.tup ?_ | refine DE.lst ?_ | exact DE.s rfl | exact DE.cb | exact DE.cn | exact DE.dn | exact DE.dp | exact DA.nil | refine DA.cons ?_ ?_ | refine SA.tup ?_ | exact SA.s rfl | exact SA.cs | exact SA.cb | exact SA.cn | exact SA.i (IA.v rfl) | exact SA.i IA.c | exact SA.i (IA.op (IA.v rfl) IA.c) | exact SA.i (IA.neg IA.c)))
    refine seqAsg (catDD (n := 24) rfl h1 e1 ?_ l1 (by decide) fun r2 x2 G2 s2 h2 l2 e2 => ?_)
    · (repeat' (first | exact DD.nil | refine DD.cons ?_ ?_ | refine DE.tup ?_ | refine DE.lst ?_ | exact DE.s rfl | exact DE.cb | exact DE.cn | exact DE.dn | exact DE.dp | exact DA.nil | refine DA.cons ?_ ?_ | refine SA.tup ?_ | exact SA.s rfl | exact SA.cs | exact SA.cb | exact SA.cn | exact SA.i (IA.v rfl) | exact SA.i IA.c | exact SA.i (IA.op (IA.v rfl) IA.c) | exact SA.i (IA.neg IA.c)))
    refine seqAsg (catDD (n := 36) rfl h2 e2 ?_ l2 (by decide) fun r3 x3 G3 s3 h3 l3 e3 => ?_)
    · (repeat' (first | exact DD.nil | refine DD.cons ?_ ?_ | refine DE.tup ?_ | refine DE.lst ?_ | exact DE.s rfl | exact DE.cb | exact DE.cn | exact DE.dn | exact DE.dp | exact DA.nil | refine DA.cons ?_ ?_ | refine SA.tup ?_ | exact SA.s rfl | exact SA.cs | exact SA.cb | exact SA.cn | exact SA.i (IA.v rfl) | exact SA.i IA.c | exact SA.i (IA.op (IA.v rfl) IA.c) | exact SA.i (IA.neg IA.c)))
    refine (catDD (n := 48) rfl h3 e3 ?_ l3 (by decide) fun r4 x4 G4 s4 h4 l4 e4 => ?_)
    · (repeat' (first | exact DD.nil | refine DD.cons ?_ ?_ | refine DE.tup ?_ | refine DE.lst ?_ | exact DE.s rfl | exact DE.cb | exact DE.cn | exact DE.dn | exact DE.dp | exact DA.nil | refine DA.cons ?_ ?_ | refine SA.tup ?_ | exact SA.s rfl | exact SA.cs | exact SA.cb | exact SA.cn | exact SA.i (IA.v rfl) | exact SA.i IA.c | exact SA.i (IA.op (IA.v rfl) IA.c) | exact SA.i (IA.neg IA.c)))
    have s04 := s0.trans (s1.trans (s2.trans (s3.trans s4)))
    refine q r4 x4 G4 (f03.trans (Fr.same s04)) ?_ h4 l4 e4
    obtain ⟨g', c', t', hp, hr'⟩ := P3
    exact ⟨g', c', t', s04 _ _ hp, hr'⟩
end
end C2

namespace C2
set_option Elab.async false
set_option linter.all false
set_option maxRecDepth 100000
set_option maxHeartbeats 4000000
open PySem PySem.Spec PyProof.Rows L2
section
variable {X : Cx} {pins : List (Addr × Obj)} {σ : L2.St} {G : Hp} {s : Shared} {m b : Addr} {r : Value} {x : V} {key : List Key} {E : Value → Shared → Prop}
/-- setdefault on a dict whose keys are tuples: what is told where the key is there, and where it is not -/
theorem d_setdT {ps : List (List Key × V)} {Q : Value → Shared → Prop} (hu : X.A.units + 1 < cLine) (I : Inv X pins σ G s) (hm : G m = some (.dT ps)) (hb : G b = some (.tup (key.map kV))) (rx : RelV x r) (few : ps.length < sizeLine)
    (there : ∀ y, valV ps key = some y → ∀ (v : Value) (s' : Shared), Inv X pins σ G s' → RelV y v → Q v s')
    (fresh : valV ps key = none → ∀ (v : Value) (s' : Shared), Inv X pins σ (upd G m (.dT (putK ps key x))) s' → RelV x v → Q v s') :
    wpAny (model X.prog X.w) X.A (call (.builtin "dict.setdefault") [.ref m, .ref b, r]) Q E s := by
  obtain ⟨small, ks, us, pd, held⟩ := dt_of I.hok hm
  have look := pd.val key
  have few' : us.length ≤ sizeLine := (Paired.length pd) ▸ small
  have units : X.A.in1.units < cLine := by
    have : X.A.in1.units = X.A.units + 1 := rfl
    omega
  refine call_meetsIn PySem.F.slot_dict_setdefault held.typeIs PySem.F.entry_dict_setdefault (PySem.F.args_dict_setdefault_3 _ _ _)
    (meetsH_dict_setdefault (tupleKind (mixKind X.prog X.w)) m b ks r) ⟨units, key, us, key_of I.hok hb, held, few', fun v hv => ?_, fun hn h' held' put => ?_⟩
  · rw [hv] at look
    revert look
    cases e : valV ps key with
    | none => exact fun z => False.elim z
    | some y => exact fun z => there y e _ _ (I.tok _) z
  · rw [hn] at look
    revert look
    cases e : valV ps key with
    | some y => exact fun z => False.elim z
    | none =>
      intro _
      have grown : (putK ps key x).length ≤ sizeLine := Nat.le_trans (length_putK ps key x) few
      obtain ⟨ob, t1, t2, at1, t3, t4, t5, _, t6⟩ := held'
      have tups : ∀ (c : Addr) (ys : List V), G c = some (.tup ys) → (upd G m (.dT (putK ps key x))) c = some (.tup ys) := fun c ys hc => by
        have nc : c ≠ m := ne_of hc hm (by intro z; cases z)
        rw [upd_ne nc]
        exact hc
      exact fresh e _ _ (d_write I (by rw [hm]; exact True.intro) put ⟨ob, at1⟩ ⟨grown, ks, _, (pd.put key hb rx).keeps tups, ob, t1, t2, at1, t3, t4, t5, t6⟩) rx
end
/-- d.setdefault(y, z), the keys tuples -/
def tDSetdT (td ty tx : TE) : TE := fun σ H Q => td σ H fun x H1 => ∃ a, x = .ref a ∧ IsD H1 a ∧ ty σ H1 fun y H2 => tx σ H2 fun z H3 => ∃ (kvs : List (List Key × V)) (k : List Key) (c : Addr), H3 a = some (.dT kvs) ∧ y = .ref c ∧ H3 c = some (.tup (k.map kV)) ∧ kvs.length < sizeLine ∧
  (∀ v, valV kvs k = some v → Q v H3) ∧ (valV kvs k = none → Q z (upd H3 a (.dT (putK kvs k z))))
section
variable {X : Cx} {dd kk vv : Expr} {td ty tx : TE} {ap cp : Pos}
theorem pe_dsetdT (hu : X.A.units + 1 < cLine) (hd : PE X dd td) (hk : PE X kk ty) (hv : PE X vv tx) (how : M2 X dd "setdefault" ap kk vv cp) : PE X (.Call (.Attribute dd "setdefault" ap) [kk, vv] [] cp) (tDSetdT td ty tx) := by
  constructor
  intro pins s σ H Q I h
  have first := hd.run pins s σ H _ I h
  refine wpAny_Call_method how.base how.few how.line PySem.F.plainAttrs_dict PySem.F.slot_dict_setdefault PySem.F.type_dict_setdefault (thn first ?_)
  rintro _ s1 ⟨_, H1, I1, rel, a, rfl, isD, q1⟩
  cases rel
  obtain ⟨ty1, ty2, _⟩ := isD_at I1 isD
  refine ⟨ty1, ty2, ?_⟩
  rw [how.trees]
  have last : ∀ (kv vv' : Value) (s3 : Shared) (y z : V) (H3 : Hp), Inv X pins σ H3 s3 → RelV y kv → RelV z vv' → (∃ (kvs : List (List Key × V)) (k : List Key) (c : Addr), H3 a = some (.dT kvs) ∧ y = .ref c ∧ H3 c = some (.tup (k.map kV)) ∧ kvs.length < sizeLine ∧
      (∀ v, valV kvs k = some v → Q v H3) ∧ (valV kvs k = none → Q z (upd H3 a (.dT (putK kvs k z))))) → wpAny (model X.prog X.w) X.A (call (.builtin "dict.setdefault") [.ref a, kv, vv']) (EP X pins σ Q) X.xe s3 := by
    rintro kv vv' s3 _ z H3 I3 rk rz ⟨kvs, k, c, hm, rfl, hc, few, q2, q3⟩
    cases rk
    exact d_setdT hu I3 hm hc rz few (fun v hv' u s4 I4 ru => ⟨v, _, I4, ru, q2 v hv'⟩) fun hn u s4 I4 ru => ⟨z, _, I4, ru, q3 hn⟩
  refine Calls.callWith_builtin rfl (Calls.evalArgs_plain (Calls.spliced_cons (thn (hk.run pins s1 σ H1 _ I1 q1) ?_)))
  rintro kv s2 ⟨y, H2, I2, ry, q2⟩
  refine Calls.spliced_cons (thn (hv.run pins s2 σ H2 _ I2 q2) ?_)
  rintro vv' s3 ⟨z, H3, I3, rz, q3⟩
  exact Calls.spliced_nil (last kv vv' s3 y z H3 I3 ry rz q3)
end
/-! ### what stands where: the mathematics of the met legs -/
abbrev colK (i y : Nat) : List Key := [.inr "column", .inl (i : Int), .inl (y : Int)]
abbrev rowK (j x : Nat) : List Key := [.inr "row", .inl (j : Int), .inl (x : Int)]
theorem colK_v (i y : Nat) : (colK i y).map kV = colW i y := rfl
theorem rowK_v (j x : Nat) : (rowK j x).map kV = rowW j x := rfl
/-- what has been told of legs: a list of (wire, leg), in order -/
def told (k : List Key) (es : List (List Key × Int)) : List V := (es.filter fun e => decide (e.1 = k)).map fun e => V.int e.2
theorem told_app (k : List Key) (es fs : List (List Key × Int)) : told k (es ++ fs) = told k es ++ told k fs := by
  unfold told
  rw [List.filter_append, List.map_append]
/-- the dict holds, for each wire met, its own list of legs -/
structure Met (H G : Hp) (m : Addr) (es : List (List Key × Int)) : Prop where
  sm : Same H G
  nm : H m = none
  ex : ∃ kvs : List (List Key × V), G m = some (.dT kvs) ∧ kvs.length ≤ es.length ∧
    (∀ k, (told k es = [] → valV kvs k = none) ∧ (told k es ≠ [] → ∃ l, valV kvs k = some (.ref l) ∧ G l = some (.lst (told k es)) ∧ H l = none)) ∧
    ∀ k k' l, valV kvs k = some (.ref l) → valV kvs k' = some (.ref l) → k = k'
theorem Met.same {H G G' : Hp} {m : Addr} {es : List (List Key × Int)} (M : Met H G m es) (s : Same G G') : Met H G' m es := by
  obtain ⟨kvs, h1, h2, h3, h4⟩ := M.ex
  refine ⟨M.sm.trans s, M.nm, kvs, s _ _ h1, h2, fun k => ⟨(h3 k).1, fun z => ?_⟩, h4⟩
  obtain ⟨l, a1, a2, a3⟩ := (h3 k).2 z
  exact ⟨l, a1, s _ _ a2, a3⟩
theorem told_one (k k' : List Key) (v : Int) : told k [(k', v)] = if k' = k then [.int v] else [] := by
  unfold told
  by_cases e : k' = k <;> simp [e]
theorem told_snoc (k k' : List Key) (v : Int) (es : List (List Key × Int)) : told k (es ++ [(k', v)]) = told k es ++ if k' = k then [.int v] else [] := by rw [told_app, told_one]
theorem told_len (k : List Key) (es : List (List Key × Int)) : (told k es).length ≤ es.length := by
  unfold told
  rw [List.length_map]
  exact List.length_filter_le _ _
/-- what setdefault and append do -/
theorem Met.step {H G G1 : Hp} {m z : Addr} {es : List (List Key × Int)} {k : List Key} {v : Int} (M : Met H G m es) (nz : G z = none) (e1 : G1 = upd G z (.lst [])) (few : es.length < 100000) :
    ∃ kvs, G1 m = some (.dT kvs) ∧ kvs.length < sizeLine ∧
      (∀ x, valV kvs k = some x → ∃ l xs, x = .ref l ∧ G1 l = some (.lst xs) ∧ xs.length < sizeLine ∧ Met H (upd G1 l (.lst (xs ++ [.int v]))) m (es ++ [(k, v)]) ∧ ∀ b ys, G b = some (.tup ys) → (upd G1 l (.lst (xs ++ [.int v]))) b = some (.tup ys)) ∧
      (valV kvs k = none → (upd G1 m (.dT (putK kvs k (.ref z)))) z = some (.lst []) ∧ Met H (upd (upd G1 m (.dT (putK kvs k (.ref z)))) z (.lst [.int v])) m (es ++ [(k, v)]) ∧ ∀ b ys, G b = some (.tup ys) → (upd (upd G1 m (.dT (putK kvs k (.ref z)))) z (.lst [.int v])) b = some (.tup ys)) := by
  subst e1
  obtain ⟨kvs, h1, h2, h3, h4⟩ := M.ex
  have s1 := same_upd (o := .lst []) nz
  have nHz : H z = none := M.sm.free nz
  have nmz : m ≠ z := ne_of_none h1 nz
  have big : (100000 : Nat) < sizeLine := by decide
  refine ⟨kvs, s1 _ _ h1, by omega, fun x hx => ?_, fun hn => ?_⟩
  · have tn : told k es ≠ [] := fun c => by rw [(h3 k).1 c] at hx; cases hx
    obtain ⟨l, a1, a2, a3⟩ := (h3 k).2 tn
    have ex : x = .ref l := Option.some.inj (hx.symm.trans a1)
    have nlm : m ≠ l := fun c => by rw [c, a2] at h1; cases h1
    refine ⟨l, told k es, ex, s1 _ _ a2, by have := told_len k es; omega, ⟨?_, M.nm, kvs, ?_, by rw [List.length_append]; omega, fun j => ⟨fun c => ?_, fun c => ?_⟩, h4⟩, fun b ys hb => ?_⟩
    · intro b o eb
      rw [upd_ne (ne_of_none eb a3)]
      exact s1 _ _ (M.sm _ _ eb)
    · rw [upd_ne nlm]
      exact s1 _ _ h1
    · rw [told_snoc] at c
      exact (h3 j).1 (List.append_eq_nil_iff.mp c).1
    · by_cases ek : k = j
      · subst ek
        refine ⟨l, a1, ?_, a3⟩
        rw [upd_same, told_snoc, if_pos rfl]
      · have cj : told j es ≠ [] := fun y => c (by rw [told_snoc, if_neg ek, y]; rfl)
        obtain ⟨l', b1, b2, b3⟩ := (h3 j).2 cj
        have nl : l' ≠ l := fun y => ek (h4 k j l a1 (by rw [b1, y]))
        refine ⟨l', b1, ?_, b3⟩
        rw [upd_ne nl, told_snoc, if_neg ek, List.append_nil]
        exact s1 _ _ b2
    · rw [upd_ne (ne_of hb a2 (by intro y; cases y))]
      exact s1 _ _ hb
  · have tk : told k es = [] := by
      by_cases c : told k es = []
      · exact c
      · obtain ⟨l, a1, _⟩ := (h3 k).2 c
        rw [a1] at hn
        cases hn
    have fresh : ∀ j l, valV kvs j = some (.ref l) → l ≠ z := fun j l hj y => by
      have c : told j es ≠ [] := fun y => by rw [(h3 j).1 y] at hj; cases hj
      obtain ⟨l', b1, b2, _⟩ := (h3 j).2 c
      have : l' = l := by
        have := Option.some.inj (b1.symm.trans hj)
        cases this
        rfl
      rw [this, y, nz] at b2
      cases b2
    refine ⟨?_, ⟨?_, M.nm, putK kvs k (.ref z), ?_, ?_, fun j => ⟨fun c => ?_, fun c => ?_⟩, fun j j' l hj hj' => ?_⟩, fun b ys hb => ?_⟩
    · rw [upd_ne nmz.symm]
      exact upd_same
    · intro b o eb
      rw [upd_ne (ne_of_none eb nHz), upd_ne (ne_of_none eb M.nm)]
      exact s1 _ _ (M.sm _ _ eb)
    · rw [upd_ne nmz]
      exact upd_same
    · have := length_putK kvs k (.ref z)
      rw [List.length_append]
      show _ ≤ es.length + 1
      omega
    · rw [told_snoc] at c
      have c1 := List.append_eq_nil_iff.mp c
      have nk : ¬ k = j := fun y => by rw [if_pos y] at c1; exact absurd c1.2 (by simp)
      rw [valV_put, if_neg (fun y => nk y.symm)]
      exact (h3 j).1 c1.1
    · by_cases ek : j = k
      · subst ek
        refine ⟨z, by rw [valV_put, if_pos rfl], ?_, nHz⟩
        rw [upd_same, told_snoc, if_pos rfl, tk]
        rfl
      · have ek' : ¬ k = j := fun y => ek y.symm
        have cj : told j es ≠ [] := fun y => c (by rw [told_snoc, if_neg ek', y]; rfl)
        obtain ⟨l', b1, b2, b3⟩ := (h3 j).2 cj
        refine ⟨l', by rw [valV_put, if_neg ek]; exact b1, ?_, b3⟩
        have nlm : l' ≠ m := fun y => by rw [y, h1] at b2; cases b2
        rw [upd_ne (fresh j l' b1), upd_ne nlm, told_snoc, if_neg ek', List.append_nil]
        exact s1 _ _ b2
    · rw [valV_put] at hj hj'
      by_cases c : j = k <;> by_cases c' : j' = k
      · rw [c, c']
      · rw [if_pos c] at hj
        rw [if_neg c'] at hj'
        cases hj
        exact absurd rfl (fresh j' z hj')
      · rw [if_neg c] at hj
        rw [if_pos c'] at hj'
        cases hj'
        exact absurd rfl (fresh j z hj)
      · rw [if_neg c] at hj
        rw [if_neg c'] at hj'
        exact h4 j j' l hj hj'
    · rw [upd_ne (ne_of_none hb nz), upd_ne (ne_of hb h1 (by intro y; cases y))]
      exact s1 _ _ hb
/-! ### all legs of all crossings -/
def four (i j : Nat) : List (List Key × Int) := [(rowK j i, 0), (colK i j, 1), (rowK j (i + 1), 2), (colK i (j + 1), 3)]
def rowE (a j : Nat) : List (List Key × Int) := (List.range a).flatMap fun i => four i j
def allE (a b : Nat) : List (List Key × Int) := (List.range b).flatMap fun j => rowE a j
theorem rowE_succ (a j : Nat) : rowE (a + 1) j = rowE a j ++ four a j := by
  unfold rowE
  rw [List.range_succ, List.flatMap_append]
  simp
theorem allE_succ (a b : Nat) : allE a (b + 1) = allE a b ++ rowE a b := by
  unfold allE
  rw [List.range_succ, List.flatMap_append]
  simp
theorem rowE_len (j : Nat) : ∀ a, (rowE a j).length = 4 * a
  | 0 => rfl
  | a + 1 => by rw [rowE_succ, List.length_append, rowE_len j a]; show _ + 4 = _; omega
theorem allE_len (a : Nat) : ∀ b, (allE a b).length = 4 * a * b
  | 0 => rfl
  | b + 1 => by rw [allE_succ, List.length_append, allE_len a b, rowE_len]; rw [Nat.mul_succ]
theorem rk_inj {j x j' x' : Nat} : rowK j' x' = rowK j x ↔ j' = j ∧ x' = x := by
  constructor
  · intro h
    simp only [List.cons.injEq, Sum.inl.injEq, and_true, true_and] at h
    omega
  · rintro ⟨rfl, rfl⟩; rfl
theorem ck_inj {i y i' y' : Nat} : colK i' y' = colK i y ↔ i' = i ∧ y' = y := by
  constructor
  · intro h
    simp only [List.cons.injEq, Sum.inl.injEq, and_true, true_and] at h
    omega
  · rintro ⟨rfl, rfl⟩; rfl
theorem rc_ne {j x i y : Nat} : ¬ rowK j x = colK i y := fun h => by
  have := (List.cons.inj h).1
  exact absurd (Sum.inr.inj this) (by decide)
theorem told_four_row (i' j' j x : Nat) : told (rowK j x) (four i' j') = if j' = j then (if i' = x then [.int 0] else []) ++ (if i' + 1 = x then [.int 2] else []) else [] := by
  have e : four i' j' = [(rowK j' i', 0)] ++ [(colK i' j', 1)] ++ [(rowK j' (i' + 1), 2)] ++ [(colK i' (j' + 1), 3)] := rfl
  rw [e, told_app, told_app, told_app, told_one, told_one, told_one, told_one, if_neg (show ¬ colK i' j' = rowK j x from fun h => rc_ne h.symm), if_neg (show ¬ colK i' (j' + 1) = rowK j x from fun h => rc_ne h.symm)]
  simp only [rk_inj, List.append_nil]
  by_cases c : j' = j <;> simp [c]
theorem told_four_col (i' j' i y : Nat) : told (colK i y) (four i' j') = if i' = i then (if j' = y then [.int 1] else []) ++ (if j' + 1 = y then [.int 3] else []) else [] := by
  have e : four i' j' = [(rowK j' i', 0)] ++ [(colK i' j', 1)] ++ [(rowK j' (i' + 1), 2)] ++ [(colK i' (j' + 1), 3)] := rfl
  rw [e, told_app, told_app, told_app, told_one, told_one, told_one, told_one, if_neg (show ¬ rowK j' i' = colK i y from rc_ne), if_neg (show ¬ rowK j' (i' + 1) = colK i y from rc_ne)]
  simp only [ck_inj, List.append_nil, List.nil_append]
  by_cases c : i' = i <;> simp [c]
theorem told_rowE_row (a j' j x : Nat) : told (rowK j x) (rowE a j') = if j' = j then (if 0 < x ∧ x ≤ a then [.int 2] else []) ++ (if x < a then [.int 0] else []) else [] := by
  induction a with
  | zero => by_cases c : j' = j <;> simp [rowE, told, c]; omega
  | succ n ih =>
    rw [rowE_succ, told_app, ih, told_four_row]
    by_cases c : j' = j
    · rw [if_pos c, if_pos c, if_pos c]
      rcases Nat.lt_trichotomy x n with h | h | h
      · rw [if_pos (show x < n from h), if_pos (show x < n + 1 by omega), if_neg (show ¬ n = x by omega), if_neg (show ¬ n + 1 = x by omega)]
        by_cases z : 0 < x
        · rw [if_pos ⟨z, by omega⟩, if_pos ⟨z, by omega⟩]; rfl
        · rw [if_neg (by omega), if_neg (by omega)]; rfl
      · rw [if_neg (show ¬ x < n by omega), if_pos (show x < n + 1 by omega), if_pos (show n = x by omega), if_neg (show ¬ n + 1 = x by omega)]
        by_cases z : 0 < x
        · rw [if_pos ⟨z, by omega⟩, if_pos ⟨z, by omega⟩]; rfl
        · rw [if_neg (by omega), if_neg (by omega)]; rfl
      · rw [if_neg (show ¬ x < n by omega), if_neg (show ¬ x < n + 1 by omega), if_neg (show ¬ n = x by omega), if_neg (show ¬ (0 < x ∧ x ≤ n) by omega)]
        by_cases z : n + 1 = x
        · rw [if_pos z, if_pos ⟨by omega, by omega⟩]; rfl
        · rw [if_neg z, if_neg (by omega)]; rfl
    · rw [if_neg c, if_neg c, if_neg c]; rfl
theorem told_rowE_col (a j' i y : Nat) : told (colK i y) (rowE a j') = if i < a then (if j' = y then [.int 1] else []) ++ (if j' + 1 = y then [.int 3] else []) else [] := by
  induction a with
  | zero => simp [rowE, told]
  | succ n ih =>
    rw [rowE_succ, told_app, ih, told_four_col]
    rcases Nat.lt_trichotomy i n with h | h | h
    · rw [if_pos h, if_neg (show ¬ n = i by omega), if_pos (show i < n + 1 by omega), List.append_nil]
    · rw [if_neg (by omega), if_pos (show n = i by omega), if_pos (show i < n + 1 by omega), List.nil_append]
    · rw [if_neg (by omega), if_neg (show ¬ n = i by omega), if_neg (show ¬ i < n + 1 by omega)]; rfl
theorem told_allE_row (a b j x : Nat) (hj : j < b) : told (rowK j x) (allE a b) = (if 0 < x ∧ x ≤ a then [.int 2] else []) ++ (if x < a then [.int 0] else []) := by
  have key : ∀ n, told (rowK j x) (allE a n) = if j < n then (if 0 < x ∧ x ≤ a then [.int 2] else []) ++ (if x < a then [.int 0] else []) else [] := by
    intro n
    induction n with
    | zero => simp [allE, told]
    | succ n ih =>
      rw [allE_succ, told_app, ih, told_rowE_row]
      rcases Nat.lt_trichotomy j n with h | h | h
      · rw [if_pos h, if_neg (show ¬ n = j by omega), if_pos (show j < n + 1 by omega), List.append_nil]
      · rw [if_neg (show ¬ j < n by omega), if_pos (show n = j by omega), if_pos (show j < n + 1 by omega), List.nil_append]
      · rw [if_neg (show ¬ j < n by omega), if_neg (show ¬ n = j by omega), if_neg (show ¬ j < n + 1 by omega)]; rfl
  rw [key b, if_pos hj]
theorem told_allE_col (a b i y : Nat) (hi : i < a) : told (colK i y) (allE a b) = (if 0 < y ∧ y ≤ b then [.int 3] else []) ++ (if y < b then [.int 1] else []) := by
  induction b with
  | zero => simp [allE, told]; omega
  | succ n ih =>
    rw [allE_succ, told_app, ih, told_rowE_col, if_pos hi]
    rcases Nat.lt_trichotomy y n with h | h | h
    · rw [if_pos (show y < n from h), if_pos (show y < n + 1 by omega), if_neg (show ¬ n = y by omega), if_neg (show ¬ n + 1 = y by omega)]
      by_cases z : 0 < y
      · rw [if_pos ⟨z, by omega⟩, if_pos ⟨z, by omega⟩]; rfl
      · rw [if_neg (by omega), if_neg (by omega)]; rfl
    · rw [if_neg (show ¬ y < n by omega), if_pos (show y < n + 1 by omega), if_pos (show n = y by omega), if_neg (show ¬ n + 1 = y by omega)]
      by_cases z : 0 < y
      · rw [if_pos ⟨z, by omega⟩, if_pos ⟨z, by omega⟩]; rfl
      · rw [if_neg (by omega), if_neg (by omega)]; rfl
    · rw [if_neg (show ¬ y < n by omega), if_neg (show ¬ y < n + 1 by omega), if_neg (show ¬ n = y by omega), if_neg (show ¬ (0 < y ∧ y ≤ n) by omega)]
      by_cases z : n + 1 = y
      · rw [if_pos z, if_pos ⟨by omega, by omega⟩]; rfl
      · rw [if_neg z, if_neg (by omega)]; rfl
end C2

namespace C2
set_option Elab.async false
set_option linter.all false
set_option maxRecDepth 100000
set_option maxHeartbeats 4000000
open PySem PySem.Spec PyProof.Rows L2
/-! ### zip of a list and a tuple -/
def ItLT (K : PySem.W.Frag) (a b : Addr) : It :=
  ⟨fun j G => ∃ (us vs : List V) (u v : V), SqL K G a us ∧ SqT K G b vs ∧ us[j]? = some u ∧ vs[j]? = some v,
    fun j G r G' => ∃ T u v, r = .ref T ∧ G T = none ∧ G' = upd G T (.tup [u, v]) ∧ (∀ us, SqL K G a us → us[j]? = some u) ∧ ∀ vs, SqT K G b vs → vs[j]? = some v,
    fun j G => ∃ us vs : List V, SqL K G a us ∧ SqT K G b vs ∧ j ≤ us.length ∧ j ≤ vs.length ∧ (j = us.length ∨ j = vs.length)⟩
def tnLT (a b z TI TO i1 i2 : Addr) (j : Nat) (h : Heap) : Prop :=
  IsZip h z TI TO .none ∧ IsTupOf2 h TI (.ref i1) (.ref i2) ∧ (∃ u v, IsTupOf2 h TO u v) ∧ h.IsListIter i1 a j ∧ h.IsTupleIter i2 b j
theorem in5 {c z TI TO i1 i2 : Addr} (h : c ∈ [z, TI, TO, i1, i2]) : c = z ∨ c = TI ∨ c = TO ∨ c = i1 ∨ c = i2 := by simpa using h
theorem turnLT {P : Program} {w : World} {K : PySem.W.Frag} {elts : List Expr} {kk : Nat} {tpos : Pos} {a b z TI TO i1 i2 : Addr} (S : ZipSep2 z TI TO i1 i2 [i1, a] [i2, b]) :
    Turn P w K (.Tuple elts kk tpos) (ItLT K a b) [z, TI, TO, i1, i2] z (tnLT a b z TI TO i1 i2) where
  mem := by simp
  obj := by
    rintro j h ⟨q1, q2, ⟨u, v, q3⟩, ⟨o4, q4, _, d4⟩, ⟨o5, q5, _, d5⟩⟩ c hc
    rcases in5 hc with rfl | rfl | rfl | rfl | rfl
    · exact ⟨_, q1, fun _ e => nomatch e⟩
    · exact ⟨_, q2, fun _ e => nomatch e⟩
    · exact ⟨_, q3, fun _ e => nomatch e⟩
    · exact ⟨o4, q4, fun _ e => by rw [d4] at e; cases e⟩
    · exact ⟨o5, q5, fun _ e => by rw [d5] at e; cases e⟩
  keep := by
    rintro j h h' ⟨q1, q2, ⟨u, v, q3⟩, q4, q5⟩ kp
    exact ⟨kp z (by simp) _ q1, kp TI (by simp) _ q2, ⟨u, v, kp TO (by simp) _ q3⟩, q4.at fun o e => kp i1 (by simp) o e, q5.at fun o e => kp i2 (by simp) o e⟩
  item := by
    intro X hP hw hK hc j pins s σ G E I hf st hg
    subst hP hw hK
    obtain ⟨q1, q2, ⟨u0, v0, q3⟩, q4, q5⟩ := st
    obtain ⟨us, vs, u, v, su, sv, gu, gv⟩ := hg
    obtain ⟨uits, ru, pu, _⟩ := I.list su
    obtain ⟨vits, rv, pv, _⟩ := I.tuple sv
    obtain ⟨uu, huu, ruu⟩ := ru.get gu
    obtain ⟨vv, hvv, rvv⟩ := rv.get gv
    have hd : X.A.handled = none := I.ok.hd hc
    have hzl : z < s.heap.objs.size := Heap.lt_size q1
    have ne1 : a ≠ i1 := fun e => by
      obtain ⟨o4, e4, c4, _⟩ := q4
      obtain ⟨o, oe, oc, _⟩ := pu.isList
      rw [e, e4] at oe
      cases oe
      rw [c4] at oc
      exact absurd oc (by decide)
    have ne2 : b ≠ i2 := fun e => by
      obtain ⟨o4, e4, c4, _⟩ := q5
      obtain ⟨o, oe, oc, _⟩ := pv
      rw [e, e4] at oe
      cases oe
      rw [c4] at oc
      exact absurd oc (by decide)
    have D1 := Draws.list (prog := X.prog) (w := X.w) (A := X.A.in1) hd i1 a ne1 uits.toArray
    have D2 := Draws.tuple (prog := X.prog) (w := X.w) (A := X.A.in1) hd i2 b ne2 vits.toArray
    have l1 : j < uits.toArray.size := by
      have := (List.getElem?_eq_some_iff.mp huu).1
      simpa using this
    have l2 : j < vits.toArray.size := by
      have := (List.getElem?_eq_some_iff.mp hvv).1
      simpa using this
    refine wpAny_pyNext_zipD2_item S D1 D2 q1 q2 q3 ⟨q4, pu.isList⟩ ⟨q5, pv⟩ l1 l2 fun x1 x2 h' tk e1 e2 n1 n3 n4 n5 nT nsz nk => ?_
    have ex1 : x1 = uu := Option.some.inj (e1.symm.trans (by simpa using huu))
    have ex2 : x2 = vv := Option.some.inj (e2.symm.trans (by simpa using hvv))
    subst ex1 ex2
    refine ⟨_, rfl, wpAny_letOwnedTupleGo_zip (s := { s with heap := h', toks := tk }) n1 fun h'' m1 sb => ?_⟩
    have mT : h''.get? s.heap.objs.size = some { cls := .type "tuple", data := .seq #[x1, x2] } := (sb.2 _ (Nat.ne_of_gt hzl)).trans nT
    have new : ObjOk X.prog X.w (upd G s.heap.objs.size (.tup [u, v])) h'' s.heap.objs.size (.tup [u, v]) :=
      ⟨by show 2 ≤ sizeLine; decide, [x1, x2], .cons ruu (.cons rvv .nil), ⟨_, mT, rfl, _, rfl⟩⟩
    have I1 : Inv X pins σ (upd G s.heap.objs.size (.tup [u, v])) { s with heap := h'', toks := tk } :=
      I.turnedNew (t' := tk) (ch := [z, TI, TO, i1, i2]) (fun c o hb q => (sb.2 c (fun e => hb (by simp [e]))).trans
        (nk c o (fun e => hb (by simp [e])) (fun e => hb (by simp [e])) (fun e => hb (by simp [e])) (fun e => hb (by simp [e])) q)) hf (Nat.le_refl _) new
    refine ⟨.ref s.heap.objs.size, _, I1, rfl, ⟨_, u, v, rfl, I.hok.fresh (Nat.le_refl _), rfl, fun l hl => ?_, fun l hl => ?_⟩, ⟨m1, ?_, ⟨x1, x2, ?_⟩, ?_, ?_⟩, fun c hcm => ?_⟩
    · rw [I.list_inj hl su]; exact gu
    · rw [I.tuple_inj hl sv]; exact gv
    · exact (sb.2 _ S.TIz).trans (nk _ _ S.TIz S.TITO S.TIi1 S.TIi2 q2)
    · exact (sb.2 _ S.TOz).trans n3
    · exact n4.1.at fun o e => (sb.2 _ S.zi1.symm).trans e
    · exact n5.1.at fun o e => (sb.2 _ S.zi2.symm).trans e
    · have low : c < s.heap.objs.size := by
        rcases in5 hcm with rfl | rfl | rfl | rfl | rfl
        · exact hzl
        · exact Heap.lt_size q2
        · exact Heap.lt_size q3
        · obtain ⟨_, y, _⟩ := q4; exact Heap.lt_size y
        · obtain ⟨_, y, _⟩ := q5; exact Heap.lt_size y
      rw [upd_ne (Nat.ne_of_lt low)]
      exact (hf c hcm).1
  done := by
    intro X hP hw hK hc j pins s σ G E I hf st hg
    subst hP hw hK
    obtain ⟨q1, q2, ⟨u0, v0, q3⟩, q4, q5⟩ := st
    obtain ⟨us, vs, su, sv, b1, b2, b3⟩ := hg
    obtain ⟨uits, ru, pu, _⟩ := I.list su
    obtain ⟨vits, rv, pv, _⟩ := I.tuple sv
    have hd : X.A.handled = none := I.ok.hd hc
    have ne1 : a ≠ i1 := fun e => by
      obtain ⟨o4, e4, c4, _⟩ := q4
      obtain ⟨o, oe, oc, _⟩ := pu.isList
      rw [e, e4] at oe
      cases oe
      rw [c4] at oc
      exact absurd oc (by decide)
    have ne2 : b ≠ i2 := fun e => by
      obtain ⟨o4, e4, c4, _⟩ := q5
      obtain ⟨o, oe, oc, _⟩ := pv
      rw [e, e4] at oe
      cases oe
      rw [c4] at oc
      exact absurd oc (by decide)
    have D1 := Draws.list (prog := X.prog) (w := X.w) (A := X.A.in1) hd i1 a ne1 uits.toArray
    have D2 := Draws.tuple (prog := X.prog) (w := X.w) (A := X.A.in1) hd i2 b ne2 vits.toArray
    have l1 := ru.length
    have l2 := rv.length
    refine wpAny_pyNext_zipD2_end S D1 D2 q1 q2 q3 ⟨q4, pu.isList⟩ ⟨q5, pv⟩ (by simp; omega) (by simp; omega) (by simp; omega) fun h' tk nk => ⟨rfl, ?_⟩
    exact I.turnedL (t' := tk) (ch := [z, TI, TO, i1, i2]) (fun c o hb q =>
      nk c o (fun e => hb (by simp [e])) (fun e => hb (by simp [e])) (fun e => hb (by simp [e])) (fun e => hb (by simp [e])) q) hf
  self := fun A j s Q E st h => wpAny_pyIter_zip st.1 h
def iZipLT (K : PySem.W.Frag) (ta : TA) : TI := fun σ G R => ta σ G fun vs G1 => ∃ a b us ys, vs = [.ref a, .ref b] ∧ SqL K G1 a us ∧ SqT K G1 b ys ∧ R (ItLT K a b) G1
theorem pi_zipLT {X : Cx} {e e2 : Expr} {ta : TA} {p pos tpos : Pos} {elts : List Expr} {kk : Nat} (hg : Gl X "zip") (hm : X.mg "zip" = none) (ha : PA X [e, e2] ta)
    (plainArgs : starEach [e, e2] X.env = (false, eval e X.env) :: starEach [e2] X.env := by rfl)
    (noStar : (backTo pos (starEach [e2] X.env)).any (·.1) = false := by rfl) :
    PI X (.Tuple elts kk tpos) (.Call (.Name "zip" p) [e, e2] [] pos) (iZipLT X.K ta) := by
  refine ⟨fun pins s σ G R I h => Call_ (ld_blt I hg hm PyProof.Rows.boot_zip (PyProof.Rows.callWith_type1 (thn (ha.run pos pins s σ G _ I h) fun us s1 ⟨vs, G1, I1, r1, q1⟩ => ?_) plainArgs noStar))⟩
  obtain ⟨a, b, xs, ys, rfl, sx, sy, q⟩ := q1
  cases r1 with
  | cons r rr => cases rr with
    | cons r' rr =>
      cases rr
      cases r
      cases r'
      obtain ⟨uits, ru, pu, _⟩ := I1.list sx
      obtain ⟨vits, rv, pv, _⟩ := I1.tuple sy
      obtain ⟨oa, ea, _⟩ := id pu.isList
      obtain ⟨ob, eb, _⟩ := id pv
      have S := zip_sep2 (N := s1.heap.objs.size) (fp1 := [a]) (fp2 := [b]) (fun c hc => by rw [List.mem_singleton.mp hc]; exact Heap.lt_size ea) (fun c hc => by rw [List.mem_singleton.mp hc]; exact Heap.lt_size eb)
      refine zip_begins2 (begins_list a uits.toArray) (begins_tuple b vits.toArray) pu.isList pv fun h' g1 g2 g3 g4 g5 gsz gk => wpAny_pyIter_zip g1 ?_
      refine ⟨s1.heap.objs.size + 4, [s1.heap.objs.size + 4, s1.heap.objs.size + 2, s1.heap.objs.size + 3, s1.heap.objs.size, s1.heap.objs.size + 1], _, _, G1, rfl, I1.kept (t' := s1.toks) gk, turnLT S,
        ⟨g1, g2, ⟨_, _, g3⟩, ⟨_, g4, rfl, rfl⟩, ⟨_, g5, rfl, rfl⟩⟩, fun c hc => ?_, q⟩
      have above : s1.heap.objs.size ≤ c := by
        rcases in5 hc with rfl | rfl | rfl | rfl | rfl
        · exact Nat.le_add_right _ _
        · exact Nat.le_add_right _ _
        · exact Nat.le_add_right _ _
        · exact Nat.le_refl _
        · exact Nat.le_add_right _ _
      exact I1.fpOk above (I1.hok.fresh above)
theorem walkLT {K : PySem.W.Frag} {a b : Addr} {xs ys : List V} {n : Nat} (h1 : xs.length = n) (h2 : ys.length = n) : Walk (ItLT K a b) n (fun G => SqL K G a xs ∧ SqT K G b ys) (YPair (fun i => xs[i]?) (fun i => ys[i]?)) := by
  refine ⟨fun i G hi q => ⟨xs, ys, xs[i]'(by omega), ys[i]'(by omega), q.1, q.2, List.getElem?_eq_getElem _, List.getElem?_eq_getElem _⟩, fun G q => ⟨xs, ys, q.1, q.2, by omega, by omega, by omega⟩, fun i G v G' _ q y => ?_⟩
  obtain ⟨T, u, v, e1, e2, e3, e4, e5⟩ := y
  exact ⟨T, u, v, e1, e2, e3, e4 xs q.1, e5 ys q.2⟩
/-! ### repr of data -/
def rReprD (K : PySem.W.Frag) : List V → Hp → VK → Prop := fun xs G Q => ∃ a d, xs = [.ref a] ∧ Dp K G (.ref a) d ∧ d.showable = true ∧ d.hasDict = false ∧ d.depth ≤ 60 ∧ d.shown.length ≤ sizeLine ∧ Q (.str d.shown) G
theorem call_reprD {X : Cx} (hu : X.A.units + 64 < cLine) (hgd : X.A.guards = some []) : CallR X (.builtin "repr") (rReprD X.K) := by
  intro pins s σ G xs us Q I r h
  obtain ⟨a, d, rfl, hd, s1, s2, s3, s4, q⟩ := h
  obtain ⟨given, rfl, rel⟩ := vals1 r
  obtain ⟨as, rd⟩ := Dp.reads I d _ _ hd rel
  cases rel
  refine repr_of_reads' rd s1 (fun e => by rw [s2] at e; cases e) hgd (by omega) (fun _ _ e => e) (fun h' t tk kp => ?_) s4
  exact ⟨.str d.shown, G, I.kept (t' := tk) kp, ⟨_, rfl⟩, q⟩
end C2

namespace C2
set_option Elab.async false
set_option linter.all false
set_option maxRecDepth 100000
set_option maxHeartbeats 4000000
open PySem PySem.Spec PyProof.Rows L2
/-! ### a def's promise where no repr is under way -/
structure FnG (P : Program) (w : World) (K : PySem.W.Frag) (mg : Str → Option Value) (base : Heap) (k : Nat) (f : Addr) (fd : FuncData) (ps : List Str) (sp : Sp) : Prop where
  len : ∀ vs G Q E, sp vs G Q E → vs.length = ps.length
  run : ∀ (A : Around) (outer : List Env) (s : Shared) (G : Hp) (args : Args) (us : List Value) (vs : List V) (Q : VK) (E : XK), A.guards = some [] → Room k A →
    Env0 P w K mg base A outer s G → BindsTo s fd args (ps.zip us) → Vals vs us → sp vs G Q E → codeAny (model P w) A (.call (.ref f) args) (CR CX0 outer P w G s Q E) s
section
variable {P : Program} {w : World} {K : PySem.W.Frag} {mg : Str → Option Value} {base : Heap}
theorem deeper_guards {A : Around} {env : Env} (h : A.guards = some []) : (A.deeper env).guards = some [] := h
theorem okG {x qual : Str} {st : Stmt} {f : Addr} {fd : FuncData} {N ps : List Str} {k : Nat} {sp : Sp} (F : Fun K x qual st f fd) (S : FnScope N ps (defScope st)) (len : ∀ vs G Q E, sp vs G Q E → vs.length = ps.length)
    (body : ∀ (cdv : Value) (A : Around) (outer : List Env) (s : Shared) (G : Hp) (vs : List V) (Q : VK) (E : XK), A.guards = some [] → Room k (A.deeper (envOfC qual (defScope st) s.heap.objs.size f cdv)) → sp vs G Q E →
      ∃ t, PSs (cxOf CX0 P w K mg base N qual (defScope st) f cdv A outer s G E).nox (defBody st) t ∧ t { nx := fun _ G' => Q .non G', rt := Q } (start N vs) G) : FnG P w K mg base (k + 1) f fd ps sp := by
  obtain ⟨v1, v2, v3, v4, v5, v6, cdv, v7, v8, rfl, lk, hcd⟩ := F.ex
  refine ⟨len, fun A outer s G args us vs Q E hgd hr e0 hb r hsp => ?_⟩
  have ln := len vs G Q E hsp
  have inK : K.In s.heap := e0.mod.kin.keeps fun c y e => (e0.bs c y e).left
  have noL : s.heap.NoLimit := e0.mod.nolimit.keeps fun c y e => (e0.bs c y e).left
  refine codeAny_call_function hr.depth (inK _ _ lk) rfl S.co S.gen rfl (PySem.W.codeRec_of inK hcd) (hb _ _ _ _ ?_)
  refine wpAny_newFunctionEnv_cells S.kind (fun y hy => ?_) fun env he s1 x => ?_
  · rcases S.par y.1 (List.of_mem_zip (a := y.1) (b := y.2) hy).1 with q | q
    · exact Or.inl q
    · exact Or.inr ⟨q, PySem.W.cellsFrom_some _ _ _ (Or.inl q)⟩
  · subst he
    refine ⟨noL.keeps x.toInCall.keep, codeAny_func ?_⟩
    obtain ⟨t, ht, hq⟩ := body cdv A outer s G vs Q E hgd (hr.deeper _) hsp
    have J0 := inv_start (CX := CX0) (E := E) S hr.hd e0 ln r x
    refine wpAny_mono (ht.nox.run [] s1 (start N vs) G _ J0 hq) (fun fl s' hs => ?_) fun _ _ hs => hs
    cases fl with
    | ret u =>
      obtain ⟨v, σ', G', J, rv, q⟩ := hs
      exact ⟨v, G', J.os, J.bare, J.base, J.hok, rv, q⟩
    | next =>
      obtain ⟨σ', G', J, q⟩ := hs
      exact ⟨V.non, G', J.os, J.bare, J.base, J.hok, rfl, q⟩
    | brk =>
      obtain ⟨_, _, _, q⟩ := hs
      exact q.elim
    | cont =>
      obtain ⟨_, _, _, q⟩ := hs
      exact q.elim
/-- what the law's own call leaves: True, and what stood before as it was -/
def Leaves (s₁ : Shared) : Except Value Flow → Shared → Prop := fun r s' => r = .ok (.ret (.bool true)) ∧ OldK s₁.heap s'.heap ∧
  s'.os = s₁.os ∧ AllBare s'.gens
/-- the law's own call -/
theorem law_callG {mb : Str → Option Value} {k : Nat} {fa a : Addr} {fd : FuncData} {x : Str} {sp : Sp} {s₁ : Shared} {vs : List Value} {ns : List Int}
    (inK : K.In s₁.heap) (hns : s₁.heap.Ns mainGlobals mg) (hb : s₁.heap.Ns builtinsNs mb) (hbb : ∀ x : Str, x ≠ "__name__" → mb x = bootBuiltins x) (hlim : s₁.heap.NoLimit) (hg : s₁.gens = #[])
    (hr : Room k callerA) (hl : ns.length ≤ sizeLine) (hi : IntsAre vs ns)
    (ha : s₁.heap.get? a = some { cls := .type "list", data := .seq vs.toArray })
    (F : ∀ base : Heap, K.In base → base.Ns mainGlobals mg → FnG P w K mg base k fa fd [x] sp) (hbind : ∀ (s : Shared) (u : Value), BindsTo s fd ⟨[u], []⟩ [(x, u)])
    (hsp : ∀ G : Hp, SqL K G a (ns.map V.int) → sp [.ref a] G (fun v _ => v = .bl true) fun _ _ _ => False) :
    codeAny (model P w) callerA (.call (.ref fa) ⟨[.ref a], []⟩) (Leaves s₁) s₁ := by
  have main : ∀ G : Hp, Only G → SqL K G a (ns.map V.int) → HOk P w G s₁.heap → (∀ b, G b ≠ none → b = a) → (G a ≠ none → K.lookup a = none) →
      codeAny (model P w) callerA (.call (.ref fa) ⟨[.ref a], []⟩) (Leaves s₁) s₁ := by
    intro G only sq hok one off
    have hid : ∀ {b : Addr} {y : Obj}, s₁.heap.get? b = some y → (G b = none) → (hidT s₁.heap G).get? b = some y := fun e n => hidT_get e n
    have dct : ∀ {b : Addr} {y : Obj} {es : Array DictEntry} {ep : Nat}, s₁.heap.get? b = some y → y.data = .dict es ep → G b = none := by
      intro b y es ep e d
      cases q : G b with
      | none => rfl
      | some u =>
        have z : b = a := one b (by rw [q]; exact Option.some_ne_none u)
        rw [z, ha] at e
        cases e
        exact absurd d (by intro c; cases c)
    have nsp : ∀ {b : Addr} {m : Str → Option Value}, s₁.heap.Ns b m → (hidT s₁.heap G).Ns b m := by
      rintro b m ⟨y, es, ep, e, d, r⟩
      exact ⟨y, es, ep, hid e (dct e d), d, r⟩
    have kb : K.In (hidT s₁.heap G) := by
      intro b y e
      refine hid (inK b y e) ?_
      cases q : G b with
      | none => rfl
      | some u =>
        have z : b = a := one b (by rw [q]; exact Option.some_ne_none u)
        rw [z] at q e
        rw [off (by rw [q]; exact Option.some_ne_none u)] at e
        cases e
    have md : Mod K mg (hidT s₁.heap G) := by
      refine ⟨kb, nsp hns, ⟨mb, nsp hb, hbb⟩, ?_⟩
      obtain ⟨mc, y1, y2⟩ := hlim
      exact ⟨mc, nsp y1, y2⟩
    have e0 : Env0 P w K mg (hidT s₁.heap G) callerA [] s₁ G :=
      ⟨rfl, md, fun b y e => of_hidT e, Nat.le_of_eq (hidT_size _ _), trivial, fun b z => absurd (show b ∈ ([] : List Addr) from z) List.not_mem_nil, hok, .of_eq hg⟩
    refine codeAny_mono ((F _ kb (nsp hns)).run callerA [] s₁ G ⟨[.ref a], []⟩ [.ref a] [.ref a] _ _ rfl hr e0 (hbind s₁ (.ref a)) (.cons rfl .nil) (hsp G sq)) fun r s' h => ?_
    cases r with
    | error e => exact False.elim h
    | ok fl => cases fl with
      | next => exact False.elim h
      | brk => exact False.elim h
      | cont => exact False.elim h
      | ret u =>
        obtain ⟨v, G', os, bare, un, hok', r', (q : v = .bl true)⟩ := h
        subst q
        cases (show u = Value.bool true from r')
        refine ⟨rfl, OldK.of_keep fun b y e => ?_, os, bare⟩
        cases q : G b with
        | none => exact un.keep b y e q (fun z => absurd (show b ∈ ([] : List Addr) from z) List.not_mem_nil) List.not_mem_nil
        | some u => rcases only b with z | ⟨ob, xs, z⟩
                    · rw [q] at z; cases z
                    · have f1 := (hok b _ z).1
                      have f2 := (hok' b _ (un.frzs b ob _ z)).1
                      rw [e] at f1
                      cases f1
                      exact f2
  have rv := vals_ints hi
  have ln := hi.length
  cases hk : K.lookup a with
  | some y =>
    have e := inK a y hk
    rw [ha] at e
    cases e
    exact main (fun _ => none) (fun _ => .inl rfl) (.inr ⟨_, vs.toArray, _, hk, rfl, rfl, rfl, by rw [List.size_toArray, ln]; exact hl, by simpa using rv⟩)
      (fun b u z => by cases (show (none : Option HO) = some u from z)) (fun b z => absurd rfl z) fun z => absurd rfl z
  | none =>
    obtain ⟨G, at_a, not_a⟩ : ∃ G : Hp, (∀ b, b = a → G b = some (.frz { cls := .type "list", data := .seq vs.toArray } (.lst (ns.map V.int)))) ∧ ∀ b, b ≠ a → G b = none :=
      ⟨fun b => if b = a then some (HO.frz { cls := .type "list", data := .seq vs.toArray } (.lst (ns.map V.int))) else none, fun b e => if_pos e, fun b e => if_neg e⟩
    refine main G (fun b => ?_) (.inl (.inr ⟨_, at_a a rfl⟩)) (fun b u z => ?_) (fun b z => ?_) fun _ => hk
    · by_cases c : b = a
      · exact .inr ⟨_, _, at_a b c⟩
      · exact .inl (not_a b c)
    · by_cases c : b = a
      · rw [at_a b c] at z
        cases z
        rw [c]
        refine ⟨ha, ?_, vs, _, rv, ha⟩
        rw [List.length_map]
        exact hl
      · rw [not_a b c] at z
        cases z
    · by_cases c : b = a
      · exact c
      · exact absurd (not_a b c) z
end
theorem walkG {l : PySem.W.OpenLaw} {n k : Nat} {q : Program} {loose : List Str} {XP : (Str → Option Value) → Heap → Prop} {YP : World → Heap → Prop} {d : DefRec} {K : Params → PySem.W.Frag} {sp : PySem.W.Frag → Sp} {x : Str}
    (most : l.most = some n) (short : n ≤ sizeLine) (bare : d.params.defaults = []) (room : Room k callerA)
    (stands : ∀ (w : World) (h : Heap), YP w h → (K w.params).In h)
    (promise : ∀ (w : World) (mg : Str → Option Value) (fa : Addr) (h : Heap), (K w.params).In h → h.Ns mainGlobals mg →
      mg d.name = some (.ref fa) →
      ∃ fd : FuncData, (∀ (s : Shared) (u : Value), BindsTo s fd ⟨[u], []⟩ [(x, u)]) ∧ ∀ base : Heap, (K w.params).In base → base.Ns mainGlobals mg → FnG l.prog w (K w.params) mg base k fa fd [x] (sp (K w.params)))
    (hsp : ∀ (K : PySem.W.Frag) (G : Hp) (a : Addr) (ns : List Int), ns.length ≤ n → SqL K G a (ns.map V.int) → sp K [.ref a] G (fun v _ => v = .bl true) fun _ _ _ => False) :
    PySem.W.WalkO q loose XP YP l.row.toRowW d []
      (fun f vs => PySem.call f vs) := by
  refine Att.attach_call most bare fun w _ s₁ mg mb fa _ _ _ _ a vs ns G Y _ _ _ hmg there nums few gens => ?_
  have inK := stands w _ Y
  obtain ⟨fd, binds, ok⟩ := promise w mg fa _ inK G.T.g hmg
  exact law_callG inK G.T.g G.T.b G.T.builtins G.T.nolimit gens room (Nat.le_trans few short) nums there ok binds fun H hS => hsp _ H a ns few hS
end C2

namespace C2
set_option Elab.async false
set_option linter.all false
set_option maxRecDepth 100000
set_option maxHeartbeats 4000000
open PySem PySem.Spec PyProof.Rows L2
/-! ### enumerate(t), t a tuple -/
abbrev enumNew (it : Addr) : Obj := { cls := .type "enumerate", data := .fields #[.none, .bool false, .ref it, rawInt 0, .none, .none] }
theorem enumMade {v : Value} {o : Obj} {Hh : Heap → Prop} (B : Begins v o Hh) :
    Meets (Builtin.«enumerate.__new__» ⟨[.type "enumerate", v], []⟩) (fun _ R s => Hh s.heap ∧ R (.ok (.ret (.ref (s.heap.push o).objs.size))) { s with heap := (s.heap.push o).push (enumNew s.heap.objs.size) }) :=
  .of_wp fun prog w A R s hx => by
    obtain ⟨hp, gs, dr, tk, os⟩ := s
    obtain ⟨b1, fin⟩ := hx
    have hsub := sub_enumerate
    have go : ∀ {A' : Around} {E : Value → Shared → Prop} {Q : Value → Shared → Prop}, Q (.ref hp.objs.size) ⟨hp.push o, gs, dr, tk, os⟩ → wpAny (model prog w) A' (pyIter v) Q E ⟨hp, gs, dr, tk, os⟩ := fun q => B.iter prog w _ _ ⟨hp, gs, dr, tk, os⟩ _ b1 q
    wp_walk using go
    refine wpAny_stack_any fun _ => wpAny_pure ?_
    split
    · rename_i cc _ _ _ _ _
      cases (cc == Value.type "enumerate") <;> (wp_walk using go; exact ⟨_, rfl, fin⟩)
    · wp_walk using go
      exact ⟨_, rfl, fin⟩
theorem enum_call {prog : Program} {w : World} {A : Around} {E : Value → Shared → Prop} {s : Shared} {v : Value} {o : Obj} {Hh : Heap → Prop} {Q : Value → Shared → Prop} (B : Begins v o Hh) (b1 : Hh s.heap)
    (fin : ∀ h', IsEnum h' (s.heap.objs.size + 1) s.heap.objs.size 0 .none → h'.get? s.heap.objs.size = some o → (∀ b u, s.heap.get? b = some u → h'.get? b = some u) → Q (.ref (s.heap.objs.size + 1)) { s with heap := h' }) :
    wpAny (model prog w) A (call (.type "enumerate") [v]) Q E s := by
  refine callType_new F.called_enumerate (by decide) (F.typeCall_enumerate_1 _) (F.newCall_enumerate_1 _) (fun x => F.args_object_init_2 x _) F.entry_enumerate_new (enumMade B) ⟨b1, ?_⟩
  have sz : (s.heap.push o).objs.size = s.heap.objs.size + 1 := Heap.size_push ..
  show _ ∧ _
  rw [sz]
  have made : IsEnum ((s.heap.push o).push (enumNew s.heap.objs.size)) (s.heap.objs.size + 1) s.heap.objs.size 0 .none := by
    have z := Heap.get?_push_size (s.heap.push o) (o := enumNew s.heap.objs.size) rfl
    rw [sz] at z
    exact z
  exact ⟨⟨_, made, rfl⟩, fin _ made (Heap.get?_push_of_some _ (Heap.get?_push_size _ B.free)) fun b u x => Heap.get?_push_of_some _ (Heap.get?_push_of_some _ x)⟩
def ItET (K : PySem.W.Frag) (a : Addr) : It :=
  ⟨fun i G => ∃ (xs : List V) (x : V), SqT K G a xs ∧ xs[i]? = some x, fun i G v G' => ∃ T x, v = .ref T ∧ G T = none ∧ G' = upd G T (.tup [.int (i : Nat), x]) ∧ ∀ xs, SqT K G a xs → xs[i]? = some x,
    fun i G => ∃ xs : List V, SqT K G a xs ∧ xs.length = i⟩
theorem turnET {P : Program} {w : World} {K : PySem.W.Frag} {elts : List Expr} {kk : Nat} {tpos : Pos} (a e it : Addr) (hea : e ≠ a) :
    Turn P w K (.Tuple elts kk tpos) (ItET K a) [e, it] e (fun i h => (∃ old, IsEnum h e it ((i : Nat) : Int) old) ∧ h.IsTupleIter it a i ∧ e ≠ it) where
  mem := by simp
  obj := by
    rintro i h ⟨⟨old, he⟩, ⟨o, ho, _, hd⟩, _⟩ b hb
    rcases (show b = e ∨ b = it by simpa using hb) with rfl | rfl
    · exact ⟨_, he, fun v q => nomatch q⟩
    · exact ⟨o, ho, fun v q => by rw [hd] at q; cases q⟩
  keep := by
    rintro i h h' ⟨⟨old, he⟩, hi, hne⟩ kp
    exact ⟨⟨old, kp e (by simp) _ he⟩, hi.at fun o q => kp it (by simp) o q, hne⟩
  item := by
    intro X hP hw hK hc i pins s σ G E I hf st hg
    subst hP hw hK
    obtain ⟨⟨before, he⟩, hit, hne⟩ := st
    obtain ⟨xs, x, hq, hx⟩ := hg
    obtain ⟨its, rv, p, _⟩ := I.tuple hq
    obtain ⟨u, hu, rel⟩ := rv.get hx
    have eold : e < s.heap.objs.size := Heap.lt_size he
    have hil : it < s.heap.objs.size := by
      obtain ⟨_, q, _⟩ := hit
      exact Heap.lt_size q
    have ne2 : a ≠ it := fun z => by
      obtain ⟨o4, e4, c4, _⟩ := hit
      obtain ⟨o, oe, oc, _⟩ := p
      rw [z, e4] at oe
      cases oe
      rw [c4] at oc
      exact absurd oc (by decide)
    have D := Draws.tuple (prog := X.prog) (w := X.w) (A := X.A.in1) (I.ok.hd hc) it a ne2 its.toArray
    have lt : i < its.toArray.size := by
      have := (List.getElem?_eq_some_iff.mp hu).1
      simpa using this
    refine wpAny_pyNext_enum_itemD D he ⟨hit, p⟩ lt hne (by simp [hne, hea]) fun y h' tk py out st' at' _ kp => ?_
    have ey : y = u := Option.some.inj (py.symm.trans (by simpa using hu))
    subst ey
    refine ⟨_, rfl, wpAny_letOwnedTupleGo_enum (s := { s with heap := h', toks := tk + 1 }) out fun h'' he' sb => ?_⟩
    have at2 : h''.get? s.heap.objs.size = some { cls := .type "tuple", data := .seq #[.int i tk, y] } := (sb.2 _ (Nat.ne_of_gt eold)).trans at'
    have new : ObjOk X.prog X.w (upd G s.heap.objs.size (.tup [.int (i : Nat), x])) h'' s.heap.objs.size (.tup [.int (i : Nat), x]) :=
      ⟨by show 2 ≤ sizeLine; decide, [.int i tk, y], .cons ⟨_, rfl⟩ (.cons rel .nil), ⟨_, at2, rfl, _, rfl⟩⟩
    have I1 : Inv X pins σ (upd G s.heap.objs.size (.tup [.int (i : Nat), x])) { s with heap := h'', toks := tk + 1 } :=
      I.turnedNew (t' := tk + 1) (ch := [e, it]) (fun b ob hb q => (sb.2 b (fun z => hb (by simp [z]))).trans (kp b ob (fun z => hb (by simp [z])) (fun z => hb (by simp [z])) q)) hf (Nat.le_refl _) new
    refine ⟨.ref s.heap.objs.size, _, I1, rfl, ⟨_, x, rfl, I.hok.fresh (Nat.le_refl _), rfl, fun ys hy => by rw [I.tuple_inj hy hq]; exact hx⟩, ⟨⟨y, ?_⟩, st'.1.at fun o q => (sb.2 it (Ne.symm hne)).trans q, hne⟩, fun b hb => ?_⟩
    · rw [show ((i + 1 : Nat) : Int) = (i : Int) + 1 from Int.natCast_succ i]
      exact he'
    · have low : b < s.heap.objs.size := by
        rcases (show b = e ∨ b = it by simpa using hb) with rfl | rfl
        · exact eold
        · exact hil
      rw [upd_ne (Nat.ne_of_lt low)]
      exact (hf b hb).1
  done := by
    intro X hP hw hK hc i pins s σ G E I hf st hg
    subst hP hw hK
    obtain ⟨⟨before, he⟩, hit, hne⟩ := st
    obtain ⟨xs, hq, hx⟩ := hg
    obtain ⟨its, rv, p, _⟩ := I.tuple hq
    obtain ⟨f0, f1, _, f3, f4, f5⟩ := hf it (by simp)
    have ne2 : a ≠ it := fun z => by
      obtain ⟨o4, e4, c4, _⟩ := hit
      obtain ⟨o, oe, oc, _⟩ := p
      rw [z, e4] at oe
      cases oe
      rw [c4] at oc
      exact absurd oc (by decide)
    have D := Draws.tuple (prog := X.prog) (w := X.w) (A := X.A.in1) (I.ok.hd hc) it a ne2 its.toArray
    have ln : its.toArray.size = i := by
      rw [List.size_toArray, ← rv.length]
      exact hx
    refine wpAny_pyNext_enum_endD D he (by rw [ln]; exact ⟨hit, p⟩) fun h' eb => ⟨rfl, I.turned (t' := s.toks) (fun b o hb q => eb b o hb q) f0 f1 f3 f4 f5⟩
  self := by
    rintro A i s Q E ⟨⟨_, he⟩, _⟩ h
    exact wpAny_pyIter_enum he h
def iEnT (K : PySem.W.Frag) (ta : TA) : TI := fun σ G R => ta σ G fun vs G1 => ∃ a xs, vs = [.ref a] ∧ SqT K G1 a xs ∧ R (ItET K a) G1
theorem pi_enT {X : Cx} {e : Expr} {ta : TA} {p pos tpos : Pos} {elts : List Expr} {kk : Nat} (hg : Gl X "enumerate") (hm : X.mg "enumerate" = none) (ha : PA X [e] ta) (hs : starEach [e] X.env = [(false, eval e X.env)] := by rfl) :
    PI X (.Tuple elts kk tpos) (.Call (.Name "enumerate" p) [e] [] pos) (iEnT X.K ta) := by
  refine ⟨fun pins s σ G R I h => Call_ (ld_blt I hg hm boot_enumerate (PyProof.Rows.callWith_type1 (thn (ha.run pos pins s σ G _ I h) fun us s1 ⟨vs, G1, I1, r1, q1⟩ => ?_) hs rfl))⟩
  obtain ⟨a, xs, rfl, hq, q⟩ := q1
  cases r1 with
  | cons r rr =>
    cases rr
    cases r
    obtain ⟨its, rv, p', _⟩ := I1.tuple hq
    refine enum_call (begins_tuple a its.toArray) p' fun h' he hit kp => wpAny_pyIter_enum he ?_
    have low : a < s1.heap.objs.size := by
      obtain ⟨o, ho, _⟩ := p'
      exact Heap.lt_size ho
    refine ⟨s1.heap.objs.size + 1, [s1.heap.objs.size + 1, s1.heap.objs.size], _, _, G1, rfl, I1.kept (t' := s1.toks) kp, turnET a (s1.heap.objs.size + 1) s1.heap.objs.size (Nat.ne_of_gt (Nat.lt_succ_of_lt low)), ⟨⟨.none, he⟩, ⟨_, hit, rfl, rfl⟩, Nat.succ_ne_self _⟩, fun b hb => ?_, q⟩
    have le : s1.heap.objs.size ≤ b := by
      rcases (show b = s1.heap.objs.size + 1 ∨ b = s1.heap.objs.size by simpa using hb) with rfl | rfl
      · exact Nat.le_add_right _ _
      · exact Nat.le_refl _
    exact I1.fpOk le (I1.hok.fresh le)
end C2

namespace C2
set_option Elab.async false
set_option linter.all false
set_option maxRecDepth 100000
set_option maxHeartbeats 4000000
open PySem PySem.Spec PyProof.Rows L2
structure Plain (ds : List PyData) (dp wt : Nat) : Prop where
  sh : PyData.showableAll ds = true
  hd : PyData.hasDictAll ds = false
  ls : PyData.leavesShortAll 8 ds = true
  dp : PyData.depthAll ds ≤ dp
  wt : PyData.weightAll ds ≤ wt
  cl : PyData.canLayAll0 ds = true
theorem Plain.nil (dp : Nat) : Plain [] dp 0 := ⟨by simp [PyData.showableAll], by simp [PyData.hasDictAll], by simp [PyData.leavesShortAll], by simp [PyData.depthAll], by simp [PyData.weightAll], by simp [PyData.canLayAll0]⟩
theorem Plain.tup {ds : List PyData} {dp wt : Nat} (h : Plain ds dp wt) : Plain [.tuple ds] (dp + 1) (wt + 1) := by
  obtain ⟨i1, i2, i3, i4, i5, i6⟩ := h
  refine ⟨?_, ?_, ?_, ?_, ?_, ?_⟩ <;> simp only [PyData.showableAll, PyData.hasDictAll, PyData.leavesShortAll, PyData.depthAll, PyData.weightAll, PyData.canLayAll0, PyData.showable, PyData.hasDict, PyData.leavesShort, PyData.depth, PyData.weight, PyData.canLay0, i1, i2, i3, i6]
  · rfl
  · rfl
  · rfl
  · omega
  · omega
  · rfl
theorem Plain.lst {ds : List PyData} {dp wt : Nat} (h : Plain ds dp wt) : Plain [.list ds] (dp + 1) (wt + 1) := by
  obtain ⟨i1, i2, i3, i4, i5, i6⟩ := h
  refine ⟨?_, ?_, ?_, ?_, ?_, ?_⟩ <;> simp only [PyData.showableAll, PyData.hasDictAll, PyData.leavesShortAll, PyData.depthAll, PyData.weightAll, PyData.canLayAll0, PyData.showable, PyData.hasDict, PyData.leavesShort, PyData.depth, PyData.weight, PyData.canLay0, i1, i2, i3, i6]
  · rfl
  · rfl
  · rfl
  · omega
  · omega
  · rfl
theorem Plain.cons {d : PyData} {ds : List PyData} {dp wt wt' : Nat} (h : Plain [d] dp wt) (h' : Plain ds dp wt') : Plain (d :: ds) dp (wt + wt') := by
  obtain ⟨i1, i2, i3, i4, i5, i6⟩ := h
  obtain ⟨j1, j2, j3, j4, j5, j6⟩ := h'
  simp only [PyData.showableAll, PyData.hasDictAll, PyData.leavesShortAll, PyData.depthAll, PyData.weightAll, PyData.canLayAll0, Bool.and_true, Bool.or_false] at i1 i2 i3 i4 i5 i6
  refine ⟨?_, ?_, ?_, ?_, ?_, ?_⟩ <;> simp only [PyData.showableAll, PyData.hasDictAll, PyData.leavesShortAll, PyData.depthAll, PyData.weightAll, PyData.canLayAll0, i1, i2, i3, i6, j1, j2, j3, j6]
  · rfl
  · rfl
  · rfl
  · omega
  · omega
  · rfl
/-- what repr and == ask of a thing -/
structure Fine (d : PyData) : Prop where
  sh : d.showable = true
  hd : d.hasDict = false
  dp : d.depth ≤ 60
  ln : d.shown.length ≤ sizeLine
  sp : SeqAt.shaped d = true
theorem Plain.fine {d : PyData} {dp wt : Nat} (h : Plain [d] dp wt) (hd : dp ≤ 60) (hw : wt ≤ 210000) : Fine d := by
  obtain ⟨i1, i2, i3, i4, i5, i6⟩ := h
  simp only [PyData.showableAll, PyData.hasDictAll, PyData.leavesShortAll, PyData.depthAll, PyData.weightAll, PyData.canLayAll0, Bool.and_true, Bool.or_false] at i1 i2 i3 i4 i5 i6
  refine ⟨i1, i2, by omega, ?_, ?_⟩
  · have := PyData.shown_le 8 (by decide) d i3
    have s : 4000000 ≤ sizeLine := by decide
    omega
  · unfold SeqAt.shaped
    rw [i6, decide_eq_true (show d.depth ≤ 64 by omega)]
    rfl
theorem sameT {K : PySem.W.Frag} {G G' : Hp} {b : Addr} {xs : List V} (s : Same G G') (h : SqT K G b xs) : SqT K G' b xs := by
  rcases h with (h | ⟨o, h⟩) | h
  · exact .inl (.inl (s _ _ h))
  · exact .inl (.inr ⟨o, s _ _ h⟩)
  · exact .inr h
theorem freshSeq {K : PySem.W.Frag} {p a : Addr} {G G' : Hp} {xs : List V} (h : SqL K G a xs) (n : G p = none) (f : Fr p G G') : SqL K G' a xs := by
  rcases h with (h | ⟨o, h⟩) | h
  · exact .inl (.inl (f _ _ (ne_of_none h n) h))
  · exact .inl (.inr ⟨o, f _ _ (ne_of_none h n) h⟩)
  · exact .inr h

/-! ### wires as data -/
def vD : V → PyData
  | .int i => .int i
  | .str x => .str x
  | .bl b => .bool b
  | _ => .none
abbrev dW (x : List V) : PyData := .tuple (x.map vD)
abbrev dWW (L : List (List V)) : PyData := .tuple (L.map dW)
def okD (d : PyData) : Bool := PyData.showable d && PyData.leavesShort 8 d && decide (PyData.weight d ≤ 19) && PyData.canLay0 d && !PyData.hasDict d && decide (PyData.depth d ≤ 0)
theorem okD_ints : ((List.range 42).all fun n => okD (.int (n : Int))) = true := by decide +kernel
theorem okD_row : okD (.str "row") = true := by decide +kernel
theorem okD_col : okD (.str "column") = true := by decide +kernel
theorem okD_int {n : Nat} (h : n < 42) : okD (.int (n : Int)) = true := List.all_eq_true.mp okD_ints n (List.mem_range.mpr h)
theorem Plain.one {d : PyData} (h : okD d = true) : Plain [d] 0 20 := by
  unfold okD at h
  simp only [Bool.and_eq_true, decide_eq_true_eq, Bool.not_eq_true'] at h
  obtain ⟨⟨⟨⟨⟨h1, h2⟩, h3⟩, h4⟩, h5⟩, h6⟩ := h
  have h6' : PyData.depth d = 0 := Nat.le_zero.mp h6
  refine ⟨?_, ?_, ?_, ?_, ?_, ?_⟩ <;> simp only [PyData.showableAll, PyData.hasDictAll, PyData.leavesShortAll, PyData.depthAll, PyData.weightAll, PyData.canLayAll0, h1, h2, h4, h5, h6']
  · rfl
  · rfl
  · rfl
  · decide
  · omega
  · rfl
/-- a wire's three parts -/
inductive Wr : List V → Prop where
  | row {j x : Nat} (h1 : j < 42) (h2 : x < 42) : Wr (rowW j x)
  | col {i y : Nat} (h1 : i < 42) (h2 : y < 42) : Wr (colW i y)
theorem Wr.plain {x : List V} (h : Wr x) : Plain [dW x] 1 61 := by
  cases h with
  | row h1 h2 => exact ((Plain.one okD_row).cons ((Plain.one (okD_int h1)).cons (Plain.one (okD_int h2)))).tup
  | col h1 h2 => exact ((Plain.one okD_col).cons ((Plain.one (okD_int h1)).cons (Plain.one (okD_int h2)))).tup
theorem Wr.all : ∀ {L : List (List V)}, (∀ x ∈ L, Wr x) → Plain (L.map dW) 1 (61 * L.length)
  | [], _ => Plain.nil 1
  | x :: r, h => by
    have z := (h x List.mem_cons_self).plain.cons (Wr.all fun y hy => h y (List.mem_cons_of_mem _ hy))
    have e : PyData.weightAll (List.map dW (x :: r)) ≤ 61 + 61 * r.length := z.wt
    exact ⟨z.sh, z.hd, z.ls, z.dp, by rw [List.length_cons]; omega, z.cl⟩
theorem fineW {L : List (List V)} (h : ∀ x ∈ L, Wr x) (hl : L.length ≤ 3300) : Fine (dWW L) := by
  have z := (Wr.all h).tup
  exact z.fine (by decide) (by omega)
theorem Wr.dp {K : PySem.W.Frag} {G : Hp} {x : List V} (h : Wr x) : DpAll K G x (x.map vD) := by
  cases h with
  | row h1 h2 => exact .cons (.str _) (.cons (.int _) (.cons (.int _) .nil))
  | col h1 h2 => exact .cons (.str _) (.cons (.int _) (.cons (.int _) .nil))
theorem dpW {K : PySem.W.Frag} {G : Hp} : ∀ {cs : List (Addr × List V)}, CellsV G cs → (∀ c ∈ cs, Wr c.2) → DpAll K G (vrefs cs) ((cs.map (·.2)).map dW)
  | [], _, _ => .nil
  | c :: r, h, hw => .cons (.tup (.inl (.inl (h c List.mem_cons_self))) (hw c List.mem_cons_self).dp) (dpW (fun d hd => h d (List.mem_cons_of_mem _ hd)) fun d hd => hw d (List.mem_cons_of_mem _ hd))
theorem wr_wires {a b : Nat} (ha : a ≤ 40) (hb : b ≤ 40) : ∀ x ∈ wiresOf a b, Wr x := by
  intro x hx
  unfold wiresOf rowsL at hx
  rcases List.mem_append.mp hx with hx | hx
  · obtain ⟨i, hi, hx⟩ := List.mem_flatMap.mp hx
    obtain ⟨y, hy, rfl⟩ := List.mem_map.mp hx
    have := List.mem_range.mp hi
    have := List.mem_range.mp hy
    exact .col (by omega) (by omega)
  · obtain ⟨i, hi, hx⟩ := List.mem_flatMap.mp hx
    obtain ⟨y, hy, rfl⟩ := List.mem_map.mp hx
    have := List.mem_range.mp hi
    have := List.mem_range.mp hy
    exact .row (by omega) (by omega)
theorem wr_legs {i j : Nat} (ha : i < 40) (hb : j < 40) : ∀ x ∈ legsOf i j, Wr x := by
  intro x hx
  simp only [legsOf, List.mem_cons, List.not_mem_nil, or_false] at hx
  rcases hx with rfl | rfl | rfl | rfl
  · exact .row (by omega) (by omega)
  · exact .col (by omega) (by omega)
  · exact .row (by omega) (by omega)
  · exact .col (by omega) (by omega)
end C2

namespace C2
set_option Elab.async false
set_option linter.all false
set_option maxRecDepth 100000
set_option maxHeartbeats 800000
open PySem PySem.Spec PyProof.Rows L2
section
variable {P : Program} {w : World} {K : PySem.W.Frag} {mg : Str → Option Value} {base : Heap}
theorem u1 {n c : Nat} (h : n + 64 < c) : n + 1 < c := by omega
theorem for_enT {a : Addr} {xs : List V} {g : TG} {tb : TS} {D : Ends} {σ : L2.St} {H : Hp} (Pv : Nat → L2.St → Hp → Prop) (h0 : Pv 0 σ H) (hl : ∀ i σ H, i ≤ xs.length → Pv i σ H → SqT K H a xs)
    (hs : ∀ i x σ H T, xs[i]? = some x → Pv i σ H → H T = none → g (.ref T) σ (upd H T (.tup [.int (i : Nat), x])) fun σ2 H2 => tb { D with nx := Pv (i + 1), ct := Pv (i + 1), bk := D.nx } σ2 H2) (hd : ∀ σ H, Pv xs.length σ H → D.nx σ H) :
    ∃ Wh : Nat → Nat → L2.St → Hp → Prop, (∃ left, Wh 0 left σ H) ∧ ∀ i m σ H, Wh i m σ H →
      ((ItET K a).stop i H ∧ D.nx σ H) ∨ ((ItET K a).go i H ∧ ∃ N : L2.St → Hp → Prop, (∀ σ' H', N σ' H' → ∃ m', m' < m ∧ Wh (i + 1) m' σ' H') ∧ ∀ x H', (ItET K a).yld i H x H' → g x σ H' fun σ2 H2 => tb { D with nx := N, ct := N, bk := D.nx } σ2 H2) := by
  refine ⟨fun i m σ H => m = xs.length - i ∧ i ≤ xs.length ∧ Pv i σ H, ⟨xs.length, by omega, Nat.zero_le _, h0⟩, ?_⟩
  rintro i m σ G ⟨rfl, hi, p⟩
  have q := hl i σ G hi p
  by_cases lt : i < xs.length
  · refine .inr ⟨⟨xs, xs[i], q, by simp [lt]⟩, Pv (i + 1), fun σ' G' p' => ⟨xs.length - (i + 1), by omega, rfl, lt, p'⟩, fun x G' y => ?_⟩
    obtain ⟨T, x', rfl, nT, rfl, y⟩ := y
    exact hs i x' σ G T (y xs q) p nT
  · obtain rfl : i = xs.length := by omega
    exact .inl ⟨⟨xs, q, rfl⟩, hd σ G p⟩
theorem wires_mem {a b : Nat} {x : List V} (h : x ∈ wiresOf a b) : (∃ j y, j < b ∧ y ≤ a ∧ x = rowW j y) ∨ ∃ i y, i < a ∧ y ≤ b ∧ x = colW i y := by
  unfold wiresOf rowsL at h
  rcases List.mem_append.mp h with h | h
  · obtain ⟨i, hi, h⟩ := List.mem_flatMap.mp h
    obtain ⟨y, hy, rfl⟩ := List.mem_map.mp h
    have z := List.mem_range.mp hy
    exact .inr ⟨i, y, List.mem_range.mp hi, by omega, rfl⟩
  · obtain ⟨i, hi, h⟩ := List.mem_flatMap.mp h
    obtain ⟨y, hy, rfl⟩ := List.mem_map.mp h
    have z := List.mem_range.mp hy
    exact .inl ⟨i, y, List.mem_range.mp hi, by omega, rfl⟩
/-- the legs that are due: e0 within, e1 within -/
def dueL (e0 e1 : Int) (y n : Nat) : List Int := (if 0 < y ∧ y ≤ n then [e0] else []) ++ (if y < n then [e1] else [])
theorem dueL_len (e0 e1 : Int) (y n : Nat) : (dueL e0 e1 y n).length < 64 := by
  unfold dueL
  split <;> split <;> simp
theorem dueL_v (e0 e1 : Int) (y n : Nat) : (dueL e0 e1 y n).map V.int = (if 0 < y ∧ y ≤ n then [V.int e0] else []) ++ (if y < n then [V.int e1] else []) := by
  unfold dueL
  split <;> split <;> rfl
theorem rep_due (e0 e1 : Int) {y n : Nat} (hy : y ≤ n) : (List.replicate (if decide ((0 : Int) < (y : Int)) = true then (1 : Int) else 0).toNat [V.int e0]).flatten ++ (List.replicate (if decide ((y : Int) < (n : Int)) = true then (1 : Int) else 0).toNat [V.int e1]).flatten = (dueL e0 e1 y n).map V.int := by
  rw [dueL_v]
  by_cases c1 : 0 < y <;> by_cases c2 : y < n
  · rw [if_pos (decide_eq_true (by omega)), if_pos (decide_eq_true (by omega)), if_pos ⟨c1, hy⟩, if_pos c2]; rfl
  · rw [if_pos (decide_eq_true (by omega)), if_neg (fun z => c2 (by have := of_decide_eq_true z; omega)), if_pos ⟨c1, hy⟩, if_neg c2]; rfl
  · rw [if_neg (fun z => c1 (by have := of_decide_eq_true z; omega)), if_pos (decide_eq_true (by omega)), if_neg (by omega), if_pos c2]; rfl
  · rw [if_neg (fun z => c1 (by have := of_decide_eq_true z; omega)), if_neg (fun z => c2 (by have := of_decide_eq_true z; omega)), if_neg (by omega), if_neg c2]; rfl
theorem sorted_one {ns xs ys : List Int} (h1 : xs.Perm ns) (h2 : xs.Pairwise (· ≤ ·)) (h3 : ys.Perm ns) (h4 : ys.Pairwise (· ≤ ·)) : xs = ys :=
  List.Perm.eq_of_pairwise (fun _ _ _ _ p q => Int.le_antisymm p q) h2 h4 (h1.trans h3.symm)
theorem dp_ints {G : Hp} : ∀ x : List Int, DpAll K G (x.map V.int) (x.map PyData.int)
  | [] => .nil
  | v :: r => .cons (.int v) (dp_ints r)
theorem shaped_ints (ns : List Int) : SeqAt.shaped (.list (ns.map PyData.int)) = true := by
  have c : ∀ xs : List Int, PyData.canLayAll0 (xs.map PyData.int) = true ∧ PyData.depthAll (xs.map PyData.int) = 0 := by
    intro xs
    induction xs with
    | nil => exact ⟨by simp [PyData.canLayAll0], by simp [PyData.depthAll]⟩
    | cons x r ih => exact ⟨by simp [PyData.canLayAll0, PyData.canLay0, ih.1], by simp [PyData.depthAll, PyData.depth, ih.2]⟩
  unfold SeqAt.shaped
  have e1 : PyData.canLay0 (.list (ns.map PyData.int)) = true := by simp [PyData.canLay0, (c ns).1]
  have e2 : PyData.depth (.list (ns.map PyData.int)) = 1 := by simp [PyData.depth, (c ns).2]
  rw [e1, e2]
  rfl
theorem eqv_one (ns : List Int) : PyData.eqv (.list (ns.map PyData.int)) (.list (ns.map PyData.int)) = true := by
  have z := shaped_ints ns
  unfold SeqAt.shaped at z
  rw [Bool.and_eq_true] at z
  exact SeqAt.eqv_refl _ z.1
def rInt1 : List V → Hp → VK → Prop := fun xs H Q => (∃ i, xs = [V.int i] ∧ Q (V.int i) H) ∨ ∃ k, xs = [V.bl k] ∧ Q (V.int (if k = true then 1 else 0)) H
def tDueR (K : PySem.W.Frag) : TE := tOp rCat (tOp rRep (tSl (rSlL K) (tVar 12) tNoPart (tPart (tC (V.int 1)))) (tCB rInt1 (tCons (tOp (rI0 fun i j => V.bl (decide (j < i))) (tVar 10) (tC (V.int 0))) tNil)))
  (tOp rRep (tSl (rSlL K) (tVar 12) (tPart (tC (V.int 1))) tNoPart) (tCB rInt1 (tCons (tOp (rI0 fun i j => V.bl (decide (i < j))) (tVar 10) (tVar 11)) tNil)))
theorem due_run {σ : L2.St} {e0 e1 : Int} {y n : Nat} {l1 : Addr} {G : Hp} {Q : VK} (h10 : σ[10]? = some (some (.int (y : Int)))) (h11 : σ[11]? = some (some (.int (n : Int)))) (h12 : σ[12]? = some (some (.ref l1))) (hl : G l1 = some (.lst [.int e0, .int e1])) (hy : y ≤ n)
    (q : ∀ r G', Same G G' → G' r = some (.lst ((dueL e0 e1 y n).map V.int)) → Q (.ref r) G') : tDueR K σ G Q := by
  refine ⟨.ref l1, h12, 1, rfl, l1, _, rfl, .inl (.inl hl), fun q1 nq1 => ?_⟩
  have s5 := same_upd (o := .lst (cutV [.int e0, .int e1] none (some 1))) nq1
  refine ⟨.int (y : Int), h10, _, _, rfl, rfl, .inr ⟨_, rfl, q1, _, _, rfl, rfl, upd_same, ?_, ?_, ?_, fun r1 nr1 => ?_⟩⟩
  · split <;> decide
  · split <;> decide
  · split
    · exact (show 1 * 1 ≤ sizeLine by decide)
    · exact (show 1 * 0 ≤ sizeLine by decide)
  have s6 := same_upd (o := .lst (List.replicate (if decide ((0 : Int) < (y : Int)) = true then (1 : Int) else 0).toNat (cutV [.int e0, .int e1] none (some 1))).flatten) nr1
  refine ⟨.ref l1, h12, 1, rfl, l1, _, rfl, .inl (.inl (s6 _ _ (s5 _ _ hl))), fun q2 nq2 => ?_⟩
  have s7 := same_upd (o := .lst (cutV [.int e0, .int e1] (some 1) none)) nq2
  refine ⟨.int (y : Int), h10, .int (n : Int), h11, _, _, rfl, rfl, .inr ⟨_, rfl, q2, _, _, rfl, rfl, upd_same, ?_, ?_, ?_, fun r2 nr2 => ?_⟩⟩
  · split <;> decide
  · split <;> decide
  · split
    · exact (show 1 * 1 ≤ sizeLine by decide)
    · exact (show 1 * 0 ≤ sizeLine by decide)
  have s8 := same_upd (o := .lst (List.replicate (if decide ((y : Int) < (n : Int)) = true then (1 : Int) else 0).toNat (cutV [.int e0, .int e1] (some 1) none)).flatten) nr2
  have e := rep_due e0 e1 hy
  refine ⟨r1, r2, _, _, rfl, rfl, s8 _ _ (s7 _ _ upd_same), upd_same, ?_, fun r3 nr3 => ?_⟩
  · rw [← List.length_append]
    refine Nat.le_trans (Nat.le_of_eq (congrArg List.length e)) ?_
    rw [List.length_map]
    exact Nat.le_trans (Nat.le_of_lt (dueL_len _ _ _ _)) (by decide)
  · refine q r3 _ (s5.trans (s6.trans (s7.trans (s8.trans (same_upd nr3))))) ?_
    rw [upd_same]
    exact congrArg (fun xs => some (HO.lst xs)) e
def tTestR (K : PySem.W.Frag) : TT := tTest (tOp (rNeD K) (tCB (rSorted K) (tCons (tDGet2 (tVar 2) (tTup (tCons (tVar 8) (tCons (tVar 9) (tCons (tVar 10) tNil)))) (tLst tNil)) tNil)) (tCB (rSorted K) (tCons (tVar 5) tNil)))
theorem test_run {σ : L2.St} {key : List Key} {w1 w2 w3 : V} {m r : Addr} {H G : Hp} {es : List (List Key × Int)} {du : List Int} {Q : Bool → Hp → Prop} (h2 : σ[2]? = some (some (.ref m))) (h5 : σ[5]? = some (some (.ref r))) (h8 : σ[8]? = some (some w1)) (h9 : σ[9]? = some (some w2)) (h10 : σ[10]? = some (some w3))
    (M : Met H G m es) (ek : key.map kV = [w1, w2, w3]) (hr : G r = some (.lst (du.map V.int))) (d64 : du.length < 64) (et : told key es = du.map V.int) (q : ∀ G', Same G G' → Q false G') : tTestR K σ G Q := by
  obtain ⟨kvs, hm, _, hk, _⟩ := M.ex
  refine ⟨.ref m, h2, m, rfl, .inr ⟨kvs, .inl hm⟩, w1, h8, w2, h9, w3, h10, by show 3 ≤ sizeLine; decide, fun tk ntk => ⟨by decide, fun z nz => ?_⟩⟩
  have s1 := same_upd (o := .tup [w1, w2, w3]) ntk
  have s2 := same_upd (o := .lst []) nz
  have hm2 := s2 _ _ (s1 _ _ hm)
  have ht2 : (upd (upd G tk (.tup [w1, w2, w3])) z (.lst [])) tk = some (.tup (key.map kV)) := by
    rw [ek]
    exact s2 _ _ upd_same
  refine ⟨_, DGet.t (k := key) hm2 ht2, ?_⟩
  have key2 : ∃ l, (valV kvs key).getD (.ref z) = .ref l ∧ (upd (upd G tk (.tup [w1, w2, w3])) z (.lst [])) l = some (.lst (du.map V.int)) := by
    by_cases c : told key es = []
    · refine ⟨z, by rw [(hk key).1 c]; rfl, ?_⟩
      rw [upd_same, ← et, c]
    · obtain ⟨l, a1, a2, _⟩ := (hk key).2 c
      exact ⟨l, by rw [a1]; rfl, by rw [← et]; exact s2 _ _ (s1 _ _ a2)⟩
  obtain ⟨l, el, hl⟩ := key2
  rw [el]
  refine ⟨l, du, rfl, .inl (.inl hl), d64, fun n1 p1 pm1 so1 np1 => ?_⟩
  have s3 := same_upd (o := .lst (n1.map V.int)) np1
  refine ⟨.ref r, h5, r, du, rfl, .inl (.inl (s3 _ _ (s2 _ _ (s1 _ _ hr)))), d64, fun n2 p2 pm2 so2 np2 => ?_⟩
  have s4 := same_upd (o := .lst (n2.map V.int)) np2
  have en := sorted_one pm1 so1 pm2 so2
  subst en
  refine ⟨_, _, .lst (.inl (.inl (s4 _ _ upd_same))) (dp_ints n1), .lst (.inl (.inl upd_same)) (dp_ints n1), shaped_ints n1, shaped_ints n1, ?_⟩
  rw [eqv_one]
  exact ⟨false, rfl, q _ (s1.trans (s2.trans (s3.trans s4)))⟩
abbrev NLR : List Str := ["_law_a", "_law_b", "_law_met", "_law_j", "_law_i", "_law_due", "_law_leg", "_law_wire", "_law_word", "_law_thread", "_law_place", "_law_most", "_law_ends"]
theorem scLegsRight : FnScope NLR ["_law_a", "_law_b"] (defScope sLegsRight) := ⟨rfl, rfl, rfl, by decide +kernel, rfl, by decide +kernel, by decide +kernel⟩
def spLegsRight : Sp := fun vs H Q _ => ∃ a b : Nat, vs = [.int (a : Int), .int (b : Int)] ∧ a ≤ 40 ∧ b ≤ 40 ∧ ∀ H', Same H H' → Q (.bl true) H'
theorem ok_legsright {f fG fA : Addr} {fd fdG fdA : FuncData} {k : Nat} (F : Fun K "_law_legs_right" "_law_legs_right" sLegsRight f fd) (FG : Fun K "legs" "legs" sLegs fG fdG) (FA : Fun K "_law_all" "_law_all" sAll fA fdA)
    (bG : Binds K fdG ["i", "j"] []) (bA : Binds K fdA ["_law_a", "_law_b"] []) (gG : mg "legs" = some (.ref fG)) (gA : mg "_law_all" = some (.ref fA)) (mr : mg "range" = none) (mt : mg "tuple" = none) (mrep : mg "repr" = none) (men : mg "enumerate" = none) (mint : mg "int" = none) (msort : mg "sorted" = none) :
    FnG P w K mg base (k + 2) f fd ["_law_a", "_law_b"] spLegsRight := by
  have GG : FnOk P w K mg base CX0 1 fG fdG ["i", "j"] spLegs := ok_legs FG
  have GA : FnOk P w K mg base CX0 1 fA fdA ["_law_a", "_law_b"] spWires := ok_all FA mt mr
  refine okG F scLegsRight (fun vs H Q E h => ?_) (fun cdv A outer s H vs Q E hgd hr h => ?_)
  · obtain ⟨a, b, rfl, _⟩ := h
    rfl
  · obtain ⟨a, b, rfl, ha, hb, q⟩ := h
    have nd := scLegsRight.nd
    refine ⟨_, pss_cons (ps_set (i := 2) nd rfl (.inl rfl) pe_dnewT)
      (pss_cons (ps_for PassesOwn.never rfl (pi_range1 (by rfl) mr (pa_cons (pv 1) pa_nil)) (pg_name (i := 3) nd rfl (.inl rfl)) (pss_one (ps_for PassesOwn.never rfl (pi_range1 (by rfl) mr (pa_cons (pv 0) pa_nil)) (pg_name (i := 4) nd rfl (.inl rfl)) (pss_cons (ps_set (i := 5) nd rfl (.inl rfl) (pe_tup (pa_cons (pe_tup (pa_cons pe_str (pa_cons (pv 3) (pa_cons (pv 4) pa_nil)))) (pa_cons (pe_tup (pa_cons pe_str (pa_cons (pv 4) (pa_cons (pv 3) pa_nil)))) (pa_cons (pe_tup (pa_cons pe_str (pa_cons (pv 3) (pa_cons (pe_op op_add (pv 4) pe_int) pa_nil)))) (pa_cons (pe_tup (pa_cons pe_str (pa_cons (pv 4) (pa_cons (pe_op op_add (pv 3) pe_int) pa_nil)))) pa_nil))))))
      (pss_cons (ps_if (pt_cmpR op_ne (pe_callB (call_reprD hr.units hgd) (by rfl) mrep (by decide +kernel) (pa_cons (pe_call GG (hr.mono (by omega)) (by rfl) gG FG.kp bG .nil pass0 (pa_cons (pv 4) (pa_cons (pv 3) pa_nil))) pa_nil)) (pe_callB (call_reprD hr.units hgd) (by rfl) mrep (by decide +kernel) (pa_cons (pv 5) pa_nil)) (nomark _)) (pss_one (ps_ret pe_bl)) pss_nil)
      (pss_one (ps_for PassesOwn.never rfl (pi_enT (by rfl) men (pa_cons (pv 5) pa_nil)) (pg_tup rfl (pgs_cons (pg_name (i := 6) nd rfl (.inl rfl)) (pgs_cons (pg_name (i := 7) nd rfl (.inl rfl)) pgs_nil))) (pss_one (ps_expr (pe_bm PySem.F.plainAttrs_list PySem.F.slot_list_append PySem.F.type_list_append mt_append (pe_dsetdT (u1 hr.units) (pv 2) (pv 7) (pe_lst pa_nil) ⟨rfl, rfl, rfl, rfl⟩) (pa_cons (pv 6) pa_nil)))))))))))
      (pss_cons (ps_for PassesOwn.never rfl (pi_tup (pe_call GA (hr.mono (by omega)) (by rfl) gA FA.kp bA .nil pass0 (pa_cons (pv 0) (pa_cons (pv 1) pa_nil)))) (pg_tup rfl (pgs_cons (pg_name (i := 8) nd rfl (.inl rfl)) (pgs_cons (pg_name (i := 9) nd rfl (.inl rfl)) (pgs_cons (pg_name (i := 10) nd rfl (.inl rfl)) pgs_nil)))) (pss_cons (ps_asg (pe_ifExp (pt_cmpR op_eq (pv 8) pe_str (nomark _)) (pe_tup (pa_cons (pv 0) (pa_cons (pe_lst (pa_cons pe_int (pa_cons pe_int pa_nil))) pa_nil))) (pe_tup (pa_cons (pv 1) (pa_cons (pe_lst (pa_cons pe_int (pa_cons pe_int pa_nil))) pa_nil)))) (pg_tup rfl (pgs_cons (pg_name (i := 11) nd rfl (.inl rfl)) (pgs_cons (pg_name (i := 12) nd rfl (.inl rfl)) pgs_nil))))
      (pss_cons (ps_set (i := 5) nd rfl (.inl rfl) (pe_op op_cat (pe_op op_rep (pe_slice sl_list (pv 12) po_none (po_some pe_int)) (pe_callTy call_int1 (by rfl) mint (by decide +kernel) (pa_cons (pe_cmpR op_gt (pv 10) pe_int (nomark _)) pa_nil))) (pe_op op_rep (pe_slice sl_list (pv 12) (po_some pe_int) po_none) (pe_callTy call_int1 (by rfl) mint (by decide +kernel) (pa_cons (pe_cmpR op_lt (pv 10) (pv 11) (nomark _)) pa_nil)))))
      (pss_one (ps_if (pt_cmpR (op_neD hr.units) (pe_callB cr_sorted (by rfl) msort (by decide +kernel) (pa_cons (pe_dget2 (u1 hr.units) (pv 2) (pe_tup (pa_cons (pv 8) (pa_cons (pv 9) (pa_cons (pv 10) pa_nil)))) (pe_lst pa_nil) ⟨rfl, rfl, rfl, rfl⟩) pa_nil)) (pe_callB cr_sorted (by rfl) msort (by decide +kernel) (pa_cons (pv 5) pa_nil)) (nomark _)) (pss_one (ps_ret pe_bl)) pss_nil)))))
      (pss_one (ps_ret pe_bl)))), ?_⟩
    intro m nm
    refine ⟨.int (b : Int), rfl, (b : Int), rfl, by omega, by omega, ?_⟩
    refine for_range (lo := 0) (n := b) (fun j σ G => Met H G m (allE a j) ∧ ∃ y1 y2 y3 y4 y5 y6 y7 y8 y9 y10, σ = [some (.int (a : Int)), some (.int (b : Int)), some (.ref m), y1, y2, y3, y4, y5, y6, y7, y8, y9, y10]) ⟨⟨same_upd nm, nm, [], upd_same, Nat.zero_le _, fun k => ⟨fun _ => rfl, fun z => absurd rfl z⟩, fun k k' l z => nomatch z⟩, _, _, _, _, _, _, _, _, _, _, rfl⟩ ?_ ?_
    · rintro j σ G hj ⟨M, y1, y2, y3, y4, y5, y6, y7, y8, y9, y10, rfl⟩
      rw [Int.zero_add]
      refine ⟨.int (a : Int), rfl, (a : Int), rfl, by omega, by omega, ?_⟩
      refine for_range (lo := 0) (n := a) (fun i σ G => Met H G m (allE a j ++ rowE i j) ∧ ∃ y2 y3 y4 y5 y6 y7 y8 y9 y10, σ = [some (.int (a : Int)), some (.int (b : Int)), some (.ref m), some (.int (j : Int)), y2, y3, y4, y5, y6, y7, y8, y9, y10]) ⟨by rw [show rowE 0 j = [] from rfl, List.append_nil]; exact M, _, _, _, _, _, _, _, _, _, rfl⟩ ?_ ?_
      · rintro i σ G hi ⟨M, y2, y3, y4, y5, y6, y7, y8, y9, y10, rfl⟩
        rw [Int.zero_add]
        refine ⟨.int (j : Int), rfl, .int (i : Int), rfl, by show 3 ≤ sizeLine; decide, fun t1 n1 => ?_⟩
        refine ⟨.int (i : Int), rfl, .int (j : Int), rfl, by show 3 ≤ sizeLine; decide, fun t2 n2 => ?_⟩
        refine ⟨.int (j : Int), rfl, .int (i : Int), rfl, _, _, rfl, rfl, by show 3 ≤ sizeLine; decide, fun t3 n3 => ?_⟩
        refine ⟨.int (i : Int), rfl, .int (j : Int), rfl, _, _, rfl, rfl, by show 3 ≤ sizeLine; decide, fun t4 n4 => ?_⟩
        refine ⟨by show 4 ≤ sizeLine; decide, fun t nt => ?_⟩
        have s1 := same_upd (o := .tup (rowW j i)) n1
        have s2 := same_upd (o := .tup (colW i j)) n2
        have s3 := same_upd (o := .tup (rowW j (i + 1))) n3
        have s4 := same_upd (o := .tup (colW i (j + 1))) n4
        have s5 := same_upd (o := .tup [.ref t1, .ref t2, .ref t3, .ref t4]) nt
        have s15 := s1.trans (s2.trans (s3.trans (s4.trans s5)))
        have CD : CellsV (upd (upd (upd (upd (upd G t1 (.tup (rowW j i))) t2 (.tup (colW i j))) t3 (.tup (rowW j (i + 1)))) t4 (.tup (colW i (j + 1)))) t (.tup [.ref t1, .ref t2, .ref t3, .ref t4])) [(t1, rowW j i), (t2, colW i j), (t3, rowW j (i + 1)), (t4, colW i (j + 1))] := by
          intro c hc
          simp only [List.mem_cons, List.not_mem_nil, or_false] at hc
          rcases hc with rfl | rfl | rfl | rfl
          · exact s5 _ _ (s4 _ _ (s3 _ _ (s2 _ _ upd_same)))
          · exact s5 _ _ (s4 _ _ (s3 _ _ upd_same))
          · exact s5 _ _ (s4 _ _ upd_same)
          · exact s5 _ _ upd_same
        have TD : (upd (upd (upd (upd (upd G t1 (.tup (rowW j i))) t2 (.tup (colW i j))) t3 (.tup (rowW j (i + 1)))) t4 (.tup (colW i (j + 1)))) t (.tup [.ref t1, .ref t2, .ref t3, .ref t4])) t = some (.tup [.ref t1, .ref t2, .ref t3, .ref t4]) := upd_same
        have s15' : Same G (upd (upd (upd (upd (upd G t1 (.tup (rowW j i))) t2 (.tup (colW i j))) t3 (.tup (rowW j (i + 1)))) t4 (.tup (colW i (j + 1)))) t (.tup [.ref t1, .ref t2, .ref t3, .ref t4])) := s15
        change tSeq _ _ _ _ (upd (upd (upd (upd (upd G t1 (.tup (rowW j i))) t2 (.tup (colW i j))) t3 (.tup (rowW j (i + 1)))) t4 (.tup (colW i (j + 1)))) t (.tup [.ref t1, .ref t2, .ref t3, .ref t4]))
        generalize upd (upd (upd (upd (upd G t1 (.tup (rowW j i))) t2 (.tup (colW i j))) t3 (.tup (rowW j (i + 1)))) t4 (.tup (colW i (j + 1)))) t (.tup [.ref t1, .ref t2, .ref t3, .ref t4]) = G1 at CD TD s15' ⊢
        have M1 := M.same s15'
        clear s15 s1 s2 s3 s4 s5
        refine ⟨.int (i : Int), rfl, .int (j : Int), rfl, i, j, rfl, fun G2 u cs sm2 nu hu hcs ec => ?_⟩
        have wl := wr_legs (i := i) (j := j) (by omega) (by omega)
        have fw := fineW wl (by show 4 ≤ 3300; decide)
        have d1 : Dp K G2 (.ref u) (dWW (legsOf i j)) := .tup (.inl (.inl hu)) (by
          have z := dpW (K := K) hcs (fun c hc => wl c.2 (by rw [← ec]; exact List.mem_map.mpr ⟨c, hc, rfl⟩))
          rw [ec] at z
          exact z)
        have d2 : Dp K G2 (.ref t) (dWW (legsOf i j)) := .tup (.inl (.inl (sm2 _ _ TD))) (dpW (K := K) (CD.same sm2) (fun c hc => wl c.2 (by
          simp only [List.mem_cons, List.not_mem_nil, or_false] at hc
          rcases hc with rfl | rfl | rfl | rfl <;> simp [legsOf])))
        generalize dWW (legsOf i j) = dd at d1 d2 fw
        refine ⟨u, _, rfl, d1, fw.sh, fw.hd, fw.dp, fw.ln, .ref t, rfl, t, _, rfl, d2, fw.sh, fw.hd, fw.dp, fw.ln, rfl, _, rfl, iteNS (congrArg (fun d => V.str (PyData.shown d)) (Eq.refl dd)) ?_⟩
        refine ⟨.ref t, rfl, t, _, rfl, .inl (.inl (sm2 _ _ TD)), ?_⟩
        refine for_enT (xs := [.ref t1, .ref t2, .ref t3, .ref t4]) (fun n σ G => Met H G m (allE a j ++ rowE i j ++ (four i j).take n) ∧ CellsV G [(t1, rowW j i), (t2, colW i j), (t3, rowW j (i + 1)), (t4, colW i (j + 1))] ∧ G t = some (.tup [.ref t1, .ref t2, .ref t3, .ref t4]) ∧
          ∃ y4 y5 y6 y7 y8 y9 y10, σ = [some (.int (a : Int)), some (.int (b : Int)), some (.ref m), some (.int (j : Int)), some (.int (i : Int)), some (.ref t), y4, y5, y6, y7, y8, y9, y10])
          ⟨by rw [List.take_zero, List.append_nil]; exact M1.same sm2, CD.same sm2, sm2 _ _ TD, _, _, _, _, _, _, _, rfl⟩ (fun n σ G _ p => .inl (.inl p.2.2.1)) ?_ ?_
        · rintro n x σ G3 T hx ⟨M3, C3, T3, y4, y5, y6, y7, y8, y9, y10, rfl⟩ nT
          have n4 : n < 4 := (List.getElem?_eq_some_iff.mp hx).1
          obtain ⟨c, key, ex, hc, ek⟩ : ∃ (c : Addr) (key : List Key), x = .ref c ∧ G3 c = some (.tup (key.map kV)) ∧ (four i j).take (n + 1) = (four i j).take n ++ [(key, (n : Int))] := by
            rcases (show n = 0 ∨ n = 1 ∨ n = 2 ∨ n = 3 by omega) with rfl | rfl | rfl | rfl
            · exact ⟨t1, rowK j i, (Option.some.inj hx).symm, C3 (t1, rowW j i) (by simp), rfl⟩
            · exact ⟨t2, colK i j, (Option.some.inj hx).symm, C3 (t2, colW i j) (by simp), rfl⟩
            · exact ⟨t3, rowK j (i + 1), (Option.some.inj hx).symm, C3 (t3, rowW j (i + 1)) (by simp), rfl⟩
            · exact ⟨t4, colK i (j + 1), (Option.some.inj hx).symm, C3 (t4, colW i (j + 1)) (by simp), rfl⟩
          subst ex
          have s4 := same_upd (o := .tup [.int (n : Nat), .ref c]) nT
          have M4 := M3.same s4
          have few : (allE a j ++ rowE i j ++ (four i j).take n).length < 100000 := by
            rw [List.length_append, List.length_append, allE_len, rowE_len, List.length_take]
            have : 4 * a * j ≤ 160 * 40 := Nat.mul_le_mul (by omega) (by omega)
            omega
          refine ⟨T, _, rfl, .inl (.inl upd_same), rfl, _, _, rfl, _, _, rfl, rfl, ?_⟩
          obtain ⟨kvs0, hm0, _⟩ := M4.ex
          refine ⟨.ref m, rfl, m, rfl, .inr ⟨kvs0, .inl hm0⟩, .ref c, rfl, by decide, fun z nz => ?_⟩
          obtain ⟨kvs, hm, hl, c1, c2⟩ := M4.step (k := key) (v := (n : Int)) nz rfl few
          have st5 := same_upd (o := .lst []) nz
          have keepC : ∀ G', (∀ b ys, (upd G3 T (.tup [.int (n : Nat), .ref c])) b = some (.tup ys) → G' b = some (.tup ys)) → CellsV G' [(t1, rowW j i), (t2, colW i j), (t3, rowW j (i + 1)), (t4, colW i (j + 1))] ∧ G' t = some (.tup [.ref t1, .ref t2, .ref t3, .ref t4]) :=
            fun G' kp => ⟨fun d hd => kp _ _ (s4 _ _ (C3 d hd)), kp _ _ (s4 _ _ T3)⟩
          refine ⟨kvs, key, c, hm, rfl, st5 _ _ (s4 _ _ hc), hl, fun v hv => ?_, fun hn => ?_⟩
          · obtain ⟨l, xs, rfl, hl2, hx2, M5, kp⟩ := c1 v hv
            refine ⟨.inl ⟨rfl, _, .inl (.inl hl2)⟩, .int (n : Int), rfl, l, xs, _, rfl, rfl, hl2, hx2, ?_⟩
            rw [ek, ← List.append_assoc]
            exact ⟨M5, (keepC _ kp).1, (keepC _ kp).2, _, _, _, _, _, _, _, rfl⟩
          · obtain ⟨hz, M5, kp⟩ := c2 hn
            refine ⟨.inl ⟨rfl, _, .inl (.inl hz)⟩, .int (n : Int), rfl, z, [], _, rfl, rfl, hz, by decide, ?_⟩
            rw [ek, ← List.append_assoc]
            exact ⟨M5, (keepC _ kp).1, (keepC _ kp).2, _, _, _, _, _, _, _, rfl⟩
        · rintro σ G3 ⟨M3, C3, T3, y4, y5, y6, y7, y8, y9, y10, rfl⟩
          refine ⟨?_, _, _, _, _, _, _, _, _, _, rfl⟩
          rw [rowE_succ, ← List.append_assoc]
          exact M3
      · rintro σ G ⟨M, y2, y3, y4, y5, y6, y7, y8, y9, y10, rfl⟩
        exact ⟨by rw [allE_succ]; exact M, _, _, _, _, _, _, _, _, _, _, rfl⟩
    · rintro σ G ⟨M, y1, y2, y3, y4, y5, y6, y7, y8, y9, y10, rfl⟩
      refine ⟨.int (a : Int), rfl, .int (b : Int), rfl, a, b, rfl, ha, hb, fun G1 t cs sm nt ht hcs ec => ⟨t, rfl, ⟨_, .inl (.inl ht)⟩, ?_⟩⟩
      have M1 := M.same sm
      refine for_tup (xs := vrefs cs) (fun n σ G => Same G1 G ∧ ∃ y1 y2 y3 y4 y5 y6 y7 y8 y9 y10, σ = [some (.int (a : Int)), some (.int (b : Int)), some (.ref m), y1, y2, y3, y4, y5, y6, y7, y8, y9, y10]) ⟨Same.refl _, _, _, _, _, _, _, _, _, _, _, rfl⟩ (fun n σ G _ p => .inl (.inl (p.1 _ _ ht))) ?_ ?_
      · rintro n x σ G2 hx ⟨s2, y1, y2, y3, y4, y5, y6, y7, y8, y9, y10, rfl⟩
        rw [List.getElem?_map] at hx
        obtain ⟨c, hc, rfl⟩ := Option.map_eq_some_iff.mp hx
        have cm : c ∈ cs := List.mem_of_getElem? hc
        have wm : c.2 ∈ wiresOf a b := by
          rw [← ec]
          exact List.mem_map.mpr ⟨c, cm, rfl⟩
        have hcc := s2 _ _ (hcs c cm)
        have M2 := M1.same s2
        rcases wires_mem wm with ⟨j, y, hj, hy, e⟩ | ⟨i, y, hi, hy, e⟩
        · rw [e] at hcc
          refine ⟨c.1, _, rfl, .inl (.inl hcc), rfl, _, _, rfl, _, _, rfl, _, _, rfl, rfl, ?_⟩
          refine ⟨.str "row", rfl, rfl, _, rfl, ite2 (fun _ => ?_) (fun z => absurd (by decide) z)⟩
          refine ⟨.int (a : Int), rfl, by decide, fun l1 nl1 => ⟨by show 2 ≤ sizeLine; decide, fun p np => ?_⟩⟩
          refine ⟨p, _, rfl, .inl (.inl upd_same), rfl, _, _, rfl, _, _, rfl, rfl, ?_⟩
          have L4 := (same_upd (o := .tup [.int (a : Int), .ref l1]) np) _ _ (show (upd G2 l1 (.lst [.int 2, .int 0])) l1 = _ from upd_same)
          have s4 : Same G2 (upd (upd G2 l1 (.lst [.int 2, .int 0])) p (.tup [.int (a : Int), .ref l1])) := (same_upd nl1).trans (same_upd np)
          generalize upd (upd G2 l1 (.lst [.int 2, .int 0])) p (.tup [.int (a : Int), .ref l1]) = G4 at L4 s4 ⊢
          show tSeq (tAsg (tDueR K) (gName 5)) (tIfS (tTestR K) (tRet (tC (V.bl false))) tNext) _ _ _
          refine seqAsg (due_run (e0 := 2) (e1 := 0) (y := y) (n := a) (l1 := l1) rfl rfl rfl L4 hy fun r G9 s9 hr9 => ?_)
          refine test_run (key := rowK j y) (du := dueL 2 0 y a) (es := allE a b) rfl rfl rfl rfl rfl (M2.same (s4.trans s9)) rfl hr9 (dueL_len _ _ _ _) ?_ fun G10 s10 => iteF ⟨s2.trans (s4.trans (s9.trans s10)), _, _, _, _, _, _, _, _, _, _, rfl⟩
          rw [dueL_v]
          exact told_allE_row a b j y hj
        · rw [e] at hcc
          refine ⟨c.1, _, rfl, .inl (.inl hcc), rfl, _, _, rfl, _, _, rfl, _, _, rfl, rfl, ?_⟩
          refine ⟨.str "column", rfl, rfl, _, rfl, ite2 (fun z => absurd z (by decide)) (fun _ => ?_)⟩
          refine ⟨.int (b : Int), rfl, by decide, fun l1 nl1 => ⟨by show 2 ≤ sizeLine; decide, fun p np => ?_⟩⟩
          refine ⟨p, _, rfl, .inl (.inl upd_same), rfl, _, _, rfl, _, _, rfl, rfl, ?_⟩
          have L4 := (same_upd (o := .tup [.int (b : Int), .ref l1]) np) _ _ (show (upd G2 l1 (.lst [.int 3, .int 1])) l1 = _ from upd_same)
          have s4 : Same G2 (upd (upd G2 l1 (.lst [.int 3, .int 1])) p (.tup [.int (b : Int), .ref l1])) := (same_upd nl1).trans (same_upd np)
          generalize upd (upd G2 l1 (.lst [.int 3, .int 1])) p (.tup [.int (b : Int), .ref l1]) = G4 at L4 s4 ⊢
          show tSeq (tAsg (tDueR K) (gName 5)) (tIfS (tTestR K) (tRet (tC (V.bl false))) tNext) _ _ _
          refine seqAsg (due_run (e0 := 3) (e1 := 1) (y := y) (n := b) (l1 := l1) rfl rfl rfl L4 hy fun r G9 s9 hr9 => ?_)
          refine test_run (key := colK i y) (du := dueL 3 1 y b) (es := allE a b) rfl rfl rfl rfl rfl (M2.same (s4.trans s9)) rfl hr9 (dueL_len _ _ _ _) ?_ fun G10 s10 => iteF ⟨s2.trans (s4.trans (s9.trans s10)), _, _, _, _, _, _, _, _, _, _, rfl⟩
          rw [dueL_v]
          exact told_allE_col a b i y hi
      · rintro σ G2 ⟨s2, y1, y2, y3, y4, y5, y6, y7, y8, y9, y10, rfl⟩
        exact q _ (M1.sm.trans s2)
end
end C2

namespace C2
set_option Elab.async false
set_option linter.all false
set_option maxRecDepth 100000
set_option maxHeartbeats 4000000
open PySem PySem.Spec PyProof.Rows L2
/-! ### calls of defs that call repr -/
section
variable {X : Cx} {k : Nat} {f : Addr} {fd : FuncData} {ps : List Str} {sp : Sp}
theorem run_fnG {pins : List (Addr × Obj)} {σ : L2.St} {G : Hp} {s : Shared} {Q : VK} {us : List Value} {vs : List V} (F : FnG X.prog X.w X.K X.mg X.base k f fd ps sp) (hgd : X.A.guards = some []) (hr : Room k X.A) (hb : Binds X.K fd ps [])
    (I : Inv X pins σ G s) (r : Vals vs us) (h : sp vs G Q E0) : wpAny (model X.prog X.w) X.A (call (.ref f) us) (EP X pins σ Q) X.xe s := by
  have ln : us.length = ps.length := by rw [← r.length]; exact F.len _ _ _ _ h
  have hb' := hb s us I.kIn (by simpa using ln)
  simp only [List.append_nil] at hb'
  refine wpAny_call (codeAny_mono (F.run X.A X.stack s G ⟨us, []⟩ us vs Q E0 hgd hr I.env0 hb' r h) fun r s' hq => ?_)
  cases r with
  | error err => exact hq.elim
  | ok fl => cases fl with
    | ret u => exact I.after hq
    | next => exact False.elim hq
    | brk => exact False.elim hq
    | cont => exact False.elim hq
theorem pe_callG {x : Str} {e : Expr} {es : List Expr} {t : TA} {p pos : Pos} (F : FnG X.prog X.w X.K X.mg X.base k f fd ps sp) (hgd : X.A.guards = some []) (hr : Room k X.A) (hg : Gl X x) (hm : X.mg x = some (.ref f)) (hk : PySem.W.keepIn X.K (.ref f) = true) (hb : Binds X.K fd ps []) (ha : PA X (e :: es) t)
    (plainName : (x == ("__debug__" : Str)) = false := by decide)
    (plainArgs : starEach (e :: es) X.env = (false, eval e X.env) :: starEach es X.env := by rfl)
    (noStar : (backTo pos (starEach es X.env)).any (·.1) = false := by rfl) :
    PE X (.Call (.Name x p) (e :: es) [] pos) (fun σ G Q => t σ G fun vs G1 => sp vs G1 Q E0) := by
  refine ⟨fun pins s σ G Q I h => wpAny_Call_Name_kw (ld_glob I hg hm ?_ plainName)⟩
  exact PySem.W.callWith_K (h₀ := X.base) I.ok.mod.kin hk (thn (ha.run pos pins s σ G _ I h) fun us s1 ⟨vs, G1, I1, r, q⟩ => ⟨I1.kIn, run_fnG F hgd hr hb I1 r q⟩) plainArgs noStar
end
end C2

namespace C2
set_option Elab.async false
set_option linter.all false
set_option maxRecDepth 100000
set_option maxHeartbeats 4000000
open PySem PySem.Spec PyProof.Rows L2
theorem isW_wires {a b : Nat} {x : List V} (h : x ∈ wiresOf a b) : isW a b (some x) = true := by
  rcases wires_mem h with ⟨j, y, hj, hy, rfl⟩ | ⟨i, y, hi, hy, rfl⟩
  · have e : isW a b (some (rowW j y)) = (betw (.int (j : Int)) 0 ((b : Int) - 1) && betw (.int (y : Int)) 0 (a : Int)) := by
      show (if ("row" : Str) = "row" then (betw (.int (j : Int)) 0 ((b : Int) - 1) && betw (.int (y : Int)) 0 (a : Int)) else if ("row" : Str) = "column" then (betw (.int (j : Int)) 0 ((a : Int) - 1) && betw (.int (y : Int)) 0 (b : Int)) else false) = _
      exact if_pos rfl
    rw [e]
    show (decide _ && decide _) = true
    rw [decide_eq_true (by omega), decide_eq_true (by omega)]
    rfl
  · have e : isW a b (some (colW i y)) = (betw (.int (i : Int)) 0 ((a : Int) - 1) && betw (.int (y : Int)) 0 (b : Int)) := by
      show (if ("column" : Str) = "row" then (betw (.int (i : Int)) 0 ((b : Int) - 1) && betw (.int (y : Int)) 0 (a : Int)) else if ("column" : Str) = "column" then (betw (.int (i : Int)) 0 ((a : Int) - 1) && betw (.int (y : Int)) 0 (b : Int)) else false) = _
      exact (if_neg (by decide)).trans (if_pos rfl)
    rw [e]
    show (decide _ && decide _) = true
    rw [decide_eq_true (by omega), decide_eq_true (by omega)]
    rfl
theorem wires_len {a b : Nat} (ha : a ≤ 40) (hb : b ≤ 40) : (wiresOf a b).length ≤ 3300 := by
  unfold wiresOf
  rw [List.length_append, rowsL_len, rowsL_len]
  have h1 : a * (b + 1) ≤ 40 * 41 := Nat.mul_le_mul ha (by omega)
  have h2 : b * (a + 1) ≤ 40 * 41 := Nat.mul_le_mul hb (by omega)
  omega
theorem deep_wire {G : Hp} {c : Addr} {x : List V} (h : G c = some (.tup x)) (w : Wr x) : Deep G (.ref c) (some x) := by
  refine ⟨.tup h, fun xs e y hy => ?_⟩
  cases e
  cases w with
  | row h1 h2 =>
    simp only [rowW, List.mem_cons, List.not_mem_nil, or_false] at hy
    rcases hy with rfl | rfl | rfl
    · exact ⟨_, .str _⟩
    · exact ⟨_, .int _⟩
    · exact ⟨_, .int _⟩
  | col h1 h2 =>
    simp only [colW, List.mem_cons, List.not_mem_nil, or_false] at hy
    rcases hy with rfl | rfl | rfl
    · exact ⟨_, .str _⟩
    · exact ⟨_, .int _⟩
    · exact ⟨_, .int _⟩
theorem all_rep (n : Nat) : (List.replicate n true).all id = true := by
  rw [List.all_eq_true]
  intro b hb
  exact (List.mem_replicate.mp hb).2
theorem all_step {H G : Hp} {D : Addr} {i : Nat} (sm : Same H G) (nD : H D = none) : Same H (upd G D (.lst ((List.replicate i true).map V.bl ++ [.bl true]))) ∧
    (upd G D (.lst ((List.replicate i true).map V.bl ++ [.bl true]))) D = some (.lst ((List.replicate (i + 1) true).map V.bl)) := by
  refine ⟨fun b o e => ?_, ?_⟩
  · rw [upd_ne (ne_of_none e nD)]
    exact sm _ _ e
  · rw [upd_same, List.replicate_succ', List.map_append]
    rfl
def teWT : TE := tOp rIsB (tCall spIsWire [] E0 (tCons (tVar 4) (tCons (tVar 5) (tCons (tVar 8) tNil)))) (tC (.bl true))
abbrev NLa : List Str := ["_law_script", "_law_k", "_law_pot", "_law_turn", "_law_a", "_law_b", "_law_thing", "_law_found", "_law_wire"]
theorem scLaw : FnScope NLa ["_law_script"] (defScope sLaw) := ⟨rfl, rfl, rfl, by decide +kernel, rfl, by decide +kernel, by decide +kernel⟩
def spLaw (K : PySem.W.Frag) : Sp := fun vs H Q _ => ∃ (a : Addr) (ns : List Int), vs = [.ref a] ∧ SqL K H a (ns.map V.int) ∧ ns.length ≤ 63 ∧ ∀ H', Q (.bl true) H'
section
variable {P : Program} {w : World} {K : PySem.W.Frag} {mg : Str → Option Value} {base : Heap}
theorem ok_law {f fD fT fOf fDp fS fA fN fLw fO fL fW fB fU fI fWi fG : Addr} {fd fdD fdT fdOf fdDp fdS fdA fdN fdLw fdO fdL fdW fdB fdU fdI fdWi fdG : FuncData} (F : Fun K "law" "law" sLaw f fd) (FD : Fun K "_law_draws" "_law_draws" sDraws fD fdD) (FT : Fun K "_law_take" "_law_take" sTake fT fdT) (FOf : Fun K "_law_of" "_law_of" sOf fOf fdOf) (FDp : Fun K "_law_deep" "_law_deep" sDeep fDp fdDp) (FS : Fun K "_law_size" "_law_size" sSize fS fdS) (FA : Fun K "_law_all" "_law_all" sAll fA fdA) (FN : Fun K "_law_near" "_law_near" sNear fN fdN) (FLw : Fun K "_law_is_whole" "_law_is_whole" sWhole fLw fdLw) (FO : Fun K "_law_is_one" "_law_is_one" sIsOne fO fdO) (FL : Fun K "_law_legs_right" "_law_legs_right" sLegsRight fL fdL) (FW : Fun K "is_whole" "is_whole" sPWhole fW fdW) (FB : Fun K "is_between" "is_between" sBetween fB fdB) (FU : Fun K "is_tuple_of" "is_tuple_of" sTupOf fU fdU) (FI : Fun K "is_wire" "is_wire" sIsWire fI fdI) (FWi : Fun K "wires" "wires" sWires fWi fdWi) (FG : Fun K "legs" "legs" sLegs fG fdG)
    (bD : Binds K fdD ["_law_script", "_law_k"] []) (bT : Binds K fdT ["_law_pot", "_law_many"] []) (bOf : Binds K fdOf ["_law_pot", "_law_some"] []) (bDp : Binds K fdDp ["_law_many"] []) (bS : Binds K fdS ["_law_pot", "_law_most"] []) (bA : Binds K fdA ["_law_a", "_law_b"] []) (bN : Binds K fdN ["_law_pot", "_law_a", "_law_b"] []) (bLw : Binds K fdLw ["_law_thing", "_law_below"] []) (bO : Binds K fdO ["_law_a", "_law_b", "_law_thing"] []) (bL : Binds K fdL ["_law_a", "_law_b"] []) (bW : Binds K fdW ["thing"] []) (bB : Binds K fdB ["thing", "least", "most"] []) (bU : Binds K fdU ["thing", "many"] []) (bI : Binds K fdI ["a", "b", "thing"] []) (bWi : Binds K fdWi ["a", "b"] []) (bG : Binds K fdG ["i", "j"] [])
    (gD : mg "_law_draws" = some (.ref fD)) (gT : mg "_law_take" = some (.ref fT)) (gOf : mg "_law_of" = some (.ref fOf)) (gDp : mg "_law_deep" = some (.ref fDp)) (gS : mg "_law_size" = some (.ref fS)) (gA : mg "_law_all" = some (.ref fA)) (gN : mg "_law_near" = some (.ref fN)) (gLw : mg "_law_is_whole" = some (.ref fLw)) (gO : mg "_law_is_one" = some (.ref fO)) (gL : mg "_law_legs_right" = some (.ref fL)) (gW : mg "is_whole" = some (.ref fW)) (gB : mg "is_between" = some (.ref fB)) (gU : mg "is_tuple_of" = some (.ref fU)) (gI : mg "is_wire" = some (.ref fI)) (gWi : mg "wires" = some (.ref fWi)) (gG : mg "legs" = some (.ref fG))
    (ml : mg "len" = none) (ma : mg "abs" = none) (mr : mg "range" = none) (mt : mg "tuple" = none) (mmax : mg "max" = none) (mmin : mg "min" = none) (mrep : mg "repr" = none) (mi : mg "isinstance" = none) (mint : mg "int" = none) (mbool : mg "bool" = none) (mstr : mg "str" = none) (mall : mg "all" = none) (men : mg "enumerate" = none) (msort : mg "sorted" = none) :
    FnG P w K mg base 4 f fd ["_law_script"] (spLaw K) := by
  have GD : FnOk P w K mg base CX0 1 fD fdD ["_law_script", "_law_k"] (spDraws K) := ok_draws FD ml ma
  have GS : FnOk P w K mg base CX0 2 fS fdS ["_law_pot", "_law_most"] spSize := ok_size FS FT bT gT mmin
  have GWi : FnOk P w K mg base CX0 1 fWi fdWi ["a", "b"] spWires := ok_wires FWi mt mr
  have GA : FnOk P w K mg base CX0 1 fA fdA ["_law_a", "_law_b"] spWires := ok_all FA mt mr
  have GN : FnOk P w K mg base CX0 3 fN fdN ["_law_pot", "_law_a", "_law_b"] spNear := ok_near FN FT FOf FDp bT bOf bDp gT gOf gDp ml mr mmax
  have GI : FnOk P w K mg base CX0 3 fI fdI ["a", "b", "thing"] spIsWire := ok_iswire FI FW FB FU bW bB bU gW gB gU mi mint mbool mt ml mstr
  have GO : FnOk P w K mg base CX0 2 fO fdO ["_law_a", "_law_b", "_law_thing"] spIsWire := ok_isone FO FLw bLw gLw mi mint mbool mt ml mstr
  have GL : FnG P w K mg base 2 fL fdL ["_law_a", "_law_b"] spLegsRight := ok_legsright FL FG FA bG bA gG gA mr mt mrep men mint msort
  refine okG F scLaw (fun vs H Q E h => ?_) (fun cdv A outer s H vs Q E hgd hr h => ?_)
  · obtain ⟨a, ns, rfl, _⟩ := h
    rfl
  · obtain ⟨a, ns, rfl, hS, hlen, q⟩ := h
    have nd := scLaw.nd
    refine ⟨_, pss_cons (ps_for PassesOwn.never rfl (pi_range1 (by rfl) mr (pa_cons (pe_callB (call_max2 rfl) (by rfl) mmax (by decide +kernel) (pa_cons pe_int (pa_cons (pe_callB (call_min2 rfl) (by rfl) mmin (by decide +kernel) (pa_cons pe_int (pa_cons (pe_callB call_len_seq (by rfl) ml PySem.boot_len (pa_cons (pv 0) pa_nil)) pa_nil))) pa_nil))) pa_nil)) (pg_name (i := 1) nd rfl (.inl rfl)) (pss_cons (ps_set (i := 2) nd rfl (.inl rfl) (pe_call GD (hr.mono (by decide)) (by rfl) gD FD.kp bD .nil pass0 (pa_cons (pv 0) (pa_cons (pv 1) pa_nil))))
      (pss_one (ps_for PassesOwn.never rfl (pi_range1 (by rfl) mr (pa_cons pe_int pa_nil)) (pg_name (i := 3) nd rfl (.inl rfl)) (pss_cons (ps_asg (pe_call GS (hr.mono (by decide)) (by rfl) gS FS.kp bS .nil pass0 (pa_cons (pv 2) (pa_cons pe_int pa_nil))) (pg_tup rfl (pgs_cons (pg_name (i := 4) nd rfl (.inr rfl)) (pgs_cons (pg_name (i := 5) nd rfl (.inr rfl)) pgs_nil))))
      (pss_cons (ps_if (pt_cmpR op_ne (pe_callB (call_reprD hr.units hgd) (by rfl) mrep (by decide +kernel) (pa_cons (pe_call GWi (hr.mono (by decide)) (by rfl) gWi FWi.kp bWi .nil pass0 (pa_cons (pv 4) (pa_cons (pv 5) pa_nil))) pa_nil)) (pe_callB (call_reprD hr.units hgd) (by rfl) mrep (by decide +kernel) (pa_cons (pe_call GA (hr.mono (by decide)) (by rfl) gA FA.kp bA .nil pass0 (pa_cons (pv 4) (pa_cons (pv 5) pa_nil))) pa_nil)) (nomark _)) (pss_one (ps_ret pe_bl)) pss_nil)
      (pss_cons (ps_for PassesOwn.never rfl (pi_list (pe_call GN hr (by rfl) gN FN.kp bN .nil pass0 (pa_cons (pv 2) (pa_cons (pv 4) (pa_cons (pv 5) pa_nil))))) (pg_name (i := 6) nd rfl (.inl rfl)) (pss_cons (ps_set (i := 7) nd rfl (.inl rfl) (pe_call GI hr (by rfl) gI FI.kp bI .nil pass0 (pa_cons (pv 4) (pa_cons (pv 5) (pa_cons (pv 6) pa_nil)))))
      (pss_one (ps_if (PW.pt (pw_or (pt_not (pt_val (pe_callB call_isi (by rfl) mi (by decide +kernel) (pa_cons (pv 7) (pa_cons (pe_bltn (v := .ty "bool") (by rfl) mbool (by decide +kernel) rfl) pa_nil))))) (pw_or1 (pt_cmpR op_ne (pv 7) (pe_call GO (hr.mono (by decide)) (by rfl) gO FO.kp bO .nil pass0 (pa_cons (pv 4) (pa_cons (pv 5) (pa_cons (pv 6) pa_nil)))) (nomark _))))) (pss_one (ps_ret pe_bl)) pss_nil))))
      (pss_cons (ps_if (pt_not (pt_val (pe_callB (cr_all rfl) (by rfl) mall (by decide +kernel) (pa_cons (pe_lc (own := [("_law_wire", 8)]) (g := gName 8) (tt := tYes) (te := teWT) rfl nd (pi_tup (pe_call GA (hr.mono (by decide)) (by rfl) gA FA.kp bA .nil pass0 (pa_cons (pv 4) (pa_cons (pv 5) pa_nil)))) (blkOk_by (own := [("_law_wire", 8)]) (N := NLa) (sc := defScope sLaw) (by decide +kernel)) (fun _ _ _ _ _ => pg_name (i := 8) nd rfl (.inl rfl)) (fun _ _ _ _ _ => pts_nil) (fun _ _ _ _ _ => (pe_cmpR op_isBl (pe_call GI hr (by rfl) gI FI.kp bI .nil pass0 (pa_cons (pv 4) (pa_cons (pv 5) (pa_cons (pv 8) pa_nil)))) pe_bl (nomark _)))) pa_nil)))) (pss_one (ps_ret pe_bl)) pss_nil)
      (pss_one (ps_if (pt_not (pt_val (pe_callG GL hgd (hr.mono (by decide)) (by rfl) gL FL.kp bL (pa_cons (pv 4) (pa_cons (pv 5) pa_nil))))) (pss_one (ps_ret pe_bl)) pss_nil))))))))))
      (pss_one (ps_ret pe_bl)), ?_⟩
    refine ⟨.ref a, rfl, a, _, rfl, .inl hS, 3, _, rfl, 1, _, rfl, _, rfl, ?_, ?_, ?_⟩
    · split <;> split <;> omega
    · rw [List.length_map]
      split <;> split <;> omega
    · refine for_range (lo := 0) (n := _) (fun i σ G => SqL K G a (ns.map V.int) ∧ ∃ y1 y2 y3 y4 y5 y6 y7 y8, σ = [some (.ref a), y1, y2, y3, y4, y5, y6, y7, y8]) ⟨hS, _, _, _, _, _, _, _, _, rfl⟩ ?_ ?_
      · rintro i σ G hi ⟨hSG, y1, y2, y3, y4, y5, y6, y7, y8, rfl⟩
        have hi3 : i < 3 := by
          rw [List.length_map] at hi
          revert hi
          split <;> split <;> omega
        rw [Int.zero_add]
        refine ⟨.ref a, rfl, .int (i : Int), rfl, a, ns, i, rfl, hSG, by omega, fun H1 p sm1 np hP1 => ?_⟩
        refine ⟨3, rfl, by decide, by decide, ?_⟩
        refine for_range (lo := 0) (n := 3) (fun t σ G' => Fr p G G' ∧ PotAt G' p (7 * t) ∧ ∃ y3 y4 y5 y6 y7 y8, σ = [some (.ref a), some (.int (i : Int)), some (.ref p), y3, y4, y5, y6, y7, y8]) ⟨Fr.same sm1, hP1, _, _, _, _, _, _, rfl⟩ ?_ ?_
        · rintro t σ G1 ht ⟨f1, hP, y3, y4, y5, y6, y7, y8, rfl⟩
          rw [Int.zero_add]
          refine ⟨.ref p, rfl, p, 8, 7 * t, rfl, by decide, by decide, hP, by omega, fun m n u H2 hm hn f2 P2 nu hu => ?_⟩
          refine ⟨u, _, rfl, .inl (.inl hu), rfl, _, _, rfl, _, _, rfl, rfl, ?_⟩
          have wl := wr_wires hm hn
          have fw := fineW wl (wires_len hm hn)
          refine ⟨.int (m : Int), rfl, .int (n : Int), rfl, m, n, rfl, hm, hn, fun H3 u3 cs3 s3 n3 h3 c3 e3 => ?_⟩
          have d3 : Dp K H3 (.ref u3) (dWW (wiresOf m n)) := .tup (.inl (.inl h3)) (by
            have z := dpW (K := K) c3 (fun c hc => wl c.2 (by rw [← e3]; exact List.mem_map.mpr ⟨c, hc, rfl⟩))
            rw [e3] at z
            exact z)
          generalize ed : dWW (wiresOf m n) = dd at d3 fw
          refine ⟨u3, _, rfl, d3, fw.sh, fw.hd, fw.dp, fw.ln, ?_⟩
          refine ⟨.int (m : Int), rfl, .int (n : Int), rfl, m, n, rfl, hm, hn, fun H4 u4 cs4 s4 n4 h4 c4 e4 => ?_⟩
          have d4 : Dp K H4 (.ref u4) dd := by
            rw [← ed]
            refine .tup (.inl (.inl h4)) ?_
            have z := dpW (K := K) c4 (fun c hc => wl c.2 (by rw [← e4]; exact List.mem_map.mpr ⟨c, hc, rfl⟩))
            rw [e4] at z
            exact z
          refine ⟨u4, _, rfl, d4, fw.sh, fw.hd, fw.dp, fw.ln, rfl, _, rfl, iteNS (congrArg (fun d => V.str (PyData.shown d)) (Eq.refl dd)) ?_⟩
          have s24 := s3.trans s4
          have P4 : PotAt H4 p (7 * t + 4) := by
            obtain ⟨g', c', t', hp, hr'⟩ := P2
            exact ⟨g', c', t', s24 _ _ hp, hr'⟩
          refine ⟨.ref p, rfl, .int (m : Int), rfl, .int (n : Int), rfl, p, m, n, 7 * t + 4, rfl, hm, hn, P4, by omega, fun r xs H5 f5 P5 h5 l5 x5 => ⟨r, rfl, ⟨_, .inl (.inl h5)⟩, ?_⟩⟩
          refine for_list (xs := xs) (fun j σ G => Same H5 G ∧ ∃ y6 y7 y8, σ = [some (.ref a), some (.int (i : Int)), some (.ref p), some (.int (t : Int)), some (.int (m : Int)), some (.int (n : Int)), y6, y7, y8]) ⟨Same.refl _, _, _, _, rfl⟩ (fun j σ G _ z => .inl (.inl (z.1 _ _ h5))) ?_ ?_
          · rintro j v σ G2 hv ⟨sm, y6, y7, y8, rfl⟩
            obtain ⟨o, dv⟩ := x5 v (List.mem_of_getElem? hv)
            have dv2 := dv.same sm
            refine ⟨.int (m : Int), rfl, .int (n : Int), rfl, v, rfl, m, n, v, o, rfl, dv2, ?_⟩
            refine ⟨_, rfl, _, .ty "bool", _, _, true, rfl, .ty "bool", .base (.bl _), kit_ty (by decide +kernel), true, rfl, iteF ?_⟩
            refine ⟨_, rfl, .int (m : Int), rfl, .int (n : Int), rfl, v, rfl, m, n, v, o, rfl, dv2, rfl, _, rfl, iteNS rfl ?_⟩
            exact ⟨sm, _, _, _, rfl⟩
          · rintro σ G2 ⟨sm5, y6, y7, y8, rfl⟩
            refine ⟨.int (m : Int), rfl, .int (n : Int), rfl, m, n, rfl, hm, hn, fun H6 u6 cs6 s6 n6 h6 c6 e6 => ⟨u6, rfl, ⟨_, .inl (.inl h6)⟩, fun D nD => ?_⟩⟩
            refine lc_tup (xs := vrefs cs6) (fun i G => Same H6 G ∧ G D = some (.lst ((List.replicate i true).map V.bl))) ⟨same_upd nD, upd_same⟩ (fun i G _ h => .inl (.inl (h.1 _ _ h6))) ?_ ?_
            · rintro j x G3 hx ⟨sm, hD⟩
              have jl : j < cs6.length := by
                have := (List.getElem?_eq_some_iff.mp hx).1
                rw [List.length_map] at this
                exact this
              rw [List.getElem?_map] at hx
              obtain ⟨c, hc, rfl⟩ := Option.map_eq_some_iff.mp hx
              have cm : c ∈ cs6 := List.mem_of_getElem? hc
              have wm : c.2 ∈ wiresOf m n := by
                rw [← e6]
                exact List.mem_map.mpr ⟨c, cm, rfl⟩
              have ll : cs6.length ≤ 3300 := by
                have e1 : cs6.length = (cs6.map (·.2)).length := (List.length_map _).symm
                rw [e1, e6]
                exact wires_len hm hn
              refine ⟨rfl, .int (m : Int), rfl, .int (n : Int), rfl, .ref c.1, rfl, m, n, .ref c.1, some c.2, rfl, deep_wire (sm _ _ (c6 c cm)) (wl _ wm), ?_⟩
              rw [isW_wires wm]
              refine ⟨true, true, rfl, rfl, _, hD, ?_, all_step sm nD⟩
              rw [List.length_map, List.length_replicate]
              exact Nat.lt_of_lt_of_le (show j < 10000 by omega) (by decide)
            rintro G3 ⟨sm3, hD3⟩
            refine ⟨D, List.replicate (vrefs cs6).length true, rfl, .inl (.inl hD3), _, rfl, ?_⟩
            rw [all_rep]
            refine iteF ?_
            refine ⟨.int (m : Int), rfl, .int (n : Int), rfl, m, n, rfl, hm, hn, fun H7 s7 => ⟨true, rfl, iteF ?_⟩⟩
            have s57 := sm5.trans (s6.trans (sm3.trans s7))
            refine ⟨f1.trans (f2.trans ((Fr.same s24).trans (f5.trans (Fr.same s57)))), ?_, _, _, _, _, _, _, rfl⟩
            obtain ⟨g', c', t', hp, hr'⟩ := P5
            exact ⟨g', c', t', s57 _ _ hp, hr'.1, by omega⟩
        · rintro σ G1 ⟨f1, hP, y3, y4, y5, y6, y7, y8, rfl⟩
          exact ⟨freshSeq hSG np f1, _, _, _, _, _, _, _, _, rfl⟩
      · rintro σ G ⟨hSG, y1, y2, y3, y4, y5, y6, y7, y8, rfl⟩
        exact q G
end
end C2

namespace C2
set_option Elab.async false
set_option linter.all false
set_option maxRecDepth 100000
set_option maxHeartbeats 4000000
open PySem PySem.Spec PyProof.Rows L2
theorem all_mk {l : PySem.W.OpenLaw} {w : World} {K : PySem.W.Frag} {h : Heap} {mg : Str → Option Value} {fa f1 f2 f3 f4 f5 f6 f7 f8 f9 f10 f11 f12 f13 f14 f15 f16 f17 : Addr} (X : K.In h) (G : h.Ns mainGlobals mg) (hfa : mg "law" = some (.ref fa))
    {od1 an1 od2 an2 od3 an3 od4 an4 od5 an5 od6 an6 od7 an7 od8 an8 od9 an9 od10 an10 od11 an11 od12 an12 od13 an13 od14 an14 od15 an15 od16 an16 od17 an17 : Option Addr} {sl1 sl2 sl3 sl4 sl5 sl6 sl7 sl8 sl9 sl10 sl11 sl12 sl13 sl14 sl15 sl16 sl17 : Array (Option Value)}
    {oc1 kV1 dc1 pm1 cd1 ct1 oc2 kV2 dc2 pm2 cd2 ct2 oc3 kV3 dc3 pm3 cd3 ct3 oc4 kV4 dc4 pm4 cd4 ct4 oc5 kV5 dc5 pm5 cd5 ct5 oc6 kV6 dc6 pm6 cd6 ct6 oc7 kV7 dc7 pm7 cd7 ct7 oc8 kV8 dc8 pm8 cd8 ct8 oc9 kV9 dc9 pm9 cd9 ct9 oc10 kV10 dc10 pm10 cd10 ct10 oc11 kV11 dc11 pm11 cd11 ct11 oc12 kV12 dc12 pm12 cd12 ct12 oc13 kV13 dc13 pm13 cd13 ct13 oc14 kV14 dc14 pm14 cd14 ct14 oc15 kV15 dc15 pm15 cd15 ct15 oc16 kV16 dc16 pm16 cd16 ct16 oc17 kV17 dc17 pm17 cd17 ct17 : Value}
    (a1 : PySem.W.nsIn K mainGlobals "_law_draws" = some (some (.ref f1))) (l1 : K.lookup f1 = some ⟨oc1, od1, .func (PySem.W.fnOf "_law_draws" "_law_draws" (defArgs sDraws) (defBody sDraws) (defScope sDraws) .none kV1 dc1 pm1 an1 cd1 ct1), sl1⟩) (c1 : PySem.W.codeIn K cd1 "_law_draws" = true) (k1 : PySem.W.keepIn K (.ref f1) = true)
    (a2 : PySem.W.nsIn K mainGlobals "_law_take" = some (some (.ref f2))) (l2 : K.lookup f2 = some ⟨oc2, od2, .func (PySem.W.fnOf "_law_take" "_law_take" (defArgs sTake) (defBody sTake) (defScope sTake) .none kV2 dc2 pm2 an2 cd2 ct2), sl2⟩) (c2 : PySem.W.codeIn K cd2 "_law_take" = true) (k2 : PySem.W.keepIn K (.ref f2) = true)
    (a3 : PySem.W.nsIn K mainGlobals "_law_of" = some (some (.ref f3))) (l3 : K.lookup f3 = some ⟨oc3, od3, .func (PySem.W.fnOf "_law_of" "_law_of" (defArgs sOf) (defBody sOf) (defScope sOf) .none kV3 dc3 pm3 an3 cd3 ct3), sl3⟩) (c3 : PySem.W.codeIn K cd3 "_law_of" = true) (k3 : PySem.W.keepIn K (.ref f3) = true)
    (a4 : PySem.W.nsIn K mainGlobals "_law_deep" = some (some (.ref f4))) (l4 : K.lookup f4 = some ⟨oc4, od4, .func (PySem.W.fnOf "_law_deep" "_law_deep" (defArgs sDeep) (defBody sDeep) (defScope sDeep) .none kV4 dc4 pm4 an4 cd4 ct4), sl4⟩) (c4 : PySem.W.codeIn K cd4 "_law_deep" = true) (k4 : PySem.W.keepIn K (.ref f4) = true)
    (a5 : PySem.W.nsIn K mainGlobals "_law_size" = some (some (.ref f5))) (l5 : K.lookup f5 = some ⟨oc5, od5, .func (PySem.W.fnOf "_law_size" "_law_size" (defArgs sSize) (defBody sSize) (defScope sSize) .none kV5 dc5 pm5 an5 cd5 ct5), sl5⟩) (c5 : PySem.W.codeIn K cd5 "_law_size" = true) (k5 : PySem.W.keepIn K (.ref f5) = true)
    (a6 : PySem.W.nsIn K mainGlobals "_law_all" = some (some (.ref f6))) (l6 : K.lookup f6 = some ⟨oc6, od6, .func (PySem.W.fnOf "_law_all" "_law_all" (defArgs sAll) (defBody sAll) (defScope sAll) .none kV6 dc6 pm6 an6 cd6 ct6), sl6⟩) (c6 : PySem.W.codeIn K cd6 "_law_all" = true) (k6 : PySem.W.keepIn K (.ref f6) = true)
    (a7 : PySem.W.nsIn K mainGlobals "_law_near" = some (some (.ref f7))) (l7 : K.lookup f7 = some ⟨oc7, od7, .func (PySem.W.fnOf "_law_near" "_law_near" (defArgs sNear) (defBody sNear) (defScope sNear) .none kV7 dc7 pm7 an7 cd7 ct7), sl7⟩) (c7 : PySem.W.codeIn K cd7 "_law_near" = true) (k7 : PySem.W.keepIn K (.ref f7) = true)
    (a8 : PySem.W.nsIn K mainGlobals "_law_is_whole" = some (some (.ref f8))) (l8 : K.lookup f8 = some ⟨oc8, od8, .func (PySem.W.fnOf "_law_is_whole" "_law_is_whole" (defArgs sWhole) (defBody sWhole) (defScope sWhole) .none kV8 dc8 pm8 an8 cd8 ct8), sl8⟩) (c8 : PySem.W.codeIn K cd8 "_law_is_whole" = true) (k8 : PySem.W.keepIn K (.ref f8) = true)
    (a9 : PySem.W.nsIn K mainGlobals "_law_is_one" = some (some (.ref f9))) (l9 : K.lookup f9 = some ⟨oc9, od9, .func (PySem.W.fnOf "_law_is_one" "_law_is_one" (defArgs sIsOne) (defBody sIsOne) (defScope sIsOne) .none kV9 dc9 pm9 an9 cd9 ct9), sl9⟩) (c9 : PySem.W.codeIn K cd9 "_law_is_one" = true) (k9 : PySem.W.keepIn K (.ref f9) = true)
    (a10 : PySem.W.nsIn K mainGlobals "_law_legs_right" = some (some (.ref f10))) (l10 : K.lookup f10 = some ⟨oc10, od10, .func (PySem.W.fnOf "_law_legs_right" "_law_legs_right" (defArgs sLegsRight) (defBody sLegsRight) (defScope sLegsRight) .none kV10 dc10 pm10 an10 cd10 ct10), sl10⟩) (c10 : PySem.W.codeIn K cd10 "_law_legs_right" = true) (k10 : PySem.W.keepIn K (.ref f10) = true)
    (a11 : PySem.W.nsIn K mainGlobals "is_whole" = some (some (.ref f11))) (l11 : K.lookup f11 = some ⟨oc11, od11, .func (PySem.W.fnOf "is_whole" "is_whole" (defArgs sPWhole) (defBody sPWhole) (defScope sPWhole) .none kV11 dc11 pm11 an11 cd11 ct11), sl11⟩) (c11 : PySem.W.codeIn K cd11 "is_whole" = true) (k11 : PySem.W.keepIn K (.ref f11) = true)
    (a12 : PySem.W.nsIn K mainGlobals "is_between" = some (some (.ref f12))) (l12 : K.lookup f12 = some ⟨oc12, od12, .func (PySem.W.fnOf "is_between" "is_between" (defArgs sBetween) (defBody sBetween) (defScope sBetween) .none kV12 dc12 pm12 an12 cd12 ct12), sl12⟩) (c12 : PySem.W.codeIn K cd12 "is_between" = true) (k12 : PySem.W.keepIn K (.ref f12) = true)
    (a13 : PySem.W.nsIn K mainGlobals "is_tuple_of" = some (some (.ref f13))) (l13 : K.lookup f13 = some ⟨oc13, od13, .func (PySem.W.fnOf "is_tuple_of" "is_tuple_of" (defArgs sTupOf) (defBody sTupOf) (defScope sTupOf) .none kV13 dc13 pm13 an13 cd13 ct13), sl13⟩) (c13 : PySem.W.codeIn K cd13 "is_tuple_of" = true) (k13 : PySem.W.keepIn K (.ref f13) = true)
    (a14 : PySem.W.nsIn K mainGlobals "is_wire" = some (some (.ref f14))) (l14 : K.lookup f14 = some ⟨oc14, od14, .func (PySem.W.fnOf "is_wire" "is_wire" (defArgs sIsWire) (defBody sIsWire) (defScope sIsWire) .none kV14 dc14 pm14 an14 cd14 ct14), sl14⟩) (c14 : PySem.W.codeIn K cd14 "is_wire" = true) (k14 : PySem.W.keepIn K (.ref f14) = true)
    (a15 : PySem.W.nsIn K mainGlobals "wires" = some (some (.ref f15))) (l15 : K.lookup f15 = some ⟨oc15, od15, .func (PySem.W.fnOf "wires" "wires" (defArgs sWires) (defBody sWires) (defScope sWires) .none kV15 dc15 pm15 an15 cd15 ct15), sl15⟩) (c15 : PySem.W.codeIn K cd15 "wires" = true) (k15 : PySem.W.keepIn K (.ref f15) = true)
    (a16 : PySem.W.nsIn K mainGlobals "legs" = some (some (.ref f16))) (l16 : K.lookup f16 = some ⟨oc16, od16, .func (PySem.W.fnOf "legs" "legs" (defArgs sLegs) (defBody sLegs) (defScope sLegs) .none kV16 dc16 pm16 an16 cd16 ct16), sl16⟩) (c16 : PySem.W.codeIn K cd16 "legs" = true) (k16 : PySem.W.keepIn K (.ref f16) = true)
    (a17 : PySem.W.nsIn K mainGlobals "law" = some (some (.ref f17))) (l17 : K.lookup f17 = some ⟨oc17, od17, .func (PySem.W.fnOf "law" "law" (defArgs sLaw) (defBody sLaw) (defScope sLaw) .none kV17 dc17 pm17 an17 cd17 ct17), sl17⟩) (c17 : PySem.W.codeIn K cd17 "law" = true) (k17 : PySem.W.keepIn K (.ref f17) = true)
    (z1 : PySem.W.nsIn K mainGlobals "len" = some none) (z2 : PySem.W.nsIn K mainGlobals "abs" = some none) (z3 : PySem.W.nsIn K mainGlobals "range" = some none) (z4 : PySem.W.nsIn K mainGlobals "tuple" = some none) (z5 : PySem.W.nsIn K mainGlobals "max" = some none) (z6 : PySem.W.nsIn K mainGlobals "min" = some none) (z7 : PySem.W.nsIn K mainGlobals "repr" = some none) (z8 : PySem.W.nsIn K mainGlobals "isinstance" = some none) (z9 : PySem.W.nsIn K mainGlobals "int" = some none) (z10 : PySem.W.nsIn K mainGlobals "bool" = some none) (z11 : PySem.W.nsIn K mainGlobals "str" = some none) (z12 : PySem.W.nsIn K mainGlobals "all" = some none) (z13 : PySem.W.nsIn K mainGlobals "enumerate" = some none) (z14 : PySem.W.nsIn K mainGlobals "sorted" = some none) :
    ∃ fd : FuncData, (∀ (s : Shared) (v : Value), BindsTo s fd ⟨[v], []⟩ [("_law_script", v)]) ∧ ∀ base : Heap, K.In base → base.Ns mainGlobals mg → FnG l.prog w K mg base 4 fa fd ["_law_script"] (spLaw K) := by
  have e := hfa.symm.trans (PySem.W.mg_of X G a17)
  cases e
  have F1 := fun_mk (st := sDraws) l1 c1 k1
  have F2 := fun_mk (st := sTake) l2 c2 k2
  have F3 := fun_mk (st := sOf) l3 c3 k3
  have F4 := fun_mk (st := sDeep) l4 c4 k4
  have F5 := fun_mk (st := sSize) l5 c5 k5
  have F6 := fun_mk (st := sAll) l6 c6 k6
  have F7 := fun_mk (st := sNear) l7 c7 k7
  have F8 := fun_mk (st := sWhole) l8 c8 k8
  have F9 := fun_mk (st := sIsOne) l9 c9 k9
  have F10 := fun_mk (st := sLegsRight) l10 c10 k10
  have F11 := fun_mk (st := sPWhole) l11 c11 k11
  have F12 := fun_mk (st := sBetween) l12 c12 k12
  have F13 := fun_mk (st := sTupOf) l13 c13 k13
  have F14 := fun_mk (st := sIsWire) l14 c14 k14
  have F15 := fun_mk (st := sWires) l15 c15 k15
  have F16 := fun_mk (st := sLegs) l16 c16 k16
  have F17 := fun_mk (st := sLaw) l17 c17 k17
  have b1 := F1.binds (ps := ["_law_script", "_law_k"]) fun _ _ _ _ _ _ us hl => match us, hl with | [_, _], _ => rfl
  have b2 := F2.binds (ps := ["_law_pot", "_law_many"]) fun _ _ _ _ _ _ us hl => match us, hl with | [_, _], _ => rfl
  have b3 := F3.binds (ps := ["_law_pot", "_law_some"]) fun _ _ _ _ _ _ us hl => match us, hl with | [_, _], _ => rfl
  have b4 := F4.binds (ps := ["_law_many"]) fun _ _ _ _ _ _ us hl => match us, hl with | [_], _ => rfl
  have b5 := F5.binds (ps := ["_law_pot", "_law_most"]) fun _ _ _ _ _ _ us hl => match us, hl with | [_, _], _ => rfl
  have b6 := F6.binds (ps := ["_law_a", "_law_b"]) fun _ _ _ _ _ _ us hl => match us, hl with | [_, _], _ => rfl
  have b7 := F7.binds (ps := ["_law_pot", "_law_a", "_law_b"]) fun _ _ _ _ _ _ us hl => match us, hl with | [_, _, _], _ => rfl
  have b8 := F8.binds (ps := ["_law_thing", "_law_below"]) fun _ _ _ _ _ _ us hl => match us, hl with | [_, _], _ => rfl
  have b9 := F9.binds (ps := ["_law_a", "_law_b", "_law_thing"]) fun _ _ _ _ _ _ us hl => match us, hl with | [_, _, _], _ => rfl
  have b10 := F10.binds (ps := ["_law_a", "_law_b"]) fun _ _ _ _ _ _ us hl => match us, hl with | [_, _], _ => rfl
  have b11 := F11.binds (ps := ["thing"]) fun _ _ _ _ _ _ us hl => match us, hl with | [_], _ => rfl
  have b12 := F12.binds (ps := ["thing", "least", "most"]) fun _ _ _ _ _ _ us hl => match us, hl with | [_, _, _], _ => rfl
  have b13 := F13.binds (ps := ["thing", "many"]) fun _ _ _ _ _ _ us hl => match us, hl with | [_, _], _ => rfl
  have b14 := F14.binds (ps := ["a", "b", "thing"]) fun _ _ _ _ _ _ us hl => match us, hl with | [_, _, _], _ => rfl
  have b15 := F15.binds (ps := ["a", "b"]) fun _ _ _ _ _ _ us hl => match us, hl with | [_, _], _ => rfl
  have b16 := F16.binds (ps := ["i", "j"]) fun _ _ _ _ _ _ us hl => match us, hl with | [_, _], _ => rfl
  exact ⟨PySem.W.fnOf "law" "law" (defArgs sLaw) (defBody sLaw) (defScope sLaw) .none kV17 dc17 pm17 an17 cd17 ct17, fun s v => .of_eq rfl, fun base _ _ =>
    ok_law F17 F1 F2 F3 F4 F5 F6 F7 F8 F9 F10 F11 F12 F13 F14 F15 F16 b1 b2 b3 b4 b5 b6 b7 b8 b9 b10 b11 b12 b13 b14 b15 b16 (PySem.W.mg_of X G a1) (PySem.W.mg_of X G a2) (PySem.W.mg_of X G a3) (PySem.W.mg_of X G a4) (PySem.W.mg_of X G a5) (PySem.W.mg_of X G a6) (PySem.W.mg_of X G a7) (PySem.W.mg_of X G a8) (PySem.W.mg_of X G a9) (PySem.W.mg_of X G a10) (PySem.W.mg_of X G a11) (PySem.W.mg_of X G a12) (PySem.W.mg_of X G a13) (PySem.W.mg_of X G a14) (PySem.W.mg_of X G a15) (PySem.W.mg_of X G a16) (PySem.W.mg_none_of X G z1) (PySem.W.mg_none_of X G z2) (PySem.W.mg_none_of X G z3) (PySem.W.mg_none_of X G z4) (PySem.W.mg_none_of X G z5) (PySem.W.mg_none_of X G z6) (PySem.W.mg_none_of X G z7) (PySem.W.mg_none_of X G z8) (PySem.W.mg_none_of X G z9) (PySem.W.mg_none_of X G z10) (PySem.W.mg_none_of X G z11) (PySem.W.mg_none_of X G z12) (PySem.W.mg_none_of X G z13) (PySem.W.mg_none_of X G z14)⟩
end C2
open PySem PySem.W PyProof.Rows
set_option maxRecDepth 100000 in
set_option maxHeartbeats 0 in
theorem PySem.Challenge.cw_cornertold_k07_wires_and_legs_holds : PySem.Challenge.rw_cornertold_k07_wires_and_legs.Holds := by
  w_on; o_law; k_head; (case hw => w_witness2)
  k_fill
  refine C2.walkG (l := PySem.Challenge.rw_cornertold_k07_wires_and_legs) (n := 63) (k := 4) (x := "_law_script") (sp := C2.spLaw) rfl (by decide) rfl ⟨rfl, by decide, by decide⟩ (fun w h Y => PySem.W.kIn_of Y) ?F (fun _ _ a ns hl hS => ⟨a, ns, rfl, hS, hl, fun _ => rfl⟩)
  case F =>
    intro w mg fa h KX G hmg
    refine' C2.all_mk KX G hmg ?a1 ?l1 ?c1 ?k1 ?a2 ?l2 ?c2 ?k2 ?a3 ?l3 ?c3 ?k3 ?a4 ?l4 ?c4 ?k4 ?a5 ?l5 ?c5 ?k5 ?a6 ?l6 ?c6 ?k6 ?a7 ?l7 ?c7 ?k7 ?a8 ?l8 ?c8 ?k8 ?a9 ?l9 ?c9 ?k9 ?a10 ?l10 ?c10 ?k10 ?a11 ?l11 ?c11 ?k11 ?a12 ?l12 ?c12 ?k12 ?a13 ?l13 ?c13 ?k13 ?a14 ?l14 ?c14 ?k14 ?a15 ?l15 ?c15 ?k15 ?a16 ?l16 ?c16 ?k16 ?a17 ?l17 ?c17 ?k17 ?z1 ?z2 ?z3 ?z4 ?z5 ?z6 ?z7 ?z8 ?z9 ?z10 ?z11 ?z12 ?z13 ?z14
    (case a1 => k_is); (case l1 => k_is); (case c1 => k_is); (case k1 => k_is); (case a2 => k_is); (case l2 => k_is); (case c2 => k_is); (case k2 => k_is)
    (case a3 => k_is); (case l3 => k_is); (case c3 => k_is); (case k3 => k_is); (case a4 => k_is); (case l4 => k_is); (case c4 => k_is); (case k4 => k_is)
    (case a5 => k_is); (case l5 => k_is); (case c5 => k_is); (case k5 => k_is); (case a6 => k_is); (case l6 => k_is); (case c6 => k_is); (case k6 => k_is)
    (case a7 => k_is); (case l7 => k_is); (case c7 => k_is); (case k7 => k_is); (case a8 => k_is); (case l8 => k_is); (case c8 => k_is); (case k8 => k_is)
    (case a9 => k_is); (case l9 => k_is); (case c9 => k_is); (case k9 => k_is); (case a10 => k_is); (case l10 => k_is); (case c10 => k_is); (case k10 => k_is)
    (case a11 => k_is); (case l11 => k_is); (case c11 => k_is); (case k11 => k_is); (case a12 => k_is); (case l12 => k_is); (case c12 => k_is); (case k12 => k_is)
    (case a13 => k_is); (case l13 => k_is); (case c13 => k_is); (case k13 => k_is); (case a14 => k_is); (case l14 => k_is); (case c14 => k_is); (case k14 => k_is)
    (case a15 => k_is); (case l15 => k_is); (case c15 => k_is); (case k15 => k_is); (case a16 => k_is); (case l16 => k_is); (case c16 => k_is); (case k16 => k_is)
    (case a17 => k_is); (case l17 => k_is); (case c17 => k_is); (case k17 => k_is); (case z1 => k_is); (case z2 => k_is); (case z3 => k_is); (case z4 => k_is)
    (case z5 => k_is); (case z6 => k_is); (case z7 => k_is); (case z8 => k_is); (case z9 => k_is); (case z10 => k_is); (case z11 => k_is); (case z12 => k_is)
    (case z13 => k_is); (case z14 => k_is)
