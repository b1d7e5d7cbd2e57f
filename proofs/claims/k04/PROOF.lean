import PyProof.Rows.All
import Wide.All
import OpenK.AllK
import Wide.FinOn
import HandS.ForMost
import HandS.Wide
import HandS.Conv
import HandS.Walk
import HandS.Zip
import KE.GoesMore
import KE.GoesEnum
import HandS.Style
import HandS.TupSets
import HandS.IsInst
import PyProof.SetRoads
import KE.KIndexOf
import HandS.TupMul
import PySem.Challenge.RW_cornertold_k04_through_pushed_lifted
set_option Elab.async false
set_option linter.all false
set_option maxRecDepth 100000
namespace C2
set_option Elab.async false
set_option linter.all false
set_option maxRecDepth 100000
set_option maxHeartbeats 4000000
open PySem PySem.Spec PyProof.Rows L2
def topS (i : Nat) : Stmt := PySem.Challenge.pw_cornertold_k04_through_pushed_lifted.main.body.getD i (.Pass ⟨0, 0, 0, 0⟩)
abbrev sTurned : Stmt := topS 1
abbrev sThrough : Stmt := topS 2
abbrev sPushed : Stmt := topS 3
abbrev sLifted : Stmt := topS 4
abbrev sDraws : Stmt := topS 6
abbrev sTake : Stmt := topS 7
abbrev sOf : Stmt := topS 8
abbrev sMixed : Stmt := topS 9
abbrev sWhole : Stmt := topS 10
abbrev sIsTable : Stmt := topS 11
abbrev sTurns : Stmt := topS 12
abbrev sBack : Stmt := topS 13
abbrev sQuads : Stmt := topS 14
abbrev sRight : Stmt := topS 15
abbrev sLaw : Stmt := topS 16
theorem scDraws : FnScope ["_law_script", "_law_k", "_law_cell", "_law_great"] ["_law_script", "_law_k"] (defScope sDraws) := ⟨rfl, rfl, rfl, by decide +kernel, rfl, by decide +kernel, by decide +kernel⟩
theorem scTake : FnScope ["_law_pot", "_law_many", "_law_digit", "_law_prime", "_law_drawn"] ["_law_pot", "_law_many"] (defScope sTake) := ⟨rfl, rfl, rfl, by decide +kernel, rfl, by decide +kernel, by decide +kernel⟩
theorem scOf : FnScope ["_law_pot", "_law_some"] ["_law_pot", "_law_some"] (defScope sOf) := ⟨rfl, rfl, rfl, by decide +kernel, rfl, by decide +kernel, by decide +kernel⟩

/-- all that was tracked, but what stands at p, is as it was -/
def Fr (p : Addr) (H H' : Hp) : Prop := ∀ b o, b ≠ p → H b = some o → H' b = some o
theorem Fr.refl (p : Addr) (H : Hp) : Fr p H H := fun _ _ _ h => h
theorem Fr.trans {p : Addr} {H H1 H2 : Hp} (a : Fr p H H1) (b : Fr p H1 H2) : Fr p H H2 := fun c o n h => b c o n (a c o n h)
theorem Fr.same {p : Addr} {H H1 : Hp} (a : Same H H1) : Fr p H H1 := fun c o _ h => a c o h
theorem Fr.upd {p : Addr} {H : Hp} {o : HO} : Fr p H (upd H p o) := fun c u n h => by rw [upd_ne n]; exact h
theorem Fr.new {p q : Addr} {H : Hp} {o : HO} (h : H q = none) : Fr p H (L2.upd H q o) := fun c u n e => by rw [upd_ne (ne_of_none e h)]; exact e
theorem Fr.free {p : Addr} {H H' : Hp} (e : Fr p H H') {l : Addr} (n : l ≠ p) (h : H' l = none) : H l = none := by
  cases q : H l with
  | none => rfl
  | some o => rw [e l o n q] at h; cases h
theorem same_upd {H : Hp} {p : Addr} {o : HO} (h : H p = none) : Same H (upd H p o) := fun b x e => by
  rw [upd_ne (ne_of_none e h)]
  exact e
def PotAt (H : Hp) (p : Addr) (n : Nat) : Prop := ∃ g c t : Int, H p = some (.lst [.int g, .int c, .int t]) ∧ 0 ≤ t ∧ t ≤ (n : Int)
section
variable {P : Program} {w : World} {K : PySem.W.Frag} {mg : Str → Option Value} {base : Heap}
/-! ### draws -/
def spDraws (K : PySem.W.Frag) : Sp := fun vs H Q _ => ∃ (a : Addr) (ns : List Int) (k : Nat), vs = [.ref a, .int (k : Int)] ∧ SqL K H a (ns.map V.int) ∧ k ≤ 1000 ∧
  ∀ H' p, Same H H' → H p = none → PotAt H' p 0 → Q (.ref p) H'
theorem pow_ok1 : CPow 10 18 := ⟨by decide, by decide, by decide⟩
theorem pow_ok2 : CPow 10 60 := ⟨by decide, by decide, by decide⟩
theorem wide1 : CMulW ((10 : Int) ^ (60 : Int).toNat) ((10 : Int) ^ (60 : Int).toNat) := wide_mul (a := 200) (b := 200) (by decide +kernel) (by decide +kernel) (by decide) (by decide) (by decide)
theorem wide2 : CMulW ((10 : Int) ^ (60 : Int).toNat * (10 : Int) ^ (60 : Int).toNat) ((10 : Int) ^ (60 : Int).toNat) := wide_mul (a := 400) (b := 200) (by decide +kernel) (by decide +kernel) (by decide) (by decide) (by decide)
theorem wide3 : (0 : Int) < (10 : Int) ^ (60 : Int).toNat * (10 : Int) ^ (60 : Int).toNat * (10 : Int) ^ (60 : Int).toNat := by decide +kernel
theorem fin_draws {H : Hp} {Q : VK} {a : Addr} {k : Nat} (q : ∀ (H' : Hp) (p : Addr), Same H H' → H p = none → PotAt H' p 0 → Q (V.ref p) H') (hk : k ≤ 1000) (cell great : Int) :
    tRet (tLst (tCons (tVar 3) (tCons (tOp (rI (fun x j => 0 < j) fun i j => V.int (i % j)) (tOp (rI0 fun i j => V.int (i + j)) (tOp (rI0 fun i j => V.int (i + j))
      (tOp (rI CMul fun i j => V.int (i * j)) (tOp (rI (fun x j => 0 < j) fun i j => V.int (i % j)) (tVar 2) (tC (V.int 2305843009213693951))) (tC (V.int 1000033)))
      (tOp (rI CMul fun i j => V.int (i * j)) (tC (V.int 7919)) (tVar 1))) (tC (V.int 41))) (tC (V.int 2305843009213693921))) (tCons (tC (V.int 0)) tNil))))
      { nx := fun x H' => Q V.non H', rt := Q } [some (V.ref a), some (V.int (k : Int)), some (V.int cell), some (V.int great)] H := by
  refine ⟨.int great, rfl, .int cell, rfl, cell, 2305843009213693951, rfl, rfl, (by show (0 : Int) < 2305843009213693951; decide), _, 1000033, rfl, rfl, .inr ⟨by decide, by decide⟩, .int (k : Int), rfl, 7919, (k : Int), rfl, rfl, .inl ⟨by decide, by decide⟩, _, _, rfl, rfl, _, 41, rfl, rfl, _, _, rfl, rfl, (by show (0 : Int) < 2305843009213693921; decide), by show 3 ≤ sizeLine; decide, fun p np => ?_⟩
  exact q _ p (same_upd np) np ⟨_, _, _, upd_same, Int.le_refl _, Int.le_refl _⟩
theorem ok_draws {f : Addr} {fd : FuncData} {k : Nat} (F : Fun K "_law_draws" "_law_draws" sDraws f fd) (ml : mg "len" = none) (ma : mg "abs" = none) : FnOk P w K mg base CX0 (k + 1) f fd ["_law_script", "_law_k"] (spDraws K) := by
  refine F.ok scDraws (fun vs H Q E h => ?_) (fun cdv A outer s H vs Q E hr h => ?_)
  · obtain ⟨a, ns, k, rfl, _⟩ := h
    rfl
  · obtain ⟨a, ns, k, rfl, hS, hk, q⟩ := h
    refine ⟨_, pss_cons (ps_set (i := 2) scDraws.nd rfl (.inl rfl) (pe_ifExp (pt_cmpR op_lt (pv 1) (pe_callB call_len_seq (by rfl) ml PySem.boot_len (pa_cons (pv 0) pa_nil)) (nomark _))
          (pe_ix ix_list (pv 0) (pv 1) (fun _ _ => rfl)) (pe_op op_add (pe_op op_mul pe_int (pv 1)) pe_int)))
      (pss_cons (ps_set (i := 3) scDraws.nd rfl (.inl rfl) (pe_ifExp (pt_cmpR op_ge (pe_callB call_abs (by rfl) ma (by decide +kernel) (pa_cons (pv 2) pa_nil)) (pe_op op_pow pe_int pe_int) (nomark _))
          (pe_op op_mod (pe_callB call_abs (by rfl) ma (by decide +kernel) (pa_cons (pv 2) pa_nil)) (pe_op op_mulW (pe_op op_mulW (pe_op op_pow pe_int pe_int) (pe_op op_pow pe_int pe_int)) (pe_op op_pow pe_int pe_int))) pe_int))
      (pss_one (ps_ret (pe_lst (pa_cons (pv 3) (pa_cons (pe_op op_mod (pe_op op_add (pe_op op_add (pe_op op_mul (pe_op op_mod (pv 2) pe_int) pe_int) (pe_op op_mul pe_int (pv 1))) pe_int) pe_int) (pa_cons pe_int pa_nil))))))), ?_⟩
    refine ⟨.int (k : Int), rfl, .ref a, rfl, a, _, rfl, .inl hS, _, _, rfl, rfl, _, rfl, ite2 (fun e => ?_) (fun e => ?_)⟩
    · have e1 : k < ns.length := by
        have := of_decide_eq_true e
        rw [List.length_map] at this
        omega
      refine ⟨.ref a, rfl, .int (k : Int), rfl, a, _, _, .int ns[k], rfl, rfl, hS, atI_nat (by rw [List.getElem?_map, List.getElem?_eq_getElem e1]; rfl), ?_⟩
      generalize ns[k] = cell
      refine ⟨.int cell, rfl, cell, rfl, 10, 18, rfl, rfl, pow_ok1, _, _, rfl, rfl, _, rfl, ite2 (fun e => ?_) (fun e => ?_)⟩
      · refine ⟨.int cell, rfl, cell, rfl, 10, 60, rfl, rfl, pow_ok2, 10, 60, rfl, rfl, pow_ok2, _, _, rfl, rfl, wide1, 10, 60, rfl, rfl, pow_ok2, _, _, rfl, rfl, wide2, _, _, rfl, rfl, wide3, ?_⟩
        exact fin_draws q hk _ _
      · exact fin_draws q hk _ _
    · refine ⟨.int (k : Int), rfl, 5, (k : Int), rfl, rfl, .inl ⟨by decide, by decide⟩, _, 3, rfl, rfl, ?_⟩
      refine ⟨_, rfl, _, rfl, 10, 18, rfl, rfl, pow_ok1, _, _, rfl, rfl, _, rfl, ite2 (fun e => ?_) (fun e => ?_)⟩
      · refine ⟨_, rfl, _, rfl, 10, 60, rfl, rfl, pow_ok2, 10, 60, rfl, rfl, pow_ok2, _, _, rfl, rfl, wide1, 10, 60, rfl, rfl, pow_ok2, _, _, rfl, rfl, wide2, _, _, rfl, rfl, wide3, ?_⟩
        exact fin_draws q hk _ _
      · exact fin_draws q hk _ _
end
end C2

namespace C2
set_option Elab.async false
set_option linter.all false
set_option maxRecDepth 100000
set_option maxHeartbeats 4000000
open PySem PySem.Spec PyProof.Rows L2
section
variable {P : Program} {w : World} {K : PySem.W.Frag} {mg : Str → Option Value} {base : Heap}
def primes : List V := [.int 2147483647, .int 2147483629, .int 2147483587, .int 2147483579, .int 2147483563, .int 2147483549, .int 2147483543]
theorem primes_at {r : Int} (h0 : 0 ≤ r) (h1 : r < 7) : ∃ v : Int, atI primes r = some (.int v) ∧ 0 < v ∧ v < 2147483648 := by
  have : r = 0 ∨ r = 1 ∨ r = 2 ∨ r = 3 ∨ r = 4 ∨ r = 5 ∨ r = 6 := by omega
  rcases this with rfl | rfl | rfl | rfl | rfl | rfl | rfl <;> exact ⟨_, rfl, by decide, by decide⟩
def spTake : Sp := fun vs H Q _ => ∃ (p : Addr) (m : Int) (n : Nat), vs = [.ref p, .int m] ∧ PotAt H p n ∧ n < 1000000 ∧ 0 < m ∧ m < 1073741824 ∧
  ∀ (d : Int) H', Fr p H H' → PotAt H' p (n + 1) → 0 ≤ d → d < m → Q (.int d) H'
theorem ok_take {f : Addr} {fd : FuncData} {k : Nat} (F : Fun K "_law_take" "_law_take" sTake f fd) : FnOk P w K mg base CX0 (k + 1) f fd ["_law_pot", "_law_many"] spTake := by
  refine F.ok scTake (fun vs H Q E h => ?_) (fun cdv A outer s H vs Q E hr h => ?_)
  · obtain ⟨a, ns, k, rfl, _⟩ := h
    rfl
  · obtain ⟨p, m, n, rfl, ⟨g, c, t, hp, ht0, ht1⟩, hn, hm0, hm1, q⟩ := h
    refine ⟨_, pss_cons (ps_if (pt_cmpR op_gt (pe_ix ix_list (pv 0) pe_int (fun _ _ => rfl)) pe_int (nomark _))
        (pss_cons (ps_set (i := 2) scTake.nd rfl (.inl rfl) (pe_op op_mod (pe_ix ix_list (pv 0) pe_int (fun _ _ => rfl)) (pv 1)))
          (pss_cons (ps_asg (pe_op op_fdiv (pe_ix ix_list (pv 0) pe_int (fun _ _ => rfl)) (pv 1)) (pg_sub (pv 0) pe_int set_list)) (pss_one (ps_ret (pv 2))))) pss_nil)
      (pss_cons (ps_asg (pe_op op_add (pe_ix ix_list (pv 0) pe_int (fun _ _ => rfl)) pe_int) (pg_sub (pv 0) pe_int set_list))
      (pss_cons (ps_set (i := 3) scTake.nd rfl (.inl rfl) (pe_ix ix_list (pe_lst (pa_cons pe_int (pa_cons pe_int (pa_cons pe_int (pa_cons pe_int (pa_cons pe_int (pa_cons pe_int (pa_cons pe_int pa_nil))))))))
          (pe_op op_mod (pe_ix ix_list (pv 0) pe_int (fun _ _ => rfl)) pe_int) (fun _ _ => rfl)))
      (pss_cons (ps_set (i := 4) scTake.nd rfl (.inl rfl) (pe_op op_add (pe_op op_mod (pe_op op_mod (pe_op op_add (pe_ix ix_list (pv 0) pe_int (fun _ _ => rfl))
          (pe_op op_mul (pe_op op_mul pe_int (pe_ix ix_list (pv 0) pe_int (fun _ _ => rfl))) (pe_ix ix_list (pv 0) pe_int (fun _ _ => rfl)))) (pe_op op_mul (pv 3) (pv 3))) (pv 3)) pe_int))
      (pss_one (ps_ret (pe_op op_mod (pe_op op_fdiv (pe_op op_mod (pe_op op_mul (pv 4) (pe_op op_add (pe_op op_mod (pv 4) pe_int) (pe_ix ix_list (pv 0) pe_int (fun _ _ => rfl)))) (pv 3)) pe_int) (pv 1))))))), ?_⟩
    have L0 : SqL K H p [.int g, .int c, .int t] := .inl (.inl hp)
    refine ⟨.ref p, rfl, p, _, 0, .int g, rfl, rfl, L0, rfl, _, _, rfl, rfl, _, rfl, ite2 (fun e => ?_) (fun e => ?_)⟩
    · refine ⟨.ref p, rfl, p, _, 0, .int g, rfl, rfl, L0, rfl, .int m, rfl, _, _, rfl, rfl, hm0, ?_⟩
      refine ⟨.ref p, rfl, p, _, 0, .int g, rfl, rfl, L0, rfl, .int m, rfl, _, _, rfl, rfl, ⟨hm0, hm1⟩, ?_⟩
      refine ⟨.ref p, rfl, p, _, 0, 0, rfl, rfl, hp, rfl, ?_⟩
      refine ⟨_, rfl, q _ _ Fr.upd ⟨_, _, _, upd_same, ht0, by omega⟩ (Int.emod_nonneg _ (by omega)) (Int.emod_lt_of_pos _ hm0)⟩
    · refine ⟨.ref p, rfl, p, _, 2, .int t, rfl, rfl, L0, rfl, _, 1, rfl, rfl, ?_⟩
      refine ⟨.ref p, rfl, p, _, 2, 2, rfl, rfl, hp, rfl, ?_⟩
      have hp2 : (upd H p (.lst (List.set [.int g, .int c, .int t] 2 (.int (t + 1))))) p = some (.lst [.int g, .int c, .int (t + 1)]) := upd_same
      refine ⟨by show 7 ≤ sizeLine; decide, fun o no => ?_⟩
      have npo : p ≠ o := ne_of_none hp2 no
      have hp3 : (upd (upd H p (.lst (List.set [.int g, .int c, .int t] 2 (.int (t + 1))))) o (.lst primes)) p = some (.lst [.int g, .int c, .int (t + 1)]) := by
        rw [upd_ne npo]
        exact hp2
      have fr3 : Fr p H (upd (upd H p (.lst (List.set [.int g, .int c, .int t] 2 (.int (t + 1))))) o (.lst primes)) := Fr.trans Fr.upd (Fr.new no)
      have L3 : SqL K (upd (upd H p (.lst (List.set [.int g, .int c, .int t] 2 (.int (t + 1))))) o (.lst primes)) p [.int g, .int c, .int (t + 1)] := .inl (.inl hp3)
      have LO : SqL K (upd (upd H p (.lst (List.set [.int g, .int c, .int t] 2 (.int (t + 1))))) o (.lst primes)) o primes := .inl (.inl upd_same)
      obtain ⟨v, hv, v0, v1⟩ := primes_at (r := (t + 1) % 7) (Int.emod_nonneg _ (by decide)) (Int.emod_lt_of_pos _ (by decide))
      have b20 : (-(2 ^ 64) : Int) < t + 1 ∧ t + 1 < 2 ^ 64 := ⟨by omega, by omega⟩
      have bv : (-(2 ^ 64) : Int) < v ∧ v < 2 ^ 64 := ⟨by omega, by omega⟩
      refine ⟨.ref p, rfl, p, _, 2, .int (t + 1), rfl, rfl, L3, rfl, _, 7, rfl, rfl, (by show (0 : Int) < 7; decide), o, _, _, _, rfl, rfl, LO, hv, ?_⟩
      refine ⟨.ref p, rfl, p, _, 1, .int c, rfl, rfl, L3, rfl, .ref p, rfl, p, _, 2, .int (t + 1), rfl, rfl, L3, rfl, 69621, _, rfl, rfl, .inr b20, .ref p, rfl, p, _, 2, .int (t + 1), rfl, rfl, L3, rfl, _, _, rfl, rfl, .inr b20, _, _, rfl, rfl,
        .int v, rfl, .int v, rfl, v, v, rfl, rfl, .inl bv, _, _, rfl, rfl, (Int.mul_pos v0 v0), .int v, rfl, _, _, rfl, rfl, v0, _, 1, rfl, rfl, ?_⟩
      have z0 := Int.emod_nonneg ((c + 69621 * (t + 1) * (t + 1)) % (v * v)) (show v ≠ 0 by omega)
      have z1 := Int.emod_lt_of_pos ((c + 69621 * (t + 1) * (t + 1)) % (v * v)) v0
      generalize (c + 69621 * (t + 1) * (t + 1)) % (v * v) % v = z at z0 z1
      have bz : (-(2 ^ 64) : Int) < z + 1 ∧ z + 1 < 2 ^ 64 := ⟨by omega, by omega⟩
      refine ⟨.int (z + 1), rfl, .int (z + 1), rfl, z + 1, 1009, rfl, rfl, (by show (0 : Int) < 1009; decide), .ref p, rfl, p, _, 2, .int (t + 1), rfl, rfl, L3, rfl, _, _, rfl, rfl, _, _, rfl, rfl, .inl bz, .int v, rfl, _, _, rfl, rfl, v0, _, 7, rfl, rfl, ⟨by decide, by decide⟩,
        .int m, rfl, _, _, rfl, rfl, hm0, ?_⟩
      exact q _ _ fr3 ⟨_, _, _, hp3, by omega, by omega⟩ (Int.emod_nonneg _ (by omega)) (Int.emod_lt_of_pos _ hm0)
end
end C2

namespace C2
set_option Elab.async false
set_option linter.all false
set_option maxRecDepth 100000
set_option maxHeartbeats 4000000
open PySem PySem.Spec PyProof.Rows L2
section
variable {P : Program} {w : World} {K : PySem.W.Frag} {mg : Str → Option Value} {base : Heap}
theorem frSeq {p : Addr} {H H' : Hp} {a : Addr} {xs : List V} (e : Fr p H H') (n : a ≠ p) (h : SqL K H a xs) : SqL K H' a xs := by
  rcases h with (h | ⟨o, h⟩) | h
  · exact .inl (.inl (e _ _ n h))
  · exact .inl (.inr ⟨o, e _ _ n h⟩)
  · exact .inr h
def spOf (K : PySem.W.Frag) : Sp := fun vs H Q _ => ∃ (p a : Addr) (xs : List V) (n : Nat), vs = [.ref p, .ref a] ∧ PotAt H p n ∧ n < 1000000 ∧ a ≠ p ∧ SqL K H a xs ∧ 0 < xs.length ∧ xs.length < 1000000 ∧
  ∀ v H', Fr p H H' → PotAt H' p (n + 1) → v ∈ xs → Q v H'
theorem ok_of {f fT : Addr} {fd fdT : FuncData} {k : Nat} (F : Fun K "_law_of" "_law_of" sOf f fd) (FT : Fun K "_law_take" "_law_take" sTake fT fdT) (bT : Binds K fdT ["_law_pot", "_law_many"] []) (gT : mg "_law_take" = some (.ref fT)) (ml : mg "len" = none) : FnOk P w K mg base CX0 (k + 2) f fd ["_law_pot", "_law_some"] (spOf K) := by
  have GT : FnOk P w K mg base CX0 (k + 1) fT fdT ["_law_pot", "_law_many"] spTake := ok_take FT
  refine F.ok scOf (fun vs H Q E h => ?_) (fun cdv A outer s H vs Q E hr h => ?_)
  · obtain ⟨p, a, xs, n, rfl, _⟩ := h
    rfl
  · obtain ⟨p, a, xs, n, rfl, hP, hn, hap, hS, h0, h1, q⟩ := h
    refine ⟨_, pss_one (ps_ret (pe_ix ix_list (pv 1) (pe_call GT hr (by rfl) gT FT.kp bT .nil pass0 (pa_cons (pv 0) (pa_cons (pe_callB call_len_seq (by rfl) ml PySem.boot_len (pa_cons (pv 1) pa_nil)) pa_nil))) (fun _ _ => rfl))), ?_⟩
    refine ⟨.ref a, rfl, .ref p, rfl, .ref a, rfl, a, _, rfl, .inl hS, p, _, n, rfl, hP, hn, by omega, by omega, fun d H1 fr hP1 d0 d1 => ?_⟩
    have hd : d.toNat < xs.length := by omega
    have ed : d = (d.toNat : Int) := by omega
    refine ⟨a, _, d, xs[d.toNat], rfl, rfl, frSeq fr hap hS, at_of ed (List.getElem?_eq_getElem hd), ?_⟩
    exact q _ _ fr hP1 (List.getElem_mem hd)
def rLen (K : PySem.W.Frag) : List V → Hp → VK → Prop := fun xs H Q => ∃ p ys, xs = [.ref p] ∧ (SqL K H p ys ∨ SqT K H p ys) ∧ Q (.int (ys.length : Nat)) H
theorem scMixed : FnScope ["_law_pot", "_law_some", "_law_left", "_law_turn"] ["_law_pot", "_law_some"] (defScope sMixed) := ⟨rfl, rfl, rfl, by decide +kernel, rfl, by decide +kernel, by decide +kernel⟩
theorem perm_erase {α : Type} : ∀ {l : List α} {k : Nat} (h : k < l.length), l.Perm (l[k] :: l.eraseIdx k)
  | x :: r, 0, _ => List.Perm.refl _
  | x :: r, k + 1, h => (List.Perm.cons x (perm_erase (l := r) (k := k) (by simpa using h))).trans (List.Perm.swap _ _ _)
/-- mixed: some list of the same things, in some order -/
def spMixed (K : PySem.W.Frag) : Sp := fun vs H Q _ => ∃ (p a : Addr) (xs : List V) (n : Nat), vs = [.ref p, .ref a] ∧ PotAt H p n ∧ n + xs.length < 1000000 ∧ a ≠ p ∧ SqL K H a xs ∧
  ∀ r ys H', Fr p H H' → PotAt H' p (n + xs.length) → H r = none → H' r = some (.lst ys) → ys.Perm xs → Q (.ref r) H'
theorem ok_mixed {f fT : Addr} {fd fdT : FuncData} {k : Nat} (F : Fun K "_law_mixed" "_law_mixed" sMixed f fd) (FT : Fun K "_law_take" "_law_take" sTake fT fdT) (bT : Binds K fdT ["_law_pot", "_law_many"] []) (gT : mg "_law_take" = some (.ref fT)) (ml : mg "len" = none) (mli : mg "list" = none) (mr : mg "range" = none) :
    FnOk P w K mg base CX0 (k + 2) f fd ["_law_pot", "_law_some"] (spMixed K) := by
  have GT : FnOk P w K mg base CX0 (k + 1) fT fdT ["_law_pot", "_law_many"] spTake := ok_take FT
  refine F.ok scMixed (fun vs H Q E h => ?_) (fun cdv A outer s H vs Q E hr h => ?_)
  · obtain ⟨p, a, xs, n, rfl, _⟩ := h
    rfl
  · obtain ⟨p, a, xs, n, rfl, hP, hn, hap, hS, q⟩ := h
    refine ⟨_, pss_cons (ps_set (i := 2) scMixed.nd rfl (.inr rfl) (pe_callTy call_list_of (by rfl) mli (by decide +kernel) (pa_cons (pv 1) pa_nil)))
      (pss_one (ps_ret (pe_lc (own := [("_law_turn", 3)]) (g := gName 3) (tt := tYes) (te := tBM K "list" rPopAt (tVar 2) (tCons (tCall spTake [] E0 (tCons (tVar 0) (tCons (tCB (rLen K) (tCons (tVar 2) tNil)) tNil))) tNil)) rfl scMixed.nd (pi_range1 (by rfl) mr (pa_cons (pe_callB call_len_seq (by rfl) ml PySem.boot_len (pa_cons (pv 1) pa_nil)) pa_nil))
        (blkOk_by (own := [("_law_turn", 3)]) (N := ["_law_pot", "_law_some", "_law_left", "_law_turn"]) (sc := defScope sMixed) (by decide +kernel))
        (fun _ _ _ _ _ => pg_name (i := 3) scMixed.nd rfl (Or.inl rfl)) (fun _ _ _ _ _ => pts_nil)
        (fun _ _ _ _ _ => pe_bm PySem.F.plainAttrs_list PySem.F.slot_list_pop PySem.F.type_list_pop mt_popAt (pv 2)
          (pa_cons (pe_call GT hr (by rfl) gT FT.kp bT .nil pass0 (pa_cons (pv 0) (pa_cons (pe_callB call_len_seq (by rfl) ml PySem.boot_len (pa_cons (pv 2) pa_nil)) pa_nil))) pa_nil))))), ?_⟩
    refine ⟨.ref a, rfl, a, _, rfl, .inl hS, fun l nl => ?_⟩
    have npl : p ≠ l := by
      obtain ⟨_, _, _, hp, _⟩ := hP
      exact ne_of_none hp nl
    have hSl : SqL K (upd H l (.lst xs)) a xs := (same_upd nl).seq hS
    refine ⟨.ref a, rfl, a, xs, rfl, .inl hSl, (xs.length : Int), rfl, by omega, by omega, fun D nD => ?_⟩
    have nDl : l ≠ D := ne_of_none upd_same nD
    have nDp : p ≠ D := by
      obtain ⟨_, _, _, hp, _⟩ := hP
      exact ne_of_none (by rw [upd_ne npl]; exact hp) nD
    have nHD : H D = none := by
      rw [upd_ne nDl.symm] at nD
      exact nD
    refine lc_range (lo := 0) (n := xs.length) (fun i H3 => ∃ rem acc, H3 l = some (.lst rem) ∧ H3 D = some (.lst acc) ∧ (acc ++ rem).Perm xs ∧ acc.length = i ∧ Fr p H H3 ∧ PotAt H3 p (n + i)) ?_ ?_ ?_
    · refine ⟨xs, [], ?_, upd_same, List.Perm.refl _, rfl, ?_, ?_⟩
      · rw [upd_ne nDl]
        exact upd_same
      · exact Fr.trans (Fr.new nl) (Fr.new nD)
      · obtain ⟨g, c, t, hp, h⟩ := hP
        refine ⟨g, c, t, ?_, h⟩
        rw [upd_ne nDp, upd_ne npl]
        exact hp
    · rintro i H3 hi ⟨rem, acc, hl, hD, hper, hacc, fr, hP3⟩
      have hlen : acc.length + rem.length = xs.length := by
        have := hper.length_eq
        rw [List.length_append] at this
        exact this
      have hSr : SqL K H3 l rem := .inl (.inl hl)
      refine ⟨rfl, .ref l, rfl, .inl ⟨rfl, _, hSr⟩, .ref p, rfl, .ref l, rfl, l, rem, rfl, .inl hSr, p, _, n + i, rfl, hP3, by omega, by omega, by omega, fun d H4 fr4 hP4 d0 d1 => ?_⟩
      have hd : d.toNat < rem.length := by omega
      have hl4 : H4 l = some (.lst rem) := fr4 _ _ npl.symm hl
      have hD4 : H4 D = some (.lst acc) := fr4 _ _ nDp.symm hD
      refine ⟨l, rem, d, d.toNat, rem[d.toNat], rfl, rfl, hl4, by omega, by omega, seqIndex_of d0 d1, List.getElem?_eq_getElem hd, acc, ?_, ?_, ?_⟩
      · rw [upd_ne nDl.symm]
        exact hD4
      · exact Nat.lt_of_lt_of_le (show acc.length < 1000000 by omega) (by decide)
      · refine ⟨rem.eraseIdx d.toNat, acc ++ [rem[d.toNat]], ?_, upd_same, ?_, ?_, ?_, ?_⟩
        · rw [upd_ne nDl]
          exact upd_same
        · rw [List.append_assoc]
          refine List.Perm.trans (List.Perm.append_left acc ?_) hper
          exact (perm_erase hd).symm
        · rw [List.length_append, hacc]
          rfl
        · intro b o nb e
          have b1 : b ≠ D := ne_of_none e nHD
          have b2 : b ≠ l := ne_of_none e nl
          rw [upd_ne b1, upd_ne b2]
          exact fr4 _ _ nb (fr _ _ nb e)
        · obtain ⟨g, c, t, hp, h⟩ := hP4
          refine ⟨g, c, t, ?_, h⟩
          rw [upd_ne nDp, upd_ne npl]
          exact hp
    · rintro H3 ⟨rem, acc, hl, hD, hper, hacc, fr, hP3⟩
      have hlen : acc.length + rem.length = xs.length := by
        have := hper.length_eq
        rw [List.length_append] at this
        exact this
      have hrem : rem = [] := List.eq_nil_of_length_eq_zero (by omega)
      subst hrem
      rw [List.append_nil] at hper
      exact q D acc H3 fr hP3 nHD hD hper
end
end C2

namespace C2
set_option Elab.async false
set_option linter.all false
set_option maxRecDepth 100000
set_option maxHeartbeats 4000000
open PySem PySem.Spec PyProof.Rows L2
/-! ### zip of a list and a tuple -/
def ItLT (K : PySem.W.Frag) (a b : Addr) : It :=
  ⟨fun j G => ∃ (us vs : List V) (u v : V), SqL K G a us ∧ SqT K G b vs ∧ us[j]? = some u ∧ vs[j]? = some v,
    fun j G r G' => ∃ T u v, r = .ref T ∧ G T = none ∧ G' = upd G T (.tup [u, v]) ∧ (∀ us, SqL K G a us → us[j]? = some u) ∧ ∀ vs, SqT K G b vs → vs[j]? = some v,
    fun j G => ∃ us vs : List V, SqL K G a us ∧ SqT K G b vs ∧ j ≤ us.length ∧ j ≤ vs.length ∧ (j = us.length ∨ j = vs.length)⟩
def tnLT (a b z TI TO i1 i2 : Addr) (j : Nat) (h : Heap) : Prop :=
  IsZip h z TI TO .none ∧ IsTupOf2 h TI (.ref i1) (.ref i2) ∧ (∃ u v, IsTupOf2 h TO u v) ∧ h.IsListIter i1 a j ∧ h.IsTupleIter i2 b j
theorem in5 {c z TI TO i1 i2 : Addr} (h : c ∈ [z, TI, TO, i1, i2]) : c = z ∨ c = TI ∨ c = TO ∨ c = i1 ∨ c = i2 := by simpa using h
theorem turnLT {P : Program} {w : World} {K : PySem.W.Frag} {elts : List Expr} {kk : Nat} {tpos : Pos} {a b z TI TO i1 i2 : Addr} (S : ZipSep2 z TI TO i1 i2 [i1, a] [i2, b]) :
    Turn P w K (.Tuple elts kk tpos) (ItLT K a b) [z, TI, TO, i1, i2] z (tnLT a b z TI TO i1 i2) where
  mem := by simp
  obj := by
    rintro j h ⟨q1, q2, ⟨u, v, q3⟩, ⟨o4, q4, _, d4⟩, ⟨o5, q5, _, d5⟩⟩ c hc
    rcases in5 hc with rfl | rfl | rfl | rfl | rfl
    · exact ⟨_, q1, fun _ e => nomatch e⟩
    · exact ⟨_, q2, fun _ e => nomatch e⟩
    · exact ⟨_, q3, fun _ e => nomatch e⟩
    · exact ⟨o4, q4, fun _ e => by rw [d4] at e; cases e⟩
    · exact ⟨o5, q5, fun _ e => by rw [d5] at e; cases e⟩
  keep := by
    rintro j h h' ⟨q1, q2, ⟨u, v, q3⟩, q4, q5⟩ kp
    exact ⟨kp z (by simp) _ q1, kp TI (by simp) _ q2, ⟨u, v, kp TO (by simp) _ q3⟩, q4.at fun o e => kp i1 (by simp) o e, q5.at fun o e => kp i2 (by simp) o e⟩
  item := by
    intro X hP hw hK hc j pins s σ G E I hf st hg
    subst hP hw hK
    obtain ⟨q1, q2, ⟨u0, v0, q3⟩, q4, q5⟩ := st
    obtain ⟨us, vs, u, v, su, sv, gu, gv⟩ := hg
    obtain ⟨uits, ru, pu, _⟩ := I.list su
    obtain ⟨vits, rv, pv, _⟩ := I.tuple sv
    obtain ⟨uu, huu, ruu⟩ := ru.get gu
    obtain ⟨vv, hvv, rvv⟩ := rv.get gv
    have hd : X.A.handled = none := I.ok.hd hc
    have hzl : z < s.heap.objs.size := Heap.lt_size q1
    have ne1 : a ≠ i1 := fun e => by
      obtain ⟨o4, e4, c4, _⟩ := q4
      obtain ⟨o, oe, oc, _⟩ := pu.isList
      rw [e, e4] at oe
      cases oe
      rw [c4] at oc
      exact absurd oc (by decide)
    have ne2 : b ≠ i2 := fun e => by
      obtain ⟨o4, e4, c4, _⟩ := q5
      obtain ⟨o, oe, oc, _⟩ := pv
      rw [e, e4] at oe
      cases oe
      rw [c4] at oc
      exact absurd oc (by decide)
    have D1 := Draws.list (prog := X.prog) (w := X.w) (A := X.A.in1) hd i1 a ne1 uits.toArray
    have D2 := Draws.tuple (prog := X.prog) (w := X.w) (A := X.A.in1) hd i2 b ne2 vits.toArray
    have l1 : j < uits.toArray.size := by
      have := (List.getElem?_eq_some_iff.mp huu).1
      simpa using this
    have l2 : j < vits.toArray.size := by
      have := (List.getElem?_eq_some_iff.mp hvv).1
      simpa using this
    refine wpAny_pyNext_zipD2_item S D1 D2 q1 q2 q3 ⟨q4, pu.isList⟩ ⟨q5, pv⟩ l1 l2 fun x1 x2 h' tk e1 e2 n1 n3 n4 n5 nT nsz nk => ?_
    have ex1 : x1 = uu := Option.some.inj (e1.symm.trans (by simpa using huu))
    have ex2 : x2 = vv := Option.some.inj (e2.symm.trans (by simpa using hvv))
    subst ex1 ex2
    refine ⟨_, rfl, wpAny_letOwnedTupleGo_zip (s := { s with heap := h', toks := tk }) n1 fun h'' m1 sb => ?_⟩
    have mT : h''.get? s.heap.objs.size = some { cls := .type "tuple", data := .seq #[x1, x2] } := (sb.2 _ (Nat.ne_of_gt hzl)).trans nT
    have new : ObjOk X.prog X.w (upd G s.heap.objs.size (.tup [u, v])) h'' s.heap.objs.size (.tup [u, v]) :=
      ⟨by show 2 ≤ sizeLine; decide, [x1, x2], .cons ruu (.cons rvv .nil), ⟨_, mT, rfl, _, rfl⟩⟩
    have I1 : Inv X pins σ (upd G s.heap.objs.size (.tup [u, v])) { s with heap := h'', toks := tk } :=
      I.turnedNew (t' := tk) (ch := [z, TI, TO, i1, i2]) (fun c o hb q => (sb.2 c (fun e => hb (by simp [e]))).trans
        (nk c o (fun e => hb (by simp [e])) (fun e => hb (by simp [e])) (fun e => hb (by simp [e])) (fun e => hb (by simp [e])) q)) hf (Nat.le_refl _) new
    refine ⟨.ref s.heap.objs.size, _, I1, rfl, ⟨_, u, v, rfl, I.hok.fresh (Nat.le_refl _), rfl, fun l hl => ?_, fun l hl => ?_⟩, ⟨m1, ?_, ⟨x1, x2, ?_⟩, ?_, ?_⟩, fun c hcm => ?_⟩
    · rw [I.list_inj hl su]; exact gu
    · rw [I.tuple_inj hl sv]; exact gv
    · exact (sb.2 _ S.TIz).trans (nk _ _ S.TIz S.TITO S.TIi1 S.TIi2 q2)
    · exact (sb.2 _ S.TOz).trans n3
    · exact n4.1.at fun o e => (sb.2 _ S.zi1.symm).trans e
    · exact n5.1.at fun o e => (sb.2 _ S.zi2.symm).trans e
    · have low : c < s.heap.objs.size := by
        rcases in5 hcm with rfl | rfl | rfl | rfl | rfl
        · exact hzl
        · exact Heap.lt_size q2
        · exact Heap.lt_size q3
        · obtain ⟨_, y, _⟩ := q4; exact Heap.lt_size y
        · obtain ⟨_, y, _⟩ := q5; exact Heap.lt_size y
      rw [upd_ne (Nat.ne_of_lt low)]
      exact (hf c hcm).1
  done := by
    intro X hP hw hK hc j pins s σ G E I hf st hg
    subst hP hw hK
    obtain ⟨q1, q2, ⟨u0, v0, q3⟩, q4, q5⟩ := st
    obtain ⟨us, vs, su, sv, b1, b2, b3⟩ := hg
    obtain ⟨uits, ru, pu, _⟩ := I.list su
    obtain ⟨vits, rv, pv, _⟩ := I.tuple sv
    have hd : X.A.handled = none := I.ok.hd hc
    have ne1 : a ≠ i1 := fun e => by
      obtain ⟨o4, e4, c4, _⟩ := q4
      obtain ⟨o, oe, oc, _⟩ := pu.isList
      rw [e, e4] at oe
      cases oe
      rw [c4] at oc
      exact absurd oc (by decide)
    have ne2 : b ≠ i2 := fun e => by
      obtain ⟨o4, e4, c4, _⟩ := q5
      obtain ⟨o, oe, oc, _⟩ := pv
      rw [e, e4] at oe
      cases oe
      rw [c4] at oc
      exact absurd oc (by decide)
    have D1 := Draws.list (prog := X.prog) (w := X.w) (A := X.A.in1) hd i1 a ne1 uits.toArray
    have D2 := Draws.tuple (prog := X.prog) (w := X.w) (A := X.A.in1) hd i2 b ne2 vits.toArray
    have l1 := ru.length
    have l2 := rv.length
    refine wpAny_pyNext_zipD2_end S D1 D2 q1 q2 q3 ⟨q4, pu.isList⟩ ⟨q5, pv⟩ (by simp; omega) (by simp; omega) (by simp; omega) fun h' tk nk => ⟨rfl, ?_⟩
    exact I.turnedL (t' := tk) (ch := [z, TI, TO, i1, i2]) (fun c o hb q =>
      nk c o (fun e => hb (by simp [e])) (fun e => hb (by simp [e])) (fun e => hb (by simp [e])) (fun e => hb (by simp [e])) q) hf
  self := fun A j s Q E st h => wpAny_pyIter_zip st.1 h
def iZipLT (K : PySem.W.Frag) (ta : TA) : TI := fun σ G R => ta σ G fun vs G1 => ∃ a b us ys, vs = [.ref a, .ref b] ∧ SqL K G1 a us ∧ SqT K G1 b ys ∧ R (ItLT K a b) G1
theorem pi_zipLT {X : Cx} {e e2 : Expr} {ta : TA} {p pos tpos : Pos} {elts : List Expr} {kk : Nat} (hg : Gl X "zip") (hm : X.mg "zip" = none) (ha : PA X [e, e2] ta)
    (plainArgs : starEach [e, e2] X.env = (false, eval e X.env) :: starEach [e2] X.env := by rfl)
    (noStar : (backTo pos (starEach [e2] X.env)).any (·.1) = false := by rfl) :
    PI X (.Tuple elts kk tpos) (.Call (.Name "zip" p) [e, e2] [] pos) (iZipLT X.K ta) := by
  refine ⟨fun pins s σ G R I h => Call_ (ld_blt I hg hm PyProof.Rows.boot_zip (PyProof.Rows.callWith_type1 (thn (ha.run pos pins s σ G _ I h) fun us s1 ⟨vs, G1, I1, r1, q1⟩ => ?_) plainArgs noStar))⟩
  obtain ⟨a, b, xs, ys, rfl, sx, sy, q⟩ := q1
  cases r1 with
  | cons r rr => cases rr with
    | cons r' rr =>
      cases rr
      cases r
      cases r'
      obtain ⟨uits, ru, pu, _⟩ := I1.list sx
      obtain ⟨vits, rv, pv, _⟩ := I1.tuple sy
      obtain ⟨oa, ea, _⟩ := id pu.isList
      obtain ⟨ob, eb, _⟩ := id pv
      have S := zip_sep2 (N := s1.heap.objs.size) (fp1 := [a]) (fp2 := [b]) (fun c hc => by rw [List.mem_singleton.mp hc]; exact Heap.lt_size ea) (fun c hc => by rw [List.mem_singleton.mp hc]; exact Heap.lt_size eb)
      refine zip_begins2 (begins_list a uits.toArray) (begins_tuple b vits.toArray) pu.isList pv fun h' g1 g2 g3 g4 g5 gsz gk => wpAny_pyIter_zip g1 ?_
      refine ⟨s1.heap.objs.size + 4, [s1.heap.objs.size + 4, s1.heap.objs.size + 2, s1.heap.objs.size + 3, s1.heap.objs.size, s1.heap.objs.size + 1], _, _, G1, rfl, I1.kept (t' := s1.toks) gk, turnLT S,
        ⟨g1, g2, ⟨_, _, g3⟩, ⟨_, g4, rfl, rfl⟩, ⟨_, g5, rfl, rfl⟩⟩, fun c hc => ?_, q⟩
      have above : s1.heap.objs.size ≤ c := by
        rcases in5 hc with rfl | rfl | rfl | rfl | rfl
        · exact Nat.le_add_right _ _
        · exact Nat.le_add_right _ _
        · exact Nat.le_add_right _ _
        · exact Nat.le_refl _
        · exact Nat.le_add_right _ _
      exact I1.fpOk above (I1.hok.fresh above)
theorem walkLT {K : PySem.W.Frag} {a b : Addr} {xs ys : List V} {n : Nat} (h1 : xs.length = n) (h2 : ys.length = n) : Walk (ItLT K a b) n (fun G => SqL K G a xs ∧ SqT K G b ys) (YPair (fun i => xs[i]?) (fun i => ys[i]?)) := by
  refine ⟨fun i G hi q => ⟨xs, ys, xs[i]'(by omega), ys[i]'(by omega), q.1, q.2, List.getElem?_eq_getElem _, List.getElem?_eq_getElem _⟩, fun G q => ⟨xs, ys, q.1, q.2, by omega, by omega, by omega⟩, fun i G v G' _ q y => ?_⟩
  obtain ⟨T, u, v, e1, e2, e3, e4, e5⟩ := y
  exact ⟨T, u, v, e1, e2, e3, e4 xs q.1, e5 ys q.2⟩
/-! ### repr of data -/
def rReprD (K : PySem.W.Frag) : List V → Hp → VK → Prop := fun xs G Q => ∃ a d, xs = [.ref a] ∧ Dp K G (.ref a) d ∧ d.showable = true ∧ d.hasDict = false ∧ d.depth ≤ 60 ∧ d.shown.length ≤ sizeLine ∧ Q (.str d.shown) G
theorem call_reprD {X : Cx} (hu : X.A.units + 64 < cLine) (hgd : X.A.guards = some []) : CallR X (.builtin "repr") (rReprD X.K) := by
  intro pins s σ G xs us Q I r h
  obtain ⟨a, d, rfl, hd, s1, s2, s3, s4, q⟩ := h
  obtain ⟨given, rfl, rel⟩ := vals1 r
  obtain ⟨as, rd⟩ := Dp.reads I d _ _ hd rel
  cases rel
  refine repr_of_reads' rd s1 (fun e => by rw [s2] at e; cases e) hgd (by omega) (fun _ _ e => e) (fun h' t tk kp => ?_) s4
  exact ⟨.str d.shown, G, I.kept (t' := tk) kp, ⟨_, rfl⟩, q⟩
end C2

namespace C2
set_option Elab.async false
set_option linter.all false
set_option maxRecDepth 100000
set_option maxHeartbeats 4000000
open PySem PySem.Spec PyProof.Rows L2
/-! ### a def's promise where no repr is under way -/
structure FnG (P : Program) (w : World) (K : PySem.W.Frag) (mg : Str → Option Value) (base : Heap) (k : Nat) (f : Addr) (fd : FuncData) (ps : List Str) (sp : Sp) : Prop where
  len : ∀ vs G Q E, sp vs G Q E → vs.length = ps.length
  run : ∀ (A : Around) (outer : List Env) (s : Shared) (G : Hp) (args : Args) (us : List Value) (vs : List V) (Q : VK) (E : XK), A.guards = some [] → Room k A →
    Env0 P w K mg base A outer s G → BindsTo s fd args (ps.zip us) → Vals vs us → sp vs G Q E → codeAny (model P w) A (.call (.ref f) args) (CR CX0 outer P w G s Q E) s
section
variable {P : Program} {w : World} {K : PySem.W.Frag} {mg : Str → Option Value} {base : Heap}
theorem deeper_guards {A : Around} {env : Env} (h : A.guards = some []) : (A.deeper env).guards = some [] := h
theorem okG {x qual : Str} {st : Stmt} {f : Addr} {fd : FuncData} {N ps : List Str} {k : Nat} {sp : Sp} (F : Fun K x qual st f fd) (S : FnScope N ps (defScope st)) (len : ∀ vs G Q E, sp vs G Q E → vs.length = ps.length)
    (body : ∀ (cdv : Value) (A : Around) (outer : List Env) (s : Shared) (G : Hp) (vs : List V) (Q : VK) (E : XK), A.guards = some [] → Room k (A.deeper (envOfC qual (defScope st) s.heap.objs.size f cdv)) → sp vs G Q E →
      ∃ t, PSs (cxOf CX0 P w K mg base N qual (defScope st) f cdv A outer s G E).nox (defBody st) t ∧ t { nx := fun _ G' => Q .non G', rt := Q } (start N vs) G) : FnG P w K mg base (k + 1) f fd ps sp := by
  obtain ⟨v1, v2, v3, v4, v5, v6, cdv, v7, v8, rfl, lk, hcd⟩ := F.ex
  refine ⟨len, fun A outer s G args us vs Q E hgd hr e0 hb r hsp => ?_⟩
  have ln := len vs G Q E hsp
  have inK : K.In s.heap := e0.mod.kin.keeps fun c y e => (e0.bs c y e).left
  have noL : s.heap.NoLimit := e0.mod.nolimit.keeps fun c y e => (e0.bs c y e).left
  refine codeAny_call_function hr.depth (inK _ _ lk) rfl S.co S.gen rfl (PySem.W.codeRec_of inK hcd) (hb _ _ _ _ ?_)
  refine wpAny_newFunctionEnv_cells S.kind (fun y hy => ?_) fun env he s1 x => ?_
  · rcases S.par y.1 (List.of_mem_zip (a := y.1) (b := y.2) hy).1 with q | q
    · exact Or.inl q
    · exact Or.inr ⟨q, PySem.W.cellsFrom_some _ _ _ (Or.inl q)⟩
  · subst he
    refine ⟨noL.keeps x.toInCall.keep, codeAny_func ?_⟩
    obtain ⟨t, ht, hq⟩ := body cdv A outer s G vs Q E hgd (hr.deeper _) hsp
    have J0 := inv_start (CX := CX0) (E := E) S hr.hd e0 ln r x
    refine wpAny_mono (ht.nox.run [] s1 (start N vs) G _ J0 hq) (fun fl s' hs => ?_) fun _ _ hs => hs
    cases fl with
    | ret u =>
      obtain ⟨v, σ', G', J, rv, q⟩ := hs
      exact ⟨v, G', J.os, J.bare, J.base, J.hok, rv, q⟩
    | next =>
      obtain ⟨σ', G', J, q⟩ := hs
      exact ⟨V.non, G', J.os, J.bare, J.base, J.hok, rfl, q⟩
    | brk =>
      obtain ⟨_, _, _, q⟩ := hs
      exact q.elim
    | cont =>
      obtain ⟨_, _, _, q⟩ := hs
      exact q.elim
/-- what the law's own call leaves: True, and what stood before as it was -/
def Leaves (s₁ : Shared) : Except Value Flow → Shared → Prop := fun r s' => r = .ok (.ret (.bool true)) ∧ OldK s₁.heap s'.heap ∧
  s'.os = s₁.os ∧ AllBare s'.gens
/-- the law's own call -/
theorem law_callG {mb : Str → Option Value} {k : Nat} {fa a : Addr} {fd : FuncData} {x : Str} {sp : Sp} {s₁ : Shared} {vs : List Value} {ns : List Int}
    (inK : K.In s₁.heap) (hns : s₁.heap.Ns mainGlobals mg) (hb : s₁.heap.Ns builtinsNs mb) (hbb : ∀ x : Str, x ≠ "__name__" → mb x = bootBuiltins x) (hlim : s₁.heap.NoLimit) (hg : s₁.gens = #[])
    (hr : Room k callerA) (hl : ns.length ≤ sizeLine) (hi : IntsAre vs ns)
    (ha : s₁.heap.get? a = some { cls := .type "list", data := .seq vs.toArray })
    (F : ∀ base : Heap, K.In base → base.Ns mainGlobals mg → FnG P w K mg base k fa fd [x] sp) (hbind : ∀ (s : Shared) (u : Value), BindsTo s fd ⟨[u], []⟩ [(x, u)])
    (hsp : ∀ G : Hp, SqL K G a (ns.map V.int) → sp [.ref a] G (fun v _ => v = .bl true) fun _ _ _ => False) :
    codeAny (model P w) callerA (.call (.ref fa) ⟨[.ref a], []⟩) (Leaves s₁) s₁ := by
  have main : ∀ G : Hp, Only G → SqL K G a (ns.map V.int) → HOk P w G s₁.heap → (∀ b, G b ≠ none → b = a) → (G a ≠ none → K.lookup a = none) →
      codeAny (model P w) callerA (.call (.ref fa) ⟨[.ref a], []⟩) (Leaves s₁) s₁ := by
    intro G only sq hok one off
    have hid : ∀ {b : Addr} {y : Obj}, s₁.heap.get? b = some y → (G b = none) → (hidT s₁.heap G).get? b = some y := fun e n => hidT_get e n
    have dct : ∀ {b : Addr} {y : Obj} {es : Array DictEntry} {ep : Nat}, s₁.heap.get? b = some y → y.data = .dict es ep → G b = none := by
      intro b y es ep e d
      cases q : G b with
      | none => rfl
      | some u =>
        have z : b = a := one b (by rw [q]; exact Option.some_ne_none u)
        rw [z, ha] at e
        cases e
        exact absurd d (by intro c; cases c)
    have nsp : ∀ {b : Addr} {m : Str → Option Value}, s₁.heap.Ns b m → (hidT s₁.heap G).Ns b m := by
      rintro b m ⟨y, es, ep, e, d, r⟩
      exact ⟨y, es, ep, hid e (dct e d), d, r⟩
    have kb : K.In (hidT s₁.heap G) := by
      intro b y e
      refine hid (inK b y e) ?_
      cases q : G b with
      | none => rfl
      | some u =>
        have z : b = a := one b (by rw [q]; exact Option.some_ne_none u)
        rw [z] at q e
        rw [off (by rw [q]; exact Option.some_ne_none u)] at e
        cases e
    have md : Mod K mg (hidT s₁.heap G) := by
      refine ⟨kb, nsp hns, ⟨mb, nsp hb, hbb⟩, ?_⟩
      obtain ⟨mc, y1, y2⟩ := hlim
      exact ⟨mc, nsp y1, y2⟩
    have e0 : Env0 P w K mg (hidT s₁.heap G) callerA [] s₁ G :=
      ⟨rfl, md, fun b y e => of_hidT e, Nat.le_of_eq (hidT_size _ _), trivial, fun b z => absurd (show b ∈ ([] : List Addr) from z) List.not_mem_nil, hok, .of_eq hg⟩
    refine codeAny_mono ((F _ kb (nsp hns)).run callerA [] s₁ G ⟨[.ref a], []⟩ [.ref a] [.ref a] _ _ rfl hr e0 (hbind s₁ (.ref a)) (.cons rfl .nil) (hsp G sq)) fun r s' h => ?_
    cases r with
    | error e => exact False.elim h
    | ok fl => cases fl with
      | next => exact False.elim h
      | brk => exact False.elim h
      | cont => exact False.elim h
      | ret u =>
        obtain ⟨v, G', os, bare, un, hok', r', (q : v = .bl true)⟩ := h
        subst q
        cases (show u = Value.bool true from r')
        refine ⟨rfl, OldK.of_keep fun b y e => ?_, os, bare⟩
        cases q : G b with
        | none => exact un.keep b y e q (fun z => absurd (show b ∈ ([] : List Addr) from z) List.not_mem_nil) List.not_mem_nil
        | some u => rcases only b with z | ⟨ob, xs, z⟩
                    · rw [q] at z; cases z
                    · have f1 := (hok b _ z).1
                      have f2 := (hok' b _ (un.frzs b ob _ z)).1
                      rw [e] at f1
                      cases f1
                      exact f2
  have rv := vals_ints hi
  have ln := hi.length
  cases hk : K.lookup a with
  | some y =>
    have e := inK a y hk
    rw [ha] at e
    cases e
    exact main (fun _ => none) (fun _ => .inl rfl) (.inr ⟨_, vs.toArray, _, hk, rfl, rfl, rfl, by rw [List.size_toArray, ln]; exact hl, by simpa using rv⟩)
      (fun b u z => by cases (show (none : Option HO) = some u from z)) (fun b z => absurd rfl z) fun z => absurd rfl z
  | none =>
    obtain ⟨G, at_a, not_a⟩ : ∃ G : Hp, (∀ b, b = a → G b = some (.frz { cls := .type "list", data := .seq vs.toArray } (.lst (ns.map V.int)))) ∧ ∀ b, b ≠ a → G b = none :=
      ⟨fun b => if b = a then some (HO.frz { cls := .type "list", data := .seq vs.toArray } (.lst (ns.map V.int))) else none, fun b e => if_pos e, fun b e => if_neg e⟩
    refine main G (fun b => ?_) (.inl (.inr ⟨_, at_a a rfl⟩)) (fun b u z => ?_) (fun b z => ?_) fun _ => hk
    · by_cases c : b = a
      · exact .inr ⟨_, _, at_a b c⟩
      · exact .inl (not_a b c)
    · by_cases c : b = a
      · rw [at_a b c] at z
        cases z
        rw [c]
        refine ⟨ha, ?_, vs, _, rv, ha⟩
        rw [List.length_map]
        exact hl
      · rw [not_a b c] at z
        cases z
    · by_cases c : b = a
      · exact c
      · exact absurd (not_a b c) z
end
theorem walkG {l : PySem.W.OpenLaw} {n k : Nat} {q : Program} {loose : List Str} {XP : (Str → Option Value) → Heap → Prop} {YP : World → Heap → Prop} {d : DefRec} {K : Params → PySem.W.Frag} {sp : PySem.W.Frag → Sp} {x : Str}
    (most : l.most = some n) (short : n ≤ sizeLine) (bare : d.params.defaults = []) (room : Room k callerA)
    (stands : ∀ (w : World) (h : Heap), YP w h → (K w.params).In h)
    (promise : ∀ (w : World) (mg : Str → Option Value) (fa : Addr) (h : Heap), (K w.params).In h → h.Ns mainGlobals mg →
      mg d.name = some (.ref fa) →
      ∃ fd : FuncData, (∀ (s : Shared) (u : Value), BindsTo s fd ⟨[u], []⟩ [(x, u)]) ∧ ∀ base : Heap, (K w.params).In base → base.Ns mainGlobals mg → FnG l.prog w (K w.params) mg base k fa fd [x] (sp (K w.params)))
    (hsp : ∀ (K : PySem.W.Frag) (G : Hp) (a : Addr) (ns : List Int), ns.length ≤ n → SqL K G a (ns.map V.int) → sp K [.ref a] G (fun v _ => v = .bl true) fun _ _ _ => False) :
    PySem.W.WalkO q loose XP YP l.row.toRowW d []
      (fun f vs => PySem.call f vs) := by
  refine Att.attach_call most bare fun w _ s₁ mg mb fa _ _ _ _ a vs ns G Y _ _ _ hmg there nums few gens => ?_
  have inK := stands w _ Y
  obtain ⟨fd, binds, ok⟩ := promise w mg fa _ inK G.T.g hmg
  exact law_callG inK G.T.g G.T.b G.T.builtins G.T.nolimit gens room (Nat.le_trans few short) nums there ok binds fun H hS => hsp _ H a ns few hS
end C2

namespace C2
set_option Elab.async false
set_option linter.all false
set_option maxRecDepth 100000
set_option maxHeartbeats 4000000
set_option synthInstance.maxHeartbeats 400000
set_option synthInstance.maxSize 2000
/-! ### the mathematics of tables -/
def rg (q : Nat) : List Int := (List.range q).map fun i => ((i : Nat) : Int)
def IsP (q : Nat) (c : List Int) : Prop := c.Perm (rg q)
theorem rg_mem {q : Nat} {v : Int} : v ∈ rg q ↔ 0 ≤ v ∧ v < (q : Int) := by
  unfold rg
  rw [List.mem_map]
  constructor
  · rintro ⟨a, ha, rfl⟩
    rw [List.mem_range] at ha
    omega
  · rintro ⟨h0, h1⟩
    exact ⟨v.toNat, List.mem_range.mpr (by omega), by omega⟩
theorem rg_nodup (q : Nat) : (rg q).Nodup := by
  unfold rg
  refine List.Pairwise.map _ (fun a b h e => h (by omega)) List.nodup_range
theorem IsP.len {q : Nat} {c : List Int} (h : IsP q c) : c.length = q := by
  have := h.length_eq
  unfold rg at this
  rw [List.length_map, List.length_range] at this
  exact this
theorem IsP.nd {q : Nat} {c : List Int} (h : IsP q c) : c.Nodup := (List.Perm.nodup_iff h).mpr (rg_nodup q)
theorem IsP.mem {q : Nat} {c : List Int} (h : IsP q c) {v : Int} : v ∈ c ↔ 0 ≤ v ∧ v < (q : Int) := (List.Perm.mem_iff h).trans rg_mem
theorem IsP.get {q : Nat} {c : List Int} (h : IsP q c) {i : Nat} (hi : i < q) : 0 ≤ c.getD i 0 ∧ c.getD i 0 < (q : Int) := by
  have hl := h.len
  have hi' : i < c.length := by omega
  have e : c.getD i 0 = c[i] := by rw [List.getD_eq_getElem?_getD, List.getElem?_eq_getElem hi']; rfl
  rw [e]
  exact h.mem.mp (List.getElem_mem hi')
theorem IsP.at {q : Nat} {c : List Int} (h : IsP q c) {i : Nat} (hi : i < q) : c[i]? = some (c.getD i 0) := by
  have hl := h.len
  have hi' : i < c.length := by omega
  rw [List.getD_eq_getElem?_getD, List.getElem?_eq_getElem hi']; rfl
theorem IsP.inj {q : Nat} {c : List Int} (h : IsP q c) {i j : Nat} (hi : i < q) (hj : j < q) (e : c.getD i 0 = c.getD j 0) : i = j := by
  have hl := h.len
  have hi' : i < c.length := by omega
  have hj' : j < c.length := by omega
  have e1 := h.at hi
  have e2 := h.at hj
  rw [List.getElem?_eq_getElem hi'] at e1
  rw [List.getElem?_eq_getElem hj'] at e2
  have e3 : c[i] = c[j] := by
    rw [Option.some.inj e1, Option.some.inj e2]
    exact e
  exact (List.getElem_inj h.nd).mp e3
theorem IsP.sur {q : Nat} {c : List Int} (h : IsP q c) {v : Int} (h0 : 0 ≤ v) (h1 : v < (q : Int)) : ∃ i, i < q ∧ c.getD i 0 = v := by
  obtain ⟨i, hi, e⟩ := List.mem_iff_getElem.mp (h.mem.mpr ⟨h0, h1⟩)
  refine ⟨i, by have := h.len; omega, ?_⟩
  rw [List.getD_eq_getElem?_getD, List.getElem?_eq_getElem hi]
  exact e
structure Latin (q : Nat) (f : Nat → Nat → Nat × Nat) : Prop where
  lt1 : ∀ l w, l < q → w < q → (f l w).1 < q
  lt2 : ∀ l w, l < q → w < q → (f l w).2 < q
  p12 : ∀ w v, w < q → v < q → ∃ l, l < q ∧ (f l w).1 = v ∧ ∀ l', l' < q → (f l' w).1 = v → l' = l
  p23 : ∀ v u, v < q → u < q → ∃ l w, l < q ∧ w < q ∧ (f l w).1 = v ∧ (f l w).2 = u ∧ ∀ l' w', l' < q → w' < q → (f l' w').1 = v → (f l' w').2 = u → l' = l ∧ w' = w
  p30 : ∀ l u, l < q → u < q → ∃ w, w < q ∧ (f l w).2 = u ∧ ∀ w', w' < q → (f l w').2 = u → w' = w
def bq (f : Nat → Nat → Nat × Nat) (l w : Nat) : List Int := [(l : Int), (w : Int), ((f l w).1 : Int), ((f l w).2 : Int)]
def ren (cs : List (List Int)) (x : List Int) : List Int := List.zipWith (fun c s => c.getD s.toNat 0) cs x
def prs (q : Nat) : List (Nat × Nat) := (List.range q).flatMap fun l => (List.range q).map fun w => (l, w)
theorem prs_mem {q l w : Nat} : (l, w) ∈ prs q ↔ l < q ∧ w < q := by
  unfold prs
  rw [List.mem_flatMap]
  constructor
  · rintro ⟨a, ha, hm⟩
    obtain ⟨b, hb, e⟩ := List.mem_map.mp hm
    cases e
    exact ⟨List.mem_range.mp ha, List.mem_range.mp hb⟩
  · rintro ⟨h1, h2⟩
    exact ⟨l, List.mem_range.mpr h1, List.mem_map.mpr ⟨w, List.mem_range.mpr h2, rfl⟩⟩
theorem prs_nodup (q : Nat) : (prs q).Nodup := by
  unfold prs List.Nodup
  rw [List.pairwise_flatMap]
  constructor
  · intro a _
    exact List.Pairwise.map _ (fun x y h e => h (by cases e; rfl)) List.nodup_range
  · refine List.Pairwise.imp (fun {x y} h => ?_) List.nodup_range
    intro u hu v hv e
    obtain ⟨_, _, rfl⟩ := List.mem_map.mp hu
    obtain ⟨_, _, rfl⟩ := List.mem_map.mp hv
    exact h (Prod.mk.inj e).1
theorem prs_len (q : Nat) : (prs q).length = q * q := by
  unfold prs
  rw [List.length_flatMap]
  have : (List.range q).map (fun l => ((List.range q).map fun w => (l, w)).length) = (List.range q).map (fun _ => q) := by
    refine List.map_congr_left fun a _ => ?_
    rw [List.length_map, List.length_range]
  rw [this, List.map_const', List.length_range, List.sum_replicate_nat]
theorem filter_one {α : Type} {p : α → Bool} {x : α} : ∀ {l : List α}, l.Nodup → x ∈ l → p x = true → (∀ y ∈ l, p y = true → y = x) → (l.filter p).length = 1
  | [], _, h, _, _ => by cases h
  | a :: r, nd, hx, px, u => by
    obtain ⟨na, nr⟩ := List.nodup_cons.mp nd
    by_cases pa : p a = true
    · have ea : a = x := u a List.mem_cons_self pa
      rw [List.filter_cons_of_pos pa]
      have : r.filter p = [] := by
        rw [List.filter_eq_nil_iff]
        intro y hy py
        have := u y (List.mem_cons_of_mem _ hy) py
        subst this
        subst ea
        exact na hy
      rw [this]
      rfl
    · rw [List.filter_cons_of_neg pa]
      rcases List.mem_cons.mp hx with e | hx
      · subst e
        exact absurd px pa
      · exact filter_one nr hx px fun y hy => u y (List.mem_cons_of_mem _ hy)
def hit (leg : Nat) (one other : Int) (x : List Int) : Bool := x.getD leg 0 == one && x.getD ((leg + 1) % 4) 0 == other
structure Good (q : Nat) (L : List (List Int)) : Prop where
  len : L.length = q * q
  in4 : ∀ x ∈ L, x.length = 4
  inq : ∀ x ∈ L, ∀ v ∈ x, 0 ≤ v ∧ v < (q : Int)
  one : ∀ (leg : Nat) (a b : Int), leg < 4 → 0 ≤ a → a < (q : Int) → 0 ≤ b → b < (q : Int) → (L.filter (hit leg a b)).length = 1
theorem Good.perm {q : Nat} {L M : List (List Int)} (h : Good q L) (p : M.Perm L) : Good q M where
  len := p.length_eq.trans h.len
  in4 := fun x hx => h.in4 x (p.mem_iff.mp hx)
  inq := fun x hx => h.inq x (p.mem_iff.mp hx)
  one := fun leg a b h1 h2 h3 h4 h5 => (p.filter _).length_eq.trans (h.one leg a b h1 h2 h3 h4 h5)
def four (c0 c1 c2 c3 : List Int) (f : Nat → Nat → Nat × Nat) (l w : Nat) : List Int := [c0.getD l 0, c1.getD w 0, c2.getD (f l w).1 0, c3.getD (f l w).2 0]
theorem ren_bq (c0 c1 c2 c3 : List Int) (f : Nat → Nat → Nat × Nat) (l w : Nat) : ren [c0, c1, c2, c3] (bq f l w) = four c0 c1 c2 c3 f l w := by
  unfold ren bq four
  simp [List.zipWith]
theorem good_of {q : Nat} {f : Nat → Nat → Nat × Nat} {c0 c1 c2 c3 : List Int} (L : Latin q f) (h0 : IsP q c0) (h1 : IsP q c1) (h2 : IsP q c2) (h3 : IsP q c3) :
    Good q ((prs q).map fun x => ren [c0, c1, c2, c3] (bq f x.1 x.2)) := by
  have e : ((prs q).map fun x => ren [c0, c1, c2, c3] (bq f x.1 x.2)) = (prs q).map fun x => four c0 c1 c2 c3 f x.1 x.2 := List.map_congr_left fun x _ => ren_bq c0 c1 c2 c3 f x.1 x.2
  rw [e]
  refine ⟨by rw [List.length_map, prs_len], ?_, ?_, ?_⟩
  · intro x hx
    obtain ⟨y, _, rfl⟩ := List.mem_map.mp hx
    rfl
  · intro x hx v hv
    obtain ⟨⟨l, w⟩, hy, rfl⟩ := List.mem_map.mp hx
    obtain ⟨hl, hw⟩ := prs_mem.mp hy
    unfold four at hv
    simp only [List.mem_cons, List.not_mem_nil, or_false] at hv
    rcases hv with rfl | rfl | rfl | rfl
    · exact h0.get hl
    · exact h1.get hw
    · exact h2.get (L.lt1 l w hl hw)
    · exact h3.get (L.lt2 l w hl hw)
  · intro leg a b hleg ha0 ha1 hb0 hb1
    rw [List.filter_map, List.length_map]
    have key : ∀ (l w : Nat), (hit leg a b ∘ fun x : Nat × Nat => four c0 c1 c2 c3 f x.1 x.2) (l, w) = true ↔
        (four c0 c1 c2 c3 f l w).getD leg 0 = a ∧ (four c0 c1 c2 c3 f l w).getD ((leg + 1) % 4) 0 = b := by
      intro l w
      show hit leg a b (four c0 c1 c2 c3 f l w) = true ↔ _
      unfold hit
      rw [Bool.and_eq_true, beq_iff_eq, beq_iff_eq]
    have fin : (∃ l w, l < q ∧ w < q ∧ ((four c0 c1 c2 c3 f l w).getD leg 0 = a ∧ (four c0 c1 c2 c3 f l w).getD ((leg + 1) % 4) 0 = b) ∧
        ∀ l' w', l' < q → w' < q → (four c0 c1 c2 c3 f l' w').getD leg 0 = a → (four c0 c1 c2 c3 f l' w').getD ((leg + 1) % 4) 0 = b → l' = l ∧ w' = w) →
        (List.filter (hit leg a b ∘ fun x : Nat × Nat => four c0 c1 c2 c3 f x.1 x.2) (prs q)).length = 1 := by
      rintro ⟨l, w, hl, hw, hp, u⟩
      refine filter_one (x := (l, w)) (prs_nodup q) (prs_mem.mpr ⟨hl, hw⟩) ((key l w).mpr hp) ?_
      rintro ⟨l', w'⟩ hy py
      obtain ⟨hl', hw'⟩ := prs_mem.mp hy
      obtain ⟨y1, y2⟩ := (key l' w').mp py
      obtain ⟨e1, e2⟩ := u l' w' hl' hw' y1 y2
      rw [e1, e2]
    apply fin
    have hc : leg = 0 ∨ leg = 1 ∨ leg = 2 ∨ leg = 3 := by omega
    rcases hc with rfl | rfl | rfl | rfl
    · obtain ⟨l, hl, el⟩ := h0.sur ha0 ha1
      obtain ⟨w, hw, ew⟩ := h1.sur hb0 hb1
      refine ⟨l, w, hl, hw, ⟨el, ew⟩, fun l' w' hl' hw' y1 y2 => ⟨?_, ?_⟩⟩
      · exact h0.inj hl' hl (Eq.trans y1 el.symm)
      · exact h1.inj hw' hw (Eq.trans y2 ew.symm)
    · obtain ⟨w, hw, ew⟩ := h1.sur ha0 ha1
      obtain ⟨v, hv, ev⟩ := h2.sur hb0 hb1
      obtain ⟨l, hl, el, u⟩ := L.p12 w v hw hv
      refine ⟨l, w, hl, hw, ⟨ew, ?_⟩, fun l' w' hl' hw' y1 y2 => ?_⟩
      · show c2.getD (f l w).1 0 = b
        rw [el]
        exact ev
      · have z1 : w' = w := h1.inj hw' hw (Eq.trans y1 ew.symm)
        subst z1
        have z2 : (f l' w').1 = v := h2.inj (L.lt1 _ _ hl' hw') hv (Eq.trans y2 ev.symm)
        exact ⟨u l' hl' z2, rfl⟩
    · obtain ⟨v, hv, ev⟩ := h2.sur ha0 ha1
      obtain ⟨t, ht, et⟩ := h3.sur hb0 hb1
      obtain ⟨l, w, hl, hw, e1, e2, u⟩ := L.p23 v t hv ht
      refine ⟨l, w, hl, hw, ⟨?_, ?_⟩, fun l' w' hl' hw' y1 y2 => ?_⟩
      · show c2.getD (f l w).1 0 = a
        rw [e1]
        exact ev
      · show c3.getD (f l w).2 0 = b
        rw [e2]
        exact et
      · exact u l' w' hl' hw' (h2.inj (L.lt1 _ _ hl' hw') hv (Eq.trans y1 ev.symm)) (h3.inj (L.lt2 _ _ hl' hw') ht (Eq.trans y2 et.symm))
    · obtain ⟨t, ht, et⟩ := h3.sur ha0 ha1
      obtain ⟨l, hl, el⟩ := h0.sur hb0 hb1
      obtain ⟨w, hw, ew, u⟩ := L.p30 l t hl ht
      refine ⟨l, w, hl, hw, ⟨?_, el⟩, fun l' w' hl' hw' y1 y2 => ?_⟩
      · show c3.getD (f l w).2 0 = a
        rw [ew]
        exact et
      · have z1 : l' = l := h0.inj hl' hl (Eq.trans y2 el.symm)
        subst z1
        have z2 : (f l' w').2 = t := h3.inj (L.lt2 _ _ hl' hw') ht (Eq.trans y1 et.symm)
        exact ⟨rfl, u w' hw' z2⟩
/-! ### the three ways -/
def fway (way : Int) (ts : List (List Int)) (more less q : Nat) (l w : Nat) : Nat × Nat :=
  if way = 0 then (((ts.getD w []).getD l 0).toNat, w) else if way = 1 then (l, ((ts.getD l []).getD w 0).toNat) else ((l + more * w) % q, (w + less * l) % q)
theorem latin_way {way : Int} {ts : List (List Int)} {more less q : Nat} (h2 : 2 ≤ q) (h7 : q ≤ 7) (hw : way = 0 ∨ way = 1 ∨ way = 2) (ht : way < 2 → ts.length = q ∧ ∀ c ∈ ts, IsP q c)
    (hm : (more, less) ∈ [(1, 0), (0, 1), (2, 1), (1, 2)]) : Latin q (fway way ts more less q) := by
  have getT : way < 2 → ∀ i, i < q → IsP q (ts.getD i []) := fun c i hi => by
    obtain ⟨ln, al⟩ := ht c
    have hi' : i < ts.length := by omega
    rw [List.getD_eq_getElem?_getD, List.getElem?_eq_getElem hi']
    exact al _ (List.getElem_mem hi')
  rcases hw with rfl | rfl | rfl
  · have T := getT (by decide)
    have e : ∀ l w, fway 0 ts more less q l w = (((ts.getD w []).getD l 0).toNat, w) := fun l w => rfl
    refine ⟨fun l w hl hw => ?_, fun l w hl hw => ?_, fun w v hw hv => ?_, fun v u hv hu => ?_, fun l u hl hu => ?_⟩
    · have := (T w hw).get hl
      rw [e]
      show ((ts.getD w []).getD l 0).toNat < q
      omega
    · exact hw
    · obtain ⟨l, hl, el⟩ := (T w hw).sur (v := (v : Int)) (by omega) (by omega)
      refine ⟨l, hl, by rw [e]; show ((ts.getD w []).getD l 0).toNat = v; omega, fun l' hl' y => ?_⟩
      have y' : ((ts.getD w []).getD l' 0).toNat = v := y
      have := (T w hw).get hl'
      exact (T w hw).inj hl' hl (by omega)
    · obtain ⟨l, hl, el⟩ := (T u hu).sur (v := (v : Int)) (by omega) (by omega)
      refine ⟨l, u, hl, hu, by rw [e]; show ((ts.getD u []).getD l 0).toNat = v; omega, rfl, fun l' w' hl' hw' y1 y2 => ?_⟩
      have z : w' = u := y2
      subst z
      have y' : ((ts.getD w' []).getD l' 0).toNat = v := y1
      have := (T w' hw').get hl'
      exact ⟨(T w' hw').inj hl' hl (by omega), rfl⟩
    · exact ⟨u, hu, rfl, fun w' _ y => y⟩
  · have T := getT (by decide)
    have e : ∀ l w, fway 1 ts more less q l w = (l, ((ts.getD l []).getD w 0).toNat) := fun l w => rfl
    refine ⟨fun l w hl hw => ?_, fun l w hl hw => ?_, fun w v hw hv => ?_, fun v u hv hu => ?_, fun l u hl hu => ?_⟩
    · exact hl
    · have := (T l hl).get hw
      rw [e]
      show ((ts.getD l []).getD w 0).toNat < q
      omega
    · exact ⟨v, hv, rfl, fun l' _ y => y⟩
    · obtain ⟨w, hw, ew⟩ := (T v hv).sur (v := (u : Int)) (by omega) (by omega)
      refine ⟨v, w, hv, hw, rfl, by rw [e]; show ((ts.getD v []).getD w 0).toNat = u; omega, fun l' w' hl' hw' y1 y2 => ?_⟩
      have z : l' = v := y1
      subst z
      have y' : ((ts.getD l' []).getD w' 0).toNat = u := y2
      have := (T l' hl').get hw'
      exact ⟨rfl, (T l' hl').inj hw' hw (by omega)⟩
    · obtain ⟨w, hw, ew⟩ := (T l hl).sur (v := (u : Int)) (by omega) (by omega)
      refine ⟨w, hw, by rw [e]; show ((ts.getD l []).getD w 0).toNat = u; omega, fun w' hw' y => ?_⟩
      have y' : ((ts.getD l []).getD w' 0).toNat = u := y
      have := (T l hl).get hw'
      exact (T l hl).inj hw' hw (by omega)
  · have e : fway 2 ts more less q = fun l w => ((l + more * w) % q, (w + less * l) % q) := rfl
    rw [e]
    have hq : q ∈ [2, 3, 4, 5, 6, 7] := by
      have : q = 2 ∨ q = 3 ∨ q = 4 ∨ q = 5 ∨ q = 6 ∨ q = 7 := by omega
      rcases this with rfl | rfl | rfl | rfl | rfl | rfl <;> decide
    have c1 : ∀ ml ∈ [(1, 0), (0, 1), (2, 1), (1, 2)], ∀ q ∈ [2, 3, 4, 5, 6, 7], ∀ w, w < q → ∀ v, v < q → ∃ l, l < q ∧ ((l + ml.1 * w) % q = v ∧ ∀ l', l' < q → (l' + ml.1 * w) % q = v → l' = l) := by decide +kernel
    have c2 : ∀ ml ∈ [(1, 0), (0, 1), (2, 1), (1, 2)], ∀ q ∈ [2, 3, 4, 5, 6, 7], ∀ v, v < q → ∀ u, u < q → ∃ l, l < q ∧ ∃ w, w < q ∧ ((l + ml.1 * w) % q = v ∧ ((w + ml.2 * l) % q = u ∧ ∀ l', l' < q → ∀ w', w' < q → (l' + ml.1 * w') % q = v → (w' + ml.2 * l') % q = u → l' = l ∧ w' = w)) := by decide +kernel
    have c3 : ∀ ml ∈ [(1, 0), (0, 1), (2, 1), (1, 2)], ∀ q ∈ [2, 3, 4, 5, 6, 7], ∀ l, l < q → ∀ u, u < q → ∃ w, w < q ∧ ((w + ml.2 * l) % q = u ∧ ∀ w', w' < q → (w' + ml.2 * l) % q = u → w' = w) := by decide +kernel
    refine ⟨fun l w hl hw => Nat.mod_lt _ (by omega), fun l w hl hw => Nat.mod_lt _ (by omega), fun w v hw hv => ?_, fun v u hv hu => ?_, fun l u hl hu => ?_⟩
    · exact c1 _ hm q hq w hw v hv
    · obtain ⟨l, hl, w, hw, y1, y2, y3⟩ := c2 _ hm q hq v hv u hu
      exact ⟨l, w, hl, hw, y1, y2, fun l' w' hl' hw' => y3 l' hl' w' hw'⟩
    · exact c3 _ hm q hq l hl u hu
end C2

namespace C2
set_option Elab.async false
set_option linter.all false
set_option maxRecDepth 100000
set_option maxHeartbeats 4000000
open PySem PySem.Spec PyProof.Rows L2
def Cells (G : Hp) (cs : List (Addr × List Int)) : Prop := ∀ c ∈ cs, G c.1 = some (.tup (c.2.map V.int))
abbrev refs (cs : List (Addr × List Int)) : List V := cs.map fun c => V.ref c.1
def Srt (L : List (List Int)) : Prop := L.Pairwise fun x y => TS.code 7 x ≤ TS.code 7 y
def spTable : Sp := fun vs H Q _ => ∃ (p : Addr) (q n : Nat), vs = [.ref p, .int (q : Int)] ∧ 2 ≤ q ∧ q ≤ 7 ∧ PotAt H p n ∧ n + 200 < 1000000 ∧
  ∀ H' t cs, Fr p H H' → PotAt H' p (n + 100) → H' t = some (.tup (refs cs)) → Cells H' cs → Good q (cs.map (·.2)) → Srt (cs.map (·.2)) → Q (.ref t) H'
section
variable {P : Program} {w : World} {K : PySem.W.Frag} {mg : Str → Option Value} {base : Heap}
def teMix (K : PySem.W.Frag) : TE := tCall (spMixed K) [] E0 (tCons (tVar 0) (tCons (tLstRg (tRg1 (tVar 1))) tNil))
def teIn (K : PySem.W.Frag) : TE := tOp (rIxL K) (tVar 13) (tVar 14)
def rTupOf (K : PySem.W.Frag) : List V → Hp → VK → Prop := fun xs H Q => ∃ p ys, xs = [.ref p] ∧ ((SqL K H p ys ∧ ∀ l, H l = none → Q (.ref l) (upd H l (.tup ys))) ∨ (SqT K H p ys ∧ Q (.ref p) H))
def teOut (K : PySem.W.Frag) : TE := tCB (rTupOf K) (tCons (tLc (iZipLT K (tCons (tVar 9) (tCons (tVar 12) tNil))) (gTup K 2 (gCons (gName 13) (gCons (gName 14) gNil))) tYes (teIn K) [13, 14]) tNil)
end
end C2

namespace C2
set_option Elab.async false
set_option linter.all false
set_option maxRecDepth 100000
set_option maxHeartbeats 4000000
open PySem PySem.Spec PyProof.Rows L2
theorem PotAt.mono {G : Hp} {p : Addr} {n m : Nat} (h : PotAt G p n) (le : n ≤ m) : PotAt G p m := by
  obtain ⟨g, c, t, h1, h2, h3⟩ := h
  exact ⟨g, c, t, h1, h2, by omega⟩
theorem PotAt.ne {G : Hp} {p b : Addr} {n : Nat} (h : PotAt G p n) (hb : G b = none) : p ≠ b := by
  obtain ⟨g, c, t, h1, _⟩ := h
  exact ne_of_none h1 hb
theorem PotAt.upd {G : Hp} {p b : Addr} {n : Nat} {o : HO} (h : PotAt G p n) (hb : p ≠ b) : PotAt (L2.upd G b o) p n := by
  obtain ⟨g, c, t, h1, h2⟩ := h
  exact ⟨g, c, t, by rw [upd_ne hb]; exact h1, h2⟩
theorem PotAt.fr {G G' : Hp} {p b : Addr} {n : Nat} (h : PotAt G p n) (f : Fr b G G') (hb : p ≠ b) : PotAt G' p n := by
  obtain ⟨g, c, t, h1, h2⟩ := h
  exact ⟨g, c, t, f _ _ hb h1, h2⟩
def unI : V → Int
  | .int i => i
  | _ => 0
theorem rgV_rg (q : Nat) : rgV 0 (q : Int) = (rg q).map V.int := by
  unfold rgV rg
  rw [List.map_map, show ((q : Int) - 0).toNat = q by omega]
  refine List.map_congr_left fun a _ => ?_
  show V.int (0 + (a : Int)) = V.int (a : Int)
  rw [Int.zero_add]
theorem perm_ints {ys : List V} {q : Nat} (h : ys.Perm (rgV 0 (q : Int))) : ∃ c, ys = c.map V.int ∧ IsP q c := by
  rw [rgV_rg] at h
  refine ⟨ys.map unI, ?_, ?_⟩
  · rw [List.map_map]
    have : ys.map (V.int ∘ unI) = ys.map id := List.map_congr_left fun y hy => by
      obtain ⟨i, _, rfl⟩ := List.mem_map.mp (h.mem_iff.mp hy)
      rfl
    rw [this, List.map_id]
  · have := h.map unI
    rw [List.map_map] at this
    have e : (rg q).map (unI ∘ V.int) = rg q := by
      rw [show (unI ∘ V.int) = id from rfl, List.map_id]
    rw [e] at this
    exact this
section
variable {K : PySem.W.Frag}
def MixI (p D : Addr) (q n : Nat) (H1 : Hp) (i : Nat) (H3 : Hp) : Prop := ∃ lc : List (Addr × List Int), lc.length = i ∧ H3 D = some (.lst (refs lc)) ∧ Fr p H1 H3 ∧ PotAt H3 p (n + i * q) ∧
  ∀ c ∈ lc, H1 c.1 = none ∧ c.1 ≠ D ∧ c.1 ≠ p ∧ H3 c.1 = some (.lst (c.2.map V.int)) ∧ IsP q c.2
theorem mix_turn {p D : Addr} {q n j i : Nat} {σ : L2.St} {H1 H3 : Hp} (σ0 : σ[0]? = some (some (.ref p))) (σ1 : σ[1]? = some (some (.int (q : Int)))) (hq : q ≤ 7) (hb : n + j * q < 1000000) (hi : i < j) (hj : j ≤ 1000) (hD : H1 D = none) (pD : p ≠ D) (I : MixI p D q n H1 i H3) :
    teMix K σ H3 fun y H4 => ∃ acc, H4 D = some (.lst acc) ∧ acc.length < sizeLine ∧ MixI p D q n H1 (i + 1) (upd H4 D (.lst (acc ++ [y]))) := by
  obtain ⟨lc, hlen, hDl, fr, hP, al⟩ := I
  have hle : (i + 1) * q ≤ j * q := Nat.mul_le_mul_right q hi
  have hs : (i + 1) * q = i * q + q := Nat.succ_mul i q
  refine ⟨.ref p, σ0, .int (q : Int), σ1, (q : Int), rfl, RgOk.of_le (by decide) (by omega) (by decide) (by omega), fun l nl => ?_⟩
  have pl : p ≠ l := hP.ne nl
  have lD : D ≠ l := ne_of_none hDl nl
  have hlenr : (rgV 0 (q : Int)).length = q := by
    rw [rgV_length]
    omega
  refine ⟨p, l, rgV 0 (q : Int), n + i * q, rfl, hP.upd pl, by rw [hlenr]; omega, pl.symm, .inl (.inl upd_same), fun r ys H4 fr4 hP4 nr hr hper => ?_⟩
  obtain ⟨c, rfl, hc⟩ := perm_ints hper
  rw [hlenr] at hP4
  have rl : r ≠ l := fun z => by rw [z, upd_same] at nr; cases nr
  have nr3 : H3 r = none := by rw [upd_ne rl] at nr; exact nr
  have rD : r ≠ D := fun z => by rw [z, hDl] at nr3; cases nr3
  have rp : r ≠ p := (hP.ne nr3).symm
  have fr34 : Fr p H3 H4 := Fr.trans (Fr.new nl) fr4
  have hD4 : H4 D = some (.lst (refs lc)) := fr34 _ _ pD.symm hDl
  refine ⟨refs lc, hD4, ?_, lc ++ [(r, c)], ?_, ?_, ?_, ?_, ?_⟩
  · rw [List.length_map]
    exact Nat.lt_of_lt_of_le (show lc.length < 100000 by omega) (by decide)
  · rw [List.length_append, hlen]
    rfl
  · rw [upd_same]
    show _ = some (HO.lst (List.map _ (lc ++ [(r, c)])))
    rw [List.map_append]
    rfl
  · intro b o nb e
    rw [upd_ne (ne_of_none e hD)]
    exact fr34 _ _ nb (fr _ _ nb e)
  · rw [hs, ← Nat.add_assoc]
    exact hP4.upd pD
  · intro d hd
    rcases List.mem_append.mp hd with hd | hd
    · obtain ⟨a1, a2, a3, a4, a5⟩ := al d hd
      refine ⟨a1, a2, a3, ?_, a5⟩
      rw [upd_ne a2]
      exact fr34 _ _ a3 a4
    · rw [List.mem_singleton] at hd
      subst hd
      refine ⟨fr.free rp nr3, rD, rp, ?_, hc⟩
      rw [upd_ne rD]
      exact hr
theorem set_slot0 {σ : L2.St} {slot i : Nat} {x y : Option V} (h : slot ≠ i) : ((σ.set slot x).set slot y)[i]? = σ[i]? := by
  rw [List.getElem?_set_ne h, List.getElem?_set_ne h]
theorem mix_lc {p : Addr} {q n j slot : Nat} {σ : L2.St} {ta : TA} {H1 : Hp} {Qv : VK} (hsl : 2 ≤ slot) (σ0 : σ[0]? = some (some (.ref p))) (σ1 : σ[1]? = some (some (.int (q : Int)))) (hq : q ≤ 7) (hb : n + j * q < 1000000) (hj : j ≤ 1000)
    (hta : ∀ R : List V → Hp → Prop, R [.int (j : Int)] H1 → ta σ H1 R) (hP : PotAt H1 p n)
    (k : ∀ D lc H2, Fr p H1 H2 → PotAt H2 p (n + j * q) → H1 D = none → H2 D = some (.lst (refs lc)) → lc.length = j →
      (∀ c ∈ lc, H1 c.1 = none ∧ c.1 ≠ D ∧ c.1 ≠ p ∧ H2 c.1 = some (.lst (c.2.map V.int)) ∧ IsP q c.2) → Qv (.ref D) H2) :
    tLc (iRng1 ta) (gName slot) tYes (teMix K) [slot] σ H1 Qv := by
  refine hta _ ⟨(j : Int), rfl, by omega, by omega, fun D nD => ?_⟩
  have pD : p ≠ D := hP.ne nD
  refine lc_range (lo := 0) (n := j) (MixI p D q n H1) ?_ ?_ ?_
  · refine ⟨[], rfl, upd_same, Fr.new nD, ?_, fun c hc => by cases hc⟩
    rw [Nat.zero_mul, Nat.add_zero]
    exact hP.upd pD
  · intro i H3 hi I
    have w1 : wipe σ [slot] = σ.set slot none := rfl
    refine ⟨?_, ?_⟩
    · show ((wipe σ [slot]).set slot _).set slot none = (wipe σ [slot])
      rw [w1, List.set_set, List.set_set]
    · simp only [tYes, ↓reduceIte]
      refine mix_turn (j := j) ?_ ?_ hq hb hi hj nD pD I
      · show ((σ.set slot none).set slot _)[0]? = _
        rw [set_slot0 (by omega)]
        exact σ0
      · show ((σ.set slot none).set slot _)[1]? = _
        rw [set_slot0 (by omega)]
        exact σ1
  · rintro H2 ⟨lc, h1, h2, h3, h4, h5⟩
    exact k D lc H2 h3 h4 nD h2 h1 h5
/-! ### the loops -/
def tLoop (K : PySem.W.Frag) : TS := tFor (iRng1 (tCons (tVar 1) tNil)) (gName 7) (tFor (iRng1 (tCons (tVar 1) tNil)) (gName 8)
  (tIfS (tTest (tOp rEq (tVar 2) (tC (V.int 0))))
    (tDrop (tBM K "list" rAppend (tVar 3) (tCons (tTup (tCons (tVar 7) (tCons (tVar 8) (tCons (tOp (rIxL K) (tOp (rIxL K) (tVar 4) (tVar 8)) (tVar 7)) (tCons (tVar 8) tNil))))) tNil)))
    (tIfS (tTest (tOp rEq (tVar 2) (tC (V.int 1))))
      (tDrop (tBM K "list" rAppend (tVar 3) (tCons (tTup (tCons (tVar 7) (tCons (tVar 8) (tCons (tVar 7) (tCons (tOp (rIxL K) (tOp (rIxL K) (tVar 4) (tVar 7)) (tVar 8)) tNil))))) tNil)))
      (tDrop (tBM K "list" rAppend (tVar 3) (tCons (tTup (tCons (tVar 7) (tCons (tVar 8) (tCons (tOp (rI (fun x j => 0 < j) fun i j => V.int (i % j)) (tOp (rI0 fun i j => V.int (i + j)) (tVar 7) (tOp (rI CMul fun i j => V.int (i * j)) (tVar 5) (tVar 8))) (tVar 1))
        (tCons (tOp (rI (fun x j => 0 < j) fun i j => V.int (i % j)) (tOp (rI0 fun i j => V.int (i + j)) (tVar 8) (tOp (rI CMul fun i j => V.int (i * j)) (tVar 6) (tVar 7))) (tVar 1)) tNil))))) tNil))))))
def σT (p : Addr) (q : Nat) (way : Int) (qa ta : Addr) (more less : Nat) (y7 y8 : Option V) : L2.St :=
  [some (.ref p), some (.int (q : Int)), some (.int way), some (.ref qa), some (.ref ta), some (.int (more : Int)), some (.int (less : Int)), y7, y8, none, none, none, none, none, none]
def pre (f : Nat → Nat → Nat × Nat) (q i j : Nat) : List (List Int) := ((List.range i).flatMap fun l => (List.range q).map fun w => bq f l w) ++ (List.range j).map fun w => bq f i w
theorem pre_step (f : Nat → Nat → Nat × Nat) (q i j : Nat) : pre f q i (j + 1) = pre f q i j ++ [bq f i j] := by
  unfold pre
  rw [List.range_succ, List.map_append, List.append_assoc]
  rfl
theorem pre_row (f : Nat → Nat → Nat × Nat) (q i : Nat) : pre f q (i + 1) 0 = pre f q i q := by
  unfold pre
  rw [List.range_succ, List.flatMap_append]
  simp
theorem pre_all (f : Nat → Nat → Nat × Nat) (q : Nat) : pre f q q 0 = (prs q).map fun x => bq f x.1 x.2 := by
  unfold pre prs
  simp [List.map_flatMap]
  rfl
structure LoopI (qa : Addr) (f : Nat → Nat → Nat × Nat) (q : Nat) (H6 : Hp) (i j : Nat) (H3 : Hp) (cs : List (Addr × List Int)) : Prop where
  fr : Fr qa H6 H3
  at_ : H3 qa = some (.lst (refs cs))
  ce : Cells H3 cs
  eq : cs.map (·.2) = pre f q i j
theorem pre_len (f : Nat → Nat → Nat × Nat) (q i j : Nat) : (pre f q i j).length = i * q + j := by
  unfold pre
  rw [List.length_append, List.length_flatMap, List.length_map, List.length_range]
  have : (List.range i).map (fun l => ((List.range q).map fun w => bq f l w).length) = (List.range i).map (fun _ => q) := List.map_congr_left fun a _ => by rw [List.length_map, List.length_range]
  rw [this, List.map_const', List.length_range, List.sum_replicate_nat]
/-- one more quad -/
theorem LoopI.more {qa T : Addr} {f : Nat → Nat → Nat × Nat} {q i j : Nat} {H6 H3 : Hp} {cs : List (Addr × List Int)} (I : LoopI qa f q H6 i j H3 cs) (nq : H6 qa ≠ none) (hT : H3 T = none) :
    LoopI qa f q H6 i (j + 1) (upd (upd H3 T (.tup ((bq f i j).map V.int))) qa (.lst (refs cs ++ [.ref T]))) (cs ++ [(T, bq f i j)]) := by
  have nT : qa ≠ T := ne_of_none I.at_ hT
  refine ⟨?_, ?_, ?_, ?_⟩
  · exact Fr.trans I.fr (Fr.trans (Fr.new hT) Fr.upd)
  · rw [upd_same]
    show _ = some (HO.lst (List.map _ (cs ++ [(T, bq f i j)])))
    rw [List.map_append]
    rfl
  · intro c hc
    rcases List.mem_append.mp hc with hc | hc
    · have h := I.ce c hc
      rw [upd_ne (ne_of h I.at_ (by intro z; cases z)), upd_ne (ne_of_none h hT)]
      exact h
    · rw [List.mem_singleton] at hc
      subst hc
      rw [upd_ne nT.symm]
      exact upd_same
  · rw [List.map_append, I.eq, pre_step]
    rfl
theorem loop_ok {p qa ta : Addr} {q more less : Nat} {way : Int} {tl : List (Addr × List Int)} {H6 : Hp} {D : Ends} {y7 y8 : Option V} (h2 : 2 ≤ q) (h7 : q ≤ 7) (hw : way = 0 ∨ way = 1 ∨ way = 2) (hml : more ≤ 2 ∧ less ≤ 2)
    (hq0 : H6 qa = some (.lst [])) (hta : H6 ta = some (.lst (refs tl))) (nta : ta ≠ qa) (htl : way < 2 → tl.length = q) (htc : ∀ c ∈ tl, c.1 ≠ qa ∧ H6 c.1 = some (.lst (c.2.map V.int)) ∧ IsP q c.2)
    (k : ∀ y7 y8 H7 cs, Fr qa H6 H7 → H7 qa = some (.lst (refs cs)) → Cells H7 cs → cs.map (·.2) = ((prs q).map fun x => bq (fway way (tl.map (·.2)) more less q) x.1 x.2) → D.nx (σT p q way qa ta more less y7 y8) H7) :
    tLoop K D (σT p q way qa ta more less y7 y8) H6 := by
  have nq : H6 qa ≠ none := by rw [hq0]; intro z; cases z
  refine ⟨.int (q : Int), rfl, (q : Int), rfl, by omega, by omega, ?_⟩
  refine for_range (lo := 0) (n := q) (fun i σ H3 => ∃ y7 y8 cs, σ = σT p q way qa ta more less y7 y8 ∧ LoopI qa (fway way (tl.map (·.2)) more less q) q H6 i 0 H3 cs) ⟨y7, y8, [], rfl, Fr.refl _ _, hq0, fun c hc => (by cases hc), rfl⟩ ?_ ?_
  · rintro i σ H3 hi ⟨z7, z8, cs, rfl, I⟩
    refine ⟨.int (q : Int), rfl, (q : Int), rfl, by omega, by omega, ?_⟩
    refine for_range (lo := 0) (n := q) (fun j σ H3 => ∃ y8 cs, σ = σT p q way qa ta more less (some (.int (i : Int))) y8 ∧ LoopI qa (fway way (tl.map (·.2)) more less q) q H6 i j H3 cs) ⟨z8, cs, ?_, I⟩ ?_ ?_
    · show (σT p q way qa ta more less z7 z8).set 7 (some (V.int (0 + (i : Int)))) = _
      rw [Int.zero_add]
      rfl
    · rintro j σ H4 hj ⟨w8, cs, rfl, I⟩
      have hsl : (cs.length : Nat) < 1000 := by
        have e : cs.length = (cs.map (·.2)).length := (List.length_map _).symm
        rw [e, I.eq, pre_len]
        have : i * q ≤ 7 * 7 := Nat.mul_le_mul (by omega) h7
        omega
      have hs2 : (σT p q way qa ta more less (some (.int (i : Int))) w8).set 8 (some (V.int (0 + (j : Int)))) = σT p q way qa ta more less (some (.int (i : Int))) (some (.int (j : Int))) := by
        rw [Int.zero_add]
        rfl
      show (tIfS _ _ _) _ ((σT p q way qa ta more less (some (.int (i : Int))) w8).set 8 (some (V.int (0 + (j : Int))))) H4
      rw [hs2]
      have S3 : SqL K H4 qa (refs cs) := .inl (.inl I.at_)
      have hta4 : SqL K H4 ta (refs tl) := .inl (.inl (I.fr _ _ nta hta))
      have fin : ∀ (vs : List V) (T : Addr), H4 T = none → vs = (bq (fway way (tl.map (·.2)) more less q) i j).map V.int →
          ∃ l xs y, (V.ref qa) = .ref l ∧ [V.ref T] = [y] ∧ (upd H4 T (.tup vs)) l = some (.lst xs) ∧ xs.length < sizeLine ∧
            (∃ y8 cs, σT p q way qa ta more less (some (.int (i : Int))) (some (.int (j : Int))) = σT p q way qa ta more less (some (.int (i : Int))) y8 ∧ LoopI qa (fway way (tl.map (·.2)) more less q) q H6 i (j + 1) (upd (upd H4 T (.tup vs)) l (.lst (xs ++ [y]))) cs) := by
        rintro vs T hT rfl
        refine ⟨qa, refs cs, .ref T, rfl, rfl, ?_, ?_, _, _, rfl, I.more nq hT⟩
        · rw [upd_ne (ne_of_none I.at_ hT)]
          exact I.at_
        · rw [List.length_map]
          exact Nat.lt_of_lt_of_le hsl (by decide)
      have getc : ∀ m, m < q → way < 2 → ∃ c : Addr × List Int, (refs tl)[m]? = some (.ref c.1) ∧ (tl.map (·.2)).getD m [] = c.2 ∧ SqL K H4 c.1 (c.2.map V.int) ∧ IsP q c.2 := by
        intro m hm hway
        have ln := htl hway
        have hm' : m < tl.length := by omega
        obtain ⟨b1, b2, b3⟩ := htc tl[m] (List.getElem_mem hm')
        refine ⟨tl[m], ?_, ?_, .inl (.inl (I.fr _ _ b1 b2)), b3⟩
        · rw [List.getElem?_map, List.getElem?_eq_getElem hm']
          rfl
        · rw [List.getD_eq_getElem?_getD, List.getElem?_map, List.getElem?_eq_getElem hm']
          rfl
      have geti : ∀ (c : List Int) (m : Nat), IsP q c → m < q → (c.map V.int)[m]? = some (.int (c.getD m 0)) := by
        intro c m hc hm
        rw [List.getElem?_map, hc.at hm]
        rfl
      rcases hw with rfl | rfl | rfl
      · obtain ⟨c, c1, c2, c3, c4⟩ := getc j hj (by decide)
        refine ⟨.int 0, rfl, rfl, _, rfl, iteT ?_⟩
        refine ⟨.ref qa, rfl, .inl ⟨rfl, _, S3⟩, .int (i : Int), rfl, .int (j : Int), rfl, .ref ta, rfl, .int (j : Int), rfl, ta, refs tl, (j : Int), .ref c.1, rfl, rfl, hta4, atI_nat c1, .int (i : Int), rfl, c.1, c.2.map V.int, (i : Int), .int (c.2.getD i 0), rfl, rfl, c3, atI_nat (geti _ _ c4 hi),
          .int (j : Int), rfl, by show 4 ≤ sizeLine; decide, fun T hT => fin _ T hT ?_⟩
        have e : fway 0 (tl.map (fun c => c.2)) more less q i j = ((((tl.map (fun c : Addr × List Int => c.2)).getD j []).getD i 0).toNat, j) := rfl
        have := (c4.get hi).1
        unfold bq
        rw [e, c2]
        show [V.int (i : Int), V.int (j : Int), V.int (c.2.getD i 0), V.int (j : Int)] = [V.int (i : Int), V.int (j : Int), V.int ((c.2.getD i 0).toNat : Int), V.int (j : Int)]
        rw [Int.toNat_of_nonneg this]
      · obtain ⟨c, c1, c2, c3, c4⟩ := getc i hi (by decide)
        refine ⟨.int 1, rfl, rfl, _, rfl, iteF ⟨.int 1, rfl, rfl, _, rfl, iteT ?_⟩⟩
        refine ⟨.ref qa, rfl, .inl ⟨rfl, _, S3⟩, .int (i : Int), rfl, .int (j : Int), rfl, .int (i : Int), rfl, .ref ta, rfl, .int (i : Int), rfl, ta, refs tl, (i : Int), .ref c.1, rfl, rfl, hta4, atI_nat c1, .int (j : Int), rfl, c.1, c.2.map V.int, (j : Int), .int (c.2.getD j 0), rfl, rfl, c3, atI_nat (geti _ _ c4 hj),
          by show 4 ≤ sizeLine; decide, fun T hT => fin _ T hT ?_⟩
        have e : fway 1 (tl.map (fun c => c.2)) more less q i j = (i, (((tl.map (fun c : Addr × List Int => c.2)).getD i []).getD j 0).toNat) := rfl
        have := (c4.get hj).1
        unfold bq
        rw [e, c2]
        show [V.int (i : Int), V.int (j : Int), V.int (i : Int), V.int (c.2.getD j 0)] = [V.int (i : Int), V.int (j : Int), V.int (i : Int), V.int ((c.2.getD j 0).toNat : Int)]
        rw [Int.toNat_of_nonneg this]
      · have q0 : (0 : Int) < (q : Int) := by omega
        refine ⟨.int 2, rfl, rfl, _, rfl, iteF ⟨.int 2, rfl, rfl, _, rfl, iteF ?_⟩⟩
        refine ⟨.ref qa, rfl, .inl ⟨rfl, _, S3⟩, .int (i : Int), rfl, .int (j : Int), rfl, .int (i : Int), rfl, .int (more : Int), rfl, .int (j : Int), rfl, _, _, rfl, rfl, .inl ⟨by omega, by omega⟩, _, _, rfl, rfl, .int (q : Int), rfl, _, _, rfl, rfl, q0,
          .int (j : Int), rfl, .int (less : Int), rfl, .int (i : Int), rfl, _, _, rfl, rfl, .inl ⟨by omega, by omega⟩, _, _, rfl, rfl, .int (q : Int), rfl, _, _, rfl, rfl, q0, by show 4 ≤ sizeLine; decide, fun T hT => fin _ T hT ?_⟩
        have e : fway 2 (tl.map (fun c => c.2)) more less q i j = ((i + more * j) % q, (j + less * i) % q) := rfl
        unfold bq
        rw [e]
        show [V.int (i : Int), V.int (j : Int), V.int (((i : Int) + (more : Int) * (j : Int)) % (q : Int)), V.int (((j : Int) + (less : Int) * (i : Int)) % (q : Int))] = [V.int (i : Int), V.int (j : Int), V.int (((i + more * j) % q : Nat) : Int), V.int (((j + less * i) % q : Nat) : Int)]
        rw [Int.natCast_emod, Int.natCast_emod, Int.natCast_add, Int.natCast_add, Int.natCast_mul, Int.natCast_mul]
    · rintro σ H4 ⟨w8, cs, rfl, I⟩
      refine ⟨_, _, cs, rfl, ?_⟩
      exact ⟨I.fr, I.at_, I.ce, by rw [I.eq, pre_row]⟩
  · rintro σ H3 ⟨z7, z8, cs, rfl, I⟩
    exact k z7 z8 H3 cs I.fr I.at_ I.ce (by rw [I.eq, pre_all])
end
end C2

namespace C2
set_option Elab.async false
set_option linter.all false
set_option maxRecDepth 100000
set_option maxHeartbeats 4000000
open PySem PySem.Spec PyProof.Rows L2
theorem perm_map_inv {α β : Type} (f : α → β) {ys zs : List β} (h : ys.Perm zs) : ∀ xs : List α, zs = xs.map f → ∃ ws : List α, ws.Perm xs ∧ ys = ws.map f := by
  induction h with
  | nil => exact fun xs e => ⟨xs, List.Perm.refl _, e⟩
  | cons x _ ih =>
    intro xs e
    cases xs with
    | nil => cases e
    | cons a r =>
      rw [List.map_cons] at e
      obtain ⟨e1, e2⟩ := List.cons.inj e
      obtain ⟨ws, p, e3⟩ := ih r e2
      exact ⟨a :: ws, p.cons a, by rw [List.map_cons, e1, e3]⟩
  | swap x y l =>
    intro xs e
    cases xs with
    | nil => cases e
    | cons a r =>
      cases r with
      | nil => cases e
      | cons b r =>
        rw [List.map_cons, List.map_cons] at e
        obtain ⟨e1, e2⟩ := List.cons.inj e
        obtain ⟨e3, e4⟩ := List.cons.inj e2
        exact ⟨b :: a :: r, List.Perm.swap _ _ _, by rw [List.map_cons, List.map_cons, e1, e3, e4]⟩
  | trans _ _ ih1 ih2 =>
    intro xs e
    obtain ⟨ws, p, e1⟩ := ih2 xs e
    obtain ⟨vs, p2, e2⟩ := ih1 ws e1
    exact ⟨vs, p2.trans p, e2⟩
section
variable {K : PySem.W.Frag}
def tEnd (K : PySem.W.Frag) : TS := tRet (tCB (rTupOf K) (tCons (tCB (rSortU K 4 7) (tCons (tLc (iList K (tVar 3)) (gName 12) tYes (teOut K) [12]) tNil)) tNil))
theorem Cells.same {G G' : Hp} {cs : List (Addr × List Int)} (h : Cells G cs) (s : Same G G') : Cells G' cs := fun c hc => s _ _ (h c hc)
theorem len_ren {cs : List (List Int)} {x : List Int} (h : cs.length = 4) (h' : x.length = 4) : (ren cs x).length = 4 := by
  unfold ren
  rw [List.length_zipWith, h, h']
  rfl
/-- tuple(sorted(..)) of a list of quads -/
theorem sort_tup {G : Hp} {D1 : Addr} {os : List (Addr × List Int)} {Q : VK} (hD : G D1 = some (.lst (refs os))) (hos : Cells G os) (h4 : ∀ c ∈ os, c.2.length = 4) (h7 : ∀ c ∈ os, ∀ v ∈ c.2, 0 ≤ v ∧ v < 7) (hl : os.length < 64)
    (k : ∀ t ws H8, Same G H8 → H8 t = some (.tup (refs ws)) → Cells H8 ws → ws.Perm os → Srt (ws.map (·.2)) → Q (.ref t) H8) : rSortU K 4 7 [.ref D1] G fun v G2 => rTupOf K [v] G2 Q := by
  refine ⟨D1, refs os, rfl, .inl (.inl hD), by rw [List.length_map]; exact hl, fun x hx => ?_, fun ys r per pr nr => ?_⟩
  · obtain ⟨c, hc, rfl⟩ := List.mem_map.mp hx
    exact ⟨c.2, ⟨c.1, rfl, .inl (.inl (hos c hc))⟩, h4 c hc, h7 c hc⟩
  · obtain ⟨ws, pw, rfl⟩ := perm_map_inv _ per os rfl
    refine ⟨r, _, rfl, .inl ⟨.inl (.inl upd_same), fun l nl => ?_⟩⟩
    have s2 : Same G (upd (upd G r (.lst (refs ws))) l (.tup (refs ws))) := (same_upd nr).trans (same_upd nl)
    refine k l ws _ s2 upd_same (fun c hc => s2 _ _ (hos c (pw.mem_iff.mp hc))) pw ?_
    rw [List.pairwise_map] at pr
    show (ws.map (·.2)).Pairwise _
    rw [List.pairwise_map]
    exact List.Pairwise.imp_of_mem (fun {c d} hc hd h => h c.2 d.2 ⟨c.1, rfl, .inl (.inl (hos c (pw.mem_iff.mp hc)))⟩ ⟨d.1, rfl, .inl (.inl (hos d (pw.mem_iff.mp hd)))⟩) pr
/-- the inner comprehension and the tuple of it -/
theorem out_turn {p qa ta ca a : Addr} {q more less : Nat} {way : Int} {y7 y8 : Option V} {lc : List (Addr × List Int)} {x : List Int} {H3 : Hp} {R : VK} (h4 : lc.length = 4) (hx4 : x.length = 4) (hxq : ∀ v ∈ x, 0 ≤ v ∧ v < (q : Int))
    (hca : SqL K H3 ca (refs lc)) (hlc : ∀ c ∈ lc, SqL K H3 c.1 (c.2.map V.int) ∧ IsP q c.2) (hx : H3 a = some (.tup (x.map V.int)))
    (k : ∀ T H4, Same H3 H4 → H3 T = none → H4 T = some (.tup ((ren (lc.map (·.2)) x).map V.int)) → R (.ref T) H4) :
    teOut K ((((σT p q way qa ta more less y7 y8).set 9 (some (.ref ca))).set 12 none).set 12 (some (.ref a))) H3 R := by
  have lr : (ren (lc.map (·.2)) x).length = 4 := len_ren (by rw [List.length_map]; exact h4) hx4
  refine ⟨.ref ca, rfl, .ref a, rfl, ca, a, refs lc, x.map V.int, rfl, hca, .inl (.inl hx), fun D2 nD2 => ?_⟩
  refine lc_it (walkLT (xs := refs lc) (ys := x.map V.int) (n := 4) (by rw [List.length_map]; exact h4) (by rw [List.length_map]; exact hx4)) (fun m G => Same H3 G ∧ G D2 = some (.lst (((ren (lc.map (·.2)) x).take m).map V.int))) ⟨same_upd nD2, upd_same⟩ ?_ ?_ ?_
  · rintro m G _ ⟨sm, _⟩
    exact ⟨sm.seq hca, .inl (.inl (sm _ _ hx))⟩
  · rintro m v G G' hm ⟨sm, hD2⟩ ⟨T, u, y, rfl, nT, rfl, eu, ey⟩
    replace eu : (refs lc)[m]? = some u := eu
    replace ey : (x.map V.int)[m]? = some y := ey
    have hm1 : m < lc.length := by omega
    have hm2 : m < x.length := by omega
    have eu' : u = .ref lc[m].1 := by
      rw [List.getElem?_map, List.getElem?_eq_getElem hm1] at eu
      exact (Option.some.inj eu).symm
    have ey' : y = .int x[m] := by
      rw [List.getElem?_map, List.getElem?_eq_getElem hm2] at ey
      exact (Option.some.inj ey).symm
    subst eu' ey'
    obtain ⟨b1, b2⟩ := hlc lc[m] (List.getElem_mem hm1)
    obtain ⟨z0, z1⟩ := hxq x[m] (List.getElem_mem hm2)
    have smT : Same G (upd G T (.tup [.ref lc[m].1, .int x[m]])) := same_upd nT
    have gv : (lc[m].2.map V.int)[x[m].toNat]? = some (.int (lc[m].2.getD x[m].toNat 0)) := by
      rw [List.getElem?_map, b2.at (by omega)]
      rfl
    refine ⟨T, [.ref lc[m].1, .int x[m]], rfl, .inl (.inl upd_same), rfl, _, _, rfl, _, _, rfl, rfl, rfl, .ref lc[m].1, rfl, .int x[m], rfl, lc[m].1, _, x[m], _, rfl, rfl, smT.seq (sm.seq b1), at_of (j := x[m].toNat) (by omega) gv, _, smT _ _ hD2, ?_, ?_, ?_⟩
    · rw [List.length_map, List.length_take]
      exact Nat.lt_of_le_of_lt (Nat.min_le_left _ _) (Nat.lt_of_lt_of_le (show m < 1000 by omega) (by decide))
    · intro b o e
      have nb : b ≠ D2 := ne_of_none e nD2
      rw [upd_ne nb]
      exact smT _ _ (sm _ _ e)
    · rw [upd_same]
      have g : (ren (lc.map (·.2)) x)[m]? = some (lc[m].2.getD x[m].toNat 0) := by
        unfold ren
        rw [List.getElem?_zipWith, List.getElem?_map, List.getElem?_eq_getElem hm1, List.getElem?_eq_getElem hm2]
        rfl
      rw [List.take_add_one, g, List.map_append]
      rfl
  · rintro G ⟨sm, hD2⟩
    rw [List.take_of_length_le (by omega)] at hD2
    refine ⟨D2, _, rfl, .inl ⟨.inl (.inl hD2), fun l nl => ?_⟩⟩
    exact k l _ (sm.trans (same_upd nl)) (sm.free nl) upd_same
theorem end_ok {p qa ta ca : Addr} {q more less : Nat} {way : Int} {y7 y8 : Option V} {cs lc : List (Addr × List Int)} {f : Nat → Nat → Nat × Nat} {H7 : Hp} {D : Ends} (h2 : 2 ≤ q) (h7 : q ≤ 7) (L : Latin q f)
    (hqa : H7 qa = some (.lst (refs cs))) (hcs : Cells H7 cs) (heq : cs.map (·.2) = (prs q).map fun x => bq f x.1 x.2) (hca : H7 ca = some (.lst (refs lc))) (h4 : lc.length = 4) (hlc : ∀ c ∈ lc, H7 c.1 = some (.lst (c.2.map V.int)) ∧ IsP q c.2)
    (k : ∀ t os H8, Same H7 H8 → H8 t = some (.tup (refs os)) → Cells H8 os → Good q (os.map (·.2)) → Srt (os.map (·.2)) → D.rt (.ref t) H8) :
    tEnd K D ((σT p q way qa ta more less y7 y8).set 9 (some (.ref ca))) H7 := by
  have hlen : cs.length = q * q := by
    have e : cs.length = (cs.map (·.2)).length := (List.length_map _).symm
    rw [e, heq, List.length_map, prs_len]
  have q49 : q * q ≤ 49 := Nat.mul_le_mul h7 h7
  have inb : ∀ c ∈ cs, c.2.length = 4 ∧ ∀ v ∈ c.2, 0 ≤ v ∧ v < (q : Int) := by
    intro c hc
    have m : c.2 ∈ cs.map (·.2) := List.mem_map.mpr ⟨c, hc, rfl⟩
    rw [heq] at m
    obtain ⟨⟨l, w⟩, hlw, e⟩ := List.mem_map.mp m
    obtain ⟨hl, hw⟩ := prs_mem.mp hlw
    have e' : bq f l w = c.2 := e
    rw [← e']
    refine ⟨rfl, fun v hv => ?_⟩
    have g1 := L.lt1 l w hl hw
    have g2 := L.lt2 l w hl hw
    unfold bq at hv
    simp only [List.mem_cons, List.not_mem_nil, or_false] at hv
    rcases hv with rfl | rfl | rfl | rfl <;> omega
  refine ⟨.ref qa, rfl, qa, rfl, ⟨_, .inl (.inl hqa)⟩, fun D1 nD1 => ?_⟩
  refine lc_list (xs := refs cs) (fun i G => ∃ os : List (Addr × List Int), Same H7 G ∧ G D1 = some (.lst (refs os)) ∧ Cells G os ∧ os.map (·.2) = (cs.take i).map fun c => ren (lc.map (·.2)) c.2) ?_ ?_ ?_ ?_
  · exact ⟨[], same_upd nD1, upd_same, fun c hc => (by cases hc), rfl⟩
  · rintro i G _ ⟨os, sm, _⟩
    exact sm.seq (.inl (.inl hqa))
  · rintro i x G hx ⟨os, sm, hD1, hos, e⟩
    have hi : i < cs.length := by
      have := (List.getElem?_eq_some_iff.mp hx).1
      rw [List.length_map] at this
      exact this
    have ex : x = .ref cs[i].1 := by
      rw [List.getElem?_map, List.getElem?_eq_getElem hi] at hx
      exact (Option.some.inj hx).symm
    subst ex
    refine ⟨rfl, ?_⟩
    simp only [tYes, ↓reduceIte]
    obtain ⟨b1, b2⟩ := inb cs[i] (List.getElem_mem hi)
    refine out_turn (lc := lc) (x := cs[i].2) h4 b1 b2 (sm.seq (.inl (.inl hca))) (fun c hc => ⟨sm.seq (.inl (.inl (hlc c hc).1)), (hlc c hc).2⟩) (sm _ _ (hcs _ (List.getElem_mem hi))) fun T G2 sm2 nT hT => ?_
    have lo : os.length = i := by
      have e1 : os.length = (os.map (·.2)).length := (List.length_map _).symm
      rw [e1, e, List.length_map, List.length_take]
      omega
    refine ⟨refs os, sm2 _ _ hD1, ?_, os ++ [(T, ren (lc.map (·.2)) cs[i].2)], ?_, ?_, ?_, ?_⟩
    · rw [List.length_map]
      exact Nat.lt_of_lt_of_le (show os.length < 1000 by omega) (by decide)
    · intro b o eb
      rw [upd_ne (ne_of_none eb nD1)]
      exact sm2 _ _ (sm _ _ eb)
    · rw [upd_same]
      show _ = some (HO.lst (List.map _ (os ++ [_])))
      rw [List.map_append]
      rfl
    · intro c hc
      rcases List.mem_append.mp hc with hc | hc
      · have hh := hos c hc
        rw [upd_ne (ne_of hh hD1 (by intro z; cases z))]
        exact sm2 _ _ hh
      · rw [List.mem_singleton] at hc
        subst hc
        have hne : T ≠ D1 := fun z => by
          rw [z, hD1] at nT
          cases nT
        rw [upd_ne hne]
        exact hT
    · rw [List.map_append, e, List.take_add_one, List.getElem?_eq_getElem hi, List.map_append]
      rfl
  · rintro G ⟨os, sm, hD1, hos, e⟩
    have e2 : os.map (·.2) = (prs q).map fun x => ren (lc.map (·.2)) (bq f x.1 x.2) := by
      rw [e, List.take_of_length_le (by rw [List.length_map]; exact Nat.le_refl _), show (cs.map fun c => ren (lc.map (·.2)) c.2) = (cs.map (·.2)).map (ren (lc.map (·.2))) by rw [List.map_map]; rfl, heq, List.map_map]
      rfl
    have gd : Good q (os.map (·.2)) := by
      rw [e2]
      match lc, h4, hlc with
      | [c0, c1, c2, c3], _, hl => exact good_of L (hl c0 (by simp)).2 (hl c1 (by simp)).2 (hl c2 (by simp)).2 (hl c3 (by simp)).2
    have lo : os.length = q * q := by
      have e1 : os.length = (os.map (·.2)).length := (List.length_map _).symm
      rw [e1, gd.len]
    refine sort_tup (Q := D.rt) hD1 hos (fun c hc => gd.in4 _ (List.mem_map.mpr ⟨c, hc, rfl⟩)) (fun c hc v hv => ?_) (by omega) fun t ws H8 s2 ht hws pw st => ?_
    · have := gd.inq _ (List.mem_map.mpr ⟨c, hc, rfl⟩) v hv
      omega
    · exact k t ws H8 (sm.trans s2) ht hws (gd.perm (pw.map _)) st
end
end C2

namespace C2
set_option Elab.async false
set_option linter.all false
set_option maxRecDepth 100000
set_option maxHeartbeats 4000000
open PySem PySem.Spec PyProof.Rows L2
/-! ### tables led by places; order; data -/
def sel (ps : List Int) (x : List Int) : List Int := ps.map fun j => x.getD j.toNat 0
abbrev pT : List Int := [3, 0, 1, 2]
abbrev pF : List Int := [2, 1, 0, 3]
structure InR (L : List (List Int)) : Prop where
  l4 : ∀ x ∈ L, x.length = 4
  lt : ∀ x ∈ L, ∀ v ∈ x, 0 ≤ v ∧ v < 7
theorem Good.inR {q : Nat} {L : List (List Int)} (g : Good q L) (h : q ≤ 7) : InR L := ⟨g.in4, fun x hx v hv => by have := g.inq x hx v hv; omega⟩
theorem InR.perm {L M : List (List Int)} (h : InR L) (p : M.Perm L) : InR M := ⟨fun x hx => h.l4 x (p.mem_iff.mp hx), fun x hx => h.lt x (p.mem_iff.mp hx)⟩
theorem four_of {x : List Int} (h : x.length = 4) : ∃ a b c d, x = [a, b, c, d] := by
  match x, h with
  | [a, b, c, d], _ => exact ⟨a, b, c, d, rfl⟩
theorem code7 (a b c d : Int) : TS.code 7 [a, b, c, d] = a * 343 + (b * 49 + (c * 7 + (d * 1 + 0))) := rfl
theorem code_eq {x y : List Int} (hx : x.length = 4) (hy : y.length = 4) (rx : ∀ v ∈ x, 0 ≤ v ∧ v < 7) (ry : ∀ v ∈ y, 0 ≤ v ∧ v < 7) (h1 : TS.code 7 x ≤ TS.code 7 y) (h2 : TS.code 7 y ≤ TS.code 7 x) : x = y := by
  obtain ⟨a, b, c, d, rfl⟩ := four_of hx
  obtain ⟨a', b', c', d', rfl⟩ := four_of hy
  rw [code7, code7] at h1 h2
  simp only [List.mem_cons, List.not_mem_nil, or_false, forall_eq_or_imp, forall_eq] at rx ry
  obtain ⟨e1, e2, e3, e4⟩ : a = a' ∧ b = b' ∧ c = c' ∧ d = d' := by omega
  rw [e1, e2, e3, e4]
theorem srt_uniq {L M : List (List Int)} (p : L.Perm M) (sL : Srt L) (sM : Srt M) (r : InR M) : L = M :=
  List.Perm.eq_of_pairwise (fun x y hx hy h1 h2 => code_eq (r.l4 x (p.mem_iff.mp hx)) (r.l4 y hy) (r.lt x (p.mem_iff.mp hx)) (r.lt y hy) h1 h2) sL sM p
theorem selT (a b c d : Int) : sel pT [a, b, c, d] = [d, a, b, c] := rfl
theorem selF (a b c d : Int) : sel pF [a, b, c, d] = [c, b, a, d] := rfl
theorem good_map {q : Nat} {L : List (List Int)} {f : List Int → List Int} (g : Good q L) (h4 : ∀ x : List Int, x.length = 4 → (f x).length = 4) (hm : ∀ x : List Int, x.length = 4 → ∀ v ∈ f x, v ∈ x)
    (hh : ∀ (leg : Nat) (a b : Int), leg < 4 → ∃ leg' a' b', leg' < 4 ∧ ((a' = a ∧ b' = b) ∨ (a' = b ∧ b' = a)) ∧ ∀ x : List Int, x.length = 4 → hit leg a b (f x) = hit leg' a' b' x) : Good q (L.map f) where
  len := by rw [List.length_map]; exact g.len
  in4 := fun x hx => by
    obtain ⟨y, hy, rfl⟩ := List.mem_map.mp hx
    exact h4 y (g.in4 y hy)
  inq := fun x hx v hv => by
    obtain ⟨y, hy, rfl⟩ := List.mem_map.mp hx
    exact g.inq y hy v (hm y (g.in4 y hy) v hv)
  one := fun leg a b hl a0 a1 b0 b1 => by
    obtain ⟨leg', a', b', hl', hab, e⟩ := hh leg a b hl
    rw [List.filter_map, List.length_map]
    have ef : L.filter (hit leg a b ∘ f) = L.filter (hit leg' a' b') := List.filter_congr fun x hx => e x (g.in4 x hx)
    rw [ef]
    rcases hab with ⟨rfl, rfl⟩ | ⟨rfl, rfl⟩
    · exact g.one leg' _ _ hl' a0 a1 b0 b1
    · exact g.one leg' _ _ hl' b0 b1 a0 a1
theorem legs4 {leg : Nat} (h : leg < 4) : leg = 0 ∨ leg = 1 ∨ leg = 2 ∨ leg = 3 := by omega
theorem good_T {q : Nat} {L : List (List Int)} (g : Good q L) : Good q (L.map (sel pT)) := by
  refine good_map g (fun x _ => rfl) (fun x hx v hv => ?_) (fun leg a b hl => ?_)
  · obtain ⟨a, b, c, d, rfl⟩ := four_of hx
    rw [selT] at hv
    simp only [List.mem_cons, List.not_mem_nil, or_false] at hv ⊢
    omega
  · refine ⟨(leg + 3) % 4, a, b, Nat.mod_lt _ (by decide), .inl ⟨rfl, rfl⟩, fun x hx => ?_⟩
    obtain ⟨x0, x1, x2, x3, rfl⟩ := four_of hx
    rw [selT]
    rcases legs4 hl with rfl | rfl | rfl | rfl <;> rfl
theorem good_F {q : Nat} {L : List (List Int)} (g : Good q L) : Good q (L.map (sel pF)) := by
  refine good_map g (fun x _ => rfl) (fun x hx v hv => ?_) (fun leg a b hl => ?_)
  · obtain ⟨a, b, c, d, rfl⟩ := four_of hx
    rw [selF] at hv
    simp only [List.mem_cons, List.not_mem_nil, or_false] at hv ⊢
    omega
  · have cm : ∀ (u v s t : Int), (u == s && v == t) = (v == t && u == s) := fun u v s t => Bool.and_comm _ _
    rcases legs4 hl with rfl | rfl | rfl | rfl
    · exact ⟨1, b, a, by decide, .inr ⟨rfl, rfl⟩, fun x hx => by obtain ⟨x0, x1, x2, x3, rfl⟩ := four_of hx; exact cm _ _ _ _⟩
    · exact ⟨0, b, a, by decide, .inr ⟨rfl, rfl⟩, fun x hx => by obtain ⟨x0, x1, x2, x3, rfl⟩ := four_of hx; exact cm _ _ _ _⟩
    · exact ⟨3, b, a, by decide, .inr ⟨rfl, rfl⟩, fun x hx => by obtain ⟨x0, x1, x2, x3, rfl⟩ := four_of hx; exact cm _ _ _ _⟩
    · exact ⟨2, b, a, by decide, .inr ⟨rfl, rfl⟩, fun x hx => by obtain ⟨x0, x1, x2, x3, rfl⟩ := four_of hx; exact cm _ _ _ _⟩
/-- M is L led by ps, risen -/
structure LedBy (ps : List Int) (L M : List (List Int)) : Prop where
  pm : M.Perm (L.map (sel ps))
  st : Srt M
theorem LedBy.len {ps : List Int} {L M : List (List Int)} (h : LedBy ps L M) : M.length = L.length := by rw [h.pm.length_eq, List.length_map]
theorem LedBy.goodT {q : Nat} {L M : List (List Int)} (h : LedBy pT L M) (g : Good q L) : Good q M := (good_T g).perm h.pm
theorem LedBy.goodF {q : Nat} {L M : List (List Int)} (h : LedBy pF L M) (g : Good q L) : Good q M := (good_F g).perm h.pm
theorem LedBy.uniq {q : Nat} {ps : List Int} {L M N : List (List Int)} (h : LedBy ps L M) (h' : LedBy ps L N) (r : InR N) : M = N := srt_uniq (h.pm.trans h'.pm.symm) h.st h'.st r
theorem led_perm {ps ps' : List Int} {L M N : List (List Int)} (h : LedBy ps L M) (h' : LedBy ps' M N) : N.Perm (L.map (sel ps' ∘ sel ps)) := by
  rw [← List.map_map]
  exact h'.pm.trans (h.pm.map _)
theorem map_four {L : List (List Int)} {f g : List Int → List Int} (h4 : ∀ x ∈ L, x.length = 4) (h : ∀ a b c d, f [a, b, c, d] = g [a, b, c, d]) : L.map f = L.map g :=
  List.map_congr_left fun x hx => by
    obtain ⟨a, b, c, d, rfl⟩ := four_of (h4 x hx)
    exact h a b c d
/-! ### data -/
abbrev dT (x : List Int) : PyData := .tuple (x.map PyData.int)
abbrev dTT (L : List (List Int)) : PyData := .tuple (L.map dT)
theorem dpAll (K : PySem.W.Frag) (G : Hp) : ∀ x : List Int, DpAll K G (x.map V.int) (x.map PyData.int)
  | [] => .nil
  | v :: r => .cons (.int v) (dpAll K G r)
theorem dpCells {K : PySem.W.Frag} {G : Hp} : ∀ cs : List (Addr × List Int), (∀ c ∈ cs, SqT K G c.1 (c.2.map V.int)) → DpAll K G (refs cs) ((cs.map (·.2)).map dT)
  | [], _ => .nil
  | c :: r, h => .cons (.tup (h c List.mem_cons_self) (dpAll K G c.2)) (dpCells r fun d hd => h d (List.mem_cons_of_mem _ hd))
theorem eqv_ints : ∀ x y : List Int, PyData.eqvAll (x.map PyData.int) (y.map PyData.int) = decide (x = y)
  | [], [] => by simp [PyData.eqvAll]
  | [], b :: s => by simp [PyData.eqvAll]
  | a :: r, [] => by simp [PyData.eqvAll]
  | a :: r, b :: s => by
    simp only [List.map_cons, PyData.eqvAll, PyData.eqv, eqv_ints r s, List.cons.injEq]
    by_cases h : a = b <;> simp [h]
theorem eqv_quads : ∀ L M : List (List Int), PyData.eqvAll (L.map dT) (M.map dT) = decide (L = M)
  | [], [] => by simp [PyData.eqvAll]
  | [], b :: s => by simp [PyData.eqvAll]
  | a :: r, [] => by simp [PyData.eqvAll]
  | a :: r, b :: s => by
    have e : PyData.eqv (dT a) (dT b) = decide (a = b) := by
      show PyData.eqv (.tuple _) (.tuple _) = _
      simp only [PyData.eqv]
      exact eqv_ints a b
    simp only [List.map_cons, PyData.eqvAll, e, eqv_quads r s, List.cons.injEq]
    by_cases h : a = b <;> simp [h]
theorem small7 {v : Int} (h0 : 0 ≤ v) (h1 : v < 7) : PyData.showable (.int v) = true ∧ PyData.leavesShort 8 (.int v) = true ∧ PyData.weight (.int v) ≤ 3 ∧ PyData.canLay0 (.int v) = true := by
  have : v = 0 ∨ v = 1 ∨ v = 2 ∨ v = 3 ∨ v = 4 ∨ v = 5 ∨ v = 6 := by omega
  rcases this with rfl | rfl | rfl | rfl | rfl | rfl | rfl <;> (refine ⟨?_, ?_, ?_, ?_⟩ <;> simp only [PyData.showable, PyData.leavesShort, PyData.weight, PyData.shown, PyData.canLay0] <;> decide +kernel)
structure Plain (ds : List PyData) (dp wt : Nat) : Prop where
  sh : PyData.showableAll ds = true
  hd : PyData.hasDictAll ds = false
  ls : PyData.leavesShortAll 8 ds = true
  dp : PyData.depthAll ds ≤ dp
  wt : PyData.weightAll ds ≤ wt
  cl : PyData.canLayAll0 ds = true
theorem Plain.nil (dp : Nat) : Plain [] dp 0 := ⟨by simp [PyData.showableAll], by simp [PyData.hasDictAll], by simp [PyData.leavesShortAll], by simp [PyData.depthAll], by simp [PyData.weightAll], by simp [PyData.canLayAll0]⟩
theorem plain_ints : ∀ x : List Int, (∀ v ∈ x, 0 ≤ v ∧ v < 7) → Plain (x.map PyData.int) 0 (4 * x.length)
  | [], _ => Plain.nil 0
  | v :: r, h => by
    obtain ⟨i1, i2, i3, i4, i5, i6⟩ := plain_ints r fun y hy => h y (List.mem_cons_of_mem _ hy)
    obtain ⟨s1, s2, s3, s4⟩ := small7 (h v List.mem_cons_self).1 (h v List.mem_cons_self).2
    refine ⟨?_, ?_, ?_, ?_, ?_, ?_⟩ <;> simp only [List.map_cons, PyData.showableAll, PyData.hasDictAll, PyData.leavesShortAll, PyData.depthAll, PyData.weightAll, PyData.canLayAll0, s1, s2, s4, i1, i2, i3, i6, PyData.hasDict, PyData.depth, List.length_cons]
    · rfl
    · rfl
    · rfl
    · omega
    · omega
    · rfl
theorem Plain.tup {ds : List PyData} {dp wt : Nat} (h : Plain ds dp wt) : Plain [.tuple ds] (dp + 1) (wt + 1) := by
  obtain ⟨i1, i2, i3, i4, i5, i6⟩ := h
  refine ⟨?_, ?_, ?_, ?_, ?_, ?_⟩ <;> simp only [PyData.showableAll, PyData.hasDictAll, PyData.leavesShortAll, PyData.depthAll, PyData.weightAll, PyData.canLayAll0, PyData.showable, PyData.hasDict, PyData.leavesShort, PyData.depth, PyData.weight, PyData.canLay0, i1, i2, i3, i6]
  · rfl
  · rfl
  · rfl
  · omega
  · omega
  · rfl
theorem Plain.lst {ds : List PyData} {dp wt : Nat} (h : Plain ds dp wt) : Plain [.list ds] (dp + 1) (wt + 1) := by
  obtain ⟨i1, i2, i3, i4, i5, i6⟩ := h
  refine ⟨?_, ?_, ?_, ?_, ?_, ?_⟩ <;> simp only [PyData.showableAll, PyData.hasDictAll, PyData.leavesShortAll, PyData.depthAll, PyData.weightAll, PyData.canLayAll0, PyData.showable, PyData.hasDict, PyData.leavesShort, PyData.depth, PyData.weight, PyData.canLay0, i1, i2, i3, i6]
  · rfl
  · rfl
  · rfl
  · omega
  · omega
  · rfl
theorem Plain.cons {d : PyData} {ds : List PyData} {dp wt wt' : Nat} (h : Plain [d] dp wt) (h' : Plain ds dp wt') : Plain (d :: ds) dp (wt + wt') := by
  obtain ⟨i1, i2, i3, i4, i5, i6⟩ := h
  obtain ⟨j1, j2, j3, j4, j5, j6⟩ := h'
  simp only [PyData.showableAll, PyData.hasDictAll, PyData.leavesShortAll, PyData.depthAll, PyData.weightAll, PyData.canLayAll0, Bool.and_true, Bool.or_false] at i1 i2 i3 i4 i5 i6
  refine ⟨?_, ?_, ?_, ?_, ?_, ?_⟩ <;> simp only [PyData.showableAll, PyData.hasDictAll, PyData.leavesShortAll, PyData.depthAll, PyData.weightAll, PyData.canLayAll0, i1, i2, i3, i6, j1, j2, j3, j6]
  · rfl
  · rfl
  · rfl
  · omega
  · omega
  · rfl
theorem plain_quads : ∀ L : List (List Int), InR L → Plain (L.map dT) 1 (17 * L.length)
  | [], _ => Plain.nil 1
  | x :: r, h => by
    have h1 := (plain_ints x (h.lt x List.mem_cons_self)).tup
    rw [h.l4 x List.mem_cons_self] at h1
    have h2 := plain_quads r ⟨fun y hy => h.l4 y (List.mem_cons_of_mem _ hy), fun y hy => h.lt y (List.mem_cons_of_mem _ hy)⟩
    have h3 := h1.cons h2
    have z : PyData.weightAll (List.map dT (x :: r)) ≤ 4 * 4 + 1 + 17 * r.length := h3.wt
    exact ⟨h3.sh, h3.hd, h3.ls, h3.dp, by rw [List.length_cons]; omega, h3.cl⟩
/-- what repr and == ask of a thing -/
structure Fine (d : PyData) : Prop where
  sh : d.showable = true
  hd : d.hasDict = false
  dp : d.depth ≤ 60
  ln : d.shown.length ≤ sizeLine
  sp : SeqAt.shaped d = true
theorem Plain.fine {d : PyData} {dp wt : Nat} (h : Plain [d] dp wt) (hd : dp ≤ 60) (hw : wt ≤ 100000) : Fine d := by
  obtain ⟨i1, i2, i3, i4, i5, i6⟩ := h
  simp only [PyData.showableAll, PyData.hasDictAll, PyData.leavesShortAll, PyData.depthAll, PyData.weightAll, PyData.canLayAll0, Bool.and_true, Bool.or_false] at i1 i2 i3 i4 i5 i6
  refine ⟨i1, i2, by omega, ?_, ?_⟩
  · have := PyData.shown_le 8 (by decide) d i3
    have s : 2000000 ≤ sizeLine := by decide
    omega
  · unfold SeqAt.shaped
    rw [i6, decide_eq_true (show d.depth ≤ 64 by omega)]
    rfl
theorem fineT {L : List (List Int)} (h : InR L) (hl : L.length < 64) : Plain [dTT L] 2 1200 := by
  have := (plain_quads L h).tup
  have z : PyData.weightAll [dTT L] ≤ 17 * L.length + 1 := this.wt
  exact ⟨this.sh, this.hd, this.ls, this.dp, by omega, this.cl⟩
theorem eqvTT (L M : List (List Int)) : PyData.eqv (dTT L) (dTT M) = decide (L = M) := by
  show PyData.eqv (.tuple _) (.tuple _) = _
  simp only [PyData.eqv]
  exact eqv_quads L M
theorem sameT {K : PySem.W.Frag} {G G' : Hp} {b : Addr} {xs : List V} (s : Same G G') (h : SqT K G b xs) : SqT K G' b xs := by
  rcases h with (h | ⟨o, h⟩) | h
  · exact .inl (.inl (s _ _ h))
  · exact .inl (.inr ⟨o, s _ _ h⟩)
  · exact .inr h
theorem freshSeq {K : PySem.W.Frag} {p a : Addr} {G G' : Hp} {xs : List V} (h : SqL K G a xs) (n : G p = none) (f : Fr p G G') : SqL K G' a xs := by
  rcases h with (h | ⟨o, h⟩) | h
  · exact .inl (.inl (f _ _ (ne_of_none h n) h))
  · exact .inl (.inr ⟨o, f _ _ (ne_of_none h n) h⟩)
  · exact .inr h
theorem get4 {x : List Int} {m : Nat} (h : x.length = 4) (hm : m < 4) : (x.map V.int)[m]? = some (.int (x.getD m 0)) := by
  have : m < x.length := by omega
  rw [List.getElem?_map, List.getElem?_eq_getElem this, List.getD_eq_getElem?_getD, List.getElem?_eq_getElem this]
  rfl
/-- a table stands there -/
structure TabAt (K : PySem.W.Frag) (G : Hp) (t : Addr) (cs : List (Addr × List Int)) : Prop where
  at_ : SqT K G t (refs cs)
  ce : ∀ c ∈ cs, SqT K G c.1 (c.2.map V.int)
  rg : InR (cs.map (·.2))
  ln : cs.length < 64
theorem TabAt.same {K : PySem.W.Frag} {G G' : Hp} {t : Addr} {cs : List (Addr × List Int)} (h : TabAt K G t cs) (s : Same G G') : TabAt K G' t cs := ⟨sameT s h.at_, fun c hc => sameT s (h.ce c hc), h.rg, h.ln⟩
theorem TabAt.dp {K : PySem.W.Frag} {G : Hp} {t : Addr} {cs : List (Addr × List Int)} (h : TabAt K G t cs) : Dp K G (.ref t) (dTT (cs.map (·.2))) := .tup h.at_ (dpCells cs h.ce)
theorem TabAt.pl {K : PySem.W.Frag} {G : Hp} {t : Addr} {cs : List (Addr × List Int)} (h : TabAt K G t cs) : Plain [dTT (cs.map (·.2))] 2 1200 := fineT h.rg (by rw [List.length_map]; exact h.ln)
end C2

namespace C2
set_option Elab.async false
set_option linter.all false
set_option maxRecDepth 100000
set_option maxHeartbeats 4000000
open PySem PySem.Spec PyProof.Rows L2
abbrev NTu : List Str := ["table", "l", "w", "r", "h"]
def gQuad (K : PySem.W.Frag) : TG := gTup K 4 (gCons (gName 1) (gCons (gName 2) (gCons (gName 3) (gCons (gName 4) gNil))))
def spLed (ps : List Int) (K : PySem.W.Frag) : Sp := fun vs H Q _ => ∃ (t : Addr) (cs : List (Addr × List Int)), vs = [.ref t] ∧ TabAt K H t cs ∧
  ∀ H' t' ws, Same H H' → TabAt K H' t' ws → LedBy ps (cs.map (·.2)) (ws.map (·.2)) → Q (.ref t') H'
/-- the quads led so far -/
def LedI (ps : List Int) (H : Hp) (cs : List (Addr × List Int)) (D : Addr) (i : Nat) (G : Hp) : Prop :=
  ∃ os : List (Addr × List Int), Same H G ∧ G D = some (.lst (refs os)) ∧ Cells G os ∧ os.map (·.2) = (cs.take i).map fun c => sel ps c.2
theorem ref_at {cs : List (Addr × List Int)} {i : Nat} {x : V} (h : (refs cs)[i]? = some x) : ∃ hi : i < cs.length, x = .ref cs[i].1 := by
  have hi : i < cs.length := by
    have := (List.getElem?_eq_some_iff.mp h).1
    rw [List.length_map] at this
    exact this
  refine ⟨hi, ?_⟩
  rw [List.getElem?_map, List.getElem?_eq_getElem hi] at h
  exact (Option.some.inj h).symm
/-- one more led quad, at T -/
theorem LedI.step {ps : List Int} {H G G2 : Hp} {cs : List (Addr × List Int)} {D T : Addr} {i : Nat} {y : List Int} (I : LedI ps H cs D i G) (hi : i < cs.length) (hl : cs.length < 64) (nD : H D = none) (sm2 : Same G G2) (nT : G T = none) (hT : G2 T = some (.tup (y.map V.int))) (ey : y = sel ps cs[i].2) :
    ∃ acc, G2 D = some (.lst acc) ∧ acc.length < sizeLine ∧ LedI ps H cs D (i + 1) (upd G2 D (.lst (acc ++ [.ref T]))) := by
  obtain ⟨os, sm, hD, hos, e⟩ := I
  have lo : os.length = i := by
    have e1 : os.length = (os.map (·.2)).length := (List.length_map _).symm
    rw [e1, e, List.length_map, List.length_take]
    omega
  have hne : T ≠ D := fun z => by rw [z, hD] at nT; cases nT
  refine ⟨refs os, sm2 _ _ hD, ?_, os ++ [(T, y)], ?_, ?_, ?_, ?_⟩
  · rw [List.length_map]
    exact Nat.lt_of_lt_of_le (show os.length < 1000 by omega) (by decide)
  · intro b o eb
    rw [upd_ne (ne_of_none eb nD)]
    exact sm2 _ _ (sm _ _ eb)
  · rw [upd_same]
    show _ = some (HO.lst (List.map _ (os ++ [_])))
    rw [List.map_append]
    rfl
  · intro c hc
    rcases List.mem_append.mp hc with hc | hc
    · have hh := hos c hc
      rw [upd_ne (ne_of hh hD (by intro z; cases z))]
      exact sm2 _ _ hh
    · rw [List.mem_singleton] at hc
      subst hc
      rw [upd_ne hne]
      exact hT
  · rw [List.map_append, e, List.take_add_one, List.getElem?_eq_getElem hi, List.map_append, ey]
    rfl
theorem sel_in {ps : List Int} (h4 : ps.length = 4) (hp : ∀ j ∈ ps, 0 ≤ j ∧ j < 4) {L : List (List Int)} (r : InR L) : InR (L.map (sel ps)) := by
  refine ⟨fun x hx => ?_, fun x hx v hv => ?_⟩
  · obtain ⟨y, hy, rfl⟩ := List.mem_map.mp hx
    unfold sel
    rw [List.length_map]
    exact h4
  · obtain ⟨y, hy, rfl⟩ := List.mem_map.mp hx
    obtain ⟨j, hj, rfl⟩ := List.mem_map.mp hv
    have hj' := hp j hj
    have l4 := r.l4 y hy
    have hlt : j.toNat < y.length := by omega
    rw [List.getD_eq_getElem?_getD, List.getElem?_eq_getElem hlt]
    exact r.lt y hy _ (List.getElem_mem hlt)
theorem led_end {K : PySem.W.Frag} {ps : List Int} {H G : Hp} {t D : Addr} {cs : List (Addr × List Int)} {Q : VK} (h4 : ps.length = 4) (hp : ∀ j ∈ ps, 0 ≤ j ∧ j < 4) (hT : TabAt K H t cs) (I : LedI ps H cs D cs.length G)
    (k : ∀ H' t' ws, Same H H' → TabAt K H' t' ws → LedBy ps (cs.map (·.2)) (ws.map (·.2)) → Q (.ref t') H') : rSortU K 4 7 [.ref D] G fun v G2 => rTupOf K [v] G2 Q := by
  obtain ⟨os, sm, hD, hos, e⟩ := I
  rw [List.take_of_length_le (Nat.le_refl _)] at e
  have e2 : os.map (·.2) = (cs.map (·.2)).map (sel ps) := by rw [e, List.map_map]; rfl
  have r : InR (os.map (·.2)) := by rw [e2]; exact sel_in h4 hp hT.rg
  have lo : os.length = cs.length := by
    have e1 : os.length = (os.map (·.2)).length := (List.length_map _).symm
    rw [e1, e, List.length_map]
  have hl := hT.ln
  refine sort_tup hD hos (fun c hc => r.l4 _ (List.mem_map.mpr ⟨c, hc, rfl⟩)) (fun c hc => r.lt _ (List.mem_map.mpr ⟨c, hc, rfl⟩)) (by omega) fun t' ws H8 s2 ht hws pw st => ?_
  have pm : (ws.map (·.2)).Perm (os.map (·.2)) := pw.map _
  refine k H8 t' ws (sm.trans s2) ⟨.inl (.inl ht), fun c hc => .inl (.inl (hws c hc)), r.perm pm, by rw [pw.length_eq]; omega⟩ ⟨?_, st⟩
  rw [← e2]
  exact pm
end C2

namespace C2
set_option Elab.async false
set_option linter.all false
set_option maxRecDepth 100000
set_option maxHeartbeats 4000000
open PySem PySem.Spec PyProof.Rows L2
section
variable {P : Program} {w : World} {K : PySem.W.Frag} {mg : Str → Option Value} {base : Heap}
theorem scTurned : FnScope NTu ["table"] (defScope sTurned) := ⟨rfl, rfl, rfl, by decide +kernel, rfl, by decide +kernel, by decide +kernel⟩
theorem ok_turned {f : Addr} {fd : FuncData} {k : Nat} (F : Fun K "turned" "turned" sTurned f fd) (mt : mg "tuple" = none) (ms : mg "sorted" = none) : FnOk P w K mg base CX0 (k + 1) f fd ["table"] (spLed pT K) := by
  refine F.ok scTurned (fun vs H Q E h => ?_) (fun cdv A outer s H vs Q E hr h => ?_)
  · obtain ⟨t, cs, rfl, _⟩ := h
    rfl
  · obtain ⟨t, cs, rfl, hT, k⟩ := h
    have nd := scTurned.nd
    refine ⟨_, pss_one (ps_ret (pe_callTy call_tuple_of (by rfl) mt (by decide +kernel) (pa_cons (pe_callB (cr_sortT (d := 4) (B := 7) (by decide)) (by rfl) ms (by decide +kernel) (pa_cons
      (pe_lc (own := [("l", 1), ("w", 2), ("r", 3), ("h", 4)]) (g := gQuad K) (tt := tYes) (te := tTup (tCons (tVar 4) (tCons (tVar 1) (tCons (tVar 2) (tCons (tVar 3) tNil))))) rfl nd (pi_tup (pv 0))
        (blkOk_by (own := [("l", 1), ("w", 2), ("r", 3), ("h", 4)]) (N := NTu) (sc := defScope sTurned) (by decide +kernel))
        (fun _ _ _ _ _ => pg_tup rfl (pgs_cons (pg_name (i := 1) nd rfl (.inl rfl)) (pgs_cons (pg_name (i := 2) nd rfl (.inl rfl)) (pgs_cons (pg_name (i := 3) nd rfl (.inl rfl)) (pgs_cons (pg_name (i := 4) nd rfl (.inl rfl)) pgs_nil)))))
        (fun _ _ _ _ _ => pts_nil) (fun _ _ _ _ _ => pe_tup (pa_cons (pv 4) (pa_cons (pv 1) (pa_cons (pv 2) (pa_cons (pv 3) pa_nil)))))) pa_nil)) pa_nil))), ?_⟩
    refine ⟨.ref t, rfl, t, rfl, ⟨_, hT.at_⟩, fun D nD => ?_⟩
    refine lc_tup (xs := refs cs) (LedI pT H cs D) ⟨[], same_upd nD, upd_same, fun c hc => (by cases hc), rfl⟩ ?_ ?_ ?_
    · rintro i G _ ⟨os, sm, _⟩
      exact sameT sm hT.at_
    · rintro i x G hx I
      obtain ⟨hi, rfl⟩ := ref_at hx
      obtain ⟨x0, x1, x2, x3, e4⟩ := four_of (hT.rg.l4 cs[i].2 (List.mem_map.mpr ⟨_, List.getElem_mem hi, rfl⟩))
      have hc := hT.ce _ (List.getElem_mem hi)
      obtain ⟨os, sm, hh⟩ := id I
      replace hc := sameT sm hc
      rw [e4] at hc
      refine ⟨cs[i].1, _, rfl, hc, rfl, _, _, rfl, _, _, rfl, _, _, rfl, _, _, rfl, rfl, rfl, .int x3, rfl, .int x0, rfl, .int x1, rfl, .int x2, rfl, by show 4 ≤ sizeLine; decide, fun T nT => ?_⟩
      exact I.step (y := [x3, x0, x1, x2]) hi hT.ln nD (same_upd nT) nT upd_same (by rw [e4]; rfl)
    · intro G I
      have ln : (refs cs).length = cs.length := List.length_map _
      rw [ln] at I
      exact led_end (by decide) (by decide) hT I k
end
end C2

namespace C2
set_option Elab.async false
set_option linter.all false
set_option maxRecDepth 100000
set_option maxHeartbeats 4000000
open PySem PySem.Spec PyProof.Rows L2
section
variable {P : Program} {w : World} {A : Around} {s : Shared} {E : Value → Shared → Prop}
/-- the empty set, as it is first laid down -/
abbrev bare (w : World) : Obj := { cls := .type "set", dict := none, data := .set #[] 0 (.fresh 0 0 (!w.params.followText "set-order")) }
/-- the shared state with that set laid at its end -/
abbrev laidBare (w : World) (s : Shared) : Shared := { s with heap := s.heap.push (bare w) }
/-- what a set of the tuples ks, new beside h, may be -/
def Filled (P : Program) (w : World) (ks : List (Addr × List Int)) (s : Shared) (z : Shared) : Prop :=
  ∃ hp n L es ep t, z = { s with heap := hp, toks := n } ∧ SetTR P w hp s.heap.objs.size L es ep t ∧ Got ks ks.length L ∧ ∀ b o, s.heap.get? b = some o → hp.get? b = some o
theorem none_past {h : Heap} {b : Addr} (le : h.objs.size ≤ b) : h.get? b = none :=
  Option.eq_none_iff_forall_ne_some.mpr fun o e => Nat.lt_irrefl _ (Nat.lt_of_lt_of_le (Heap.lt_size e) le)
theorem ref_there {its : Array Value} {ks : List (Addr × List Int)} (e : its.toList = ks.map fun p => Value.ref p.1) (i : Nat) (v : Value) (hv : its[i]? = some v) : ∃ p, ks[i]? = some p ∧ v = .ref p.1 := by
  have z : (ks.map fun p => Value.ref p.1)[i]? = some v := by rw [← e]; simpa using hv
  obtain ⟨p, hp, rfl⟩ := Option.map_eq_some_iff.mp ((List.getElem?_map ..).symm.trans z)
  exact ⟨p, hp, rfl⟩
theorem fill_tup {l : Addr} {its : Array Value} (ks : List (Addr × List Int)) {Q : PySem.Fin → Shared → Prop} (hh : A.in1.handled = none) (hu : A.in1.units < cLine) (hl : s.heap.IsTuple l its) (e : its.toList = ks.map fun p => Value.ref p.1)
    (hk : ∀ p ∈ ks, IsT P w s.heap p.2 p.1) (few : ks.length < 64) (q : ∀ z, Filled P w ks s z → Q (.done (.ret .none)) z) :
    wpAny (model P w) A (Builtin.«set.__init__» ⟨[.ref s.heap.objs.size, .ref l], []⟩) Q E (laidBare w s) := by
  have cnt : its.size = ks.length := by simpa using congrArg List.length e
  obtain ⟨⟨kd, dd, da, sl⟩, at0, ekd, n0, eda⟩ := hl
  obtain rfl : kd = .type "tuple" := ekd
  obtain rfl : da = .seq its n0 := eda
  have below := Heap.lt_size at0
  have at1 := Heap.get?_push_of_some (bare w) at0
  have atN : (s.heap.push (bare w)).get? s.heap.objs.size = some (bare w) := Heap.get?_push_size _ rfl
  have tup : (s.heap.push (bare w)).IsTuple l its := ⟨_, at1, rfl, n0, rfl⟩
  have no1 := F.sub_tuple_set
  have no2 := F.sub_tuple_frozenset
  have no3 : ((Value.type "tuple") == (Value.type "dict")) = false := rfl
  have up := Heap.size_push s.heap (bare w)
  unfold Builtin.«set.__init__»
  unfold noKeywords
  unfold Builtin.Frozenset.updateFrom
  generalize walk : pyIter = it
  wp_walk
  subst walk
  refine wpAny_pyIter_tuple tup (wpAny_bind (wpAny_runValue (set_update_tups (Walks.tuple hh _ l (up ▸ Nat.ne_of_lt (Nat.lt_succ_of_lt below)) its).toS s.heap.objs.size ?_ ks cnt few (ref_there e) s.heap hk (none_past (Nat.le_refl _))
    (fun b m => none_past (by rw [List.mem_singleton.mp m, up]; omega)) hu its.size 0 _ rfl (Nat.zero_le _) ⟨⟨_, Heap.get?_push_size _ rfl, rfl, rfl⟩, tup.push _⟩
    (fun b o m => Heap.get?_push_of_some _ (Heap.get?_push_of_some _ m)) ⟨[], #[], 0, _, setTR_fresh (Heap.get?_push_of_some _ atN), Got.zero ks⟩ ?_)))
  · rw [up]
    intro m
    rcases List.mem_cons.mp m with m | m
    · exact absurd m (Nat.ne_of_lt (Nat.lt_succ_self _))
    · exact absurd (List.mem_singleton.mp m) (Nat.ne_of_gt below)
  · rintro ⟨hp, gs, dn, n, os⟩ L es ep t mv R g kp
    have gd : gs = s.gens ∧ dn = s.drawn ∧ os = s.os := ⟨mv.gens, mv.drawn, mv.os⟩
    obtain ⟨rfl, rfl, rfl⟩ := gd
    exact wpAny_pure (wpAny_pure (q _ ⟨hp, n, L, es, ep, t, rfl, R, cnt ▸ g, kp⟩))
theorem set_of_tuple {l : Addr} {its : Array Value} (ks : List (Addr × List Int)) {Q : Value → Shared → Prop} (hh : A.handled = none) (hl : s.heap.IsTuple l its)
    (e : its.toList = ks.map fun p => Value.ref p.1) (hk : ∀ p ∈ ks, IsT P w s.heap p.2 p.1) (few : ks.length < 64) (hu : A.units + 3 < cLine)
    (q : ∀ z, Filled P w ks s z → Q (.ref s.heap.objs.size) z) : wpAny (model P w) A (call (.type "set") [.ref l]) Q E s := by
  obtain ⟨top, rest, line⟩ := F.called_set.mro
  have made := F.called_set.made
  have kind := F.called_set.sub
  have meta_ := F.called_set.notType
  have able := F.called_set.canCreate
  have one := F.typeCall_set_1 (.ref l)
  have init := F.called_set.init.lookup
  have bound := F.called_set.init.bind (.ref s.heap.objs.size)
  refine wpAny_call (codeAny_of_tree (wpAny_pure (M := model P w) ⟨Code.quiet_builtin _ (by decide +kernel), codeAny_builtin F.entry_type_call ?_⟩))
  rw [Around.under_plain (weight_type_call_type "set" [Value.ref l] []) rfl]
  wp_walk
  refine codeAny_mono (code_set_led1 (.ref l) (E := E) (Q₁ := fun x z => x = .ref s.heap.objs.size ∧ z = laidBare w s) ⟨rfl, rfl⟩) ?_
  rintro (x | f) z hz
  · exact hz
  cases f with
  | ret x =>
    obtain ⟨rfl, rfl⟩ := hz
    have ty : (laidBare w s).TypeIs (.ref s.heap.objs.size) "set" := ⟨_, Heap.get?_push_size _ rfl, rfl⟩
    wp_walk
    refine codeAny_mono (codeAny_call_builtin (R := wants (fun r y => r = .none ∧ Filled P w ks s y) E) F.called_set.init.plain F.entry_set_init
      (check_set_init_1 ty (fill_tup ks (by simp [hh]) (by simp only [Around.in1]; omega) hl e hk few fun y hy => ⟨rfl, hy⟩))) ?_
    rintro (x | f) y hy
    · exact hy
    cases f with
    | ret x =>
      obtain ⟨rfl, hy⟩ := hy
      wp_walk
      exact q _ hy
    | _ => exact hy.elim
  | _ => exact hz.elim
end
section
variable {X : Cx}
def rSetTup (K : PySem.W.Frag) (P : Program) (w : World) : List V → Hp → VK → Prop := fun xs G Q => ∃ (l : Addr) (ks : List (Addr × List Int)), xs = [V.ref l] ∧ SqT K G l (ks.map fun p => V.ref p.1) ∧ (∀ p ∈ ks, SqT K G p.1 (p.2.map V.int)) ∧ ks.length < 64 ∧
  ∀ a L, G a = none → (∀ p ∈ L, p ∈ ks) → (∀ p ∈ ks, p.2 ∈ L.map (·.2)) → Q (.ref a) (upd G a (SetTO P w a L))
theorem cr_setTup (hc : X.calm = true) (hu : X.A.units + 64 < cLine) : CallR X (.type "set") (rSetTup X.K X.prog X.w) := by
  intro pins s σ G xs us Q I r h
  obtain ⟨l, ks, rfl, hl, hk, few, q⟩ := h
  rw [Vals.ref1 r]
  obtain ⟨its, rv, pl, _⟩ := I.tuple hl
  refine set_of_tuple (P := X.prog) (w := X.w) ks (I.ok.hd hc) pl (by simpa using refs_of_vals rv) (fun p m => I.isT (hk p m)) few (by omega) ?_
  rintro _ ⟨hp, n, L, es, ep, t, rfl, R, g, kp⟩
  exact ⟨.ref s.heap.objs.size, upd G s.heap.objs.size (SetTO X.prog X.w s.heap.objs.size L), I.laid (t' := n) kp (Nat.le_refl _) (setTO_new R.t0), rfl,
    q _ L (I.hok.fresh (Nat.le_refl _)) (fun p m => List.mem_of_mem_take (g.sub p m)) fun p m => g.all p (by rw [List.take_length]; exact m)⟩
def rLenSetT (P : Program) (w : World) : List V → Hp → VK → Prop := fun xs G Q => ∃ (a : Addr) (L : List (Addr × List Int)), xs = [V.ref a] ∧ G a = some (SetTO P w a L) ∧ ((L.map (·.2)).Nodup → L.length < 64 → Q (.int (L.length : Nat)) G)
theorem cr_lenSetT : CallR X (.builtin "len") (rLenSetT X.prog X.w) := by
  intro pins s σ G xs us Q I r h
  obtain ⟨a, L, rfl, ha, q⟩ := h
  obtain ⟨es, ep, t, ⟨o, ho, hex, hd⟩, rows, tab, nd, pl, led, room, few⟩ := (show SetT0 X.prog X.w s.heap a L from (I.hok a _ ha).1).ex
  have sz : es.size = L.length := by
    have e := congrArg List.length rows
    unfold rowsOf at e
    simpa using e
  rw [Vals.ref1 r]
  refine call_len_set ho hex hd ?_ (by omega) ⟨.int (L.length : Nat), G, I.tok _, ⟨_, by rw [sz]⟩, q nd few⟩
  have z := tab.sz
  rw [List.length_map] at z
  have fl : t.fill ≤ t.mask := by
    unfold SetTable.fill
    rw [tab.dm, z]
    simp only [Array.size_empty]
    omega
  unfold SetTable.fits
  rw [z, sz, beq_self_eq_true, decide_eq_true fl]
  rfl
end
end C2

namespace C2
set_option Elab.async false
set_option linter.all false
set_option maxRecDepth 100000
set_option maxHeartbeats 4000000
open PySem PySem.Spec PyProof.Rows L2
/-! ### each pair once: no two alike -/
def kp (leg : Nat) (x : List Int) : List Int := [x.getD leg 0, x.getD ((leg + 1) % 4) 0]
theorem nodup_of_filter {α β : Type} (key : α → β) (p : α → α → Bool) (hp : ∀ x y, key y = key x → p x y = true) : ∀ {L : List α}, (∀ x ∈ L, (L.filter (p x)).length ≤ 1) → (L.map key).Nodup
  | [], _ => List.nodup_nil
  | a :: r, h => by
    rw [List.map_cons, List.nodup_cons]
    constructor
    · intro hm
      obtain ⟨b, hb, e⟩ := List.mem_map.mp hm
      have h1 := h a List.mem_cons_self
      rw [List.filter_cons_of_pos (hp a a rfl), List.length_cons] at h1
      have h2 : b ∈ r.filter (p a) := List.mem_filter.mpr ⟨hb, hp a b e⟩
      have h3 := List.length_pos_of_mem h2
      omega
    · refine nodup_of_filter key p hp fun x hx => ?_
      have h1 := h x (List.mem_cons_of_mem _ hx)
      have h2 : (r.filter (p x)).length ≤ ((a :: r).filter (p x)).length := by
        rw [List.filter_cons]
        split
        · rw [List.length_cons]; omega
        · exact Nat.le_refl _
      omega
theorem in_of {q : Nat} {L : List (List Int)} (g : Good q L) {x : List Int} (hx : x ∈ L) {m : Nat} (hm : m < 4) : 0 ≤ x.getD m 0 ∧ x.getD m 0 < (q : Int) := by
  have h4 := g.in4 x hx
  have hlt : m < x.length := by omega
  rw [List.getD_eq_getElem?_getD, List.getElem?_eq_getElem hlt]
  exact g.inq x hx _ (List.getElem_mem hlt)
theorem Good.kp_nodup {q : Nat} {L : List (List Int)} (g : Good q L) {leg : Nat} (hl : leg < 4) : (L.map (kp leg)).Nodup := by
  refine nodup_of_filter (kp leg) (fun x => hit leg (x.getD leg 0) (x.getD ((leg + 1) % 4) 0)) (fun x y e => ?_) fun x hx => ?_
  · unfold kp at e
    obtain ⟨e1, e2⟩ := List.cons.inj e
    obtain ⟨e3, _⟩ := List.cons.inj e2
    unfold hit
    rw [e1, e3, beq_self_eq_true, beq_self_eq_true]
    rfl
  · have i1 := in_of g hx hl
    have i2 := in_of g hx (Nat.mod_lt (leg + 1) (show 0 < 4 by decide))
    exact Nat.le_of_eq (g.one leg _ _ hl i1.1 i1.2 i2.1 i2.2)
theorem Good.nodup {q : Nat} {L : List (List Int)} (g : Good q L) : L.Nodup := nodup_of_map (g.kp_nodup (leg := 0) (by decide))
section
variable {P : Program} {w : World} {K : PySem.W.Frag} {mg : Str → Option Value} {base : Heap}
theorem scWhole : FnScope ["_law_thing", "_law_below"] ["_law_thing", "_law_below"] (defScope sWhole) := ⟨rfl, rfl, rfl, by decide +kernel, rfl, by decide +kernel, by decide +kernel⟩
def spWhole : Sp := fun vs H Q _ => ∃ (v b : Int), vs = [.int v, .int b] ∧ 0 ≤ v ∧ v < b ∧ Q (.bl true) H
theorem ok_whole {f : Addr} {fd : FuncData} {k : Nat} (F : Fun K "_law_is_whole" "_law_is_whole" sWhole f fd) (mi : mg "isinstance" = none) (mint : mg "int" = none) (mbool : mg "bool" = none) : FnOk P w K mg base CX0 (k + 1) f fd ["_law_thing", "_law_below"] spWhole := by
  refine F.ok scWhole (fun vs H Q E h => ?_) (fun cdv A outer s H vs Q E hr h => ?_)
  · obtain ⟨v, b, rfl, _⟩ := h
    rfl
  · obtain ⟨v, b, rfl, h0, h1, q⟩ := h
    refine ⟨_, pss_one (ps_ret (pe_and (pe_callB call_isi (by rfl) mi (by decide +kernel) (pa_cons (pv 0) (pa_cons (pe_bltn (v := .ty "int") (by rfl) mint (by decide +kernel) rfl) pa_nil)))
      (pe_and (pe_not (pe_callB call_isi (by rfl) mi (by decide +kernel) (pa_cons (pv 0) (pa_cons (pe_bltn (v := .ty "bool") (by rfl) mbool (by decide +kernel) rfl) pa_nil))))
        (pe_one (pe_chain op_le op_lt pe_int (pv 0) (pv 1)))))), ?_⟩
    refine ⟨.int v, rfl, .int v, .ty "int", _, _, true, rfl, .ty "int", .base (.int v), kit_ty (by decide +kernel), true, rfl, ?_⟩
    refine ⟨.int v, rfl, .int v, .ty "bool", _, _, false, rfl, .ty "bool", .base (.int v), kit_ty (by decide +kernel), false, rfl, true, rfl, ?_⟩
    refine ⟨.int v, rfl, 0, v, rfl, rfl, _, rfl, ?_⟩
    rw [decide_eq_true h0]
    refine iteT ⟨.int b, rfl, v, b, rfl, rfl, ?_⟩
    show Q (V.bl (decide (v < b))) H
    rw [decide_eq_true h1]
    exact q
end
end C2

namespace C2
set_option Elab.async false
set_option linter.all false
set_option maxRecDepth 100000
set_option maxHeartbeats 4000000
open PySem PySem.Spec PyProof.Rows L2
abbrev NI : List Str := ["_law_q", "_law_thing", "_law_quad", "_law_leg", "_law_part"]
theorem scIsTable : FnScope NI ["_law_q", "_law_thing"] (defScope sIsTable) := ⟨rfl, rfl, rfl, by decide +kernel, rfl, by decide +kernel, by decide +kernel⟩
def spIsTable (K : PySem.W.Frag) : Sp := fun vs H Q _ => ∃ (q : Nat) (t : Addr) (cs : List (Addr × List Int)), vs = [.int (q : Int), .ref t] ∧ q ≤ 7 ∧ TabAt K H t cs ∧ Good q (cs.map (·.2)) ∧ Srt (cs.map (·.2)) ∧ ∀ H', Same H H' → Q (.bl true) H'
def teIsT (K : PySem.W.Frag) : TE := tCB (rIsi K) (tCons (tVar 2) (tCons (tC (.ty "tuple")) tNil))
def teWh : TE := tCall spWhole [] E0 (tCons (tVar 4) (tCons (tVar 0) tNil))
def tePair (K : PySem.W.Frag) : TE := tTup (tCons (tOp (rIxT K) (tVar 2) (tVar 3)) (tCons (tOp (rIxT K) (tVar 2) (tOp (rI0 fun i j => V.int (i - j)) (tVar 3) (tC (V.int 3)))) tNil))
theorem tyT {K : PySem.W.Frag} {G : Hp} {a : Addr} {xs : List V} (h : SqT K G a xs) : TyX K G (.ref a) (.type "tuple") := by
  rcases h with (h | ⟨o, h⟩) | ⟨o, its, n, hk, hc, _⟩
  · exact .base (.tup h)
  · exact .fTuple h
  · exact .kTuple hk hc
theorem all_rep (n : Nat) : (List.replicate n true).all id = true := by
  rw [List.all_eq_true]
  intro b hb
  exact (List.mem_replicate.mp hb).2
theorem all_step {H G : Hp} {D : Addr} {i : Nat} (sm : Same H G) (nD : H D = none) : Same H (upd G D (.lst ((List.replicate i true).map V.bl ++ [.bl true]))) ∧
    (upd G D (.lst ((List.replicate i true).map V.bl ++ [.bl true]))) D = some (.lst ((List.replicate (i + 1) true).map V.bl)) := by
  refine ⟨fun b o e => ?_, ?_⟩
  · rw [upd_ne (ne_of_none e nD)]
    exact sm _ _ e
  · rw [upd_same, List.replicate_succ', List.map_append]
    rfl
theorem neg_at {x : List Int} {leg : Nat} (h : x.length = 4) (hl : leg < 4) : atI (x.map V.int) ((leg : Int) - 3) = some (.int (x.getD ((leg + 1) % 4) 0)) := by
  obtain ⟨a, b, c, d, rfl⟩ := four_of h
  rcases legs4 hl with rfl | rfl | rfl | rfl <;> rfl
def PairI (H : Hp) (cs : List (Addr × List Int)) (leg : Nat) (D : Addr) (i : Nat) (G : Hp) : Prop :=
  ∃ os : List (Addr × List Int), Same H G ∧ G D = some (.lst (refs os)) ∧ Cells G os ∧ os.map (·.2) = (cs.take i).map fun c => kp leg c.2
theorem PairI.step {leg : Nat} {H G G2 : Hp} {cs : List (Addr × List Int)} {D T : Addr} {i : Nat} {y : List Int} (I : PairI H cs leg D i G) (hi : i < cs.length) (hl : cs.length < 64) (nD : H D = none) (sm2 : Same G G2) (nT : G T = none) (hT : G2 T = some (.tup (y.map V.int))) (ey : y = kp leg cs[i].2) :
    ∃ acc, G2 D = some (.lst acc) ∧ acc.length < sizeLine ∧ PairI H cs leg D (i + 1) (upd G2 D (.lst (acc ++ [.ref T]))) := by
  obtain ⟨os, sm, hD, hos, e⟩ := I
  have lo : os.length = i := by
    have e1 : os.length = (os.map (·.2)).length := (List.length_map _).symm
    rw [e1, e, List.length_map, List.length_take]
    omega
  have hne : T ≠ D := fun z => by rw [z, hD] at nT; cases nT
  refine ⟨refs os, sm2 _ _ hD, ?_, os ++ [(T, y)], ?_, ?_, ?_, ?_⟩
  · rw [List.length_map]
    exact Nat.lt_of_lt_of_le (show os.length < 1000 by omega) (by decide)
  · intro b o eb
    rw [upd_ne (ne_of_none eb nD)]
    exact sm2 _ _ (sm _ _ eb)
  · rw [upd_same]
    show _ = some (HO.lst (List.map _ (os ++ [_])))
    rw [List.map_append]
    rfl
  · intro c hc
    rcases List.mem_append.mp hc with hc | hc
    · have hh := hos c hc
      rw [upd_ne (ne_of hh hD (by intro z; cases z))]
      exact sm2 _ _ hh
    · rw [List.mem_singleton] at hc
      subst hc
      rw [upd_ne hne]
      exact hT
  · rw [List.map_append, e, List.take_add_one, List.getElem?_eq_getElem hi, List.map_append, ey]
    rfl
section
variable {P : Program} {w : World} {K : PySem.W.Frag} {mg : Str → Option Value} {base : Heap}
theorem ok_istable {f fW : Addr} {fd fdW : FuncData} {k : Nat} (F : Fun K "_law_is_table" "_law_is_table" sIsTable f fd) (FW : Fun K "_law_is_whole" "_law_is_whole" sWhole fW fdW) (bW : Binds K fdW ["_law_thing", "_law_below"] []) (gW : mg "_law_is_whole" = some (.ref fW))
    (mi : mg "isinstance" = none) (mint : mg "int" = none) (mbool : mg "bool" = none) (mtuple : mg "tuple" = none) (ml : mg "len" = none) (mall : mg "all" = none) (mlist : mg "list" = none) (ms : mg "sorted" = none) (mset : mg "set" = none) (mr : mg "range" = none) :
    FnOk P w K mg base CX0 (k + 2) f fd ["_law_q", "_law_thing"] (spIsTable K) := by
  have GW : FnOk P w K mg base CX0 (k + 1) fW fdW ["_law_thing", "_law_below"] spWhole := ok_whole FW mi mint mbool
  refine F.ok scIsTable (fun vs H Q E h => ?_) (fun cdv A outer s H vs Q E hr h => ?_)
  · obtain ⟨q, t, cs, rfl, _⟩ := h
    rfl
  · obtain ⟨q, t, cs, rfl, q7, hT, gd, st, k⟩ := h
    have nd := scIsTable.nd
    have lcs : cs.length = q * q := by
      have e : cs.length = (cs.map (·.2)).length := (List.length_map _).symm
      rw [e, gd.len]
    have l64 := hT.ln
    have in4 : ∀ c ∈ cs, c.2.length = 4 := fun c hc => gd.in4 _ (List.mem_map.mpr ⟨c, hc, rfl⟩)
    refine ⟨_, pss_cons (ps_if (PW.pt (pw_or (pt_not (pt_val (pe_callB call_isi (by rfl) mi (by decide +kernel) (pa_cons (pv 1) (pa_cons (pe_bltn (v := .ty "tuple") (by rfl) mtuple (by decide +kernel) rfl) pa_nil))))) (pw_or (pt_cmpR op_ne (pe_callB call_len_seq (by rfl) ml PySem.boot_len (pa_cons (pv 1) pa_nil)) (pe_op op_mul (pv 0) (pv 0)) (nomark _)) (pw_or1 (pt_not (pt_val (pe_callB (cr_all rfl) (by rfl) mall (by decide +kernel) (pa_cons (pe_lc (own := [("_law_quad", 2)]) (g := gName 2) (tt := tYes) (te := teIsT K) rfl nd (pi_tup (pv 1)) (blkOk_by (own := [("_law_quad", 2)]) (N := NI) (sc := defScope sIsTable) (by decide +kernel)) (fun _ _ _ _ _ => pg_name (i := 2) nd rfl (.inl rfl)) (fun _ _ _ _ _ => pts_nil) (fun _ _ _ _ _ => (pe_callB call_isi (by rfl) mi (by decide +kernel) (pa_cons (pv 2) (pa_cons (pe_bltn (v := .ty "tuple") (by rfl) mtuple (by decide +kernel) rfl) pa_nil))))) pa_nil)))))))) (pss_one (ps_ret pe_bl)) pss_nil)
      (pss_cons (ps_for PassesOwn.never rfl (pi_tup (pv 1)) (pg_name (i := 2) nd rfl (.inl rfl)) (pss_one (ps_if (PW.pt (pw_or (pt_cmpR op_ne (pe_callB call_len_seq (by rfl) ml PySem.boot_len (pa_cons (pv 2) pa_nil)) pe_int (nomark _)) (pw_or1 (pt_not (pt_val (pe_callB (cr_all rfl) (by rfl) mall (by decide +kernel) (pa_cons (pe_lc (own := [("_law_part", 4)]) (g := gName 4) (tt := tYes) (te := teWh) rfl nd (pi_tup (pv 2)) (blkOk_by (own := [("_law_part", 4)]) (N := NI) (sc := defScope sIsTable) (by decide +kernel)) (fun _ _ _ _ _ => pg_name (i := 4) nd rfl (.inl rfl)) (fun _ _ _ _ _ => pts_nil) (fun _ _ _ _ _ => (pe_call GW hr (by rfl) gW FW.kp bW .nil pass0 (pa_cons (pv 4) (pa_cons (pv 0) pa_nil))))) pa_nil))))))) (pss_one (ps_ret pe_bl)) pss_nil)))
      (pss_cons (ps_if (pt_cmpR (op_neD hr.units) (pe_callTy call_list_of (by rfl) mlist (by decide +kernel) (pa_cons (pv 1) pa_nil)) (pe_callB (cr_sortedT rfl) (by rfl) ms (by decide +kernel) (pa_cons (pe_callTy (cr_setTup rfl hr.units) (by rfl) mset (by decide +kernel) (pa_cons (pv 1) pa_nil)) pa_nil)) (nomark _)) (pss_one (ps_ret pe_bl)) pss_nil)
      (pss_cons (ps_for PassesOwn.never rfl (pi_range1 (by rfl) mr (pa_cons pe_int pa_nil)) (pg_name (i := 3) nd rfl (.inr rfl)) (pss_one (ps_if (pt_cmpR op_ne (pe_callB cr_lenSetT (by rfl) ml PySem.boot_len (pa_cons (pe_callTy (cr_setOfT rfl hr.units) (by rfl) mset (by decide +kernel) (pa_cons (pe_lc (own := [("_law_quad", 2)]) (g := gName 2) (tt := tYes) (te := tePair K) rfl nd (pi_tup (pv 1)) (blkOk_by (own := [("_law_quad", 2)]) (N := NI) (sc := defScope sIsTable) (by decide +kernel)) (fun _ _ _ _ _ => pg_name (i := 2) nd rfl (.inl rfl)) (fun _ _ _ _ _ => pts_nil) (fun _ _ _ _ _ => (pe_tup (pa_cons (pe_ix ix_tup (pv 2) (pv 3) (fun _ _ => rfl)) (pa_cons (pe_ix ix_tup (pv 2) (pe_op op_sub (pv 3) pe_int) (fun _ _ => rfl)) pa_nil))))) pa_nil)) pa_nil)) (pe_op op_mul (pv 0) (pv 0)) (nomark _)) (pss_one (ps_ret pe_bl)) pss_nil)))
      (pss_one (ps_ret pe_bl))))), ?_⟩
    have qq : ((refs cs).length : Int) = (q : Int) * (q : Int) := by rw [List.length_map, lcs, Int.natCast_mul]
    have bq : (-(2 ^ 64) : Int) < (q : Int) ∧ (q : Int) < 2 ^ 64 := ⟨by omega, by omega⟩
    refine ⟨.ref t, rfl, .ref t, .ty "tuple", _, _, true, rfl, .ty "tuple", tyT hT.at_, kit_ty (by decide +kernel), true, rfl, iteF ?_⟩
    refine ⟨.ref t, rfl, t, _, rfl, .inr hT.at_, .int (q : Int), rfl, .int (q : Int), rfl, _, _, rfl, rfl, .inl bq, rfl, _, rfl, iteNS (congrArg V.int qq) ?_⟩
    refine ⟨.ref t, rfl, t, rfl, ⟨_, hT.at_⟩, fun D nD => ?_⟩
    refine lc_tup (xs := refs cs) (fun i G => Same H G ∧ G D = some (.lst ((List.replicate i true).map V.bl))) ⟨same_upd nD, upd_same⟩ (fun i G _ h => sameT h.1 hT.at_) ?_ ?_
    · rintro i x G hx ⟨sm, hD⟩
      obtain ⟨hi, rfl⟩ := ref_at hx
      refine ⟨rfl, .ref cs[i].1, rfl, .ref cs[i].1, .ty "tuple", _, _, true, rfl, .ty "tuple", tyT (sameT sm (hT.ce _ (List.getElem_mem hi))), kit_ty (by decide +kernel), _, hD, ?_, all_step sm nD⟩
      rw [List.length_map, List.length_replicate]
      exact Nat.lt_of_lt_of_le (show i < 1000 by omega) (by decide)
    rintro G1 ⟨sm1, hD1⟩
    refine ⟨D, List.replicate (refs cs).length true, rfl, .inl (.inl hD1), _, rfl, ?_⟩
    rw [all_rep]
    refine iteF ?_
    -- the quads
    refine ⟨.ref t, rfl, t, rfl, ⟨_, sameT sm1 hT.at_⟩, ?_⟩
    refine for_tup (xs := refs cs) (fun i σ G => Same H G ∧ ∃ y2 y3 y4, σ = [some (.int (q : Int)), some (.ref t), y2, y3, y4]) ⟨sm1, _, _, _, rfl⟩ (fun i σ G _ h => sameT h.1 hT.at_) ?_ ?_
    · rintro i x σ G hx ⟨sm, y2, y3, y4, rfl⟩
      obtain ⟨hi, rfl⟩ := ref_at hx
      have hc := sameT sm (hT.ce _ (List.getElem_mem hi))
      have l4 := in4 cs[i] (List.getElem_mem hi)
      have e4 : (((cs[i].2.map V.int).length : Nat) : Int) = 4 := by rw [List.length_map, l4]; rfl
      refine ⟨.ref cs[i].1, rfl, cs[i].1, _, rfl, .inr hc, rfl, _, rfl, iteNS (congrArg V.int e4) ?_⟩
      refine ⟨.ref cs[i].1, rfl, cs[i].1, rfl, ⟨_, hc⟩, fun D2 nD2 => ?_⟩
      refine lc_tup (xs := cs[i].2.map V.int) (fun m G2 => Same G G2 ∧ G2 D2 = some (.lst ((List.replicate m true).map V.bl))) ⟨same_upd nD2, upd_same⟩ (fun m G2 _ h => sameT h.1 hc) ?_ ?_
      · rintro m x G2 hx ⟨s2, hD2⟩
        have hm : m < cs[i].2.length := by
          have := (List.getElem?_eq_some_iff.mp hx).1
          rw [List.length_map] at this
          exact this
        have ex : x = .int cs[i].2[m] := by
          rw [List.getElem?_map, List.getElem?_eq_getElem hm] at hx
          exact (Option.some.inj hx).symm
        subst ex
        have bd := gd.inq cs[i].2 (List.mem_map.mpr ⟨_, List.getElem_mem hi, rfl⟩) cs[i].2[m] (List.getElem_mem hm)
        refine ⟨rfl, .int cs[i].2[m], rfl, .int (q : Int), rfl, _, _, rfl, bd.1, bd.2, _, hD2, ?_, all_step s2 nD2⟩
        rw [List.length_map, List.length_replicate]
        exact Nat.lt_of_lt_of_le (show m < 1000 by omega) (by decide)
      · rintro G2 ⟨s2, hD2⟩
        refine ⟨D2, List.replicate (cs[i].2.map V.int).length true, rfl, .inl (.inl hD2), _, rfl, ?_⟩
        rw [all_rep]
        exact iteF ⟨sm.trans s2, _, _, _, rfl⟩
    rintro σ G2 ⟨sm2, y2, y3, y4, rfl⟩
    have at2 := sameT sm2 hT.at_
    have ce2 : ∀ c ∈ cs, SqT K G2 c.1 (c.2.map V.int) := fun c hc => sameT sm2 (hT.ce c hc)
    -- list(thing) != sorted(set(thing))
    refine ⟨.ref t, rfl, t, _, rfl, .inr at2, fun l nl => ?_⟩
    have sl : Same G2 (upd G2 l (.lst (refs cs))) := same_upd nl
    refine ⟨.ref t, rfl, t, cs, rfl, sameT sl at2, fun c hc => sameT sl (ce2 c hc), l64, fun a L na sub all => ?_⟩
    have sa : Same (upd G2 l (.lst (refs cs))) (upd (upd G2 l (.lst (refs cs))) a (SetTO P w a L)) := same_upd na
    refine ⟨a, L, 4, 7, rfl, upd_same, fun c hc => sameT (sl.trans sa) (ce2 c (sub c hc)), by decide, fun c hc => ⟨in4 c (sub c hc), fun v hv => hT.rg.lt _ (List.mem_map.mpr ⟨c, sub c hc, rfl⟩) v hv⟩, fun L' r pm nd' _ pw nr => ?_⟩
    have sr := same_upd (o := .lst (L'.map fun q => V.ref q.1)) nr
    have sall := sl.trans (sa.trans sr)
    have eL : L'.map (·.2) = cs.map (·.2) := by
      refine srt_uniq ((List.perm_ext_iff_of_nodup nd' gd.nodup).mpr fun x => ⟨fun hx => ?_, fun hx => ?_⟩) (by show (L'.map (·.2)).Pairwise _; rw [List.pairwise_map]; exact pw) st hT.rg
      · obtain ⟨c, hc, rfl⟩ := List.mem_map.mp hx
        exact List.mem_map.mpr ⟨c, sub c (pm.mem_iff.mp hc), rfl⟩
      · obtain ⟨c, hc, rfl⟩ := List.mem_map.mp hx
        exact ((pm.map (·.2)).mem_iff).mpr (all c hc)
    have fn : Fine (.list ((cs.map (·.2)).map dT)) := (plain_quads _ hT.rg).lst.fine (by decide) (by rw [List.length_map]; omega)
    have d1 : Dp K _ (.ref l) (.list ((cs.map (·.2)).map dT)) := .lst (.inl (.inl (sr _ _ (sa _ _ upd_same)))) (dpCells cs fun c hc => sameT sall (ce2 c hc))
    have d2 : Dp K _ (.ref r) (.list ((L'.map (·.2)).map dT)) := .lst (.inl (.inl upd_same)) (dpCells L' fun c hc => sameT sall (ce2 c (sub c (pm.mem_iff.mp hc))))
    rw [eL] at d2
    refine ⟨_, _, d1, d2, fn.sp, fn.sp, _, rfl, ?_⟩
    have ev : PyData.eqv (.list ((cs.map (·.2)).map dT)) (.list ((cs.map (·.2)).map dT)) = true := by
      simp only [PyData.eqv]
      rw [eqv_quads, decide_eq_true rfl]
    rw [ev]
    refine iteF ?_
    -- the pairs
    have sm3 : Same H _ := sm2.trans sall
    refine ⟨4, rfl, by decide, by decide, ?_⟩
    refine for_range (lo := 0) (n := 4) (fun leg σ G => Same H G ∧ ∃ y2 y3 y4, σ = [some (.int (q : Int)), some (.ref t), y2, y3, y4]) ⟨sm3, _, _, _, rfl⟩ ?_ ?_
    · rintro leg σ G hleg ⟨sm, y2, y3, y4, rfl⟩
      rw [Int.zero_add]
      have atG := sameT sm hT.at_
      refine ⟨.ref t, rfl, t, rfl, ⟨_, atG⟩, fun D3 nD3 => ?_⟩
      refine lc_tup (xs := refs cs) (PairI G cs leg D3) ⟨[], same_upd nD3, upd_same, fun c hc => (by cases hc), rfl⟩ (fun i G' _ h => by obtain ⟨os, s', _⟩ := h; exact sameT s' atG) ?_ ?_
      · rintro i x G' hx I
        obtain ⟨hi, rfl⟩ := ref_at hx
        obtain ⟨os, s', _⟩ := id I
        have hc := sameT (sm.trans s') (hT.ce _ (List.getElem_mem hi))
        have l4 := in4 cs[i] (List.getElem_mem hi)
        refine ⟨rfl, .ref cs[i].1, rfl, .int (leg : Int), rfl, cs[i].1, _, _, _, rfl, rfl, hc, atI_nat (get4 l4 hleg), .ref cs[i].1, rfl, .int (leg : Int), rfl, _, 3, rfl, rfl, cs[i].1, _, _, _, rfl, rfl, hc, neg_at l4 hleg, by show 2 ≤ sizeLine; decide, fun T nT => ?_⟩
        exact I.step hi l64 nD3 (same_upd nT) nT upd_same rfl
      · rintro G' ⟨os, s', hD3, hos, e⟩
        have lo : os.length = q * q := by
          have e1 : os.length = (os.map (·.2)).length := (List.length_map _).symm
          rw [e1, e, List.take_of_length_le (by rw [List.length_map]; exact Nat.le_refl _), List.length_map, lcs]
        refine ⟨D3, os, rfl, .inl (.inl hD3), fun c hc => .inl (.inl (hos c hc)), by omega, fun a L na sub all => ?_⟩
        refine ⟨a, L, rfl, upd_same, fun ndL _ => ?_⟩
        have nos : (os.map (·.2)).Nodup := by
          rw [e, List.take_of_length_le (by rw [List.length_map]; exact Nat.le_refl _)]
          have := gd.kp_nodup hleg
          rw [List.map_map] at this
          exact this
        have eLn : L.length = q * q := by
          have pm : (L.map (·.2)).Perm (os.map (·.2)) := (List.perm_ext_iff_of_nodup ndL nos).mpr fun x => ⟨fun hx => ?_, fun hx => ?_⟩
          · have := pm.length_eq
            rw [List.length_map, List.length_map] at this
            omega
          · obtain ⟨c, hc, rfl⟩ := List.mem_map.mp hx
            exact List.mem_map.mpr ⟨c, sub c hc, rfl⟩
          · obtain ⟨c, hc, rfl⟩ := List.mem_map.mp hx
            exact all c hc
        have eI : ((L.length : Nat) : Int) = (q : Int) * (q : Int) := by rw [eLn, Int.natCast_mul]
        refine ⟨.int (q : Int), rfl, .int (q : Int), rfl, _, _, rfl, rfl, .inl bq, rfl, _, rfl, iteNS (congrArg V.int eI) ?_⟩
        exact ⟨sm.trans (s'.trans (same_upd na)), _, _, _, rfl⟩
    · rintro σ G ⟨sm, y2, y3, y4, rfl⟩
      exact k G sm
end
end C2

namespace C2
set_option Elab.async false
set_option linter.all false
set_option maxRecDepth 100000
set_option maxHeartbeats 4000000
open PySem PySem.Spec PyProof.Rows L2
/-! ### the mathematics of pushed and lifted tables -/
abbrev bqs (q : Nat) (f : Nat → Nat → Nat × Nat) : List (List Int) := (prs q).map fun x => bq f x.1 x.2
theorem getD_rg {q i : Nat} (h : i < q) : (rg q).getD i 0 = (i : Int) := by
  unfold rg
  rw [List.getD_eq_getElem?_getD, List.getElem?_map, List.getElem?_range h]
  rfl
theorem good_bqs {q : Nat} {f : Nat → Nat → Nat × Nat} (L : Latin q f) : Good q (bqs q f) := by
  have r : IsP q (rg q) := List.Perm.refl _
  have g := good_of L r r r r
  have e : ((prs q).map fun x => ren [rg q, rg q, rg q, rg q] (bq f x.1 x.2)) = bqs q f := List.map_congr_left fun x hx => by
    obtain ⟨l, w⟩ := x
    obtain ⟨hl, hw⟩ := prs_mem.mp hx
    show ren _ (bq f l w) = bq f l w
    rw [ren_bq]
    unfold four bq
    rw [getD_rg hl, getD_rg hw, getD_rg (L.lt1 l w hl hw), getD_rg (L.lt2 l w hl hw)]
  rw [e] at g
  exact g
theorem prs_lex (q : Nat) : (prs q).Pairwise fun a b => a.1 < b.1 ∨ (a.1 = b.1 ∧ a.2 < b.2) := by
  unfold prs
  rw [List.pairwise_flatMap]
  constructor
  · intro a _
    rw [List.pairwise_map]
    exact List.Pairwise.imp (fun h => .inr ⟨rfl, h⟩) List.pairwise_lt_range
  · refine List.Pairwise.imp (fun {a b} h => ?_) List.pairwise_lt_range
    intro x hx y hy
    obtain ⟨_, _, rfl⟩ := List.mem_map.mp hx
    obtain ⟨_, _, rfl⟩ := List.mem_map.mp hy
    exact .inl h
theorem srt_bqs {q : Nat} {f : Nat → Nat → Nat × Nat} (h7 : q ≤ 7) (l1 : ∀ l w, l < q → w < q → (f l w).1 < q) (l2 : ∀ l w, l < q → w < q → (f l w).2 < q) : Srt (bqs q f) := by
  unfold Srt bqs
  rw [List.pairwise_map]
  refine List.Pairwise.imp_of_mem (fun {a b} ha hb h => ?_) (prs_lex q)
  obtain ⟨al, aw⟩ := a
  obtain ⟨bl, bw⟩ := b
  obtain ⟨x1, x2⟩ := prs_mem.mp ha
  obtain ⟨y1, y2⟩ := prs_mem.mp hb
  have u1 := l1 al aw x1 x2
  have u2 := l2 al aw x1 x2
  have v1 := l1 bl bw y1 y2
  have v2 := l2 bl bw y1 y2
  show TS.code 7 (bq f al aw) ≤ TS.code 7 (bq f bl bw)
  unfold bq
  rw [code7, code7]
  simp only at h
  omega
theorem prs_swap (q : Nat) : (prs q).Perm ((prs q).map fun x => (x.2, x.1)) := by
  have nd : ((prs q).map fun x => (x.2, x.1)).Nodup := List.Pairwise.map _ (fun x y h e => h (by
    obtain ⟨a, b⟩ := x
    obtain ⟨c, d⟩ := y
    obtain ⟨e1, e2⟩ := Prod.mk.inj e
    simp only at e1 e2
    rw [e1, e2])) (prs_nodup q)
  refine (List.perm_ext_iff_of_nodup (prs_nodup q) nd).mpr fun x => ?_
  obtain ⟨l, w⟩ := x
  rw [List.mem_map]
  constructor
  · intro h
    obtain ⟨h1, h2⟩ := prs_mem.mp h
    exact ⟨(w, l), prs_mem.mpr ⟨h2, h1⟩, rfl⟩
  · rintro ⟨⟨a, b⟩, h, e⟩
    obtain ⟨h1, h2⟩ := prs_mem.mp h
    obtain ⟨rfl, rfl⟩ := Prod.mk.inj e
    exact prs_mem.mpr ⟨h2, h1⟩
abbrev fPush (ts : List (List Int)) (q : Nat) := fway 0 ts 1 0 q
abbrev fLift (ts : List (List Int)) (q : Nat) := fway 1 ts 1 0 q
/-- pushed turned is lifted -/
theorem push_turn (ts : List (List Int)) (q : Nat) : (bqs q (fLift ts q)).Perm ((bqs q (fPush ts q)).map (sel pT)) := by
  have e : (bqs q (fPush ts q)).map (sel pT) = ((prs q).map fun x => (x.2, x.1)).map fun x => bq (fLift ts q) x.1 x.2 := by
    unfold bqs
    rw [List.map_map, List.map_map]
    refine List.map_congr_left fun x _ => ?_
    rfl
  rw [e]
  exact (prs_swap q).map _
/-- d turns back what c turns -/
structure InvOf (q : Nat) (c d : List Int) : Prop where
  len : d.length = q
  inv : ∀ i, i < q → ∃ j, j < q ∧ d.getD i 0 = ((j : Nat) : Int) ∧ c.getD j 0 = ((i : Nat) : Int)
theorem getD_getElem {d : List Int} {i : Nat} (h : i < d.length) : d.getD i 0 = d[i] := by
  rw [List.getD_eq_getElem?_getD, List.getElem?_eq_getElem h]
  rfl
theorem InvOf.isP {q : Nat} {c d : List Int} (h : InvOf q c d) (hc : IsP q c) : IsP q d := by
  have nd : d.Nodup := by
    show d.Pairwise (· ≠ ·)
    rw [List.pairwise_iff_getElem]
    intro i j hi hj hij e
    have l := h.len
    obtain ⟨a, a1, a2, a3⟩ := h.inv i (by omega)
    obtain ⟨b, b1, b2, b3⟩ := h.inv j (by omega)
    rw [getD_getElem hi] at a2
    rw [getD_getElem hj] at b2
    have ab : a = b := by
      have : (a : Int) = (b : Int) := by rw [← a2, ← b2, e]
      omega
    subst ab
    rw [a3] at b3
    omega
  refine (List.perm_ext_iff_of_nodup nd (rg_nodup q)).mpr fun v => ?_
  rw [rg_mem]
  constructor
  · intro hv
    obtain ⟨i, hi, rfl⟩ := List.mem_iff_getElem.mp hv
    obtain ⟨a, a1, a2, a3⟩ := h.inv i (by have := h.len; omega)
    rw [getD_getElem hi] at a2
    omega
  · rintro ⟨h0, h1⟩
    have r := hc.get (i := v.toNat) (by omega)
    obtain ⟨j, j1, j2, j3⟩ := h.inv (c.getD v.toNat 0).toNat (by omega)
    have e : c.getD j 0 = c.getD v.toNat 0 := by rw [j3]; omega
    have ej := hc.inj j1 (by omega) e
    have hl : (c.getD v.toNat 0).toNat < d.length := by have := h.len; omega
    rw [getD_getElem hl, ej] at j2
    have : v = d[(c.getD v.toNat 0).toNat] := by rw [j2]; omega
    rw [this]
    exact List.getElem_mem hl
/-- lifted turned is pushed by the turns back -/
theorem lift_turn {ts us : List (List Int)} {q : Nat} (ht : ts.length = q ∧ ∀ c ∈ ts, IsP q c) (hu : us.length = q) (hi : ∀ l, l < q → InvOf q (ts.getD l []) (us.getD l [])) : (bqs q (fPush us q)).Perm ((bqs q (fLift ts q)).map (sel pT)) := by
  have getT : ∀ i, i < q → IsP q (ts.getD i []) := fun i hi => by
    have hi' : i < ts.length := by omega
    rw [List.getD_eq_getElem?_getD, List.getElem?_eq_getElem hi']
    exact ht.2 _ (List.getElem_mem hi')
  have key : ∀ l w, l < q → w < q → sel pT (bq (fLift ts q) l w) = bq (fPush us q) ((ts.getD l []).getD w 0).toNat l := by
    intro l w hl hw
    have r := (getT l hl).get hw
    obtain ⟨j, j1, j2, j3⟩ := (hi l hl).inv ((ts.getD l []).getD w 0).toNat (by omega)
    have e : (ts.getD l []).getD j 0 = (ts.getD l []).getD w 0 := by rw [j3]; omega
    have ej := (getT l hl).inj j1 hw e
    show [(((ts.getD l []).getD w 0).toNat : Int), (l : Int), (w : Int), (l : Int)] = [((((ts.getD l []).getD w 0).toNat : Nat) : Int), (l : Int), ((((us.getD l []).getD ((ts.getD l []).getD w 0).toNat 0).toNat : Nat) : Int), (l : Int)]
    rw [j2, ej]
    rfl
  have e : (bqs q (fLift ts q)).map (sel pT) = ((prs q).map fun x => (((ts.getD x.1 []).getD x.2 0).toNat, x.1)).map fun x => bq (fPush us q) x.1 x.2 := by
    unfold bqs
    rw [List.map_map, List.map_map]
    refine List.map_congr_left fun x hx => ?_
    obtain ⟨l, w⟩ := x
    obtain ⟨h1, h2⟩ := prs_mem.mp hx
    exact key l w h1 h2
  rw [e]
  refine List.Perm.map _ ?_
  have nd : ((prs q).map fun x => (((ts.getD x.1 []).getD x.2 0).toNat, x.1)).Nodup := by
    show List.Pairwise _ _
    rw [List.pairwise_map]
    refine List.Pairwise.imp_of_mem (fun {x y} hx hy h ee => ?_) (prs_nodup q)
    obtain ⟨a, b⟩ := x
    obtain ⟨c, d⟩ := y
    obtain ⟨h1, h2⟩ := prs_mem.mp hx
    obtain ⟨h3, h4⟩ := prs_mem.mp hy
    obtain ⟨e1, e2⟩ := Prod.mk.inj ee
    simp only at e1 e2
    subst e2
    have r1 := (getT a h1).get h2
    have r2 := (getT a h1).get h4
    have := (getT a h1).inj h2 h4 (by omega)
    exact h (by rw [this])
  refine (List.perm_ext_iff_of_nodup (prs_nodup q) nd).mpr fun x => ?_
  obtain ⟨u, l⟩ := x
  rw [List.mem_map]
  constructor
  · intro h
    obtain ⟨h1, h2⟩ := prs_mem.mp h
    obtain ⟨w, hw, ew⟩ := (getT l h2).sur (v := (u : Int)) (by omega) (by omega)
    refine ⟨(l, w), prs_mem.mpr ⟨h2, hw⟩, ?_⟩
    show (((ts.getD l []).getD w 0).toNat, l) = (u, l)
    rw [ew]
    rfl
  · rintro ⟨⟨a, b⟩, h, ee⟩
    obtain ⟨h1, h2⟩ := prs_mem.mp h
    obtain ⟨rfl, rfl⟩ := Prod.mk.inj ee
    have r1 := (getT a h1).get h2
    exact prs_mem.mpr ⟨show ((ts.getD a []).getD b 0).toNat < q by omega, h1⟩
end C2

namespace C2
set_option Elab.async false
set_option linter.all false
set_option maxRecDepth 100000
set_option maxHeartbeats 4000000
open PySem PySem.Spec PyProof.Rows L2
section
variable {P : Program} {w : World} {K : PySem.W.Frag} {mg : Str → Option Value} {base : Heap}
/-- the quads of the first rows, and of the next one as far as it goes -/
def GrowI (q : Nat) (f : Nat → Nat → Nat × Nat) (H : Hp) (D : Addr) (i j : Nat) (G : Hp) : Prop :=
  ∃ cs : List (Addr × List Int), Same H G ∧ G D = some (.lst (refs cs)) ∧ Cells G cs ∧ cs.map (·.2) = pre f q i j
theorem GrowI.step {q i j : Nat} {f : Nat → Nat → Nat × Nat} {H G G2 : Hp} {D T : Addr} (I : GrowI q f H D i j G) (h7 : q ≤ 7) (hi : i < q) (hj : j < q) (nD : H D = none) (sm2 : Same G G2) (nT : G T = none) (hT : G2 T = some (.tup ((bq f i j).map V.int))) :
    ∃ acc, G2 D = some (.lst acc) ∧ acc.length < sizeLine ∧ GrowI q f H D i (j + 1) (upd G2 D (.lst (acc ++ [.ref T]))) := by
  obtain ⟨cs, sm, hD, hcs, e⟩ := I
  have lo : cs.length < 1000 := by
    have e1 : cs.length = (cs.map (·.2)).length := (List.length_map _).symm
    rw [e1, e, pre_len]
    have : i * q ≤ 7 * 7 := Nat.mul_le_mul (by omega) h7
    omega
  have hne : T ≠ D := fun z => by rw [z, hD] at nT; cases nT
  refine ⟨refs cs, sm2 _ _ hD, ?_, cs ++ [(T, bq f i j)], ?_, ?_, ?_, ?_⟩
  · rw [List.length_map]
    exact Nat.lt_of_lt_of_le lo (by decide)
  · intro b o eb
    rw [upd_ne (ne_of_none eb nD)]
    exact sm2 _ _ (sm _ _ eb)
  · rw [upd_same]
    show _ = some (HO.lst (List.map _ (cs ++ [_])))
    rw [List.map_append]
    rfl
  · intro c hc
    rcases List.mem_append.mp hc with hc | hc
    · have hh := hcs c hc
      rw [upd_ne (ne_of hh hD (by intro z; cases z))]
      exact sm2 _ _ hh
    · rw [List.mem_singleton] at hc
      subst hc
      rw [upd_ne hne]
      exact hT
  · rw [List.map_append, e, pre_step]
    rfl
theorem lc2_quads {q i1 i2 : Nat} {f : Nat → Nat → Nat × Nat} {σ : L2.St} {ta ta1 : TA} {te : TE} {H1 : Hp} {Qv : VK} (h7 : q ≤ 7) (hta : ∀ R : List V → Hp → Prop, R [.int (q : Int)] H1 → ta σ H1 R)
    (hta1 : ∀ (l : Nat) (G : Hp) (R : List V → Hp → Prop), R [.int (q : Int)] G → ta1 ((wipe σ [i1, i2]).set i1 (some (.int (l : Int)))) G R)
    (w1 : ∀ l : Nat, wipe ((wipe σ [i1, i2]).set i1 (some (.int (l : Int)))) [i1, i2] = wipe σ [i1, i2])
    (w2 : ∀ l w : Nat, wipe ((wipe ((wipe σ [i1, i2]).set i1 (some (.int (l : Int)))) [i2]).set i2 (some (.int (w : Int)))) [i2] = wipe ((wipe σ [i1, i2]).set i1 (some (.int (l : Int)))) [i2])
    (step : ∀ (l w : Nat) (G : Hp) (R : VK), l < q → w < q → Same H1 G → (∀ T, G T = none → R (.ref T) (upd G T (.tup ((bq f l w).map V.int)))) →
      te ((wipe ((wipe σ [i1, i2]).set i1 (some (.int (l : Int)))) [i2]).set i2 (some (.int (w : Int)))) G R)
    (k : ∀ D cs G, Same H1 G → H1 D = none → G D = some (.lst (refs cs)) → Cells G cs → cs.map (·.2) = bqs q f → Qv (.ref D) G) :
    tLc2 (iRng1 ta) (gName i1) tYes (iRng1 ta1) (gName i2) tYes te [i1, i2] [i2] σ H1 Qv := by
  refine hta _ ⟨(q : Int), rfl, by omega, by omega, fun D nD => ?_⟩
  refine ⟨fun i m G => m = q - i ∧ i ≤ q ∧ GrowI q f H1 D i 0 G, ⟨q, by omega, Nat.zero_le _, [], same_upd nD, upd_same, fun c hc => (by cases hc), rfl⟩, ?_⟩
  rintro i m G ⟨rfl, hi, I⟩
  by_cases lt : i < q
  · refine .inr ⟨lt, GrowI q f H1 D (i + 1) 0, fun G' h => ⟨q - (i + 1), by omega, rfl, lt, h⟩, fun x G' hx => ?_⟩
    obtain ⟨rfl, rfl⟩ := hx
    rw [Int.zero_add]
    refine ⟨w1 i, ?_⟩
    simp only [tYes, ↓reduceIte]
    refine hta1 i _ _ ⟨(q : Int), rfl, by omega, by omega, ?_⟩
    refine ⟨fun j m G => m = q - j ∧ j ≤ q ∧ GrowI q f H1 D i j G, ⟨q, by omega, Nat.zero_le _, I⟩, ?_⟩
    rintro j m G2 ⟨rfl, hj, J⟩
    by_cases lj : j < q
    · refine .inr ⟨lj, GrowI q f H1 D i (j + 1), fun G' h => ⟨q - (j + 1), by omega, rfl, lj, h⟩, fun x G' hx => ?_⟩
      obtain ⟨rfl, rfl⟩ := hx
      rw [Int.zero_add]
      refine ⟨w2 i j, ?_⟩
      obtain ⟨cs, sm, _⟩ := id J
      exact step i j _ _ lt lj sm fun T nT => J.step h7 lt lj nD (same_upd nT) nT upd_same
    · have e : j = q := by omega
      subst e
      obtain ⟨cs, a1, a2, a3, a4⟩ := J
      exact .inl ⟨Nat.le_refl _, cs, a1, a2, a3, by rw [a4, pre_row]⟩
  · have e : i = q := by omega
    subst e
    obtain ⟨cs, a1, a2, a3, a4⟩ := I
    exact .inl ⟨Nat.le_refl _, k D cs G a1 nD a2 a3 (by rw [a4, pre_all])⟩
/-! ### through, pushed, lifted -/
abbrev NTh : List Str := ["q", "l", "w"]
abbrev NPu : List Str := ["q", "turns", "l", "w"]
theorem scThrough : FnScope NTh ["q"] (defScope sThrough) := ⟨rfl, rfl, rfl, by decide +kernel, rfl, by decide +kernel, by decide +kernel⟩
theorem scPushed : FnScope NPu ["q", "turns"] (defScope sPushed) := ⟨rfl, rfl, rfl, by decide +kernel, rfl, by decide +kernel, by decide +kernel⟩
theorem scLifted : FnScope NPu ["q", "turns"] (defScope sLifted) := ⟨rfl, rfl, rfl, by decide +kernel, rfl, by decide +kernel, by decide +kernel⟩
structure TurnsAt (K : PySem.W.Frag) (q : Nat) (G : Hp) (t : Addr) (tl : List (Addr × List Int)) : Prop where
  at_ : SqT K G t (refs tl)
  ce : ∀ c ∈ tl, SqT K G c.1 (c.2.map V.int) ∧ IsP q c.2
  ln : tl.length = q
theorem TurnsAt.same {q : Nat} {G G' : Hp} {t : Addr} {tl : List (Addr × List Int)} (h : TurnsAt K q G t tl) (s : Same G G') : TurnsAt K q G' t tl := ⟨sameT s h.at_, fun c hc => ⟨sameT s (h.ce c hc).1, (h.ce c hc).2⟩, h.ln⟩
abbrev thr : Nat → Nat → Nat × Nat := fun l w => (l, w)
def spMade (f : Nat → Nat → Nat × Nat) (q : Nat) (H : Hp) (Q : VK) : Prop := ∀ H' t cs, Same H H' → H' t = some (.tup (refs cs)) → Cells H' cs → cs.map (·.2) = bqs q f → Q (.ref t) H'
def spThrough : Sp := fun vs H Q _ => ∃ q : Nat, vs = [.int (q : Int)] ∧ q ≤ 7 ∧ spMade thr q H Q
def spPush (K : PySem.W.Frag) (way : Int) : Sp := fun vs H Q _ => ∃ (q : Nat) (t : Addr) (tl : List (Addr × List Int)), vs = [.int (q : Int), .ref t] ∧ q ≤ 7 ∧ TurnsAt K q H t tl ∧ spMade (fway way (tl.map (·.2)) 1 0 q) q H Q
theorem ok_through {f : Addr} {fd : FuncData} {k : Nat} (F : Fun K "through" "through" sThrough f fd) (mt : mg "tuple" = none) (mr : mg "range" = none) : FnOk P w K mg base CX0 (k + 1) f fd ["q"] spThrough := by
  refine F.ok scThrough (fun vs H Q E h => ?_) (fun cdv A outer s H vs Q E hr h => ?_)
  · obtain ⟨q, rfl, _⟩ := h
    rfl
  · obtain ⟨q, rfl, h7, k⟩ := h
    have nd := scThrough.nd
    refine ⟨_, pss_one (ps_ret (pe_callTy call_tuple_of (by rfl) mt (by decide +kernel) (pa_cons
      (pe_lc2 (own := [("l", 1), ("w", 2)]) (vs1 := [2]) (g := gName 1) (tt := tYes) (g1 := gName 2) (tt1 := tYes) (wi1 := iRng1 (tCons (tVar 0) tNil)) (te := tTup (tCons (tVar 1) (tCons (tVar 2) (tCons (tVar 1) (tCons (tVar 2) tNil))))) rfl nd (pi_range1 (by rfl) mr (pa_cons (pv 0) pa_nil))
        (blkOk_by (own := [("l", 1), ("w", 2)]) (N := NTh) (sc := defScope sThrough) (by decide +kernel)) (by decide) (fun _ _ _ _ _ => pg_name (i := 1) nd rfl (.inl rfl)) (fun _ _ _ _ _ => pts_nil)
        (fun _ _ _ _ _ => pi_range1 (by rfl) mr (pa_cons (pv 0) pa_nil)) (fun _ _ _ _ _ => pg_name (i := 2) nd rfl (.inl rfl)) (fun _ _ _ _ _ => pts_nil)
        (fun _ _ _ _ _ => pe_tup (pa_cons (pv 1) (pa_cons (pv 2) (pa_cons (pv 1) (pa_cons (pv 2) pa_nil)))))) pa_nil))), ?_⟩
    unfold tRet tCB tCons
    refine lc2_quads (q := q) (f := thr) h7 (fun R h => ⟨.int (q : Int), rfl, h⟩) (fun l G R h => ⟨.int (q : Int), rfl, h⟩) (fun l => rfl) (fun l w => rfl) (fun l w G R hl hw sm h => ?_) fun D cs G sm nD hD hcs e => ?_
    · exact ⟨.int (l : Int), rfl, .int (w : Int), rfl, .int (l : Int), rfl, .int (w : Int), rfl, by show 4 ≤ sizeLine; decide, fun T nT => h T nT⟩
    · refine ⟨D, _, rfl, .inl ⟨.inl (.inl hD), fun t nt => ?_⟩⟩
      exact k _ t cs (sm.trans (same_upd nt)) upd_same (hcs.same (same_upd nt)) e
theorem getc {q m : Nat} {G : Hp} {t : Addr} {tl : List (Addr × List Int)} (h : TurnsAt K q G t tl) (hm : m < q) : ∃ c : Addr × List Int, (refs tl)[m]? = some (.ref c.1) ∧ (tl.map (fun c : Addr × List Int => c.2)).getD m [] = c.2 ∧ SqT K G c.1 (c.2.map V.int) ∧ IsP q c.2 := by
  have hm' : m < tl.length := by have := h.ln; omega
  obtain ⟨b1, b2⟩ := h.ce tl[m] (List.getElem_mem hm')
  refine ⟨tl[m], ?_, ?_, b1, b2⟩
  · rw [List.getElem?_map, List.getElem?_eq_getElem hm']
    rfl
  · rw [List.getD_eq_getElem?_getD, List.getElem?_map, List.getElem?_eq_getElem hm']
    rfl
theorem geti {q : Nat} {c : List Int} {m : Nat} (hc : IsP q c) (hm : m < q) : (c.map V.int)[m]? = some (.int (c.getD m 0)) := by
  rw [List.getElem?_map, hc.at hm]
  rfl
theorem ok_pushed {f : Addr} {fd : FuncData} {k : Nat} (F : Fun K "pushed" "pushed" sPushed f fd) (mt : mg "tuple" = none) (mr : mg "range" = none) : FnOk P w K mg base CX0 (k + 1) f fd ["q", "turns"] (spPush K 0) := by
  refine F.ok scPushed (fun vs H Q E h => ?_) (fun cdv A outer s H vs Q E hr h => ?_)
  · obtain ⟨q, t, tl, rfl, _⟩ := h
    rfl
  · obtain ⟨q, t, tl, rfl, h7, hT, k⟩ := h
    have nd := scPushed.nd
    refine ⟨_, pss_one (ps_ret (pe_callTy call_tuple_of (by rfl) mt (by decide +kernel) (pa_cons
      (pe_lc2 (own := [("l", 2), ("w", 3)]) (vs1 := [3]) (g := gName 2) (tt := tYes) (g1 := gName 3) (tt1 := tYes) (wi1 := iRng1 (tCons (tVar 0) tNil)) (te := tTup (tCons (tVar 2) (tCons (tVar 3) (tCons (tOp (rIxT K) (tOp (rIxT K) (tVar 1) (tVar 3)) (tVar 2)) (tCons (tVar 3) tNil))))) rfl nd (pi_range1 (by rfl) mr (pa_cons (pv 0) pa_nil))
        (blkOk_by (own := [("l", 2), ("w", 3)]) (N := NPu) (sc := defScope sPushed) (by decide +kernel)) (by decide) (fun _ _ _ _ _ => pg_name (i := 2) nd rfl (.inl rfl)) (fun _ _ _ _ _ => pts_nil)
        (fun _ _ _ _ _ => pi_range1 (by rfl) mr (pa_cons (pv 0) pa_nil)) (fun _ _ _ _ _ => pg_name (i := 3) nd rfl (.inl rfl)) (fun _ _ _ _ _ => pts_nil)
        (fun _ _ _ _ _ => pe_tup (pa_cons (pv 2) (pa_cons (pv 3) (pa_cons (pe_ix ix_tup (pe_ix ix_tup (pv 1) (pv 3) (fun _ _ => rfl)) (pv 2) (fun _ _ => rfl)) (pa_cons (pv 3) pa_nil)))))) pa_nil))), ?_⟩
    unfold tRet tCB tCons
    refine lc2_quads (q := q) (f := fway 0 (tl.map (·.2)) 1 0 q) h7 (fun R h => ⟨.int (q : Int), rfl, h⟩) (fun l G R h => ⟨.int (q : Int), rfl, h⟩) (fun l => rfl) (fun l w => rfl) (fun l w G R hl hw sm h => ?_) fun D cs G sm nD hD hcs e => ?_
    · have hTG := hT.same sm
      obtain ⟨c, c1, c2, c3, c4⟩ := getc hTG hw
      refine ⟨.int (l : Int), rfl, .int (w : Int), rfl, .ref t, rfl, .int (w : Int), rfl, t, _, _, .ref c.1, rfl, rfl, hTG.at_, atI_nat c1, .int (l : Int), rfl, c.1, _, _, _, rfl, rfl, c3, atI_nat (geti c4 hl), .int (w : Int), rfl, by show 4 ≤ sizeLine; decide, fun T nT => ?_⟩
      have z := h T nT
      have e : fway 0 (tl.map (fun c => c.2)) 1 0 q l w = ((((tl.map (fun c : Addr × List Int => c.2)).getD w []).getD l 0).toNat, w) := rfl
      unfold bq at z
      rw [e, c2] at z
      have n0 := (c4.get hl).1
      have z' : R (.ref T) (upd G T (.tup [V.int (l : Int), V.int (w : Int), V.int ((c.2.getD l 0).toNat : Int), V.int (w : Int)])) := z
      rw [Int.toNat_of_nonneg n0] at z'
      exact z'
    · refine ⟨D, _, rfl, .inl ⟨.inl (.inl hD), fun t nt => ?_⟩⟩
      exact k _ t cs (sm.trans (same_upd nt)) upd_same (hcs.same (same_upd nt)) e
theorem ok_lifted {f : Addr} {fd : FuncData} {k : Nat} (F : Fun K "lifted" "lifted" sLifted f fd) (mt : mg "tuple" = none) (mr : mg "range" = none) : FnOk P w K mg base CX0 (k + 1) f fd ["q", "turns"] (spPush K 1) := by
  refine F.ok scLifted (fun vs H Q E h => ?_) (fun cdv A outer s H vs Q E hr h => ?_)
  · obtain ⟨q, t, tl, rfl, _⟩ := h
    rfl
  · obtain ⟨q, t, tl, rfl, h7, hT, k⟩ := h
    have nd := scLifted.nd
    refine ⟨_, pss_one (ps_ret (pe_callTy call_tuple_of (by rfl) mt (by decide +kernel) (pa_cons
      (pe_lc2 (own := [("l", 2), ("w", 3)]) (vs1 := [3]) (g := gName 2) (tt := tYes) (g1 := gName 3) (tt1 := tYes) (wi1 := iRng1 (tCons (tVar 0) tNil)) (te := tTup (tCons (tVar 2) (tCons (tVar 3) (tCons (tVar 2) (tCons (tOp (rIxT K) (tOp (rIxT K) (tVar 1) (tVar 2)) (tVar 3)) tNil))))) rfl nd (pi_range1 (by rfl) mr (pa_cons (pv 0) pa_nil))
        (blkOk_by (own := [("l", 2), ("w", 3)]) (N := NPu) (sc := defScope sLifted) (by decide +kernel)) (by decide) (fun _ _ _ _ _ => pg_name (i := 2) nd rfl (.inl rfl)) (fun _ _ _ _ _ => pts_nil)
        (fun _ _ _ _ _ => pi_range1 (by rfl) mr (pa_cons (pv 0) pa_nil)) (fun _ _ _ _ _ => pg_name (i := 3) nd rfl (.inl rfl)) (fun _ _ _ _ _ => pts_nil)
        (fun _ _ _ _ _ => pe_tup (pa_cons (pv 2) (pa_cons (pv 3) (pa_cons (pv 2) (pa_cons (pe_ix ix_tup (pe_ix ix_tup (pv 1) (pv 2) (fun _ _ => rfl)) (pv 3) (fun _ _ => rfl)) pa_nil)))))) pa_nil))), ?_⟩
    unfold tRet tCB tCons
    refine lc2_quads (q := q) (f := fway 1 (tl.map (·.2)) 1 0 q) h7 (fun R h => ⟨.int (q : Int), rfl, h⟩) (fun l G R h => ⟨.int (q : Int), rfl, h⟩) (fun l => rfl) (fun l w => rfl) (fun l w G R hl hw sm h => ?_) fun D cs G sm nD hD hcs e => ?_
    · have hTG := hT.same sm
      obtain ⟨c, c1, c2, c3, c4⟩ := getc hTG hl
      refine ⟨.int (l : Int), rfl, .int (w : Int), rfl, .int (l : Int), rfl, .ref t, rfl, .int (l : Int), rfl, t, _, _, .ref c.1, rfl, rfl, hTG.at_, atI_nat c1, .int (w : Int), rfl, c.1, _, _, _, rfl, rfl, c3, atI_nat (geti c4 hw), by show 4 ≤ sizeLine; decide, fun T nT => ?_⟩
      have z := h T nT
      have e : fway 1 (tl.map (fun c => c.2)) 1 0 q l w = (l, (((tl.map (fun c : Addr × List Int => c.2)).getD l []).getD w 0).toNat) := rfl
      unfold bq at z
      rw [e, c2] at z
      have n0 := (c4.get hw).1
      have z' : R (.ref T) (upd G T (.tup [V.int (l : Int), V.int (w : Int), V.int (l : Int), V.int ((c.2.getD w 0).toNat : Int)])) := z
      rw [Int.toNat_of_nonneg n0] at z'
      exact z'
    · refine ⟨D, _, rfl, .inl ⟨.inl (.inl hD), fun t nt => ?_⟩⟩
      exact k _ t cs (sm.trans (same_upd nt)) upd_same (hcs.same (same_upd nt)) e
end
end C2

namespace C2
set_option Elab.async false
set_option linter.all false
set_option maxRecDepth 100000
set_option maxHeartbeats 4000000
open PySem PySem.Spec PyProof.Rows L2
/-! ### tuples whose own object is known: a method may be called on them -/
def NoDict (o : Obj) : Prop := o.cls = .type "tuple" ∧ o.dict = none
/-- a tuple of these stands there, and it has no dict of its own -/
def TupF (G : Hp) (a : Addr) (xs : List V) : Prop := ∃ o, NoDict o ∧ G a = some (.frz o (.tup xs))
theorem TupF.sq {K : PySem.W.Frag} {G : Hp} {a : Addr} {xs : List V} (h : TupF G a xs) : SqT K G a xs := by
  obtain ⟨o, _, e⟩ := h
  exact .inl (.inr ⟨o, e⟩)
theorem TupF.same {G G' : Hp} {a : Addr} {xs : List V} (h : TupF G a xs) (s : Same G G') : TupF G' a xs := by
  obtain ⟨o, n, e⟩ := h
  exact ⟨o, n, s _ _ e⟩
section
variable {X : Cx}
theorem tuple_frz : CallR X (.type "tuple") (fun xs G Q => ∃ p ys, xs = [.ref p] ∧ SqL X.K G p ys ∧ ∀ l o, G l = none → NoDict o → Q (.ref l) (upd G l (.frz o (.tup ys)))) := by
  intro pins s σ G xs us Q I r h
  obtain ⟨p, ys, rfl, sq, q⟩ := h
  obtain ⟨_, rfl, ⟨⟩⟩ := vals1 r
  obtain ⟨its, rv, pl, small⟩ := I.list sq
  have ln := rv.length
  refine call_tuple_list pl.isList (fun h' kp => ?new) (by rw [List.size_toArray]; omega)
  have J := I.kept (h' := h') (t' := s.toks) kp
  have new : ObjOk X.prog X.w (upd G h'.objs.size (.frz { cls := .type "tuple", data := .seq its.toArray } (.tup ys))) (h'.push { cls := .type "tuple", data := .seq its.toArray }) h'.objs.size (.frz { cls := .type "tuple", data := .seq its.toArray } (.tup ys)) :=
    ⟨Heap.get?_push_size _ rfl, small, its, rv, IsTup.new _ _⟩
  exact ⟨.ref h'.objs.size, _, J.laid (t' := s.toks) (fun b y e => Heap.get?_push_of_some _ e) (Nat.le_refl _) new, rfl, q _ _ (J.hok.fresh (Nat.le_refl _)) ⟨rfl, rfl⟩⟩
def rCatF (K : PySem.W.Frag) : R2 := fun x y G Q => ∃ a b xs ys, x = .ref a ∧ y = .ref b ∧ SqT K G a xs ∧ SqT K G b ys ∧ xs ≠ [] ∧ ys ≠ [] ∧ xs.length + ys.length ≤ sizeLine ∧ ∀ p o, G p = none → NoDict o → Q (.ref p) (upd G p (.frz o (.tup (xs ++ ys))))
theorem cat_frz : OpR X (binaryOp .Add) (rCatF X.K) := by
  intro pins s σ G x y v u Q I rx ry h
  obtain ⟨a, b, xs, ys, rfl, rfl, sa, sb, nx, ny, small, q⟩ := h
  cases rx
  cases ry
  obtain ⟨its, r1, p1, _⟩ := I.tuple sa
  obtain ⟨its2, r2, p2, _⟩ := I.tuple sb
  refine HT.cat_tup p1 p2 (fun z => nx (r1.nil_iff.mp z)) (fun z => absurd (r2.nil_iff.mp z) ny) (fun z => ?_) (by rw [← r1.length, ← r2.length]; exact small)
  refine ⟨.ref s.heap.objs.size, _, I.laid (t' := s.toks) (o := .frz { cls := .type "tuple", data := .seq (its ++ its2).toArray } (.tup (xs ++ ys))) (fun c y e => Heap.get?_push_of_some _ e) (Nat.le_refl _) ?_, rfl, q _ _ (I.hok.fresh (Nat.le_refl _)) ⟨rfl, rfl⟩⟩
  exact ⟨Heap.get?_push_size _ rfl, by rw [List.length_append]; exact small, _, r1.append r2, IsTup.new _ _⟩
def tTupRgF (te : L2.St → Hp → (Int → Int → Hp → Prop) → Prop) : TE := fun σ G Q => te σ G fun a b G1 => RgOk a b ∧ ∀ q o, G1 q = none → NoDict o → Q (.ref q) (upd G1 q (.frz o (.tup (rgV a b))))
theorem pe_tupRgF {e : Expr} {te : L2.St → Hp → (Int → Int → Hp → Prop) → Prop} {p pos : Pos} (hc : X.calm = true) (hg : Gl X "tuple") (hm : X.mg "tuple" = none) (he : PRg X e te) (na : starEach [e] X.env = (false, eval e X.env) :: starEach [] X.env := by rfl) : PE X (.Call (.Name "tuple" p) [e] [] pos) (tTupRgF te) := by
  refine ⟨fun pins s σ G Q I h => Call_ (ld_blt I hg hm boot_tuple (PyProof.Rows.callWith_type1 (args_cons (thn (he pins s σ G _ I h) fun x s1 ⟨r, a, b, t, u, v, G1, ex, hr, I1, ok, q⟩ => args_nil ?_) na) na))⟩
  subst ex
  refine call_tuple_range (I1.ok.hd hc) hr (small_one ok.1 ok.2.1 ok.2.2.1 ok.2.2.2.1) (rangeSize_nat a b) ok.2.2.2.2 fun h' tk acc hk hi => ?_
  have b5 := ok.2.2.2.2
  have J := I1.kept (h' := h') (t' := tk) hk
  have new : ObjOk X.prog X.w (upd G1 h'.objs.size (.frz { cls := .type "tuple", data := .seq acc } (.tup (rgV a b)))) (h'.push { cls := .type "tuple", data := .seq acc }) h'.objs.size (.frz { cls := .type "tuple", data := .seq acc } (.tup (rgV a b))) :=
    ⟨Heap.get?_push_size _ rfl, by rw [rgV_length, sizeLine_eq]; omega, acc.toList, vals_rg hi, by rw [Array.toArray_toList]; exact IsTup.new _ _⟩
  exact ⟨.ref h'.objs.size, _, J.laid (t' := tk) (fun c y e => Heap.get?_push_of_some _ e) (Nat.le_refl _) new, rfl, q _ _ (J.hok.fresh (Nat.le_refl _)) ⟨rfl, rfl⟩⟩
/-- t.index(n), t a tuple of whole numbers whose object is known, n among them -/
def tIndexF (to : TE) (ta : TA) : TE := fun σ G Q => to σ G fun x G1 => ∃ (p : Addr) (ns : List Int), x = .ref p ∧ TupF G1 p (ns.map V.int) ∧ ta σ G1 fun vs G2 => ∃ n : Int, vs = [.int n] ∧ TupF G2 p (ns.map V.int) ∧ n ∈ ns ∧ Q (.int (ns.idxOf n : Nat)) G2
theorem pe_indexF {o e : Expr} {to : TE} {ta : TA} {apos cpos : Pos} (ho : PE X o to) (ha : PA X [e] ta) (hbase : attributeBase o "index" X.env (eval o X.env) = eval o X.env := by rfl)
    (hfew : ((backTo cpos (starEach [e] X.env)).all (fun x => !x.1) && (backToKw cpos (keywordEach [] X.env)).all (fun x => x.1.isSome) && decide ([e].length + ([] : List Keyword).length + (if ([] : List Keyword).isEmpty then 0 else 1) < 30)) = true := by rfl)
    (hline : (apos.endLine == cpos.line) = true := by rfl) (hs : starEach [e] X.env = (false, eval e X.env) :: starEach [] X.env := by rfl) :
    PE X (.Call (.Attribute o "index" apos) [e] [] cpos) (tIndexF to ta) := by
  refine ⟨fun pins s σ G Q I h => wpAny_Call_method_late hbase hfew hline rfl (thn (ho.run pins s σ G _ I h) fun v s1 ⟨x, G1, I1, r1, p, ns, ex, ⟨ob, ⟨hcl, hdt⟩, hob⟩, q1⟩ => ?_)⟩
  subst ex
  cases r1
  have got : s1.heap.get? p = some ob := (I1.hok p _ hob).1
  refine ⟨"tuple", "tuple.index", PySem.F.plainAttrs_tuple, PySem.F.slot_tuple_index, PySem.F.type_tuple_index, ⟨ob, got, hcl⟩, fun a ea => ?_, ?_⟩
  · cases ea
    exact ⟨ob, got, hdt⟩
  · have hA := ha.run cpos pins s1 σ G1 _ I1 q1
    rw [hs] at hA ⊢
    refine Calls.callWith_builtin rfl (Calls.evalArgs_plain ?_)
    refine thn hA fun us s2 ⟨vs, G2, I2, r2, n, ev, tf, hn, q2⟩ => ?_
    subst ev
    obtain ⟨u, rfl, t, rfl⟩ := vals1 r2
    obtain ⟨its, rv, pl, _⟩ := I2.tuple (tf.sq (K := X.K))
    exact SeqAt.tuple_index_ints pl (by simpa using rv.ints) hn ⟨.int (ns.idxOf n : Nat), G2, I2.tok _, ⟨_, rfl⟩, q2⟩
end
end C2

namespace C2
set_option Elab.async false
set_option linter.all false
set_option maxRecDepth 100000
set_option maxHeartbeats 4000000
open PySem PySem.Spec PyProof.Rows L2
abbrev NQs : List Str := ["_law_q", "_law_turns_here", "_law_word", "_law_found", "_law_left", "_law_low"]
theorem scQuads : FnScope NQs ["_law_q", "_law_turns_here", "_law_word"] (defScope sQuads) := ⟨rfl, rfl, rfl, by decide +kernel, rfl, by decide +kernel, by decide +kernel⟩
section
variable {P : Program} {w : World} {K : PySem.W.Frag} {mg : Str → Option Value} {base : Heap}
def wordF (wd : Str) (ts : List (List Int)) (q : Nat) (f : Nat → Nat → Nat × Nat) : Prop := (wd = "through" ∧ f = thr) ∨ (wd = "pushed" ∧ f = fway 0 ts 1 0 q) ∨ (wd = "lifted" ∧ f = fway 1 ts 1 0 q)
def spQuads (K : PySem.W.Frag) : Sp := fun vs H Q _ => ∃ (q : Nat) (t : Addr) (wd : Str) (tl : List (Addr × List Int)) (f : Nat → Nat → Nat × Nat), vs = [.int (q : Int), .ref t, .str wd] ∧ q ≤ 7 ∧ TurnsAt K q H t tl ∧ wordF wd (tl.map (·.2)) q f ∧ spMade f q H Q
theorem ok_quads {f : Addr} {fd : FuncData} {k : Nat} (F : Fun K "_law_quads" "_law_quads" sQuads f fd) (mt : mg "tuple" = none) (mr : mg "range" = none) : FnOk P w K mg base CX0 (k + 1) f fd ["_law_q", "_law_turns_here", "_law_word"] (spQuads K) := by
  refine F.ok scQuads (fun vs H Q E h => ?_) (fun cdv A outer s H vs Q E hr h => ?_)
  · obtain ⟨q, t, wd, tl, f, rfl, _⟩ := h
    rfl
  · obtain ⟨q, t, wd, tl, f, rfl, h7, hT, hw, k⟩ := h
    have nd := scQuads.nd
    refine ⟨_, pss_cons (ps_set (i := 3) nd rfl (.inl rfl) (pe_lst pa_nil))
      (pss_cons (ps_for PassesOwn.never rfl (pi_range1 (by rfl) mr (pa_cons (pv 0) pa_nil)) (pg_name (i := 4) nd rfl (.inl rfl)) (pss_one (ps_for PassesOwn.never rfl (pi_range1 (by rfl) mr (pa_cons (pv 0) pa_nil)) (pg_name (i := 5) nd rfl (.inl rfl)) (pss_one (ps_if (pt_cmpR op_eq (pv 2) pe_str (nomark _)) (pss_one (ps_expr (pe_bm PySem.F.plainAttrs_list PySem.F.slot_list_append PySem.F.type_list_append mt_append (pv 3) (pa_cons (pe_tup (pa_cons (pv 4) (pa_cons (pv 5) (pa_cons (pv 4) (pa_cons (pv 5) pa_nil))))) pa_nil)))) (pss_one (ps_if (pt_cmpR op_eq (pv 2) pe_str (nomark _)) (pss_one (ps_expr (pe_bm PySem.F.plainAttrs_list PySem.F.slot_list_append PySem.F.type_list_append mt_append (pv 3) (pa_cons (pe_tup (pa_cons (pv 4) (pa_cons (pv 5) (pa_cons (pe_ix ix_tup (pe_ix ix_tup (pv 1) (pv 5) (fun _ _ => rfl)) (pv 4) (fun _ _ => rfl)) (pa_cons (pv 5) pa_nil))))) pa_nil)))) (pss_one (ps_expr (pe_bm PySem.F.plainAttrs_list PySem.F.slot_list_append PySem.F.type_list_append mt_append (pv 3) (pa_cons (pe_tup (pa_cons (pv 4) (pa_cons (pv 5) (pa_cons (pv 4) (pa_cons (pe_ix ix_tup (pe_ix ix_tup (pv 1) (pv 4) (fun _ _ => rfl)) (pv 5) (fun _ _ => rfl)) pa_nil))))) pa_nil)))))))))))
      (pss_one (ps_ret (pe_callTy call_tuple_of (by rfl) mt (by decide +kernel) (pa_cons (pv 3) pa_nil))))), ?_⟩
    refine ⟨Nat.zero_le _, fun D nD => ?_⟩
    refine ⟨.int (q : Int), rfl, (q : Int), rfl, by omega, by omega, ?_⟩
    refine for_range (lo := 0) (n := q) (fun i σ G => GrowI q f H D i 0 G ∧ ∃ y4 y5, σ = [some (.int (q : Int)), some (.ref t), some (.str wd), some (.ref D), y4, y5]) ⟨⟨[], same_upd nD, upd_same, fun c hc => (by cases hc), rfl⟩, _, _, rfl⟩ ?_ ?_
    · rintro i σ G hi ⟨I, y4, y5, rfl⟩
      rw [Int.zero_add]
      refine ⟨.int (q : Int), rfl, (q : Int), rfl, by omega, by omega, ?_⟩
      refine for_range (lo := 0) (n := q) (fun j σ G => GrowI q f H D i j G ∧ ∃ y5, σ = [some (.int (q : Int)), some (.ref t), some (.str wd), some (.ref D), some (.int (i : Int)), y5]) ⟨I, _, rfl⟩ ?_ ?_
      · rintro j σ G2 hj ⟨J, y5, rfl⟩
        rw [Int.zero_add]
        obtain ⟨cs, sm, hD, _⟩ := id J
        have SD : SqL K G2 D (refs cs) := .inl (.inl hD)
        have hTG := hT.same sm
        have fin : ∀ (vs : List V) (T : Addr), G2 T = none → vs = (bq f i j).map V.int → ∃ l xs y, (V.ref D) = .ref l ∧ [V.ref T] = [y] ∧ (upd G2 T (.tup vs)) l = some (.lst xs) ∧ xs.length < sizeLine ∧
            (GrowI q f H D i (j + 1) (upd (upd G2 T (.tup vs)) l (.lst (xs ++ [y]))) ∧ ∃ y5, [some (V.int (q : Int)), some (.ref t), some (.str wd), some (.ref D), some (.int (i : Int)), some (.int (j : Int))] = [some (.int (q : Int)), some (.ref t), some (.str wd), some (.ref D), some (.int (i : Int)), y5]) := by
          rintro vs T nT rfl
          obtain ⟨acc, a1, a2, a3⟩ := J.step h7 hi hj nD (same_upd nT) nT upd_same
          exact ⟨D, acc, .ref T, rfl, rfl, a1, a2, a3, _, rfl⟩
        rcases hw with ⟨rfl, rfl⟩ | ⟨rfl, rfl⟩ | ⟨rfl, rfl⟩
        · refine ⟨.str "through", rfl, rfl, _, rfl, ?_⟩
          rw [decide_eq_true rfl]
          refine iteT ⟨.ref D, rfl, .inl ⟨rfl, _, SD⟩, .int (i : Int), rfl, .int (j : Int), rfl, .int (i : Int), rfl, .int (j : Int), rfl, by show 4 ≤ sizeLine; decide, fun T nT => fin _ T nT rfl⟩
        · obtain ⟨c, c1, c2, c3, c4⟩ := getc hTG hj
          refine ⟨.str "pushed", rfl, rfl, _, rfl, ?_⟩
          rw [decide_eq_false (by decide)]
          refine iteF ⟨.str "pushed", rfl, rfl, _, rfl, ?_⟩
          rw [decide_eq_true rfl]
          refine iteT ⟨.ref D, rfl, .inl ⟨rfl, _, SD⟩, .int (i : Int), rfl, .int (j : Int), rfl, .ref t, rfl, .int (j : Int), rfl, t, _, _, .ref c.1, rfl, rfl, hTG.at_, atI_nat c1, .int (i : Int), rfl, c.1, _, _, _, rfl, rfl, c3, atI_nat (geti c4 hi), .int (j : Int), rfl, by show 4 ≤ sizeLine; decide, fun T nT => fin _ T nT ?_⟩
          have e : fway 0 (tl.map (fun c => c.2)) 1 0 q i j = ((((tl.map (fun c : Addr × List Int => c.2)).getD j []).getD i 0).toNat, j) := rfl
          have n0 := (c4.get hi).1
          unfold bq
          rw [e, c2]
          show [V.int (i : Int), V.int (j : Int), V.int (c.2.getD i 0), V.int (j : Int)] = [V.int (i : Int), V.int (j : Int), V.int ((c.2.getD i 0).toNat : Int), V.int (j : Int)]
          rw [Int.toNat_of_nonneg n0]
        · obtain ⟨c, c1, c2, c3, c4⟩ := getc hTG hi
          refine ⟨.str "lifted", rfl, rfl, _, rfl, ?_⟩
          rw [decide_eq_false (by decide)]
          refine iteF ⟨.str "lifted", rfl, rfl, _, rfl, ?_⟩
          rw [decide_eq_false (by decide)]
          refine iteF ⟨.ref D, rfl, .inl ⟨rfl, _, SD⟩, .int (i : Int), rfl, .int (j : Int), rfl, .int (i : Int), rfl, .ref t, rfl, .int (i : Int), rfl, t, _, _, .ref c.1, rfl, rfl, hTG.at_, atI_nat c1, .int (j : Int), rfl, c.1, _, _, _, rfl, rfl, c3, atI_nat (geti c4 hj), by show 4 ≤ sizeLine; decide, fun T nT => fin _ T nT ?_⟩
          have e : fway 1 (tl.map (fun c => c.2)) 1 0 q i j = (i, (((tl.map (fun c : Addr × List Int => c.2)).getD i []).getD j 0).toNat) := rfl
          have n0 := (c4.get hj).1
          unfold bq
          rw [e, c2]
          show [V.int (i : Int), V.int (j : Int), V.int (i : Int), V.int (c.2.getD j 0)] = [V.int (i : Int), V.int (j : Int), V.int (i : Int), V.int ((c.2.getD j 0).toNat : Int)]
          rw [Int.toNat_of_nonneg n0]
      · rintro σ G2 ⟨⟨cs, a1, a2, a3, a4⟩, y5, rfl⟩
        exact ⟨⟨cs, a1, a2, a3, by rw [a4, pre_row]⟩, _, _, rfl⟩
    · rintro σ G ⟨⟨cs, a1, a2, a3, a4⟩, y4, y5, rfl⟩
      refine ⟨.ref D, rfl, D, _, rfl, .inl ⟨.inl (.inl a2), fun t' nt => ?_⟩⟩
      exact k _ t' cs (a1.trans (same_upd nt)) upd_same (a3.same (same_upd nt)) (by rw [a4, pre_all])
end
end C2

namespace C2
set_option Elab.async false
set_option linter.all false
set_option maxRecDepth 100000
set_option maxHeartbeats 4000000
open PySem PySem.Spec PyProof.Rows L2
abbrev NTs : List Str := ["_law_pot", "_law_q", "_law_plain", "_law_kind", "_law_one", "_law_found", "_law_k"]
theorem scTurns : FnScope NTs ["_law_pot", "_law_q"] (defScope sTurns) := ⟨rfl, rfl, rfl, by decide +kernel, rfl, by decide +kernel, by decide +kernel⟩
structure TurnsF (K : PySem.W.Frag) (q : Nat) (G : Hp) (t : Addr) (tl : List (Addr × List Int)) : Prop where
  at_ : SqT K G t (refs tl)
  cf : ∀ c ∈ tl, TupF G c.1 (c.2.map V.int) ∧ IsP q c.2
  ln : tl.length = q
theorem TurnsF.same {K : PySem.W.Frag} {q : Nat} {G G' : Hp} {t : Addr} {tl : List (Addr × List Int)} (h : TurnsF K q G t tl) (s : Same G G') : TurnsF K q G' t tl := ⟨sameT s h.at_, fun c hc => ⟨(h.cf c hc).1.same s, (h.cf c hc).2⟩, h.ln⟩
theorem TurnsF.toAt {K : PySem.W.Frag} {q : Nat} {G : Hp} {t : Addr} {tl : List (Addr × List Int)} (h : TurnsF K q G t tl) : TurnsAt K q G t tl := ⟨h.at_, fun c hc => ⟨(h.cf c hc).1.sq, (h.cf c hc).2⟩, h.ln⟩
theorem TupF.fr {G G' : Hp} {a p : Addr} {n : Nat} {xs : List V} (h : TupF G a xs) (hp : PotAt G p n) (f : Fr p G G') : TupF G' a xs := by
  obtain ⟨o, no, e⟩ := h
  obtain ⟨g, c, t, ep, _⟩ := hp
  exact ⟨o, no, f _ _ (ne_of e ep (by intro z; cases z)) e⟩
theorem TupF.updL {G : Hp} {a D : Addr} {xs ys : List V} {u : HO} (h : TupF G a xs) (hD : G D = some (.lst ys)) : TupF (upd G D u) a xs := by
  obtain ⟨o, no, e⟩ := h
  exact ⟨o, no, by rw [upd_ne (ne_of e hD (by intro z; cases z))]; exact e⟩
theorem cut_1 (xs : List V) (h : 1 ≤ xs.length) : cutV xs (some 1) none = xs.drop 1 := by
  unfold cutV
  rw [show HT.sIx xs.length 0 (some 1) = min 1 xs.length from HT.sIx_nat xs.length 0 1, HT.sIx_none, show min 1 xs.length = 1 by omega]
  exact List.take_of_length_le (by rw [List.length_drop]; exact Nat.le_refl _)
theorem cut_2 (xs : List V) (h : 1 ≤ xs.length) : cutV xs none (some 1) = xs.take 1 := by
  unfold cutV
  rw [show HT.sIx xs.length xs.length (some 1) = min 1 xs.length from HT.sIx_nat xs.length xs.length 1, HT.sIx_none, show min 1 xs.length = 1 by omega]
  rfl
theorem rep_refs (q : Nat) (c : Addr × List Int) : (List.replicate q [V.ref c.1]).flatten = refs (List.replicate q c) := by
  induction q with
  | zero => rfl
  | succ n ih =>
    rw [List.replicate_succ, List.flatten_cons, ih, List.replicate_succ]
    rfl
section
variable {P : Program} {w : World} {K : PySem.W.Frag} {mg : Str → Option Value} {base : Heap}
def spTurns (K : PySem.W.Frag) : Sp := fun vs H Q _ => ∃ (p : Addr) (q n : Nat), vs = [.ref p, .int (q : Int)] ∧ 2 ≤ q ∧ q ≤ 7 ∧ PotAt H p n ∧ n + 200 < 1000000 ∧ ∀ H' t tl, Fr p H H' → TurnsF K q H' t tl → Q (.ref t) H'
def rTupF (K : PySem.W.Frag) : List V → Hp → VK → Prop := fun xs G Q => ∃ p ys, xs = [.ref p] ∧ SqL K G p ys ∧ ∀ l o, G l = none → NoDict o → Q (.ref l) (upd G l (.frz o (.tup ys)))
def teTM (K : PySem.W.Frag) : TE := tCB (rTupF K) (tCons (tCall (spMixed K) [] E0 (tCons (tVar 0) (tCons (tLstRg (tRg1 (tVar 1))) tNil))) tNil)
/-- one mixed tuple more -/
theorem tm_one {p : Addr} {q n : Nat} {σ : L2.St} {G : Hp} {R : VK} (σ0 : σ[0]? = some (some (.ref p))) (σ1 : σ[1]? = some (some (.int (q : Int)))) (hq : q ≤ 7) (hb : n + q < 1000000) (hP : PotAt G p n)
    (k : ∀ T c G2, Fr p G G2 → PotAt G2 p (n + q) → G T = none → TupF G2 T (c.map V.int) → IsP q c → R (.ref T) G2) : teTM K σ G R := by
  refine ⟨.ref p, σ0, .int (q : Int), σ1, (q : Int), rfl, RgOk.of_le (by decide) (by omega) (by decide) (by omega), fun l nl => ?_⟩
  have pl : p ≠ l := hP.ne nl
  have hlenr : (rgV 0 (q : Int)).length = q := by
    rw [rgV_length]
    omega
  refine ⟨p, l, rgV 0 (q : Int), n, rfl, hP.upd pl, by rw [hlenr]; omega, pl.symm, .inl (.inl upd_same), fun r ys H4 fr4 hP4 nr hr hper => ?_⟩
  obtain ⟨c, rfl, hc⟩ := perm_ints hper
  rw [hlenr] at hP4
  refine ⟨r, _, rfl, .inl (.inl hr), fun T o nT no => ?_⟩
  have pT' : p ≠ T := hP4.ne nT
  have f4 : Fr p G H4 := Fr.trans (Fr.new nl) fr4
  exact k T c _ (f4.trans (Fr.new nT)) (hP4.upd pT') (f4.free pT'.symm nT) ⟨o, no, upd_same⟩ hc
theorem ok_turns {f fT fM : Addr} {fd fdT fdM : FuncData} (F : Fun K "_law_turns" "_law_turns" sTurns f fd) (FT : Fun K "_law_take" "_law_take" sTake fT fdT) (FM : Fun K "_law_mixed" "_law_mixed" sMixed fM fdM)
    (bT : Binds K fdT ["_law_pot", "_law_many"] []) (bM : Binds K fdM ["_law_pot", "_law_some"] []) (gT : mg "_law_take" = some (.ref fT)) (gM : mg "_law_mixed" = some (.ref fM))
    (ml : mg "len" = none) (mli : mg "list" = none) (mr : mg "range" = none) (mt : mg "tuple" = none) : FnOk P w K mg base CX0 3 f fd ["_law_pot", "_law_q"] (spTurns K) := by
  have GT : FnOk P w K mg base CX0 1 fT fdT ["_law_pot", "_law_many"] spTake := ok_take FT
  have GM : FnOk P w K mg base CX0 2 fM fdM ["_law_pot", "_law_some"] (spMixed K) := ok_mixed FM FT bT gT ml mli mr
  refine F.ok scTurns (fun vs H Q E h => ?_) (fun cdv A outer s H vs Q E hr h => ?_)
  · obtain ⟨p, q, n, rfl, _⟩ := h
    rfl
  · obtain ⟨p, q, n, rfl, h2, h7, hP, hn, k⟩ := h
    have nd := scTurns.nd
    refine ⟨_, pss_cons (ps_set (i := 2) nd rfl (.inl rfl) (pe_tupRgF rfl (by rfl) mt (prg_1 (by rfl) mr (pv 1))))
      (pss_cons (ps_par (i := 3) (j := 4) (by rfl) nd rfl rfl (by decide) rfl rfl (pa_cons (pe_call GT (hr.mono (by decide)) (by rfl) gT FT.kp bT .nil pass0 (pa_cons (pv 0) (pa_cons pe_int pa_nil))) (pa_cons (pe_callTy tuple_frz (by rfl) mt (by decide +kernel) (pa_cons (pe_call GM hr (by rfl) gM FM.kp bM .nil pass0 (pa_cons (pv 0) (pa_cons (pe_listRg rfl (by rfl) mli (prg_1 (by rfl) mr (pv 1))) pa_nil))) pa_nil)) pa_nil)) (by rfl))
      (pss_cons (ps_set (i := 5) nd rfl (.inl rfl) (pe_ix ix_list (pe_lst (pa_cons (pv 2) (pa_cons (pv 4) (pa_cons (pe_op cat_frz (pe_slice sl_tup (pv 2) (po_some pe_int) po_none) (pe_slice sl_tup (pv 2) po_none (po_some pe_int))) pa_nil)))) (pe_op op_mod (pv 3) pe_int) (fun _ _ => rfl)))
      (pss_cons (ps_if (pt_cmpR op_lt (pv 3) pe_int (nomark _)) (pss_one (ps_ret (pe_op op_repT (pe_tup (pa_cons (pv 5) pa_nil)) (pv 1)))) pss_nil)
      (pss_one (ps_ret (pe_callTy call_tuple_of (by rfl) mt (by decide +kernel) (pa_cons (pe_lc (own := [("_law_k", 6)]) (g := gName 6) (tt := tYes) (te := teTM K) rfl nd (pi_range1 (by rfl) mr (pa_cons (pv 1) pa_nil)) (blkOk_by (own := [("_law_k", 6)]) (N := NTs) (sc := defScope sTurns) (by decide +kernel)) (fun _ _ _ _ _ => pg_name (i := 6) nd rfl (.inl rfl)) (fun _ _ _ _ _ => pts_nil) (fun _ _ _ _ _ => (pe_callTy tuple_frz (by rfl) mt (by decide +kernel) (pa_cons (pe_call GM hr (by rfl) gM FM.kp bM .nil pass0 (pa_cons (pv 0) (pa_cons (pe_listRg rfl (by rfl) mli (prg_1 (by rfl) mr (pv 1))) pa_nil))) pa_nil)))) pa_nil))))))), ?_⟩
    refine ⟨.int (q : Int), rfl, (q : Int), rfl, RgOk.of_le (by decide) (by omega) (by decide) (by omega), fun pl o1 npl no1 => ?_⟩
    have pp : p ≠ pl := hP.ne npl
    have hPa : PotAt (upd H pl (.frz o1 (.tup (rgV 0 (q : Int))))) p n := hP.upd pp
    have Tp : TupF (upd H pl (.frz o1 (.tup (rgV 0 (q : Int))))) pl (rgV 0 (q : Int)) := ⟨o1, no1, upd_same⟩
    have fa : Fr p H (upd H pl (.frz o1 (.tup (rgV 0 (q : Int))))) := Fr.new npl
    refine ⟨.ref p, rfl, p, 4, n, rfl, hPa, by omega, by decide, by decide, fun kd G1 f1 hP1 d0 d1 => ?_⟩
    have Tp1 := Tp.fr hPa f1
    refine ⟨.ref p, rfl, .int (q : Int), rfl, (q : Int), rfl, RgOk.of_le (by decide) (by omega) (by decide) (by omega), fun l nl => ?_⟩
    have pl' : p ≠ l := hP1.ne nl
    have hlenr : (rgV 0 (q : Int)).length = q := by
      rw [rgV_length]
      omega
    refine ⟨p, l, rgV 0 (q : Int), n + 1, rfl, hP1.upd pl', by rw [hlenr]; omega, pl'.symm, .inl (.inl upd_same), fun r ys G2 f2 hP2 nr hr' hper => ?_⟩
    obtain ⟨c2, rfl, hc2⟩ := perm_ints hper
    have f12 : Fr p G1 G2 := Fr.trans (Fr.new nl) f2
    have Tp2 := Tp1.fr hP1 f12
    refine ⟨r, _, rfl, .inl (.inl hr'), fun on o2 non no2 => ⟨_, _, rfl, ?_⟩⟩
    have sA := same_upd (o := .frz o2 (.tup (c2.map V.int))) non
    have TpA := Tp2.same sA
    have TnA : TupF (upd G2 on (.frz o2 (.tup (c2.map V.int)))) on (c2.map V.int) := ⟨o2, no2, upd_same⟩
    have w1 : ¬ (HT.sIx (rgV 0 (q : Int)).length 0 (some 1) = 0 ∧ HT.sIx (rgV 0 (q : Int)).length (rgV 0 (q : Int)).length none = (rgV 0 (q : Int)).length) := by
      rw [show HT.sIx (rgV 0 (q : Int)).length 0 (some 1) = min 1 (rgV 0 (q : Int)).length from HT.sIx_nat _ 0 1, hlenr]
      omega
    have w2 : ¬ (HT.sIx (rgV 0 (q : Int)).length 0 none = 0 ∧ HT.sIx (rgV 0 (q : Int)).length (rgV 0 (q : Int)).length (some 1) = (rgV 0 (q : Int)).length) := by
      rw [show HT.sIx (rgV 0 (q : Int)).length (rgV 0 (q : Int)).length (some 1) = min 1 (rgV 0 (q : Int)).length from HT.sIx_nat _ _ 1, hlenr]
      omega
    refine ⟨.ref pl, rfl, .ref on, rfl, .ref pl, rfl, 1, rfl, pl, _, rfl, TpA.sq, w1, fun s1 ns1 => ?_⟩
    have sB := same_upd (o := .tup (cutV (rgV 0 (q : Int)) (some 1) none)) ns1
    refine ⟨.ref pl, rfl, 1, rfl, pl, _, rfl, (TpA.same sB).sq, w2, fun s2 ns2 => ?_⟩
    have sC := same_upd (o := .tup (cutV (rgV 0 (q : Int)) none (some 1))) ns2
    have l1 : 1 ≤ (rgV 0 (q : Int)).length := by omega
    have e1 : cutV (rgV 0 (q : Int)) (some 1) none = ((rg q).drop 1).map V.int := by rw [cut_1 _ l1, rgV_rg, List.map_drop]
    have e2 : cutV (rgV 0 (q : Int)) none (some 1) = ((rg q).take 1).map V.int := by rw [cut_2 _ l1, rgV_rg, List.map_take]
    have lq : (rg q).length = q := by
      unfold rg
      rw [List.length_map, List.length_range]
    have n1 : cutV (rgV 0 (q : Int)) (some 1) none ≠ [] := by
      rw [e1]
      intro z
      have := congrArg List.length z
      rw [List.length_map, List.length_drop, lq, List.length_nil] at this
      omega
    have n2 : cutV (rgV 0 (q : Int)) none (some 1) ≠ [] := by
      rw [e2]
      intro z
      have := congrArg List.length z
      rw [List.length_map, List.length_take, lq, List.length_nil] at this
      omega
    refine ⟨s1, s2, _, _, rfl, rfl, sameT sC (.inl (.inl upd_same)), .inl (.inl upd_same), n1, n2, ?_, fun ct o3 nct no3 => ?_⟩
    · rw [e1, e2, List.length_map, List.length_map, List.length_drop, List.length_take, lq]
      have : 1000 ≤ sizeLine := by decide
      omega
    refine ⟨by show 3 ≤ sizeLine; decide, fun l3 nl3 => ?_⟩
    have sD := same_upd (o := .frz o3 (.tup (cutV (rgV 0 (q : Int)) (some 1) none ++ cutV (rgV 0 (q : Int)) none (some 1)))) nct
    have sE := same_upd (o := .lst [.ref pl, .ref on, .ref ct]) nl3
    have Tc0 : TupF (upd (upd (upd (upd (upd G2 on (.frz o2 (.tup (c2.map V.int)))) s1 (.tup (cutV (rgV 0 (q : Int)) (some 1) none))) s2 (.tup (cutV (rgV 0 (q : Int)) none (some 1)))) ct (.frz o3 (.tup (cutV (rgV 0 (q : Int)) (some 1) none ++ cutV (rgV 0 (q : Int)) none (some 1))))) l3 (.lst [.ref pl, .ref on, .ref ct])) ct (cutV (rgV 0 (q : Int)) (some 1) none ++ cutV (rgV 0 (q : Int)) none (some 1)) := TupF.same ⟨o3, no3, upd_same⟩ sE
    have TcE : ∀ xs, xs = cutV (rgV 0 (q : Int)) (some 1) none ++ cutV (rgV 0 (q : Int)) none (some 1) → TupF (upd (upd (upd (upd (upd G2 on (.frz o2 (.tup (c2.map V.int)))) s1 (.tup (cutV (rgV 0 (q : Int)) (some 1) none))) s2 (.tup (cutV (rgV 0 (q : Int)) none (some 1)))) ct (.frz o3 (.tup (cutV (rgV 0 (q : Int)) (some 1) none ++ cutV (rgV 0 (q : Int)) none (some 1))))) l3 (.lst [.ref pl, .ref on, .ref ct])) ct xs := fun xs e => by
      rw [e]
      exact Tc0
    have ecat : ((rg q).drop 1 ++ (rg q).take 1).map V.int = cutV (rgV 0 (q : Int)) (some 1) none ++ cutV (rgV 0 (q : Int)) none (some 1) := by rw [e1, e2, List.map_append]
    have Tp0 : TupF (upd (upd (upd (upd (upd G2 on (.frz o2 (.tup (c2.map V.int)))) s1 (.tup (cutV (rgV 0 (q : Int)) (some 1) none))) s2 (.tup (cutV (rgV 0 (q : Int)) none (some 1)))) ct (.frz o3 (.tup (cutV (rgV 0 (q : Int)) (some 1) none ++ cutV (rgV 0 (q : Int)) none (some 1))))) l3 (.lst [.ref pl, .ref on, .ref ct])) pl (rgV 0 (q : Int)) := TpA.same (sB.trans (sC.trans (sD.trans sE)))
    have TpE : ∀ xs, xs = rgV 0 (q : Int) → TupF (upd (upd (upd (upd (upd G2 on (.frz o2 (.tup (c2.map V.int)))) s1 (.tup (cutV (rgV 0 (q : Int)) (some 1) none))) s2 (.tup (cutV (rgV 0 (q : Int)) none (some 1)))) ct (.frz o3 (.tup (cutV (rgV 0 (q : Int)) (some 1) none ++ cutV (rgV 0 (q : Int)) none (some 1))))) l3 (.lst [.ref pl, .ref on, .ref ct])) pl xs := fun xs e => by
      rw [e]
      exact Tp0
    have TnE := TnA.same (sB.trans (sC.trans (sD.trans sE)))
    have rot : IsP q ((rg q).drop 1 ++ (rg q).take 1) := by
      have := List.perm_append_comm (l₁ := (rg q).drop 1) (l₂ := (rg q).take 1)
      rw [List.take_append_drop] at this
      exact this
    have hPE := hP2.upd (o := .frz o2 (.tup (c2.map V.int))) (hP2.ne non)
    have hPE2 := hPE.upd (o := .tup (cutV (rgV 0 (q : Int)) (some 1) none)) (hPE.ne ns1)
    have hPE3 := hPE2.upd (o := .tup (cutV (rgV 0 (q : Int)) none (some 1))) (hPE2.ne ns2)
    have hPE4 := hPE3.upd (o := .frz o3 (.tup (cutV (rgV 0 (q : Int)) (some 1) none ++ cutV (rgV 0 (q : Int)) none (some 1)))) (hPE3.ne nct)
    have hPE5 := hPE4.upd (o := .lst [.ref pl, .ref on, .ref ct]) (hPE4.ne nl3)
    have frE : Fr p H _ := fa.trans (f1.trans (f12.trans (Fr.same (sA.trans (sB.trans (sC.trans (sD.trans sE)))))))
    have pick : ∃ fo c, atI [V.ref pl, .ref on, .ref ct] (kd % 3) = some (.ref fo) ∧ TupF (upd (upd (upd (upd (upd G2 on (.frz o2 (.tup (c2.map V.int)))) s1 (.tup (cutV (rgV 0 (q : Int)) (some 1) none))) s2 (.tup (cutV (rgV 0 (q : Int)) none (some 1)))) ct (.frz o3 (.tup (cutV (rgV 0 (q : Int)) (some 1) none ++ cutV (rgV 0 (q : Int)) none (some 1))))) l3 (.lst [.ref pl, .ref on, .ref ct])) fo (c.map V.int) ∧ IsP q c := by
      have : kd % 3 = 0 ∨ kd % 3 = 1 ∨ kd % 3 = 2 := by omega
      rcases this with e | e | e <;> rw [e]
      · exact ⟨pl, rg q, rfl, TpE _ (rgV_rg q).symm, List.Perm.refl _⟩
      · exact ⟨on, c2, rfl, TnE, hc2⟩
      · exact ⟨ct, _, rfl, TcE _ ecat, rot⟩
    obtain ⟨fo, cf, at3, Tf, hcf⟩ := pick
    refine ⟨.int kd, rfl, _, 3, rfl, rfl, (by show (0 : Int) < 3; decide), l3, _, _, _, rfl, rfl, .inl (.inl upd_same), at3, ?_⟩
    refine ⟨.int kd, rfl, _, _, rfl, rfl, _, rfl, ite2 (fun e => ?_) (fun e => ?_)⟩
    · refine ⟨.ref fo, rfl, by show 1 ≤ sizeLine; decide, fun t1 nt1 => ⟨.int (q : Int), rfl, t1, (q : Int), _, rfl, rfl, .inl (.inl upd_same), by simp, by omega, by omega, by show 1 ≤ 1000; decide, fun t nt => ?_⟩⟩
      have sF := same_upd (o := .tup [.ref fo]) nt1
      have sG := same_upd (o := .tup (List.replicate (q : Int).toNat [V.ref fo]).flatten) nt
      refine k _ t (List.replicate q (fo, cf)) (frE.trans (Fr.same (sF.trans sG))) ⟨?_, fun c hc => ?_, List.length_replicate⟩
      · refine .inl (.inl ?_)
        rw [← rep_refs q (fo, cf)]
        exact upd_same
      · rw [(List.mem_replicate.mp hc).2]
        exact ⟨Tf.same (sF.trans sG), hcf⟩
    · have sq : q * q ≤ 49 := Nat.mul_le_mul h7 h7
      refine ⟨.int (q : Int), rfl, (q : Int), rfl, by omega, by omega, fun D nD => ?_⟩
      have pD := hPE5.ne nD
      refine lc_range (lo := 0) (n := q) (fun i G => ∃ lc : List (Addr × List Int), lc.length = i ∧ G D = some (.lst (refs lc)) ∧ Fr p H G ∧ PotAt G p (n + 1 + q + i * q) ∧ ∀ c ∈ lc, TupF G c.1 (c.2.map V.int) ∧ IsP q c.2) ?_ ?_ ?_
      · refine ⟨[], rfl, upd_same, frE.trans (Fr.new nD), ?_, fun c hc => by cases hc⟩
        rw [Nat.zero_mul, Nat.add_zero]
        rw [hlenr] at hPE5
        exact hPE5.upd pD
      · rintro i G hi ⟨lc, h1, h2', h3, h4, h5⟩
        refine ⟨rfl, ?_⟩
        simp only [tYes, ↓reduceIte]
        have hle : (i + 1) * q ≤ q * q := Nat.mul_le_mul_right q hi
        have hs : (i + 1) * q = i * q + q := Nat.succ_mul i q
        refine tm_one (q := q) (n := n + 1 + q + i * q) rfl rfl h7 (by omega) h4 fun T c G2 f2 hP' nT TT hc => ?_
        have hD2 : G2 D = some (.lst (refs lc)) := f2 _ _ pD.symm h2'
        refine ⟨refs lc, hD2, ?_, lc ++ [(T, c)], ?_, ?_, ?_, ?_, ?_⟩
        · rw [List.length_map]
          exact Nat.lt_of_lt_of_le (show lc.length < 1000 by omega) (by decide)
        · rw [List.length_append, h1]
          rfl
        · rw [upd_same]
          show _ = some (HO.lst (List.map _ (lc ++ [(T, c)])))
          rw [List.map_append]
          rfl
        · intro b o nb eb
          rw [upd_ne (ne_of_none (frE _ _ nb eb) nD)]
          exact f2 _ _ nb (h3 _ _ nb eb)
        · rw [hs, ← Nat.add_assoc]
          exact hP'.upd pD
        · intro d hd
          rcases List.mem_append.mp hd with hd | hd
          · obtain ⟨a1, a2⟩ := h5 d hd
            exact ⟨(a1.fr h4 f2).updL hD2, a2⟩
          · rw [List.mem_singleton] at hd
            subst hd
            exact ⟨TT.updL hD2, hc⟩
      · rintro G ⟨lc, h1, h2', h3, h4, h5⟩
        refine ⟨D, _, rfl, .inl ⟨.inl (.inl h2'), fun t nt => ?_⟩⟩
        exact k _ t lc (h3.trans (Fr.new nt)) ⟨.inl (.inl upd_same), fun c hc => ⟨(h5 c hc).1.same (same_upd nt), (h5 c hc).2⟩, h1⟩
end
end C2

namespace C2
set_option Elab.async false
set_option linter.all false
set_option maxRecDepth 100000
set_option maxHeartbeats 4000000
open PySem PySem.Spec PyProof.Rows L2
abbrev NBk : List Str := ["_law_turns_here", "_law_turn", "_law_place"]
theorem scBack : FnScope NBk ["_law_turns_here"] (defScope sBack) := ⟨rfl, rfl, rfl, by decide +kernel, rfl, by decide +kernel, by decide +kernel⟩
abbrev scBkT : Scope := { kind := .function, names := [(".0", .local), ("_law_turn", .cell), ("tuple", .globalImplicit), ("range", .globalImplicit), ("len", .globalImplicit)], isGenerator := false, isCoroutine := false }
section
variable {P : Program} {w : World} {K : PySem.W.Frag} {mg : Str → Option Value} {base : Heap}
def spBack (K : PySem.W.Frag) : Sp := fun vs H Q _ => ∃ (q : Nat) (t : Addr) (tl : List (Addr × List Int)), vs = [.ref t] ∧ q ≤ 7 ∧ TurnsF K q H t tl ∧
  ∀ H' t' ul, Same H H' → TurnsAt K q H' t' ul → (∀ l, l < q → InvOf q ((tl.map (·.2)).getD l []) ((ul.map (·.2)).getD l [])) → Q (.ref t') H'
def teBk (K : PySem.W.Frag) : TE := tCB (rTupOf K) (tCons (tLc (iRng1 (tCons (tCB (rLen K) (tCons (tVar 1) tNil)) tNil)) (gName 2) tYes (tIndexF (tVar 1) (tCons (tVar 2) tNil)) [2]) tNil)
def bk (q : Nat) (c : List Int) : List Int := (List.range q).map fun (i : Nat) => ((c.idxOf (i : Int) : Nat) : Int)
theorem bk_inv {q : Nat} {c : List Int} (h : IsP q c) : InvOf q c (bk q c) := by
  refine ⟨by unfold bk; rw [List.length_map, List.length_range], fun i hi => ?_⟩
  have m : (i : Int) ∈ c := h.mem.mpr ⟨by omega, by omega⟩
  have lt := List.idxOf_lt_length_of_mem m
  refine ⟨c.idxOf (i : Int), by have := h.len; omega, ?_, ?_⟩
  · unfold bk
    rw [List.getD_eq_getElem?_getD, List.getElem?_map, List.getElem?_range hi]
    rfl
  · rw [getD_getElem lt]
    exact List.getElem_idxOf lt
theorem ok_back {f : Addr} {fd : FuncData} {k : Nat} (F : Fun K "_law_back" "_law_back" sBack f fd) (mt : mg "tuple" = none) (mr : mg "range" = none) (ml : mg "len" = none) : FnOk P w K mg base CX0 (k + 1) f fd ["_law_turns_here"] (spBack K) := by
  refine F.ok scBack (fun vs H Q E h => ?_) (fun cdv A outer s H vs Q E hr h => ?_)
  · obtain ⟨q, t, tl, rfl, _⟩ := h
    rfl
  · obtain ⟨q, t, tl, rfl, h7, hT, k⟩ := h
    have nd := scBack.nd
    refine ⟨_, pss_one (ps_ret (pe_callTy call_tuple_of (by rfl) mt (by decide +kernel) (pa_cons
      (pe_lc (own := [("_law_turn", 1)]) (g := gName 1) (tt := tYes) (te := teBk K) rfl nd (pi_tup (pv 0))
        (blkOk_by (own := [("_law_turn", 1)]) (N := NBk) (sc := defScope sBack) (by decide +kernel))
        (fun _ _ _ _ _ => pg_name (i := 1) nd rfl (.inr rfl)) (fun _ _ _ _ _ => pts_nil)
        (fun _ _ _ _ _ => pe_callTy call_tuple_of (by rfl) mt (by decide +kernel) (pa_cons
          (pe_lc (own := [("_law_place", 2)]) (g := gName 2) (tt := tYes) (te := tIndexF (tVar 1) (tCons (tVar 2) tNil)) rfl nd (pi_range1 (by rfl) mr (pa_cons (pe_callB call_len_seq (by rfl) ml PySem.boot_len (pa_cons (pv 1) pa_nil)) pa_nil)) (blkOk_by (own := [("_law_place", 2)]) (N := NBk) (sc := scBkT) (by decide +kernel))
            (fun _ _ _ _ _ => pg_name (i := 2) nd rfl (.inl rfl)) (fun _ _ _ _ _ => pts_nil) (fun _ _ _ _ _ => pe_indexF (pv 1) (pa_cons (pv 2) pa_nil))) pa_nil))) pa_nil))), ?_⟩
    refine ⟨.ref t, rfl, t, rfl, ⟨_, hT.at_⟩, fun D nD => ?_⟩
    refine lc_tup (xs := refs tl) (fun i G => ∃ ul : List (Addr × List Int), Same H G ∧ G D = some (.lst (refs ul)) ∧ Cells G ul ∧ ul.map (·.2) = (tl.take i).map fun c => bk q c.2) ⟨[], same_upd nD, upd_same, fun c hc => (by cases hc), rfl⟩ ?_ ?_ ?_
    · rintro i G _ ⟨os, sm, _⟩
      exact sameT sm hT.at_
    · rintro i x G hx ⟨ul, sm, hD, hul, e⟩
      obtain ⟨hi, rfl⟩ := ref_at hx
      obtain ⟨Tc, hc⟩ := hT.cf tl[i] (List.getElem_mem hi)
      replace Tc := Tc.same sm
      have lc := hc.len
      have ll : (((tl[i].2.map V.int).length : Nat) : Int) = (q : Int) := by rw [List.length_map, lc]
      refine ⟨rfl, .ref tl[i].1, rfl, tl[i].1, _, rfl, .inr Tc.sq, _, rfl, by omega, by omega, fun D2 nD2 => ?_⟩
      rw [ll]
      refine lc_range (lo := 0) (n := q) (fun m G2 => Same G G2 ∧ G2 D2 = some (.lst (((bk q tl[i].2).take m).map V.int))) ⟨same_upd nD2, upd_same⟩ ?_ ?_
      · rintro m G2 hm ⟨s2, hD2⟩
        rw [Int.zero_add]
        refine ⟨rfl, .ref tl[i].1, rfl, tl[i].1, _, rfl, Tc.same s2, .int (m : Int), rfl, _, rfl, Tc.same s2, hc.mem.mpr ⟨by omega, by omega⟩, _, hD2, ?_, ?_, ?_⟩
        · rw [List.length_map, List.length_take]
          exact Nat.lt_of_le_of_lt (Nat.min_le_left _ _) (Nat.lt_of_lt_of_le (show m < 1000 by omega) (by decide))
        · intro b o eb
          rw [upd_ne (ne_of_none eb nD2)]
          exact s2 _ _ eb
        · rw [upd_same]
          have g : (bk q tl[i].2)[m]? = some ((tl[i].2.idxOf (m : Int) : Nat) : Int) := by
            unfold bk
            rw [List.getElem?_map, List.getElem?_range hm]
            rfl
          rw [List.take_add_one, g, List.map_append]
          rfl
      · rintro G2 ⟨s2, hD2⟩
        have lb : (bk q tl[i].2).length = q := (bk_inv hc).len
        rw [List.take_of_length_le (by omega)] at hD2
        refine ⟨D2, _, rfl, .inl ⟨.inl (.inl hD2), fun T nT => ?_⟩⟩
        have s3 := s2.trans (same_upd (o := .tup ((bk q tl[i].2).map V.int)) nT)
        have nTG : G T = none := s2.free nT
        have hne : T ≠ D := fun z => by rw [z, hD] at nTG; cases nTG
        have lo : ul.length = i := by
          have e1 : ul.length = (ul.map (·.2)).length := (List.length_map _).symm
          rw [e1, e, List.length_map, List.length_take]
          omega
        have lt := hT.ln
        refine ⟨refs ul, s3 _ _ hD, ?_, ul ++ [(T, bk q tl[i].2)], ?_, ?_, ?_, ?_⟩
        · rw [List.length_map]
          exact Nat.lt_of_lt_of_le (show ul.length < 1000 by omega) (by decide)
        · intro b o eb
          rw [upd_ne (ne_of_none eb nD)]
          exact s3 _ _ (sm _ _ eb)
        · rw [upd_same]
          show _ = some (HO.lst (List.map _ (ul ++ [_])))
          rw [List.map_append]
          rfl
        · intro c hc'
          rcases List.mem_append.mp hc' with hc' | hc'
          · have hh := hul c hc'
            rw [upd_ne (ne_of hh hD (by intro z; cases z))]
            exact s3 _ _ hh
          · rw [List.mem_singleton] at hc'
            subst hc'
            rw [upd_ne hne]
            exact upd_same
        · rw [List.map_append, e, List.take_add_one, List.getElem?_eq_getElem hi, List.map_append]
          rfl
    · rintro G ⟨ul, sm, hD, hul, e⟩
      rw [List.take_of_length_le (by rw [List.length_map]; exact Nat.le_refl _)] at e
      have lu : ul.length = q := by
        have e1 : ul.length = (ul.map (·.2)).length := (List.length_map _).symm
        rw [e1, e, List.length_map]
        exact hT.ln
      have gt : ∀ l, l < q → ∃ c ∈ tl, (tl.map (fun c : Addr × List Int => c.2)).getD l [] = c.2 ∧ (ul.map (fun c : Addr × List Int => c.2)).getD l [] = bk q c.2 := by
        intro l hl
        have hl' : l < tl.length := by have := hT.ln; omega
        refine ⟨tl[l], List.getElem_mem hl', ?_, ?_⟩
        · rw [List.getD_eq_getElem?_getD, List.getElem?_map, List.getElem?_eq_getElem hl']
          rfl
        · rw [e, List.getD_eq_getElem?_getD, List.getElem?_map, List.getElem?_eq_getElem hl']
          rfl
      refine ⟨D, _, rfl, .inl ⟨.inl (.inl hD), fun t' nt => ?_⟩⟩
      refine k _ t' ul (sm.trans (same_upd nt)) ⟨.inl (.inl upd_same), fun c hc => ⟨.inl (.inl (same_upd nt _ _ (hul c hc))), ?_⟩, lu⟩ fun l hl => ?_
      · have m : c.2 ∈ ul.map (·.2) := List.mem_map.mpr ⟨c, hc, rfl⟩
        rw [e] at m
        obtain ⟨d, hd, ed⟩ := List.mem_map.mp m
        rw [← ed]
        exact (bk_inv (hT.cf d hd).2).isP (hT.cf d hd).2
      · obtain ⟨c, hc, e1, e2⟩ := gt l hl
        rw [e1, e2]
        exact bk_inv (hT.cf c hc).2
end
end C2

namespace C2
set_option Elab.async false
set_option linter.all false
set_option maxRecDepth 100000
set_option maxHeartbeats 4000000
open PySem PySem.Spec PyProof.Rows L2
/-! ### calls of defs that call repr -/
section
variable {X : Cx} {k : Nat} {f : Addr} {fd : FuncData} {ps : List Str} {sp : Sp}
theorem run_fnG {pins : List (Addr × Obj)} {σ : L2.St} {G : Hp} {s : Shared} {Q : VK} {us : List Value} {vs : List V} (F : FnG X.prog X.w X.K X.mg X.base k f fd ps sp) (hgd : X.A.guards = some []) (hr : Room k X.A) (hb : Binds X.K fd ps [])
    (I : Inv X pins σ G s) (r : Vals vs us) (h : sp vs G Q E0) : wpAny (model X.prog X.w) X.A (call (.ref f) us) (EP X pins σ Q) X.xe s := by
  have ln : us.length = ps.length := by rw [← r.length]; exact F.len _ _ _ _ h
  have hb' := hb s us I.kIn (by simpa using ln)
  simp only [List.append_nil] at hb'
  refine wpAny_call (codeAny_mono (F.run X.A X.stack s G ⟨us, []⟩ us vs Q E0 hgd hr I.env0 hb' r h) fun r s' hq => ?_)
  cases r with
  | error err => exact hq.elim
  | ok fl => cases fl with
    | ret u => exact I.after hq
    | next => exact False.elim hq
    | brk => exact False.elim hq
    | cont => exact False.elim hq
theorem pe_callG {x : Str} {e : Expr} {es : List Expr} {t : TA} {p pos : Pos} (F : FnG X.prog X.w X.K X.mg X.base k f fd ps sp) (hgd : X.A.guards = some []) (hr : Room k X.A) (hg : Gl X x) (hm : X.mg x = some (.ref f)) (hk : PySem.W.keepIn X.K (.ref f) = true) (hb : Binds X.K fd ps []) (ha : PA X (e :: es) t)
    (plainName : (x == ("__debug__" : Str)) = false := by decide)
    (plainArgs : starEach (e :: es) X.env = (false, eval e X.env) :: starEach es X.env := by rfl)
    (noStar : (backTo pos (starEach es X.env)).any (·.1) = false := by rfl) :
    PE X (.Call (.Name x p) (e :: es) [] pos) (fun σ G Q => t σ G fun vs G1 => sp vs G1 Q E0) := by
  refine ⟨fun pins s σ G Q I h => wpAny_Call_Name_kw (ld_glob I hg hm ?_ plainName)⟩
  exact PySem.W.callWith_K (h₀ := X.base) I.ok.mod.kin hk (thn (ha.run pos pins s σ G _ I h) fun us s1 ⟨vs, G1, I1, r, q⟩ => ⟨I1.kIn, run_fnG F hgd hr hb I1 r q⟩) plainArgs noStar
end
theorem plain_lists : ∀ L : List (List Int), (∀ x ∈ L, x.length ≤ 7 ∧ ∀ v ∈ x, 0 ≤ v ∧ v < 7) → Plain (L.map dT) 1 (29 * L.length)
  | [], _ => Plain.nil 1
  | x :: r, h => by
    have h1 := (plain_ints x (h x List.mem_cons_self).2).tup
    have h2 := plain_lists r fun y hy => h y (List.mem_cons_of_mem _ hy)
    have h3 := h1.cons h2
    have l7 := (h x List.mem_cons_self).1
    have z : PyData.weightAll (List.map dT (x :: r)) ≤ 4 * x.length + 1 + 29 * r.length := h3.wt
    exact ⟨h3.sh, h3.hd, h3.ls, h3.dp, by rw [List.length_cons]; omega, h3.cl⟩
theorem TurnsAt.dp {K : PySem.W.Frag} {q : Nat} {G : Hp} {t : Addr} {tl : List (Addr × List Int)} (h : TurnsAt K q G t tl) : Dp K G (.ref t) (dTT (tl.map (·.2))) := .tup h.at_ (dpCells tl fun c hc => (h.ce c hc).1)
theorem TurnsAt.fine {K : PySem.W.Frag} {q : Nat} {G : Hp} {t : Addr} {tl : List (Addr × List Int)} (h : TurnsAt K q G t tl) (h7 : q ≤ 7) : Fine (dTT (tl.map (·.2))) := by
  have p := (plain_lists (tl.map (·.2)) fun x hx => by
    obtain ⟨c, hc, rfl⟩ := List.mem_map.mp hx
    have ip := (h.ce c hc).2
    refine ⟨by rw [ip.len]; exact h7, fun v hv => ?_⟩
    have := ip.mem.mp hv
    omega).tup
  have l := h.ln
  exact p.fine (by decide) (by rw [List.length_map]; omega)
theorem tab_of {K : PySem.W.Frag} {q : Nat} {f : Nat → Nat → Nat × Nat} {G : Hp} {t : Addr} {cs : List (Addr × List Int)} (L : Latin q f) (h7 : q ≤ 7) (ht : G t = some (.tup (refs cs))) (hc : Cells G cs) (e : cs.map (·.2) = bqs q f) : TabAt K G t cs ∧ Good q (cs.map (·.2)) ∧ Srt (cs.map (·.2)) := by
  have g : Good q (cs.map (·.2)) := by rw [e]; exact good_bqs L
  have s : Srt (cs.map (·.2)) := by rw [e]; exact srt_bqs h7 L.lt1 L.lt2
  have l : cs.length = q * q := by
    have e1 : cs.length = (cs.map (·.2)).length := (List.length_map _).symm
    rw [e1, g.len]
  have q49 : q * q ≤ 49 := Nat.mul_le_mul h7 h7
  exact ⟨⟨.inl (.inl ht), fun c h => .inl (.inl (hc c h)), g.inR h7, by omega⟩, g, s⟩
theorem turns_latin {K : PySem.W.Frag} {q : Nat} {G : Hp} {t : Addr} {tl : List (Addr × List Int)} {way : Int} (h : TurnsAt K q G t tl) (h2 : 2 ≤ q) (h7 : q ≤ 7) (hw : way = 0 ∨ way = 1) : Latin q (fway way (tl.map (·.2)) 1 0 q) :=
  latin_way h2 h7 (by omega) (fun _ => ⟨by rw [List.length_map]; exact h.ln, fun x hx => by
    obtain ⟨c, hc, rfl⟩ := List.mem_map.mp hx
    exact (h.ce c hc).2⟩) (by decide)
abbrev q2s (cs : List (Addr × List Int)) : List (List Int) := cs.map fun c => c.2
def DueI (q : Nat) (ts : List (List Int)) (H : Hp) (D : Addr) (i : Nat) (G : Hp) : Prop := Same H G ∧ match i with
  | 0 => G D = some (.lst [])
  | 1 => ∃ a ca, G D = some (.lst [.ref a]) ∧ G a = some (.tup (refs ca)) ∧ Cells G ca ∧ ca.map (·.2) = bqs q (fway 0 ts 1 0 q)
  | _ => ∃ a ca b cb, G D = some (.lst [.ref a, .ref b]) ∧ G a = some (.tup (refs ca)) ∧ Cells G ca ∧ ca.map (·.2) = bqs q (fway 0 ts 1 0 q) ∧ G b = some (.tup (refs cb)) ∧ Cells G cb ∧ cb.map (·.2) = bqs q (fway 1 ts 1 0 q)
abbrev NRi : List Str := ["_law_q", "_law_turns_here", "_law_held", "_law_made", "_law_due", "_law_word", "_law_one"]
theorem scRight : FnScope NRi ["_law_q", "_law_turns_here"] (defScope sRight) := ⟨rfl, rfl, rfl, by decide +kernel, rfl, by decide +kernel, by decide +kernel⟩
section
variable {P : Program} {w : World} {K : PySem.W.Frag} {mg : Str → Option Value} {base : Heap}
def spRight (K : PySem.W.Frag) : Sp := fun vs H Q _ => ∃ (q : Nat) (t : Addr) (tl : List (Addr × List Int)), vs = [.int (q : Int), .ref t] ∧ 2 ≤ q ∧ q ≤ 7 ∧ TurnsF K q H t tl ∧ ∀ H', Same H H' → Q (.bl true) H'
def teDue (K : PySem.W.Frag) : TE := tCall (spQuads K) [] E0 (tCons (tVar 0) (tCons (tVar 1) (tCons (tVar 5) tNil)))
def teIs : TE := tCall (spIsTable K) [] E0 (tCons (tVar 0) (tCons (tVar 6) tNil))
theorem ok_right {f fPu fLi fTu fBk fQs fW fI : Addr} {fd fdPu fdLi fdTu fdBk fdQs fdW fdI : FuncData} (F : Fun K "_law_right" "_law_right" sRight f fd) (FPu : Fun K "pushed" "pushed" sPushed fPu fdPu) (FLi : Fun K "lifted" "lifted" sLifted fLi fdLi) (FTu : Fun K "turned" "turned" sTurned fTu fdTu) (FBk : Fun K "_law_back" "_law_back" sBack fBk fdBk) (FQs : Fun K "_law_quads" "_law_quads" sQuads fQs fdQs) (FW : Fun K "_law_is_whole" "_law_is_whole" sWhole fW fdW) (FI : Fun K "_law_is_table" "_law_is_table" sIsTable fI fdI)
    (bPu : Binds K fdPu ["q", "turns"] []) (bLi : Binds K fdLi ["q", "turns"] []) (bTu : Binds K fdTu ["table"] []) (bBk : Binds K fdBk ["_law_turns_here"] []) (bQs : Binds K fdQs ["_law_q", "_law_turns_here", "_law_word"] []) (bW : Binds K fdW ["_law_thing", "_law_below"] []) (bI : Binds K fdI ["_law_q", "_law_thing"] [])
    (gPu : mg "pushed" = some (.ref fPu)) (gLi : mg "lifted" = some (.ref fLi)) (gTu : mg "turned" = some (.ref fTu)) (gBk : mg "_law_back" = some (.ref fBk)) (gQs : mg "_law_quads" = some (.ref fQs)) (gW : mg "_law_is_whole" = some (.ref fW)) (gI : mg "_law_is_table" = some (.ref fI))
    (ml : mg "len" = none) (mlist : mg "list" = none) (mr : mg "range" = none) (mtuple : mg "tuple" = none) (ms : mg "sorted" = none) (mrep : mg "repr" = none) (mi : mg "isinstance" = none) (mint : mg "int" = none) (mbool : mg "bool" = none) (mall : mg "all" = none) (mset : mg "set" = none) :
    FnG P w K mg base 3 f fd ["_law_q", "_law_turns_here"] (spRight K) := by
  have GPu : FnOk P w K mg base CX0 1 fPu fdPu ["q", "turns"] (spPush K 0) := ok_pushed FPu mtuple mr
  have GLi : FnOk P w K mg base CX0 1 fLi fdLi ["q", "turns"] (spPush K 1) := ok_lifted FLi mtuple mr
  have GTu : FnOk P w K mg base CX0 1 fTu fdTu ["table"] (spLed pT K) := ok_turned FTu mtuple ms
  have GBk : FnOk P w K mg base CX0 1 fBk fdBk ["_law_turns_here"] (spBack K) := ok_back FBk mtuple mr ml
  have GQs : FnOk P w K mg base CX0 1 fQs fdQs ["_law_q", "_law_turns_here", "_law_word"] (spQuads K) := ok_quads FQs mtuple mr
  have GI : FnOk P w K mg base CX0 2 fI fdI ["_law_q", "_law_thing"] (spIsTable K) := ok_istable FI FW bW gW mi mint mbool mtuple ml mall mlist ms mset mr
  refine okG F scRight (fun vs H Q E h => ?_) (fun cdv A outer s H vs Q E hgd hr h => ?_)
  · obtain ⟨q, t, tl, rfl, _⟩ := h
    rfl
  · obtain ⟨q, t, tl, rfl, h2, h7, hT, k⟩ := h
    have nd := scRight.nd
    refine ⟨_, pss_cons (ps_par (i := 2) (j := 3) (by rfl) nd rfl rfl (by decide) rfl rfl (pa_cons (pe_callB (call_reprD hr.units hgd) (by rfl) mrep (by decide +kernel) (pa_cons (pv 1) pa_nil)) (pa_cons (pe_lst (pa_cons (pe_call GPu (hr.mono (by decide)) (by rfl) gPu FPu.kp bPu .nil pass0 (pa_cons (pv 0) (pa_cons (pv 1) pa_nil))) (pa_cons (pe_call GLi (hr.mono (by decide)) (by rfl) gLi FLi.kp bLi .nil pass0 (pa_cons (pv 0) (pa_cons (pv 1) pa_nil))) pa_nil))) pa_nil)) (by rfl))
      (pss_cons (ps_setLc (i := 4) (own := [("_law_word", 5)]) (g := gName 5) (tt := tYes) (te := teDue K) rfl nd rfl rfl (sw_true rfl rfl rfl (by decide +kernel)) (pi_tup (pe_tup (pa_cons pe_str (pa_cons pe_str pa_nil)))) (blkOk_by (own := [("_law_word", 5)]) (N := NRi) (sc := defScope sRight) (by decide +kernel)) (fun _ _ _ _ _ => pg_name (i := 5) nd rfl (Or.inl rfl)) (fun _ _ _ _ _ => pts_nil) (fun _ _ _ _ _ => (pe_call GQs (hr.mono (by decide)) (by rfl) gQs FQs.kp bQs .nil pass0 (pa_cons (pv 0) (pa_cons (pv 1) (pa_cons (pv 5) pa_nil))))))
      (pss_cons (ps_if (PW.pt (pw_or (pt_cmpR op_ne (pe_callB (call_reprD hr.units hgd) (by rfl) mrep (by decide +kernel) (pa_cons (pv 3) pa_nil)) (pe_callB (call_reprD hr.units hgd) (by rfl) mrep (by decide +kernel) (pa_cons (pv 4) pa_nil)) (nomark _)) (pw_or1 (pt_cmpR op_ne (pe_callB (call_reprD hr.units hgd) (by rfl) mrep (by decide +kernel) (pa_cons (pv 1) pa_nil)) (pv 2) (nomark _))))) (pss_one (ps_ret pe_bl)) pss_nil)
      (pss_cons (ps_if (pt_not (pt_val (pe_callB (cr_all rfl) (by rfl) mall (by decide +kernel) (pa_cons (pe_lc (own := [("_law_one", 6)]) (g := gName 6) (tt := tYes) (te := teIs (K := K)) rfl nd (pi_list (pv 3)) (blkOk_by (own := [("_law_one", 6)]) (N := NRi) (sc := defScope sRight) (by decide +kernel)) (fun _ _ _ _ _ => pg_name (i := 6) nd rfl (.inl rfl)) (fun _ _ _ _ _ => pts_nil) (fun _ _ _ _ _ => (pe_call GI hr (by rfl) gI FI.kp bI .nil pass0 (pa_cons (pv 0) (pa_cons (pv 6) pa_nil))))) pa_nil)))) (pss_one (ps_ret pe_bl)) pss_nil)
      (pss_one (ps_ret (pe_and (pe_cmpR (op_eqD hr.units) (pe_call GTu (hr.mono (by decide)) (by rfl) gTu FTu.kp bTu .nil pass0 (pa_cons (pe_ix ix_list (pv 3) pe_int (fun _ _ => rfl)) pa_nil)) (pe_ix ix_list (pv 3) pe_int (fun _ _ => rfl)) (nomark _)) (pe_one (pe_cmpR (op_eqD hr.units) (pe_call GTu (hr.mono (by decide)) (by rfl) gTu FTu.kp bTu .nil pass0 (pa_cons (pe_ix ix_list (pv 3) pe_int (fun _ _ => rfl)) pa_nil)) (pe_call GPu (hr.mono (by decide)) (by rfl) gPu FPu.kp bPu .nil pass0 (pa_cons (pv 0) (pa_cons (pe_call GBk (hr.mono (by decide)) (by rfl) gBk FBk.kp bBk .nil pass0 (pa_cons (pv 1) pa_nil)) pa_nil))) (nomark _))))))))), ?_⟩
    have TA := hT.toAt
    have FT := TA.fine h7
    have LA : Latin q (fway 0 (tl.map (·.2)) 1 0 q) := turns_latin TA h2 h7 (.inl rfl)
    have LB : Latin q (fway 1 (tl.map (·.2)) 1 0 q) := turns_latin TA h2 h7 (.inr rfl)
    refine ⟨.ref t, rfl, t, _, rfl, TA.dp, FT.sh, FT.hd, FT.dp, FT.ln, ?_⟩
    refine ⟨.int (q : Int), rfl, .ref t, rfl, q, t, tl, rfl, h7, TA, fun G1 p1 c1 s1 hp1 hc1 e1 => ?_⟩
    refine ⟨.int (q : Int), rfl, .ref t, rfl, q, t, tl, rfl, h7, TA.same s1, fun G2 p2 c2 s2 hp2 hc2 e2 => ?_⟩
    refine ⟨by show 2 ≤ sizeLine; decide, fun m nm => ⟨_, _, rfl, ?_⟩⟩
    obtain ⟨T1, g1, r1⟩ := tab_of (K := K) LA h7 hp1 hc1 e1
    obtain ⟨T2, g2, r2⟩ := tab_of (K := K) LB h7 hp2 hc2 e2
    have s3 := same_upd (o := .lst [.ref p1, .ref p2]) nm
    refine ⟨by show 2 ≤ sizeLine; decide, fun tw ntw => ?_⟩
    have s4 := same_upd (o := .tup [.str "pushed", .str "lifted"]) ntw
    have s34 := s3.trans s4
    have s14 := s1.trans (s2.trans s34)
    have M4 := s4 _ _ (upd_same (H := G2) (a := m) (o := .lst [.ref p1, .ref p2]))
    have U1 := T1.same (s2.trans s34)
    have U2 := T2.same s34
    refine ⟨tw, rfl, ⟨_, .inl (.inl upd_same)⟩, fun D nD => ?_⟩
    refine lc_tup (xs := [.str "pushed", .str "lifted"]) (DueI q (tl.map (·.2)) (upd (upd G2 m (.lst [.ref p1, .ref p2])) tw (.tup [.str "pushed", .str "lifted"])) D) ⟨same_upd nD, upd_same⟩ (fun i G _ h => sameT h.1 (.inl (.inl upd_same))) ?_ ?_
    · intro i x G hx hI
      match i, hx, hI with
      | 0, hx, ⟨sm, hD⟩ =>
        obtain rfl : V.str "pushed" = x := Option.some.inj hx
        refine ⟨rfl, .int (q : Int), rfl, .ref t, rfl, .str "pushed", rfl, q, t, "pushed", tl, _, rfl, h7, TA.same (s14.trans sm), .inr (.inl ⟨rfl, rfl⟩), fun G' a ca sa ha hca ea => ?_⟩
        have hD' := sa _ _ hD
        refine ⟨[], hD', by show 0 < sizeLine; decide, fun b o eb => ?_, a, ca, upd_same, ?_, fun c hc => ?_, ea⟩
        · rw [upd_ne (ne_of_none eb nD)]
          exact sa _ _ (sm _ _ eb)
        · rw [upd_ne (ne_of ha hD' (by intro z; cases z))]
          exact ha
        · rw [upd_ne (ne_of (hca c hc) hD' (by intro z; cases z))]
          exact hca c hc
      | 1, hx, ⟨sm, a, ca, hD, ha, hca, ea⟩ =>
        obtain rfl : V.str "lifted" = x := Option.some.inj hx
        refine ⟨rfl, .int (q : Int), rfl, .ref t, rfl, .str "lifted", rfl, q, t, "lifted", tl, _, rfl, h7, TA.same (s14.trans sm), .inr (.inr ⟨rfl, rfl⟩), fun G' b cb sa hb hcb eb' => ?_⟩
        have hD' := sa _ _ hD
        refine ⟨[.ref a], hD', by show 1 < sizeLine; decide, fun b o eb => ?_, a, ca, b, cb, upd_same, ?_, fun c hc => ?_, ea, ?_, fun c hc => ?_, eb'⟩
        · rw [upd_ne (ne_of_none eb nD)]
          exact sa _ _ (sm _ _ eb)
        · rw [upd_ne (ne_of (sa _ _ ha) hD' (by intro z; cases z))]
          exact sa _ _ ha
        · rw [upd_ne (ne_of (sa _ _ (hca c hc)) hD' (by intro z; cases z))]
          exact sa _ _ (hca c hc)
        · rw [upd_ne (ne_of hb hD' (by intro z; cases z))]
          exact hb
        · rw [upd_ne (ne_of (hcb c hc) hD' (by intro z; cases z))]
          exact hcb c hc
      | i + 2, hx, _ => simp at hx
    rintro G5 ⟨sm, a, ca, b, cb, hD, ha, hca, ea, hb, hcb, eb⟩
    obtain ⟨A5, _, _⟩ := tab_of (K := K) LA h7 ha hca ea
    obtain ⟨B5, _, _⟩ := tab_of (K := K) LB h7 hb hcb eb
    have V1 := U1.same sm
    have V2 := U2.same sm
    have M5 := sm _ _ M4
    have fp : ∀ (u v : List (List Int)), Plain [dTT u] 2 1200 → Plain [dTT v] 2 1200 → Fine (.list [dTT u, dTT v]) := fun u v hu hv => (hu.cons hv).lst.fine (by decide) (by decide)
    have d1 : Dp K G5 (.ref m) (.list [dTT (q2s c1), dTT (q2s c2)]) := .lst (.inl (.inl M5)) (.cons V1.dp (.cons V2.dp .nil))
    have F1 : Fine (.list [dTT (q2s c1), dTT (q2s c2)]) := fp _ _ V1.pl V2.pl
    have d2 : Dp K G5 (.ref D) (.list [dTT (q2s ca), dTT (q2s cb)]) := .lst (.inl (.inl hD)) (.cons A5.dp (.cons B5.dp .nil))
    have F2 : Fine (.list [dTT (q2s ca), dTT (q2s cb)]) := fp _ _ A5.pl B5.pl
    have ue : (PyData.list [dTT (q2s c1), dTT (q2s c2)]) = .list [dTT (q2s ca), dTT (q2s cb)] := by
      show PyData.list [dTT (c1.map (·.2)), dTT (c2.map (·.2))] = .list [dTT (ca.map (·.2)), dTT (cb.map (·.2))]
      rw [e1, e2, ea, eb]
    refine ⟨.ref m, rfl, m, _, rfl, d1, F1.sh, F1.hd, F1.dp, F1.ln, ?_⟩
    refine ⟨.ref D, rfl, D, _, rfl, d2, F2.sh, F2.hd, F2.dp, F2.ln, rfl, _, rfl, iteNS (congrArg (fun d => V.str (PyData.shown d)) ue) ?_⟩
    refine ⟨.ref t, rfl, t, _, rfl, (TA.same (s14.trans sm)).dp, FT.sh, FT.hd, FT.dp, FT.ln, _, rfl, rfl, _, rfl, iteNS rfl ?_⟩
    -- tables
    have M5' : SqL K G5 m [.ref p1, .ref p2] := .inl (.inl M5)
    refine ⟨.ref m, rfl, m, rfl, ⟨_, M5'⟩, fun D2 nD2 => ?_⟩
    refine lc_list (xs := [.ref p1, .ref p2]) (fun i G => Same G5 G ∧ G D2 = some (.lst ((List.replicate i true).map V.bl))) ⟨same_upd nD2, upd_same⟩ (fun i G _ h => h.1.seq M5') ?_ ?_
    · rintro i x G hx ⟨s', hD2⟩
      have pick : ∃ p c, x = .ref p ∧ TabAt K G5 p c ∧ Good q (c.map (·.2)) ∧ Srt (c.map (·.2)) ∧ i < 2 := by
        match i, hx with
        | 0, hx => exact ⟨p1, c1, (Option.some.inj hx).symm, V1, g1, r1, by decide⟩
        | 1, hx => exact ⟨p2, c2, (Option.some.inj hx).symm, V2, g2, r2, by decide⟩
        | i + 2, hx => simp at hx
      obtain ⟨p, c, rfl, Tp, gp, rp, hi⟩ := pick
      refine ⟨rfl, .int (q : Int), rfl, .ref p, rfl, q, p, c, rfl, h7, Tp.same s', gp, rp, fun G' s'' => ⟨_, s'' _ _ hD2, ?_, all_step (s'.trans s'') nD2⟩⟩
      rw [List.length_map, List.length_replicate]
      exact Nat.lt_of_lt_of_le (show i < 1000 by omega) (by decide)
    rintro G6 ⟨s6, hD2⟩
    refine ⟨D2, List.replicate 2 true, rfl, .inl (.inl hD2), _, rfl, ?_⟩
    rw [all_rep]
    refine iteF ?_
    have M6 := s6.seq M5'
    have W1 := V1.same s6
    have W2 := V2.same s6
    -- turned
    refine ⟨.ref m, rfl, m, _, 0, .ref p1, rfl, rfl, M6, rfl, p1, c1, rfl, W1, fun G7 a7 w7 s7 A7 K7 => ?_⟩
    have f7 : Fine (dTT (w7.map (·.2))) := A7.pl.fine (by decide) (by decide)
    have f2 : Fine (dTT (c2.map (·.2))) := W2.pl.fine (by decide) (by decide)
    refine ⟨.ref m, rfl, m, _, 1, .ref p2, rfl, rfl, s7.seq M6, rfl, _, _, A7.dp, (W2.same s7).dp, f7.sp, f2.sp, _, rfl, ?_⟩
    have u7 : w7.map (·.2) = c2.map (·.2) := by
      refine srt_uniq ?_ K7.st r2 W2.rg
      have z := K7.pm
      rw [e1] at z
      rw [e2]
      exact z.trans (push_turn _ q).symm
    rw [eqvTT, decide_eq_true u7]
    refine iteT ?_
    refine ⟨.ref m, rfl, m, _, 1, .ref p2, rfl, rfl, s7.seq M6, rfl, p2, c2, rfl, W2.same s7, fun G8 a8 w8 s8 A8 K8 => ?_⟩
    have sT := s14.trans (sm.trans (s6.trans (s7.trans s8)))
    refine ⟨.int (q : Int), rfl, .ref t, rfl, q, t, tl, rfl, h7, hT.same sT, fun G9 u ul s9 U9 iv => ?_⟩
    have LC : Latin q (fway 0 (ul.map (·.2)) 1 0 q) := turns_latin U9 h2 h7 (.inl rfl)
    refine ⟨q, u, ul, rfl, h7, U9, fun GA v cv sA hv hcv ev => ?_⟩
    obtain ⟨CV, gV, rV⟩ := tab_of (K := K) LC h7 hv hcv ev
    have f8 : Fine (dTT (w8.map (·.2))) := A8.pl.fine (by decide) (by decide)
    have fv : Fine (dTT (cv.map (·.2))) := CV.pl.fine (by decide) (by decide)
    refine ⟨_, _, (A8.same (s9.trans sA)).dp, CV.dp, f8.sp, fv.sp, ?_⟩
    have u8 : w8.map (·.2) = cv.map (·.2) := by
      refine srt_uniq ?_ K8.st rV CV.rg
      have z := K8.pm
      rw [e2] at z
      rw [ev]
      exact z.trans (lift_turn ⟨by rw [List.length_map]; exact hT.ln, fun x hx => by
        obtain ⟨c, hc, rfl⟩ := List.mem_map.mp hx
        exact (hT.cf c hc).2⟩ (by rw [List.length_map]; exact U9.ln) iv).symm
    show Q (V.bl _) GA
    rw [eqvTT, decide_eq_true u8]
    exact k _ (sT.trans (s9.trans sA))
end
end C2

namespace C2
set_option Elab.async false
set_option linter.all false
set_option maxRecDepth 100000
set_option maxHeartbeats 4000000
open PySem PySem.Spec PyProof.Rows L2
theorem latin_thr (q : Nat) : Latin q thr where
  lt1 := fun l w hl hw => hl
  lt2 := fun l w hl hw => hw
  p12 := fun w v hw hv => ⟨v, hv, rfl, fun l' _ y => y⟩
  p23 := fun v u hv hu => ⟨v, u, hv, hu, rfl, rfl, fun l' w' _ _ y1 y2 => ⟨y1, y2⟩⟩
  p30 := fun l u hl hu => ⟨u, hu, rfl, fun w' _ y => y⟩
theorem rep_getD (q : Nat) (c : Addr × List Int) {l : Nat} (h : l < q) : ((List.replicate q c).map (fun c : Addr × List Int => c.2)).getD l [] = c.2 := by
  rw [List.getD_eq_getElem?_getD, List.getElem?_map, List.getElem?_replicate, if_pos h]
  rfl
theorem plain_bqs (q : Nat) (p : Addr) (way : Int) (hw : way = 0 ∨ way = 1) : bqs q (fway way ((List.replicate q (p, rg q)).map (·.2)) 1 0 q) = bqs q thr := by
  refine List.map_congr_left fun x hx => ?_
  obtain ⟨l, w⟩ := x
  obtain ⟨hl, hw'⟩ := prs_mem.mp hx
  show bq (fway way ((List.replicate q (p, rg q)).map (fun c : Addr × List Int => c.2)) 1 0 q) l w = bq thr l w
  have e : fway way ((List.replicate q (p, rg q)).map (fun c : Addr × List Int => c.2)) 1 0 q l w = (l, w) := by
    rcases hw with rfl | rfl
    · show ((((List.replicate q (p, rg q)).map (fun c : Addr × List Int => c.2)).getD w []).getD l 0 |>.toNat, w) = (l, w)
      rw [rep_getD q _ hw', getD_rg hl]
      rfl
    · show (l, (((List.replicate q (p, rg q)).map (fun c : Addr × List Int => c.2)).getD l []).getD w 0 |>.toNat) = (l, w)
      rw [rep_getD q _ hl, getD_rg hw']
      rfl
  unfold bq
  rw [e]
abbrev NL : List Str := ["_law_script", "_law_q", "_law_plain", "_law_due", "_law_k", "_law_pot"]
theorem scLaw : FnScope NL ["_law_script"] (defScope sLaw) := ⟨rfl, rfl, rfl, by decide +kernel, rfl, by decide +kernel, by decide +kernel⟩
def spLaw (K : PySem.W.Frag) : Sp := fun vs H Q _ => ∃ (a : Addr) (ns : List Int), vs = [.ref a] ∧ SqL K H a (ns.map V.int) ∧ ns.length ≤ 63 ∧ ∀ H', Q (.bl true) H'
section
variable {P : Program} {w : World} {K : PySem.W.Frag} {mg : Str → Option Value} {base : Heap}
theorem ok_law {f fD fT fM fTh fPu fLi fTu fBk fQs fW fI fTs fR : Addr} {fd fdD fdT fdM fdTh fdPu fdLi fdTu fdBk fdQs fdW fdI fdTs fdR : FuncData} (F : Fun K "law" "law" sLaw f fd) (FD : Fun K "_law_draws" "_law_draws" sDraws fD fdD) (FT : Fun K "_law_take" "_law_take" sTake fT fdT) (FM : Fun K "_law_mixed" "_law_mixed" sMixed fM fdM)
    (FTh : Fun K "through" "through" sThrough fTh fdTh) (FPu : Fun K "pushed" "pushed" sPushed fPu fdPu) (FLi : Fun K "lifted" "lifted" sLifted fLi fdLi) (FTu : Fun K "turned" "turned" sTurned fTu fdTu) (FBk : Fun K "_law_back" "_law_back" sBack fBk fdBk) (FQs : Fun K "_law_quads" "_law_quads" sQuads fQs fdQs) (FW : Fun K "_law_is_whole" "_law_is_whole" sWhole fW fdW) (FI : Fun K "_law_is_table" "_law_is_table" sIsTable fI fdI) (FTs : Fun K "_law_turns" "_law_turns" sTurns fTs fdTs) (FR : Fun K "_law_right" "_law_right" sRight fR fdR)
    (bD : Binds K fdD ["_law_script", "_law_k"] []) (bT : Binds K fdT ["_law_pot", "_law_many"] []) (bM : Binds K fdM ["_law_pot", "_law_some"] []) (bTh : Binds K fdTh ["q"] []) (bPu : Binds K fdPu ["q", "turns"] []) (bLi : Binds K fdLi ["q", "turns"] []) (bTu : Binds K fdTu ["table"] []) (bBk : Binds K fdBk ["_law_turns_here"] []) (bQs : Binds K fdQs ["_law_q", "_law_turns_here", "_law_word"] []) (bW : Binds K fdW ["_law_thing", "_law_below"] []) (bI : Binds K fdI ["_law_q", "_law_thing"] []) (bTs : Binds K fdTs ["_law_pot", "_law_q"] []) (bR : Binds K fdR ["_law_q", "_law_turns_here"] [])
    (gD : mg "_law_draws" = some (.ref fD)) (gT : mg "_law_take" = some (.ref fT)) (gM : mg "_law_mixed" = some (.ref fM)) (gTh : mg "through" = some (.ref fTh)) (gPu : mg "pushed" = some (.ref fPu)) (gLi : mg "lifted" = some (.ref fLi)) (gTu : mg "turned" = some (.ref fTu)) (gBk : mg "_law_back" = some (.ref fBk)) (gQs : mg "_law_quads" = some (.ref fQs)) (gW : mg "_law_is_whole" = some (.ref fW)) (gI : mg "_law_is_table" = some (.ref fI)) (gTs : mg "_law_turns" = some (.ref fTs)) (gR : mg "_law_right" = some (.ref fR))
    (ml : mg "len" = none) (ma : mg "abs" = none) (mlist : mg "list" = none) (mr : mg "range" = none) (mtuple : mg "tuple" = none) (ms : mg "sorted" = none) (mmax : mg "max" = none) (mmin : mg "min" = none) (mrep : mg "repr" = none) (mi : mg "isinstance" = none) (mint : mg "int" = none) (mbool : mg "bool" = none) (mall : mg "all" = none) (mset : mg "set" = none) :
    FnG P w K mg base 4 f fd ["_law_script"] (spLaw K) := by
  have GD : FnOk P w K mg base CX0 1 fD fdD ["_law_script", "_law_k"] (spDraws K) := ok_draws FD ml ma
  have GT : FnOk P w K mg base CX0 1 fT fdT ["_law_pot", "_law_many"] spTake := ok_take FT
  have GTh : FnOk P w K mg base CX0 1 fTh fdTh ["q"] spThrough := ok_through FTh mtuple mr
  have GPu : FnOk P w K mg base CX0 1 fPu fdPu ["q", "turns"] (spPush K 0) := ok_pushed FPu mtuple mr
  have GLi : FnOk P w K mg base CX0 1 fLi fdLi ["q", "turns"] (spPush K 1) := ok_lifted FLi mtuple mr
  have GQs : FnOk P w K mg base CX0 1 fQs fdQs ["_law_q", "_law_turns_here", "_law_word"] (spQuads K) := ok_quads FQs mtuple mr
  have GTs : FnOk P w K mg base CX0 3 fTs fdTs ["_law_pot", "_law_q"] (spTurns K) := ok_turns FTs FT FM bT bM gT gM ml mlist mr mtuple
  have GR : FnG P w K mg base 3 fR fdR ["_law_q", "_law_turns_here"] (spRight K) := ok_right FR FPu FLi FTu FBk FQs FW FI bPu bLi bTu bBk bQs bW bI gPu gLi gTu gBk gQs gW gI ml mlist mr mtuple ms mrep mi mint mbool mall mset
  refine okG F scLaw (fun vs H Q E h => ?_) (fun cdv A outer s H vs Q E hgd hr h => ?_)
  · obtain ⟨a, ns, rfl, _⟩ := h
    rfl
  · obtain ⟨a, ns, rfl, hS, hlen, q⟩ := h
    have nd := scLaw.nd
    refine ⟨_, pss_cons (ps_for PassesOwn.never rfl (pi_range2 (by rfl) mr (pa_cons pe_int (pa_cons pe_int pa_nil))) (pg_name (i := 1) nd rfl (.inl rfl)) (pss_cons (ps_set (i := 2) nd rfl (.inl rfl) (pe_op op_repT (pe_tup (pa_cons (pe_tupRgF rfl (by rfl) mtuple (prg_1 (by rfl) mr (pv 1))) pa_nil)) (pv 1)))
      (pss_cons (ps_set (i := 3) nd rfl (.inl rfl) (pe_call GQs (hr.mono (by decide)) (by rfl) gQs FQs.kp bQs .nil pass0 (pa_cons (pv 1) (pa_cons (pv 2) (pa_cons pe_str pa_nil)))))
      (pss_one (ps_if (pt_cmpR op_ne (pe_callB (call_reprD hr.units hgd) (by rfl) mrep (by decide +kernel) (pa_cons (pe_lst (pa_cons (pe_call GTh (hr.mono (by decide)) (by rfl) gTh FTh.kp bTh .nil pass0 (pa_cons (pv 1) pa_nil)) (pa_cons (pe_call GPu (hr.mono (by decide)) (by rfl) gPu FPu.kp bPu .nil pass0 (pa_cons (pv 1) (pa_cons (pv 2) pa_nil))) (pa_cons (pe_call GLi (hr.mono (by decide)) (by rfl) gLi FLi.kp bLi .nil pass0 (pa_cons (pv 1) (pa_cons (pv 2) pa_nil))) pa_nil)))) pa_nil)) (pe_callB (call_reprD hr.units hgd) (by rfl) mrep (by decide +kernel) (pa_cons (pe_op op_rep (pe_lst (pa_cons (pv 3) pa_nil)) pe_int) pa_nil)) (nomark _)) (pss_one (ps_ret pe_bl)) pss_nil)))))
      (pss_cons (ps_for PassesOwn.never rfl (pi_range1 (by rfl) mr (pa_cons (pe_callB (call_max2 rfl) (by rfl) mmax (by decide +kernel) (pa_cons pe_int (pa_cons (pe_callB (call_min2 rfl) (by rfl) mmin (by decide +kernel) (pa_cons pe_int (pa_cons (pe_callB call_len_seq (by rfl) ml PySem.boot_len (pa_cons (pv 0) pa_nil)) pa_nil))) pa_nil))) pa_nil)) (pg_name (i := 4) nd rfl (.inl rfl)) (pss_cons (ps_set (i := 5) nd rfl (.inl rfl) (pe_call GD (hr.mono (by decide)) (by rfl) gD FD.kp bD .nil pass0 (pa_cons (pv 0) (pa_cons (pv 4) pa_nil))))
      (pss_cons (ps_set (i := 1) nd rfl (.inl rfl) (pe_op op_add pe_int (pe_call GT (hr.mono (by decide)) (by rfl) gT FT.kp bT .nil pass0 (pa_cons (pv 5) (pa_cons pe_int pa_nil)))))
      (pss_one (ps_if (pt_not (pt_val (pe_callG GR hgd hr (by rfl) gR FR.kp bR (pa_cons (pv 1) (pa_cons (pe_call GTs hr (by rfl) gTs FTs.kp bTs .nil pass0 (pa_cons (pv 5) (pa_cons (pv 1) pa_nil))) pa_nil))))) (pss_one (ps_ret pe_bl)) pss_nil)))))
      (pss_one (ps_ret pe_bl))), ?_⟩
    refine ⟨2, 8, rfl, ⟨by decide, by decide, by decide, by decide⟩, ?_⟩
    refine for_range (lo := 2) (n := 6) (fun i σ G => SqL K G a (ns.map V.int) ∧ ∃ y1 y2 y3 y4 y5, σ = [some (.ref a), y1, y2, y3, y4, y5]) ⟨hS, _, _, _, _, _, rfl⟩ ?_ ?_
    · rintro i σ G hi ⟨hSG, y1, y2, y3, y4, y5, rfl⟩
      rw [show (2 : Int) + (i : Int) = ((2 + i : Nat) : Int) by omega]
      have q2 : 2 ≤ 2 + i := by omega
      have q7 : 2 + i ≤ 7 := by omega
      generalize 2 + i = qn at q2 q7
      refine ⟨.int (qn : Int), rfl, (qn : Int), rfl, RgOk.of_le (by decide) (by omega) (by decide) (by omega), fun pt o1 npt no1 => ⟨by show 1 ≤ sizeLine; decide, fun t1 nt1 => ⟨.int (qn : Int), rfl, t1, (qn : Int), _, rfl, rfl, .inl (.inl upd_same), by simp, by omega, by omega, by show 1 ≤ 1000; decide, fun tp ntp => ?_⟩⟩⟩
      have sA := same_upd (o := .frz o1 (.tup (rgV 0 (qn : Int)))) npt
      have sB := same_upd (o := .tup [.ref pt]) nt1
      have sC := same_upd (o := .tup (List.replicate (qn : Int).toNat [V.ref pt]).flatten) ntp
      have sABC := sA.trans (sB.trans sC)
      have T0 : TurnsAt K qn (upd (upd (upd G pt (.frz o1 (.tup (rgV 0 (qn : Int))))) t1 (.tup [.ref pt])) tp (.tup (List.replicate (qn : Int).toNat [V.ref pt]).flatten)) tp (List.replicate qn (pt, rg qn)) := by
        refine ⟨.inl (.inl ?_), fun c hc => ?_, List.length_replicate⟩
        · rw [← rep_refs qn (pt, rg qn)]
          exact upd_same
        · rw [(List.mem_replicate.mp hc).2]
          refine ⟨?_, List.Perm.refl _⟩
          have tf : TupF _ pt (rgV 0 (qn : Int)) := TupF.same ⟨o1, no1, upd_same⟩ (sB.trans sC)
          have z := tf.sq (K := K)
          show SqT K _ pt ((rg qn).map V.int)
          rw [← rgV_rg]
          exact z
      refine ⟨.int (qn : Int), rfl, .ref tp, rfl, qn, tp, "through", _, _, rfl, q7, T0, .inl ⟨rfl, rfl⟩, fun G1 du cd s1 hdu hcd ed => ?_⟩
      obtain ⟨TD, _, _⟩ := tab_of (K := K) (latin_thr qn) q7 hdu hcd ed
      have T1 := T0.same s1
      refine ⟨.int (qn : Int), rfl, qn, rfl, q7, fun G2 u2 c2 s2 h2 k2 e2 => ?_⟩
      refine ⟨.int (qn : Int), rfl, .ref tp, rfl, qn, tp, _, rfl, q7, T1.same s2, fun G3 u3 c3 s3 h3 k3 e3 => ?_⟩
      refine ⟨.int (qn : Int), rfl, .ref tp, rfl, qn, tp, _, rfl, q7, (T1.same s2).same s3, fun G4 u4 c4 s4 h4 k4 e4 => ?_⟩
      rw [plain_bqs qn pt 0 (.inl rfl)] at e3
      rw [plain_bqs qn pt 1 (.inr rfl)] at e4
      obtain ⟨A2, _, _⟩ := tab_of (K := K) (latin_thr qn) q7 h2 k2 e2
      obtain ⟨A3, _, _⟩ := tab_of (K := K) (latin_thr qn) q7 h3 k3 e3
      obtain ⟨A4, _, _⟩ := tab_of (K := K) (latin_thr qn) q7 h4 k4 e4
      refine ⟨by show 3 ≤ sizeLine; decide, fun l5 n5 => ?_⟩
      have s5 := same_upd (o := .lst [.ref u2, .ref u3, .ref u4]) n5
      have d5 : Dp K (upd G4 l5 (.lst [.ref u2, .ref u3, .ref u4])) (.ref l5) (.list [dTT (q2s c2), dTT (q2s c3), dTT (q2s c4)]) :=
        .lst (.inl (.inl upd_same)) (.cons (A2.same (s3.trans (s4.trans s5))).dp (.cons (A3.same (s4.trans s5)).dp (.cons (A4.same s5).dp .nil)))
      have F5 : Fine (.list [dTT (q2s c2), dTT (q2s c3), dTT (q2s c4)]) := (A2.pl.cons (A3.pl.cons A4.pl)).lst.fine (by decide) (by decide)
      refine ⟨l5, _, rfl, d5, F5.sh, F5.hd, F5.dp, F5.ln, ?_⟩
      refine ⟨.ref du, rfl, by show 1 ≤ sizeLine; decide, fun l6 n6 => ?_⟩
      have s6 := same_upd (o := .lst [.ref du]) n6
      refine ⟨l6, 3, [.ref du], rfl, rfl, upd_same, by decide, by decide, by show 1 * 3 ≤ sizeLine; decide, fun l7 n7 => ?_⟩
      have s7 := same_upd (o := .lst (List.replicate (3 : Int).toNat [V.ref du]).flatten) n7
      have TD7 := TD.same (s2.trans (s3.trans (s4.trans (s5.trans (s6.trans s7)))))
      have d7 : Dp K (upd (upd (upd G4 l5 (.lst [.ref u2, .ref u3, .ref u4])) l6 (.lst [.ref du])) l7 (.lst (List.replicate (3 : Int).toNat [V.ref du]).flatten)) (.ref l7) (.list [dTT (q2s cd), dTT (q2s cd), dTT (q2s cd)]) :=
        .lst (.inl (.inl upd_same)) (.cons TD7.dp (.cons TD7.dp (.cons TD7.dp .nil)))
      have F7 : Fine (.list [dTT (q2s cd), dTT (q2s cd), dTT (q2s cd)]) := (TD.pl.cons (TD.pl.cons TD.pl)).lst.fine (by decide) (by decide)
      have ue : (PyData.list [dTT (q2s c2), dTT (q2s c3), dTT (q2s c4)]) = .list [dTT (q2s cd), dTT (q2s cd), dTT (q2s cd)] := by
        show PyData.list [dTT (c2.map (·.2)), dTT (c3.map (·.2)), dTT (c4.map (·.2))] = .list [dTT (cd.map (·.2)), dTT (cd.map (·.2)), dTT (cd.map (·.2))]
        rw [e2, e3, e4, ed]
      refine ⟨l7, _, rfl, d7, F7.sh, F7.hd, F7.dp, F7.ln, rfl, _, rfl, iteNS (congrArg (fun d => V.str (PyData.shown d)) ue) ?_⟩
      exact ⟨(sABC.trans (s1.trans (s2.trans (s3.trans (s4.trans (s5.trans (s6.trans s7))))))).seq hSG, _, _, _, _, _, rfl⟩
    · rintro σ G0 ⟨hS0, y1, y2, y3, y4, y5, rfl⟩
      refine ⟨.ref a, rfl, a, _, rfl, .inl hS0, 3, _, rfl, 1, _, rfl, _, rfl, ?_, ?_, ?_⟩
      · split <;> split <;> omega
      · rw [List.length_map]
        split <;> split <;> omega
      · refine for_range (lo := 0) (n := _) (fun i σ G => SqL K G a (ns.map V.int) ∧ ∃ y1 y2 y3 y4 y5, σ = [some (.ref a), y1, y2, y3, y4, y5]) ⟨hS0, _, _, _, _, _, rfl⟩ ?_ ?_
        · rintro i σ G hi ⟨hSG, y1, y2, y3, y4, y5, rfl⟩
          have hi3 : i < 3 := by
            rw [List.length_map] at hi
            revert hi
            split <;> split <;> omega
          rw [Int.zero_add]
          refine ⟨.ref a, rfl, .int (i : Int), rfl, a, ns, i, rfl, hSG, by omega, fun H1 p sm1 np hP1 => ?_⟩
          refine ⟨.ref p, rfl, p, 6, 0, rfl, hP1, by decide, by decide, by decide, fun d H2 fr2 hP2 d0 d1 => ⟨_, _, rfl, rfl, ?_⟩⟩
          have eq : (2 : Int) + d = (((2 + d).toNat : Nat) : Int) := by omega
          have q2 : 2 ≤ (2 + d).toNat := by omega
          have q7 : (2 + d).toNat ≤ 7 := by omega
          have eqL : [V.int (2 + d)] = [V.int (((2 + d).toNat : Nat) : Int)] := by rw [← eq]
          refine ⟨.int (2 + d), rfl, .ref p, rfl, .int (2 + d), rfl, p, (2 + d).toNat, 1, by rw [← eq]; rfl, q2, q7, hP2, by decide, fun H3 t tl fr3 T3 => ?_⟩
          have frA : Fr p G H3 := (Fr.same sm1).trans (fr2.trans fr3)
          have hS3 : SqL K H3 a (ns.map V.int) := freshSeq hSG np frA
          refine ⟨(2 + d).toNat, t, tl, by rw [← eq], q2, q7, T3, fun H4 s4 => ⟨true, rfl, iteF ?_⟩⟩
          exact ⟨s4.seq hS3, _, _, _, _, _, rfl⟩
        · rintro σ G ⟨hSG, y1, y2, y3, y4, y5, rfl⟩
          exact q G
end
end C2

namespace C2
set_option Elab.async false
set_option linter.all false
set_option maxRecDepth 100000
set_option maxHeartbeats 4000000
open PySem PySem.Spec PyProof.Rows L2
theorem all_mk {l : PySem.W.OpenLaw} {w : World} {K : PySem.W.Frag} {h : Heap} {mg : Str → Option Value} {fa f1 f2 f3 f4 f5 f6 f7 f8 f9 f10 f11 f12 f13 f14 : Addr} (X : K.In h) (G : h.Ns mainGlobals mg) (hfa : mg "law" = some (.ref fa))
    {od1 an1 od2 an2 od3 an3 od4 an4 od5 an5 od6 an6 od7 an7 od8 an8 od9 an9 od10 an10 od11 an11 od12 an12 od13 an13 od14 an14 : Option Addr} {sl1 sl2 sl3 sl4 sl5 sl6 sl7 sl8 sl9 sl10 sl11 sl12 sl13 sl14 : Array (Option Value)}
    {oc1 kV1 dc1 pm1 cd1 ct1 oc2 kV2 dc2 pm2 cd2 ct2 oc3 kV3 dc3 pm3 cd3 ct3 oc4 kV4 dc4 pm4 cd4 ct4 oc5 kV5 dc5 pm5 cd5 ct5 oc6 kV6 dc6 pm6 cd6 ct6 oc7 kV7 dc7 pm7 cd7 ct7 oc8 kV8 dc8 pm8 cd8 ct8 oc9 kV9 dc9 pm9 cd9 ct9 oc10 kV10 dc10 pm10 cd10 ct10 oc11 kV11 dc11 pm11 cd11 ct11 oc12 kV12 dc12 pm12 cd12 ct12 oc13 kV13 dc13 pm13 cd13 ct13 oc14 kV14 dc14 pm14 cd14 ct14 : Value}
    (a1 : PySem.W.nsIn K mainGlobals "turned" = some (some (.ref f1))) (l1 : K.lookup f1 = some ⟨oc1, od1, .func (PySem.W.fnOf "turned" "turned" (defArgs sTurned) (defBody sTurned) (defScope sTurned) .none kV1 dc1 pm1 an1 cd1 ct1), sl1⟩) (c1 : PySem.W.codeIn K cd1 "turned" = true) (k1 : PySem.W.keepIn K (.ref f1) = true)
    (a2 : PySem.W.nsIn K mainGlobals "through" = some (some (.ref f2))) (l2 : K.lookup f2 = some ⟨oc2, od2, .func (PySem.W.fnOf "through" "through" (defArgs sThrough) (defBody sThrough) (defScope sThrough) .none kV2 dc2 pm2 an2 cd2 ct2), sl2⟩) (c2 : PySem.W.codeIn K cd2 "through" = true) (k2 : PySem.W.keepIn K (.ref f2) = true)
    (a3 : PySem.W.nsIn K mainGlobals "pushed" = some (some (.ref f3))) (l3 : K.lookup f3 = some ⟨oc3, od3, .func (PySem.W.fnOf "pushed" "pushed" (defArgs sPushed) (defBody sPushed) (defScope sPushed) .none kV3 dc3 pm3 an3 cd3 ct3), sl3⟩) (c3 : PySem.W.codeIn K cd3 "pushed" = true) (k3 : PySem.W.keepIn K (.ref f3) = true)
    (a4 : PySem.W.nsIn K mainGlobals "lifted" = some (some (.ref f4))) (l4 : K.lookup f4 = some ⟨oc4, od4, .func (PySem.W.fnOf "lifted" "lifted" (defArgs sLifted) (defBody sLifted) (defScope sLifted) .none kV4 dc4 pm4 an4 cd4 ct4), sl4⟩) (c4 : PySem.W.codeIn K cd4 "lifted" = true) (k4 : PySem.W.keepIn K (.ref f4) = true)
    (a5 : PySem.W.nsIn K mainGlobals "_law_draws" = some (some (.ref f5))) (l5 : K.lookup f5 = some ⟨oc5, od5, .func (PySem.W.fnOf "_law_draws" "_law_draws" (defArgs sDraws) (defBody sDraws) (defScope sDraws) .none kV5 dc5 pm5 an5 cd5 ct5), sl5⟩) (c5 : PySem.W.codeIn K cd5 "_law_draws" = true) (k5 : PySem.W.keepIn K (.ref f5) = true)
    (a6 : PySem.W.nsIn K mainGlobals "_law_take" = some (some (.ref f6))) (l6 : K.lookup f6 = some ⟨oc6, od6, .func (PySem.W.fnOf "_law_take" "_law_take" (defArgs sTake) (defBody sTake) (defScope sTake) .none kV6 dc6 pm6 an6 cd6 ct6), sl6⟩) (c6 : PySem.W.codeIn K cd6 "_law_take" = true) (k6 : PySem.W.keepIn K (.ref f6) = true)
    (a7 : PySem.W.nsIn K mainGlobals "_law_mixed" = some (some (.ref f7))) (l7 : K.lookup f7 = some ⟨oc7, od7, .func (PySem.W.fnOf "_law_mixed" "_law_mixed" (defArgs sMixed) (defBody sMixed) (defScope sMixed) .none kV7 dc7 pm7 an7 cd7 ct7), sl7⟩) (c7 : PySem.W.codeIn K cd7 "_law_mixed" = true) (k7 : PySem.W.keepIn K (.ref f7) = true)
    (a8 : PySem.W.nsIn K mainGlobals "_law_is_whole" = some (some (.ref f8))) (l8 : K.lookup f8 = some ⟨oc8, od8, .func (PySem.W.fnOf "_law_is_whole" "_law_is_whole" (defArgs sWhole) (defBody sWhole) (defScope sWhole) .none kV8 dc8 pm8 an8 cd8 ct8), sl8⟩) (c8 : PySem.W.codeIn K cd8 "_law_is_whole" = true) (k8 : PySem.W.keepIn K (.ref f8) = true)
    (a9 : PySem.W.nsIn K mainGlobals "_law_is_table" = some (some (.ref f9))) (l9 : K.lookup f9 = some ⟨oc9, od9, .func (PySem.W.fnOf "_law_is_table" "_law_is_table" (defArgs sIsTable) (defBody sIsTable) (defScope sIsTable) .none kV9 dc9 pm9 an9 cd9 ct9), sl9⟩) (c9 : PySem.W.codeIn K cd9 "_law_is_table" = true) (k9 : PySem.W.keepIn K (.ref f9) = true)
    (a10 : PySem.W.nsIn K mainGlobals "_law_turns" = some (some (.ref f10))) (l10 : K.lookup f10 = some ⟨oc10, od10, .func (PySem.W.fnOf "_law_turns" "_law_turns" (defArgs sTurns) (defBody sTurns) (defScope sTurns) .none kV10 dc10 pm10 an10 cd10 ct10), sl10⟩) (c10 : PySem.W.codeIn K cd10 "_law_turns" = true) (k10 : PySem.W.keepIn K (.ref f10) = true)
    (a11 : PySem.W.nsIn K mainGlobals "_law_back" = some (some (.ref f11))) (l11 : K.lookup f11 = some ⟨oc11, od11, .func (PySem.W.fnOf "_law_back" "_law_back" (defArgs sBack) (defBody sBack) (defScope sBack) .none kV11 dc11 pm11 an11 cd11 ct11), sl11⟩) (c11 : PySem.W.codeIn K cd11 "_law_back" = true) (k11 : PySem.W.keepIn K (.ref f11) = true)
    (a12 : PySem.W.nsIn K mainGlobals "_law_quads" = some (some (.ref f12))) (l12 : K.lookup f12 = some ⟨oc12, od12, .func (PySem.W.fnOf "_law_quads" "_law_quads" (defArgs sQuads) (defBody sQuads) (defScope sQuads) .none kV12 dc12 pm12 an12 cd12 ct12), sl12⟩) (c12 : PySem.W.codeIn K cd12 "_law_quads" = true) (k12 : PySem.W.keepIn K (.ref f12) = true)
    (a13 : PySem.W.nsIn K mainGlobals "_law_right" = some (some (.ref f13))) (l13 : K.lookup f13 = some ⟨oc13, od13, .func (PySem.W.fnOf "_law_right" "_law_right" (defArgs sRight) (defBody sRight) (defScope sRight) .none kV13 dc13 pm13 an13 cd13 ct13), sl13⟩) (c13 : PySem.W.codeIn K cd13 "_law_right" = true) (k13 : PySem.W.keepIn K (.ref f13) = true)
    (a14 : PySem.W.nsIn K mainGlobals "law" = some (some (.ref f14))) (l14 : K.lookup f14 = some ⟨oc14, od14, .func (PySem.W.fnOf "law" "law" (defArgs sLaw) (defBody sLaw) (defScope sLaw) .none kV14 dc14 pm14 an14 cd14 ct14), sl14⟩) (c14 : PySem.W.codeIn K cd14 "law" = true) (k14 : PySem.W.keepIn K (.ref f14) = true)
    (z1 : PySem.W.nsIn K mainGlobals "len" = some none) (z2 : PySem.W.nsIn K mainGlobals "abs" = some none) (z3 : PySem.W.nsIn K mainGlobals "list" = some none) (z4 : PySem.W.nsIn K mainGlobals "range" = some none) (z5 : PySem.W.nsIn K mainGlobals "tuple" = some none) (z6 : PySem.W.nsIn K mainGlobals "sorted" = some none) (z7 : PySem.W.nsIn K mainGlobals "max" = some none) (z8 : PySem.W.nsIn K mainGlobals "min" = some none) (z9 : PySem.W.nsIn K mainGlobals "repr" = some none) (z10 : PySem.W.nsIn K mainGlobals "isinstance" = some none) (z11 : PySem.W.nsIn K mainGlobals "int" = some none) (z12 : PySem.W.nsIn K mainGlobals "bool" = some none) (z13 : PySem.W.nsIn K mainGlobals "all" = some none) (z14 : PySem.W.nsIn K mainGlobals "set" = some none) :
    ∃ fd : FuncData, (∀ (s : Shared) (v : Value), BindsTo s fd ⟨[v], []⟩ [("_law_script", v)]) ∧ ∀ base : Heap, K.In base → base.Ns mainGlobals mg → FnG l.prog w K mg base 4 fa fd ["_law_script"] (spLaw K) := by
  have e := hfa.symm.trans (PySem.W.mg_of X G a14)
  cases e
  have F1 := fun_mk (st := sTurned) l1 c1 k1
  have F2 := fun_mk (st := sThrough) l2 c2 k2
  have F3 := fun_mk (st := sPushed) l3 c3 k3
  have F4 := fun_mk (st := sLifted) l4 c4 k4
  have F5 := fun_mk (st := sDraws) l5 c5 k5
  have F6 := fun_mk (st := sTake) l6 c6 k6
  have F7 := fun_mk (st := sMixed) l7 c7 k7
  have F8 := fun_mk (st := sWhole) l8 c8 k8
  have F9 := fun_mk (st := sIsTable) l9 c9 k9
  have F10 := fun_mk (st := sTurns) l10 c10 k10
  have F11 := fun_mk (st := sBack) l11 c11 k11
  have F12 := fun_mk (st := sQuads) l12 c12 k12
  have F13 := fun_mk (st := sRight) l13 c13 k13
  have F14 := fun_mk (st := sLaw) l14 c14 k14
  have b1 := F1.binds (ps := ["table"]) fun _ _ _ _ _ _ us hl => match us, hl with | [_], _ => rfl
  have b2 := F2.binds (ps := ["q"]) fun _ _ _ _ _ _ us hl => match us, hl with | [_], _ => rfl
  have b3 := F3.binds (ps := ["q", "turns"]) fun _ _ _ _ _ _ us hl => match us, hl with | [_, _], _ => rfl
  have b4 := F4.binds (ps := ["q", "turns"]) fun _ _ _ _ _ _ us hl => match us, hl with | [_, _], _ => rfl
  have b5 := F5.binds (ps := ["_law_script", "_law_k"]) fun _ _ _ _ _ _ us hl => match us, hl with | [_, _], _ => rfl
  have b6 := F6.binds (ps := ["_law_pot", "_law_many"]) fun _ _ _ _ _ _ us hl => match us, hl with | [_, _], _ => rfl
  have b7 := F7.binds (ps := ["_law_pot", "_law_some"]) fun _ _ _ _ _ _ us hl => match us, hl with | [_, _], _ => rfl
  have b8 := F8.binds (ps := ["_law_thing", "_law_below"]) fun _ _ _ _ _ _ us hl => match us, hl with | [_, _], _ => rfl
  have b9 := F9.binds (ps := ["_law_q", "_law_thing"]) fun _ _ _ _ _ _ us hl => match us, hl with | [_, _], _ => rfl
  have b10 := F10.binds (ps := ["_law_pot", "_law_q"]) fun _ _ _ _ _ _ us hl => match us, hl with | [_, _], _ => rfl
  have b11 := F11.binds (ps := ["_law_turns_here"]) fun _ _ _ _ _ _ us hl => match us, hl with | [_], _ => rfl
  have b12 := F12.binds (ps := ["_law_q", "_law_turns_here", "_law_word"]) fun _ _ _ _ _ _ us hl => match us, hl with | [_, _, _], _ => rfl
  have b13 := F13.binds (ps := ["_law_q", "_law_turns_here"]) fun _ _ _ _ _ _ us hl => match us, hl with | [_, _], _ => rfl
  exact ⟨PySem.W.fnOf "law" "law" (defArgs sLaw) (defBody sLaw) (defScope sLaw) .none kV14 dc14 pm14 an14 cd14 ct14, fun s v => .of_eq rfl, fun base _ _ =>
    ok_law F14 F5 F6 F7 F2 F3 F4 F1 F11 F12 F8 F9 F10 F13 b5 b6 b7 b2 b3 b4 b1 b11 b12 b8 b9 b10 b13 (PySem.W.mg_of X G a5) (PySem.W.mg_of X G a6) (PySem.W.mg_of X G a7) (PySem.W.mg_of X G a2) (PySem.W.mg_of X G a3) (PySem.W.mg_of X G a4) (PySem.W.mg_of X G a1) (PySem.W.mg_of X G a11) (PySem.W.mg_of X G a12) (PySem.W.mg_of X G a8) (PySem.W.mg_of X G a9) (PySem.W.mg_of X G a10) (PySem.W.mg_of X G a13) (PySem.W.mg_none_of X G z1) (PySem.W.mg_none_of X G z2) (PySem.W.mg_none_of X G z3) (PySem.W.mg_none_of X G z4) (PySem.W.mg_none_of X G z5) (PySem.W.mg_none_of X G z6) (PySem.W.mg_none_of X G z7) (PySem.W.mg_none_of X G z8) (PySem.W.mg_none_of X G z9) (PySem.W.mg_none_of X G z10) (PySem.W.mg_none_of X G z11) (PySem.W.mg_none_of X G z12) (PySem.W.mg_none_of X G z13) (PySem.W.mg_none_of X G z14)⟩
end C2
open PySem PySem.W PyProof.Rows
set_option maxRecDepth 100000 in
set_option maxHeartbeats 0 in
theorem PySem.Challenge.cw_cornertold_k04_through_pushed_lifted_holds : PySem.Challenge.rw_cornertold_k04_through_pushed_lifted.Holds := by
  w_on; o_law; k_head; (case hw => w_witness2)
  k_fill
  refine C2.walkG (l := PySem.Challenge.rw_cornertold_k04_through_pushed_lifted) (n := 63) (k := 4) (x := "_law_script") (sp := C2.spLaw) rfl (by decide) rfl ⟨rfl, by decide, by decide⟩ (fun w h Y => PySem.W.kIn_of Y) ?F (fun _ _ a ns hl hS => ⟨a, ns, rfl, hS, hl, fun _ => rfl⟩)
  case F =>
    intro w mg fa h KX G hmg
    refine' C2.all_mk KX G hmg ?a1 ?l1 ?c1 ?k1 ?a2 ?l2 ?c2 ?k2 ?a3 ?l3 ?c3 ?k3 ?a4 ?l4 ?c4 ?k4 ?a5 ?l5 ?c5 ?k5 ?a6 ?l6 ?c6 ?k6 ?a7 ?l7 ?c7 ?k7 ?a8 ?l8 ?c8 ?k8 ?a9 ?l9 ?c9 ?k9 ?a10 ?l10 ?c10 ?k10 ?a11 ?l11 ?c11 ?k11 ?a12 ?l12 ?c12 ?k12 ?a13 ?l13 ?c13 ?k13 ?a14 ?l14 ?c14 ?k14 ?z1 ?z2 ?z3 ?z4 ?z5 ?z6 ?z7 ?z8 ?z9 ?z10 ?z11 ?z12 ?z13 ?z14
    (case a1 => k_is); (case l1 => k_is); (case c1 => k_is); (case k1 => k_is); (case a2 => k_is); (case l2 => k_is); (case c2 => k_is); (case k2 => k_is)
    (case a3 => k_is); (case l3 => k_is); (case c3 => k_is); (case k3 => k_is); (case a4 => k_is); (case l4 => k_is); (case c4 => k_is); (case k4 => k_is)
    (case a5 => k_is); (case l5 => k_is); (case c5 => k_is); (case k5 => k_is); (case a6 => k_is); (case l6 => k_is); (case c6 => k_is); (case k6 => k_is)
    (case a7 => k_is); (case l7 => k_is); (case c7 => k_is); (case k7 => k_is); (case a8 => k_is); (case l8 => k_is); (case c8 => k_is); (case k8 => k_is)
    (case a9 => k_is); (case l9 => k_is); (case c9 => k_is); (case k9 => k_is); (case a10 => k_is); (case l10 => k_is); (case c10 => k_is); (case k10 => k_is)
    (case a11 => k_is); (case l11 => k_is); (case c11 => k_is); (case k11 => k_is); (case a12 => k_is); (case l12 => k_is); (case c12 => k_is); (case k12 => k_is)
    (case a13 => k_is); (case l13 => k_is); (case c13 => k_is); (case k13 => k_is); (case a14 => k_is); (case l14 => k_is); (case c14 => k_is); (case k14 => k_is)
    (case z1 => k_is); (case z2 => k_is); (case z3 => k_is); (case z4 => k_is); (case z5 => k_is); (case z6 => k_is); (case z7 => k_is); (case z8 => k_is)
    (case z9 => k_is); (case z10 => k_is); (case z11 => k_is); (case z12 => k_is); (case z13 => k_is); (case z14 => k_is)
