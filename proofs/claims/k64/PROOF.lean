import PyProof.Rows.All
import Wide.All
import OpenK.AllK
import Wide.FinOn
import HandS.ForMost
import HandS.Wide
import HandS.Conv
import HandS.Walk
import HandS.Zip
import KE.GoesMore
import KE.GoesEnum
import HandS.Style
import HandS.TupSets
import HandS.DictComp
import HandS.TupLen
import KE.KDictKeyed
import KE.KDictCopyH
import KE.KDictSum
import KE.SortData
import HandS.Rev
import HandS.RevTup
import KE.KRevSl
import HandS.Small
import PySem.Challenge.RW_cornertold_k64_plans_and_wires_turned
set_option Elab.async false
set_option linter.all false
set_option maxRecDepth 100000
namespace C2
set_option Elab.async false
set_option linter.all false
set_option maxRecDepth 100000
set_option maxHeartbeats 4000000
open PySem PySem.Spec PyProof.Rows L2
def topS (i : Nat) : Stmt := PySem.Challenge.pw_cornertold_k64_plans_and_wires_turned.main.body.getD i (.Pass ⟨0, 0, 0, 0⟩)
abbrev sTurned : Stmt := topS 1
abbrev sFlipped : Stmt := topS 2
abbrev sQuarter : Stmt := topS 4
abbrev sQWire : Stmt := topS 5
abbrev sFlip : Stmt := topS 7
abbrev sFWire : Stmt := topS 8
abbrev sDraws : Stmt := topS 10
abbrev sTake : Stmt := topS 11
abbrev sOf : Stmt := topS 12
abbrev sMixed : Stmt := topS 13
abbrev sTable : Stmt := topS 14
abbrev sPlan : Stmt := topS 15
abbrev sSize : Stmt := topS 16
abbrev sDesign : Stmt := topS 17
abbrev sLLegs : Stmt := topS 18
abbrev sAll : Stmt := topS 19
abbrev sLed : Stmt := topS 20
abbrev sRight : Stmt := topS 21
abbrev sLaw : Stmt := topS 22
theorem scDraws : FnScope ["_law_script", "_law_k", "_law_cell", "_law_great"] ["_law_script", "_law_k"] (defScope sDraws) := ⟨rfl, rfl, rfl, by decide +kernel, rfl, by decide +kernel, by decide +kernel⟩
theorem scTake : FnScope ["_law_pool", "_law_many", "_law_digit", "_law_prime", "_law_drawn"] ["_law_pool", "_law_many"] (defScope sTake) := ⟨rfl, rfl, rfl, by decide +kernel, rfl, by decide +kernel, by decide +kernel⟩
theorem scOf : FnScope ["_law_pool", "_law_some"] ["_law_pool", "_law_some"] (defScope sOf) := ⟨rfl, rfl, rfl, by decide +kernel, rfl, by decide +kernel, by decide +kernel⟩

/-- all that was tracked, but what stands at p, is as it was -/
def Fr (p : Addr) (H H' : Hp) : Prop := ∀ b o, b ≠ p → H b = some o → H' b = some o
theorem Fr.refl (p : Addr) (H : Hp) : Fr p H H := fun _ _ _ h => h
theorem Fr.trans {p : Addr} {H H1 H2 : Hp} (a : Fr p H H1) (b : Fr p H1 H2) : Fr p H H2 := fun c o n h => b c o n (a c o n h)
theorem Fr.same {p : Addr} {H H1 : Hp} (a : Same H H1) : Fr p H H1 := fun c o _ h => a c o h
theorem Fr.upd {p : Addr} {H : Hp} {o : HO} : Fr p H (upd H p o) := fun c u n h => by rw [upd_ne n]; exact h
theorem Fr.new {p q : Addr} {H : Hp} {o : HO} (h : H q = none) : Fr p H (L2.upd H q o) := fun c u n e => by rw [upd_ne (ne_of_none e h)]; exact e
theorem Fr.free {p : Addr} {H H' : Hp} (e : Fr p H H') {l : Addr} (n : l ≠ p) (h : H' l = none) : H l = none := by
  cases q : H l with
  | none => rfl
  | some o => rw [e l o n q] at h; cases h
theorem same_upd {H : Hp} {p : Addr} {o : HO} (h : H p = none) : Same H (upd H p o) := fun b x e => by
  rw [upd_ne (ne_of_none e h)]
  exact e
def PotAt (H : Hp) (p : Addr) (n : Nat) : Prop := ∃ g c t : Int, H p = some (.lst [.int g, .int c, .int t]) ∧ 0 ≤ t ∧ t ≤ (n : Int)
section
variable {P : Program} {w : World} {K : PySem.W.Frag} {mg : Str → Option Value} {base : Heap}
/-! ### draws -/
def spDraws (K : PySem.W.Frag) : Sp := fun vs H Q _ => ∃ (a : Addr) (ns : List Int) (k : Nat), vs = [.ref a, .int (k : Int)] ∧ SqL K H a (ns.map V.int) ∧ k ≤ 1000 ∧
  ∀ H' p, Same H H' → H p = none → PotAt H' p 0 → Q (.ref p) H'
theorem pow_ok1 : CPow 10 18 := ⟨by decide, by decide, by decide⟩
theorem pow_ok2 : CPow 10 60 := ⟨by decide, by decide, by decide⟩
theorem wide1 : CMulW ((10 : Int) ^ (60 : Int).toNat) ((10 : Int) ^ (60 : Int).toNat) := wide_mul (a := 200) (b := 200) (by decide +kernel) (by decide +kernel) (by decide) (by decide) (by decide)
theorem wide2 : CMulW ((10 : Int) ^ (60 : Int).toNat * (10 : Int) ^ (60 : Int).toNat) ((10 : Int) ^ (60 : Int).toNat) := wide_mul (a := 400) (b := 200) (by decide +kernel) (by decide +kernel) (by decide) (by decide) (by decide)
theorem wide3 : (0 : Int) < (10 : Int) ^ (60 : Int).toNat * (10 : Int) ^ (60 : Int).toNat * (10 : Int) ^ (60 : Int).toNat := by decide +kernel
theorem fin_draws {H : Hp} {Q : VK} {a : Addr} {k : Nat} (q : ∀ (H' : Hp) (p : Addr), Same H H' → H p = none → PotAt H' p 0 → Q (V.ref p) H') (hk : k ≤ 1000) (cell great : Int) :
    tRet (tLst (tCons (tVar 3) (tCons (tOp (rI (fun x j => 0 < j) fun i j => V.int (i % j)) (tOp (rI0 fun i j => V.int (i + j)) (tOp (rI0 fun i j => V.int (i + j))
      (tOp (rI CMul fun i j => V.int (i * j)) (tOp (rI (fun x j => 0 < j) fun i j => V.int (i % j)) (tVar 2) (tC (V.int 2305843009213693951))) (tC (V.int 1000033)))
      (tOp (rI CMul fun i j => V.int (i * j)) (tC (V.int 7919)) (tVar 1))) (tC (V.int 41))) (tC (V.int 2305843009213693921))) (tCons (tC (V.int 0)) tNil))))
      { nx := fun x H' => Q V.non H', rt := Q } [some (V.ref a), some (V.int (k : Int)), some (V.int cell), some (V.int great)] H := by
  refine ⟨.int great, rfl, .int cell, rfl, cell, 2305843009213693951, rfl, rfl, (by show (0 : Int) < 2305843009213693951; decide), _, 1000033, rfl, rfl, .inr ⟨by decide, by decide⟩, .int (k : Int), rfl, 7919, (k : Int), rfl, rfl, .inl ⟨by decide, by decide⟩, _, _, rfl, rfl, _, 41, rfl, rfl, _, _, rfl, rfl, (by show (0 : Int) < 2305843009213693921; decide), by show 3 ≤ sizeLine; decide, fun p np => ?_⟩
  exact q _ p (same_upd np) np ⟨_, _, _, upd_same, Int.le_refl _, Int.le_refl _⟩
theorem ok_draws {f : Addr} {fd : FuncData} {k : Nat} (F : Fun K "_law_pot" "_law_pot" sDraws f fd) (ml : mg "len" = none) (ma : mg "abs" = none) : FnOk P w K mg base CX0 (k + 1) f fd ["_law_script", "_law_k"] (spDraws K) := by
  refine F.ok scDraws (fun vs H Q E h => ?_) (fun cdv A outer s H vs Q E hr h => ?_)
  · obtain ⟨a, ns, k, rfl, _⟩ := h
    rfl
  · obtain ⟨a, ns, k, rfl, hS, hk, q⟩ := h
    refine ⟨_, pss_cons (ps_set (i := 2) scDraws.nd rfl (.inl rfl) (pe_ifExp (pt_cmpR op_lt (pv 1) (pe_callB call_len_seq (by rfl) ml PySem.boot_len (pa_cons (pv 0) pa_nil)) (nomark _))
          (pe_ix ix_list (pv 0) (pv 1) (fun _ _ => rfl)) (pe_op op_add (pe_op op_mul pe_int (pv 1)) pe_int)))
      (pss_cons (ps_set (i := 3) scDraws.nd rfl (.inl rfl) (pe_ifExp (pt_cmpR op_ge (pe_callB call_abs (by rfl) ma (by decide +kernel) (pa_cons (pv 2) pa_nil)) (pe_op op_pow pe_int pe_int) (nomark _))
          (pe_op op_mod (pe_callB call_abs (by rfl) ma (by decide +kernel) (pa_cons (pv 2) pa_nil)) (pe_op op_mulW (pe_op op_mulW (pe_op op_pow pe_int pe_int) (pe_op op_pow pe_int pe_int)) (pe_op op_pow pe_int pe_int))) pe_int))
      (pss_one (ps_ret (pe_lst (pa_cons (pv 3) (pa_cons (pe_op op_mod (pe_op op_add (pe_op op_add (pe_op op_mul (pe_op op_mod (pv 2) pe_int) pe_int) (pe_op op_mul pe_int (pv 1))) pe_int) pe_int) (pa_cons pe_int pa_nil))))))), ?_⟩
    refine ⟨.int (k : Int), rfl, .ref a, rfl, a, _, rfl, .inl hS, _, _, rfl, rfl, _, rfl, ite2 (fun e => ?_) (fun e => ?_)⟩
    · have e1 : k < ns.length := by
        have := of_decide_eq_true e
        rw [List.length_map] at this
        omega
      refine ⟨.ref a, rfl, .int (k : Int), rfl, a, _, _, .int ns[k], rfl, rfl, hS, atI_nat (by rw [List.getElem?_map, List.getElem?_eq_getElem e1]; rfl), ?_⟩
      generalize ns[k] = cell
      refine ⟨.int cell, rfl, cell, rfl, 10, 18, rfl, rfl, pow_ok1, _, _, rfl, rfl, _, rfl, ite2 (fun e => ?_) (fun e => ?_)⟩
      · refine ⟨.int cell, rfl, cell, rfl, 10, 60, rfl, rfl, pow_ok2, 10, 60, rfl, rfl, pow_ok2, _, _, rfl, rfl, wide1, 10, 60, rfl, rfl, pow_ok2, _, _, rfl, rfl, wide2, _, _, rfl, rfl, wide3, ?_⟩
        exact fin_draws q hk _ _
      · exact fin_draws q hk _ _
    · refine ⟨.int (k : Int), rfl, 5, (k : Int), rfl, rfl, .inl ⟨by decide, by decide⟩, _, 3, rfl, rfl, ?_⟩
      refine ⟨_, rfl, _, rfl, 10, 18, rfl, rfl, pow_ok1, _, _, rfl, rfl, _, rfl, ite2 (fun e => ?_) (fun e => ?_)⟩
      · refine ⟨_, rfl, _, rfl, 10, 60, rfl, rfl, pow_ok2, 10, 60, rfl, rfl, pow_ok2, _, _, rfl, rfl, wide1, 10, 60, rfl, rfl, pow_ok2, _, _, rfl, rfl, wide2, _, _, rfl, rfl, wide3, ?_⟩
        exact fin_draws q hk _ _
      · exact fin_draws q hk _ _
end
end C2

namespace C2
set_option Elab.async false
set_option linter.all false
set_option maxRecDepth 100000
set_option maxHeartbeats 4000000
open PySem PySem.Spec PyProof.Rows L2
section
variable {P : Program} {w : World} {K : PySem.W.Frag} {mg : Str → Option Value} {base : Heap}
def primes : List V := [.int 2147483647, .int 2147483629, .int 2147483587, .int 2147483579, .int 2147483563, .int 2147483549, .int 2147483543]
theorem primes_at {r : Int} (h0 : 0 ≤ r) (h1 : r < 7) : ∃ v : Int, atI primes r = some (.int v) ∧ 0 < v ∧ v < 2147483648 := by
  have : r = 0 ∨ r = 1 ∨ r = 2 ∨ r = 3 ∨ r = 4 ∨ r = 5 ∨ r = 6 := by omega
  rcases this with rfl | rfl | rfl | rfl | rfl | rfl | rfl <;> exact ⟨_, rfl, by decide, by decide⟩
def spTake : Sp := fun vs H Q _ => ∃ (p : Addr) (m : Int) (n : Nat), vs = [.ref p, .int m] ∧ PotAt H p n ∧ n < 1000000 ∧ 0 < m ∧ m < 1073741824 ∧
  ∀ (d : Int) H', Fr p H H' → PotAt H' p (n + 1) → 0 ≤ d → d < m → Q (.int d) H'
theorem ok_take {f : Addr} {fd : FuncData} {k : Nat} (F : Fun K "_law_take" "_law_take" sTake f fd) : FnOk P w K mg base CX0 (k + 1) f fd ["_law_pool", "_law_many"] spTake := by
  refine F.ok scTake (fun vs H Q E h => ?_) (fun cdv A outer s H vs Q E hr h => ?_)
  · obtain ⟨a, ns, k, rfl, _⟩ := h
    rfl
  · obtain ⟨p, m, n, rfl, ⟨g, c, t, hp, ht0, ht1⟩, hn, hm0, hm1, q⟩ := h
    refine ⟨_, pss_cons (ps_if (pt_cmpR op_gt (pe_ix ix_list (pv 0) pe_int (fun _ _ => rfl)) pe_int (nomark _))
        (pss_cons (ps_set (i := 2) scTake.nd rfl (.inl rfl) (pe_op op_mod (pe_ix ix_list (pv 0) pe_int (fun _ _ => rfl)) (pv 1)))
          (pss_cons (ps_asg (pe_op op_fdiv (pe_ix ix_list (pv 0) pe_int (fun _ _ => rfl)) (pv 1)) (pg_sub (pv 0) pe_int set_list)) (pss_one (ps_ret (pv 2))))) pss_nil)
      (pss_cons (ps_asg (pe_op op_add (pe_ix ix_list (pv 0) pe_int (fun _ _ => rfl)) pe_int) (pg_sub (pv 0) pe_int set_list))
      (pss_cons (ps_set (i := 3) scTake.nd rfl (.inl rfl) (pe_ix ix_list (pe_lst (pa_cons pe_int (pa_cons pe_int (pa_cons pe_int (pa_cons pe_int (pa_cons pe_int (pa_cons pe_int (pa_cons pe_int pa_nil))))))))
          (pe_op op_mod (pe_ix ix_list (pv 0) pe_int (fun _ _ => rfl)) pe_int) (fun _ _ => rfl)))
      (pss_cons (ps_set (i := 4) scTake.nd rfl (.inl rfl) (pe_op op_add (pe_op op_mod (pe_op op_mod (pe_op op_add (pe_ix ix_list (pv 0) pe_int (fun _ _ => rfl))
          (pe_op op_mul (pe_op op_mul pe_int (pe_ix ix_list (pv 0) pe_int (fun _ _ => rfl))) (pe_ix ix_list (pv 0) pe_int (fun _ _ => rfl)))) (pe_op op_mul (pv 3) (pv 3))) (pv 3)) pe_int))
      (pss_one (ps_ret (pe_op op_mod (pe_op op_fdiv (pe_op op_mod (pe_op op_mul (pv 4) (pe_op op_add (pe_op op_mod (pv 4) pe_int) (pe_ix ix_list (pv 0) pe_int (fun _ _ => rfl)))) (pv 3)) pe_int) (pv 1))))))), ?_⟩
    have L0 : SqL K H p [.int g, .int c, .int t] := .inl (.inl hp)
    refine ⟨.ref p, rfl, p, _, 0, .int g, rfl, rfl, L0, rfl, _, _, rfl, rfl, _, rfl, ite2 (fun e => ?_) (fun e => ?_)⟩
    · refine ⟨.ref p, rfl, p, _, 0, .int g, rfl, rfl, L0, rfl, .int m, rfl, _, _, rfl, rfl, hm0, ?_⟩
      refine ⟨.ref p, rfl, p, _, 0, .int g, rfl, rfl, L0, rfl, .int m, rfl, _, _, rfl, rfl, ⟨hm0, hm1⟩, ?_⟩
      refine ⟨.ref p, rfl, p, _, 0, 0, rfl, rfl, hp, rfl, ?_⟩
      refine ⟨_, rfl, q _ _ Fr.upd ⟨_, _, _, upd_same, ht0, by omega⟩ (Int.emod_nonneg _ (by omega)) (Int.emod_lt_of_pos _ hm0)⟩
    · refine ⟨.ref p, rfl, p, _, 2, .int t, rfl, rfl, L0, rfl, _, 1, rfl, rfl, ?_⟩
      refine ⟨.ref p, rfl, p, _, 2, 2, rfl, rfl, hp, rfl, ?_⟩
      have hp2 : (upd H p (.lst (List.set [.int g, .int c, .int t] 2 (.int (t + 1))))) p = some (.lst [.int g, .int c, .int (t + 1)]) := upd_same
      refine ⟨by show 7 ≤ sizeLine; decide, fun o no => ?_⟩
      have npo : p ≠ o := ne_of_none hp2 no
      have hp3 : (upd (upd H p (.lst (List.set [.int g, .int c, .int t] 2 (.int (t + 1))))) o (.lst primes)) p = some (.lst [.int g, .int c, .int (t + 1)]) := by
        rw [upd_ne npo]
        exact hp2
      have fr3 : Fr p H (upd (upd H p (.lst (List.set [.int g, .int c, .int t] 2 (.int (t + 1))))) o (.lst primes)) := Fr.trans Fr.upd (Fr.new no)
      have L3 : SqL K (upd (upd H p (.lst (List.set [.int g, .int c, .int t] 2 (.int (t + 1))))) o (.lst primes)) p [.int g, .int c, .int (t + 1)] := .inl (.inl hp3)
      have LO : SqL K (upd (upd H p (.lst (List.set [.int g, .int c, .int t] 2 (.int (t + 1))))) o (.lst primes)) o primes := .inl (.inl upd_same)
      obtain ⟨v, hv, v0, v1⟩ := primes_at (r := (t + 1) % 7) (Int.emod_nonneg _ (by decide)) (Int.emod_lt_of_pos _ (by decide))
      have b20 : (-(2 ^ 64) : Int) < t + 1 ∧ t + 1 < 2 ^ 64 := ⟨by omega, by omega⟩
      have bv : (-(2 ^ 64) : Int) < v ∧ v < 2 ^ 64 := ⟨by omega, by omega⟩
      refine ⟨.ref p, rfl, p, _, 2, .int (t + 1), rfl, rfl, L3, rfl, _, 7, rfl, rfl, (by show (0 : Int) < 7; decide), o, _, _, _, rfl, rfl, LO, hv, ?_⟩
      refine ⟨.ref p, rfl, p, _, 1, .int c, rfl, rfl, L3, rfl, .ref p, rfl, p, _, 2, .int (t + 1), rfl, rfl, L3, rfl, 69621, _, rfl, rfl, .inr b20, .ref p, rfl, p, _, 2, .int (t + 1), rfl, rfl, L3, rfl, _, _, rfl, rfl, .inr b20, _, _, rfl, rfl,
        .int v, rfl, .int v, rfl, v, v, rfl, rfl, .inl bv, _, _, rfl, rfl, (Int.mul_pos v0 v0), .int v, rfl, _, _, rfl, rfl, v0, _, 1, rfl, rfl, ?_⟩
      have z0 := Int.emod_nonneg ((c + 69621 * (t + 1) * (t + 1)) % (v * v)) (show v ≠ 0 by omega)
      have z1 := Int.emod_lt_of_pos ((c + 69621 * (t + 1) * (t + 1)) % (v * v)) v0
      generalize (c + 69621 * (t + 1) * (t + 1)) % (v * v) % v = z at z0 z1
      have bz : (-(2 ^ 64) : Int) < z + 1 ∧ z + 1 < 2 ^ 64 := ⟨by omega, by omega⟩
      refine ⟨.int (z + 1), rfl, .int (z + 1), rfl, z + 1, 1009, rfl, rfl, (by show (0 : Int) < 1009; decide), .ref p, rfl, p, _, 2, .int (t + 1), rfl, rfl, L3, rfl, _, _, rfl, rfl, _, _, rfl, rfl, .inl bz, .int v, rfl, _, _, rfl, rfl, v0, _, 7, rfl, rfl, ⟨by decide, by decide⟩,
        .int m, rfl, _, _, rfl, rfl, hm0, ?_⟩
      exact q _ _ fr3 ⟨_, _, _, hp3, by omega, by omega⟩ (Int.emod_nonneg _ (by omega)) (Int.emod_lt_of_pos _ hm0)
end
end C2

namespace C2
set_option Elab.async false
set_option linter.all false
set_option maxRecDepth 100000
set_option maxHeartbeats 4000000
open PySem PySem.Spec PyProof.Rows L2
section
variable {P : Program} {w : World} {K : PySem.W.Frag} {mg : Str → Option Value} {base : Heap}
theorem frSeq {p : Addr} {H H' : Hp} {a : Addr} {xs : List V} (e : Fr p H H') (n : a ≠ p) (h : SqL K H a xs) : SqL K H' a xs := by
  rcases h with (h | ⟨o, h⟩) | h
  · exact .inl (.inl (e _ _ n h))
  · exact .inl (.inr ⟨o, e _ _ n h⟩)
  · exact .inr h
def spOf (K : PySem.W.Frag) : Sp := fun vs H Q _ => ∃ (p a : Addr) (xs : List V) (n : Nat), vs = [.ref p, .ref a] ∧ PotAt H p n ∧ n < 1000000 ∧ a ≠ p ∧ SqL K H a xs ∧ 0 < xs.length ∧ xs.length < 1000000 ∧
  ∀ v H', Fr p H H' → PotAt H' p (n + 1) → v ∈ xs → Q v H'
theorem ok_of {f fT : Addr} {fd fdT : FuncData} {k : Nat} (F : Fun K "_law_of" "_law_of" sOf f fd) (FT : Fun K "_law_take" "_law_take" sTake fT fdT) (bT : Binds K fdT ["_law_pool", "_law_many"] []) (gT : mg "_law_take" = some (.ref fT)) (ml : mg "len" = none) : FnOk P w K mg base CX0 (k + 2) f fd ["_law_pool", "_law_some"] (spOf K) := by
  have GT : FnOk P w K mg base CX0 (k + 1) fT fdT ["_law_pool", "_law_many"] spTake := ok_take FT
  refine F.ok scOf (fun vs H Q E h => ?_) (fun cdv A outer s H vs Q E hr h => ?_)
  · obtain ⟨p, a, xs, n, rfl, _⟩ := h
    rfl
  · obtain ⟨p, a, xs, n, rfl, hP, hn, hap, hS, h0, h1, q⟩ := h
    refine ⟨_, pss_one (ps_ret (pe_ix ix_list (pv 1) (pe_call GT hr (by rfl) gT FT.kp bT .nil pass0 (pa_cons (pv 0) (pa_cons (pe_callB call_len_seq (by rfl) ml PySem.boot_len (pa_cons (pv 1) pa_nil)) pa_nil))) (fun _ _ => rfl))), ?_⟩
    refine ⟨.ref a, rfl, .ref p, rfl, .ref a, rfl, a, _, rfl, .inl hS, p, _, n, rfl, hP, hn, by omega, by omega, fun d H1 fr hP1 d0 d1 => ?_⟩
    have hd : d.toNat < xs.length := by omega
    have ed : d = (d.toNat : Int) := by omega
    refine ⟨a, _, d, xs[d.toNat], rfl, rfl, frSeq fr hap hS, at_of ed (List.getElem?_eq_getElem hd), ?_⟩
    exact q _ _ fr hP1 (List.getElem_mem hd)
def rLen (K : PySem.W.Frag) : List V → Hp → VK → Prop := fun xs H Q => ∃ p ys, xs = [.ref p] ∧ (SqL K H p ys ∨ SqT K H p ys) ∧ Q (.int (ys.length : Nat)) H
theorem scMixed : FnScope ["_law_pool", "_law_some", "_law_left", "_law_turn"] ["_law_pool", "_law_some"] (defScope sMixed) := ⟨rfl, rfl, rfl, by decide +kernel, rfl, by decide +kernel, by decide +kernel⟩
theorem perm_erase {α : Type} : ∀ {l : List α} {k : Nat} (h : k < l.length), l.Perm (l[k] :: l.eraseIdx k)
  | x :: r, 0, _ => List.Perm.refl _
  | x :: r, k + 1, h => (List.Perm.cons x (perm_erase (l := r) (k := k) (by simpa using h))).trans (List.Perm.swap _ _ _)
/-- mixed: some list of the same things, in some order -/
def spMixed (K : PySem.W.Frag) : Sp := fun vs H Q _ => ∃ (p a : Addr) (xs : List V) (n : Nat), vs = [.ref p, .ref a] ∧ PotAt H p n ∧ n + xs.length < 1000000 ∧ a ≠ p ∧ SqL K H a xs ∧
  ∀ r ys H', Fr p H H' → PotAt H' p (n + xs.length) → H r = none → H' r = some (.lst ys) → ys.Perm xs → Q (.ref r) H'
theorem ok_mixed {f fT : Addr} {fd fdT : FuncData} {k : Nat} (F : Fun K "_law_mixed" "_law_mixed" sMixed f fd) (FT : Fun K "_law_take" "_law_take" sTake fT fdT) (bT : Binds K fdT ["_law_pool", "_law_many"] []) (gT : mg "_law_take" = some (.ref fT)) (ml : mg "len" = none) (mli : mg "list" = none) (mr : mg "range" = none) :
    FnOk P w K mg base CX0 (k + 2) f fd ["_law_pool", "_law_some"] (spMixed K) := by
  have GT : FnOk P w K mg base CX0 (k + 1) fT fdT ["_law_pool", "_law_many"] spTake := ok_take FT
  refine F.ok scMixed (fun vs H Q E h => ?_) (fun cdv A outer s H vs Q E hr h => ?_)
  · obtain ⟨p, a, xs, n, rfl, _⟩ := h
    rfl
  · obtain ⟨p, a, xs, n, rfl, hP, hn, hap, hS, q⟩ := h
    refine ⟨_, pss_cons (ps_set (i := 2) scMixed.nd rfl (.inr rfl) (pe_callTy call_list_of (by rfl) mli (by decide +kernel) (pa_cons (pv 1) pa_nil)))
      (pss_one (ps_ret (pe_lc (own := [("_law_turn", 3)]) (g := gName 3) (tt := tYes) (te := tBM K "list" rPopAt (tVar 2) (tCons (tCall spTake [] E0 (tCons (tVar 0) (tCons (tCB (rLen K) (tCons (tVar 2) tNil)) tNil))) tNil)) rfl scMixed.nd (pi_range1 (by rfl) mr (pa_cons (pe_callB call_len_seq (by rfl) ml PySem.boot_len (pa_cons (pv 1) pa_nil)) pa_nil))
        (blkOk_by (own := [("_law_turn", 3)]) (N := ["_law_pool", "_law_some", "_law_left", "_law_turn"]) (sc := defScope sMixed) (by decide +kernel))
        (fun _ _ _ _ _ => pg_name (i := 3) scMixed.nd rfl (Or.inl rfl)) (fun _ _ _ _ _ => pts_nil)
        (fun _ _ _ _ _ => pe_bm PySem.F.plainAttrs_list PySem.F.slot_list_pop PySem.F.type_list_pop mt_popAt (pv 2)
          (pa_cons (pe_call GT hr (by rfl) gT FT.kp bT .nil pass0 (pa_cons (pv 0) (pa_cons (pe_callB call_len_seq (by rfl) ml PySem.boot_len (pa_cons (pv 2) pa_nil)) pa_nil))) pa_nil))))), ?_⟩
    refine ⟨.ref a, rfl, a, _, rfl, .inl hS, fun l nl => ?_⟩
    have npl : p ≠ l := by
      obtain ⟨_, _, _, hp, _⟩ := hP
      exact ne_of_none hp nl
    have hSl : SqL K (upd H l (.lst xs)) a xs := (same_upd nl).seq hS
    refine ⟨.ref a, rfl, a, xs, rfl, .inl hSl, (xs.length : Int), rfl, by omega, by omega, fun D nD => ?_⟩
    have nDl : l ≠ D := ne_of_none upd_same nD
    have nDp : p ≠ D := by
      obtain ⟨_, _, _, hp, _⟩ := hP
      exact ne_of_none (by rw [upd_ne npl]; exact hp) nD
    have nHD : H D = none := by
      rw [upd_ne nDl.symm] at nD
      exact nD
    refine lc_range (lo := 0) (n := xs.length) (fun i H3 => ∃ rem acc, H3 l = some (.lst rem) ∧ H3 D = some (.lst acc) ∧ (acc ++ rem).Perm xs ∧ acc.length = i ∧ Fr p H H3 ∧ PotAt H3 p (n + i)) ?_ ?_ ?_
    · refine ⟨xs, [], ?_, upd_same, List.Perm.refl _, rfl, ?_, ?_⟩
      · rw [upd_ne nDl]
        exact upd_same
      · exact Fr.trans (Fr.new nl) (Fr.new nD)
      · obtain ⟨g, c, t, hp, h⟩ := hP
        refine ⟨g, c, t, ?_, h⟩
        rw [upd_ne nDp, upd_ne npl]
        exact hp
    · rintro i H3 hi ⟨rem, acc, hl, hD, hper, hacc, fr, hP3⟩
      have hlen : acc.length + rem.length = xs.length := by
        have := hper.length_eq
        rw [List.length_append] at this
        exact this
      have hSr : SqL K H3 l rem := .inl (.inl hl)
      refine ⟨rfl, .ref l, rfl, .inl ⟨rfl, _, hSr⟩, .ref p, rfl, .ref l, rfl, l, rem, rfl, .inl hSr, p, _, n + i, rfl, hP3, by omega, by omega, by omega, fun d H4 fr4 hP4 d0 d1 => ?_⟩
      have hd : d.toNat < rem.length := by omega
      have hl4 : H4 l = some (.lst rem) := fr4 _ _ npl.symm hl
      have hD4 : H4 D = some (.lst acc) := fr4 _ _ nDp.symm hD
      refine ⟨l, rem, d, d.toNat, rem[d.toNat], rfl, rfl, hl4, by omega, by omega, seqIndex_of d0 d1, List.getElem?_eq_getElem hd, acc, ?_, ?_, ?_⟩
      · rw [upd_ne nDl.symm]
        exact hD4
      · exact Nat.lt_of_lt_of_le (show acc.length < 1000000 by omega) (by decide)
      · refine ⟨rem.eraseIdx d.toNat, acc ++ [rem[d.toNat]], ?_, upd_same, ?_, ?_, ?_, ?_⟩
        · rw [upd_ne nDl]
          exact upd_same
        · rw [List.append_assoc]
          refine List.Perm.trans (List.Perm.append_left acc ?_) hper
          exact (perm_erase hd).symm
        · rw [List.length_append, hacc]
          rfl
        · intro b o nb e
          have b1 : b ≠ D := ne_of_none e nHD
          have b2 : b ≠ l := ne_of_none e nl
          rw [upd_ne b1, upd_ne b2]
          exact fr4 _ _ nb (fr _ _ nb e)
        · obtain ⟨g, c, t, hp, h⟩ := hP4
          refine ⟨g, c, t, ?_, h⟩
          rw [upd_ne nDp, upd_ne npl]
          exact hp
    · rintro H3 ⟨rem, acc, hl, hD, hper, hacc, fr, hP3⟩
      have hlen : acc.length + rem.length = xs.length := by
        have := hper.length_eq
        rw [List.length_append] at this
        exact this
      have hrem : rem = [] := List.eq_nil_of_length_eq_zero (by omega)
      subst hrem
      rw [List.append_nil] at hper
      exact q D acc H3 fr hP3 nHD hD hper
end
end C2

namespace C2
set_option Elab.async false
set_option linter.all false
set_option maxRecDepth 100000
set_option maxHeartbeats 4000000
open PySem PySem.Spec PyProof.Rows L2
/-! ### zip of a list and a tuple -/
def ItLT (K : PySem.W.Frag) (a b : Addr) : It :=
  ⟨fun j G => ∃ (us vs : List V) (u v : V), SqL K G a us ∧ SqT K G b vs ∧ us[j]? = some u ∧ vs[j]? = some v,
    fun j G r G' => ∃ T u v, r = .ref T ∧ G T = none ∧ G' = upd G T (.tup [u, v]) ∧ (∀ us, SqL K G a us → us[j]? = some u) ∧ ∀ vs, SqT K G b vs → vs[j]? = some v,
    fun j G => ∃ us vs : List V, SqL K G a us ∧ SqT K G b vs ∧ j ≤ us.length ∧ j ≤ vs.length ∧ (j = us.length ∨ j = vs.length)⟩
def tnLT (a b z TI TO i1 i2 : Addr) (j : Nat) (h : Heap) : Prop :=
  IsZip h z TI TO .none ∧ IsTupOf2 h TI (.ref i1) (.ref i2) ∧ (∃ u v, IsTupOf2 h TO u v) ∧ h.IsListIter i1 a j ∧ h.IsTupleIter i2 b j
theorem in5 {c z TI TO i1 i2 : Addr} (h : c ∈ [z, TI, TO, i1, i2]) : c = z ∨ c = TI ∨ c = TO ∨ c = i1 ∨ c = i2 := by simpa using h
theorem turnLT {P : Program} {w : World} {K : PySem.W.Frag} {elts : List Expr} {kk : Nat} {tpos : Pos} {a b z TI TO i1 i2 : Addr} (S : ZipSep2 z TI TO i1 i2 [i1, a] [i2, b]) :
    Turn P w K (.Tuple elts kk tpos) (ItLT K a b) [z, TI, TO, i1, i2] z (tnLT a b z TI TO i1 i2) where
  mem := by simp
  obj := by
    rintro j h ⟨q1, q2, ⟨u, v, q3⟩, ⟨o4, q4, _, d4⟩, ⟨o5, q5, _, d5⟩⟩ c hc
    rcases in5 hc with rfl | rfl | rfl | rfl | rfl
    · exact ⟨_, q1, fun _ e => nomatch e⟩
    · exact ⟨_, q2, fun _ e => nomatch e⟩
    · exact ⟨_, q3, fun _ e => nomatch e⟩
    · exact ⟨o4, q4, fun _ e => by rw [d4] at e; cases e⟩
    · exact ⟨o5, q5, fun _ e => by rw [d5] at e; cases e⟩
  keep := by
    rintro j h h' ⟨q1, q2, ⟨u, v, q3⟩, q4, q5⟩ kp
    exact ⟨kp z (by simp) _ q1, kp TI (by simp) _ q2, ⟨u, v, kp TO (by simp) _ q3⟩, q4.at fun o e => kp i1 (by simp) o e, q5.at fun o e => kp i2 (by simp) o e⟩
  item := by
    intro X hP hw hK hc j pins s σ G E I hf st hg
    subst hP hw hK
    obtain ⟨q1, q2, ⟨u0, v0, q3⟩, q4, q5⟩ := st
    obtain ⟨us, vs, u, v, su, sv, gu, gv⟩ := hg
    obtain ⟨uits, ru, pu, _⟩ := I.list su
    obtain ⟨vits, rv, pv, _⟩ := I.tuple sv
    obtain ⟨uu, huu, ruu⟩ := ru.get gu
    obtain ⟨vv, hvv, rvv⟩ := rv.get gv
    have hd : X.A.handled = none := I.ok.hd hc
    have hzl : z < s.heap.objs.size := Heap.lt_size q1
    have ne1 : a ≠ i1 := fun e => by
      obtain ⟨o4, e4, c4, _⟩ := q4
      obtain ⟨o, oe, oc, _⟩ := pu.isList
      rw [e, e4] at oe
      cases oe
      rw [c4] at oc
      exact absurd oc (by decide)
    have ne2 : b ≠ i2 := fun e => by
      obtain ⟨o4, e4, c4, _⟩ := q5
      obtain ⟨o, oe, oc, _⟩ := pv
      rw [e, e4] at oe
      cases oe
      rw [c4] at oc
      exact absurd oc (by decide)
    have D1 := Draws.list (prog := X.prog) (w := X.w) (A := X.A.in1) hd i1 a ne1 uits.toArray
    have D2 := Draws.tuple (prog := X.prog) (w := X.w) (A := X.A.in1) hd i2 b ne2 vits.toArray
    have l1 : j < uits.toArray.size := by
      have := (List.getElem?_eq_some_iff.mp huu).1
      simpa using this
    have l2 : j < vits.toArray.size := by
      have := (List.getElem?_eq_some_iff.mp hvv).1
      simpa using this
    refine wpAny_pyNext_zipD2_item S D1 D2 q1 q2 q3 ⟨q4, pu.isList⟩ ⟨q5, pv⟩ l1 l2 fun x1 x2 h' tk e1 e2 n1 n3 n4 n5 nT nsz nk => ?_
    have ex1 : x1 = uu := Option.some.inj (e1.symm.trans (by simpa using huu))
    have ex2 : x2 = vv := Option.some.inj (e2.symm.trans (by simpa using hvv))
    subst ex1 ex2
    refine ⟨_, rfl, wpAny_letOwnedTupleGo_zip (s := { s with heap := h', toks := tk }) n1 fun h'' m1 sb => ?_⟩
    have mT : h''.get? s.heap.objs.size = some { cls := .type "tuple", data := .seq #[x1, x2] } := (sb.2 _ (Nat.ne_of_gt hzl)).trans nT
    have new : ObjOk X.prog X.w (upd G s.heap.objs.size (.tup [u, v])) h'' s.heap.objs.size (.tup [u, v]) :=
      ⟨by show 2 ≤ sizeLine; decide, [x1, x2], .cons ruu (.cons rvv .nil), ⟨_, mT, rfl, _, rfl⟩⟩
    have I1 : Inv X pins σ (upd G s.heap.objs.size (.tup [u, v])) { s with heap := h'', toks := tk } :=
      I.turnedNew (t' := tk) (ch := [z, TI, TO, i1, i2]) (fun c o hb q => (sb.2 c (fun e => hb (by simp [e]))).trans
        (nk c o (fun e => hb (by simp [e])) (fun e => hb (by simp [e])) (fun e => hb (by simp [e])) (fun e => hb (by simp [e])) q)) hf (Nat.le_refl _) new
    refine ⟨.ref s.heap.objs.size, _, I1, rfl, ⟨_, u, v, rfl, I.hok.fresh (Nat.le_refl _), rfl, fun l hl => ?_, fun l hl => ?_⟩, ⟨m1, ?_, ⟨x1, x2, ?_⟩, ?_, ?_⟩, fun c hcm => ?_⟩
    · rw [I.list_inj hl su]; exact gu
    · rw [I.tuple_inj hl sv]; exact gv
    · exact (sb.2 _ S.TIz).trans (nk _ _ S.TIz S.TITO S.TIi1 S.TIi2 q2)
    · exact (sb.2 _ S.TOz).trans n3
    · exact n4.1.at fun o e => (sb.2 _ S.zi1.symm).trans e
    · exact n5.1.at fun o e => (sb.2 _ S.zi2.symm).trans e
    · have low : c < s.heap.objs.size := by
        rcases in5 hcm with rfl | rfl | rfl | rfl | rfl
        · exact hzl
        · exact Heap.lt_size q2
        · exact Heap.lt_size q3
        · obtain ⟨_, y, _⟩ := q4; exact Heap.lt_size y
        · obtain ⟨_, y, _⟩ := q5; exact Heap.lt_size y
      rw [upd_ne (Nat.ne_of_lt low)]
      exact (hf c hcm).1
  done := by
    intro X hP hw hK hc j pins s σ G E I hf st hg
    subst hP hw hK
    obtain ⟨q1, q2, ⟨u0, v0, q3⟩, q4, q5⟩ := st
    obtain ⟨us, vs, su, sv, b1, b2, b3⟩ := hg
    obtain ⟨uits, ru, pu, _⟩ := I.list su
    obtain ⟨vits, rv, pv, _⟩ := I.tuple sv
    have hd : X.A.handled = none := I.ok.hd hc
    have ne1 : a ≠ i1 := fun e => by
      obtain ⟨o4, e4, c4, _⟩ := q4
      obtain ⟨o, oe, oc, _⟩ := pu.isList
      rw [e, e4] at oe
      cases oe
      rw [c4] at oc
      exact absurd oc (by decide)
    have ne2 : b ≠ i2 := fun e => by
      obtain ⟨o4, e4, c4, _⟩ := q5
      obtain ⟨o, oe, oc, _⟩ := pv
      rw [e, e4] at oe
      cases oe
      rw [c4] at oc
      exact absurd oc (by decide)
    have D1 := Draws.list (prog := X.prog) (w := X.w) (A := X.A.in1) hd i1 a ne1 uits.toArray
    have D2 := Draws.tuple (prog := X.prog) (w := X.w) (A := X.A.in1) hd i2 b ne2 vits.toArray
    have l1 := ru.length
    have l2 := rv.length
    refine wpAny_pyNext_zipD2_end S D1 D2 q1 q2 q3 ⟨q4, pu.isList⟩ ⟨q5, pv⟩ (by simp; omega) (by simp; omega) (by simp; omega) fun h' tk nk => ⟨rfl, ?_⟩
    exact I.turnedL (t' := tk) (ch := [z, TI, TO, i1, i2]) (fun c o hb q =>
      nk c o (fun e => hb (by simp [e])) (fun e => hb (by simp [e])) (fun e => hb (by simp [e])) (fun e => hb (by simp [e])) q) hf
  self := fun A j s Q E st h => wpAny_pyIter_zip st.1 h
def iZipLT (K : PySem.W.Frag) (ta : TA) : TI := fun σ G R => ta σ G fun vs G1 => ∃ a b us ys, vs = [.ref a, .ref b] ∧ SqL K G1 a us ∧ SqT K G1 b ys ∧ R (ItLT K a b) G1
theorem pi_zipLT {X : Cx} {e e2 : Expr} {ta : TA} {p pos tpos : Pos} {elts : List Expr} {kk : Nat} (hg : Gl X "zip") (hm : X.mg "zip" = none) (ha : PA X [e, e2] ta)
    (plainArgs : starEach [e, e2] X.env = (false, eval e X.env) :: starEach [e2] X.env := by rfl)
    (noStar : (backTo pos (starEach [e2] X.env)).any (·.1) = false := by rfl) :
    PI X (.Tuple elts kk tpos) (.Call (.Name "zip" p) [e, e2] [] pos) (iZipLT X.K ta) := by
  refine ⟨fun pins s σ G R I h => Call_ (ld_blt I hg hm PyProof.Rows.boot_zip (PyProof.Rows.callWith_type1 (thn (ha.run pos pins s σ G _ I h) fun us s1 ⟨vs, G1, I1, r1, q1⟩ => ?_) plainArgs noStar))⟩
  obtain ⟨a, b, xs, ys, rfl, sx, sy, q⟩ := q1
  cases r1 with
  | cons r rr => cases rr with
    | cons r' rr =>
      cases rr
      cases r
      cases r'
      obtain ⟨uits, ru, pu, _⟩ := I1.list sx
      obtain ⟨vits, rv, pv, _⟩ := I1.tuple sy
      obtain ⟨oa, ea, _⟩ := id pu.isList
      obtain ⟨ob, eb, _⟩ := id pv
      have S := zip_sep2 (N := s1.heap.objs.size) (fp1 := [a]) (fp2 := [b]) (fun c hc => by rw [List.mem_singleton.mp hc]; exact Heap.lt_size ea) (fun c hc => by rw [List.mem_singleton.mp hc]; exact Heap.lt_size eb)
      refine zip_begins2 (begins_list a uits.toArray) (begins_tuple b vits.toArray) pu.isList pv fun h' g1 g2 g3 g4 g5 gsz gk => wpAny_pyIter_zip g1 ?_
      refine ⟨s1.heap.objs.size + 4, [s1.heap.objs.size + 4, s1.heap.objs.size + 2, s1.heap.objs.size + 3, s1.heap.objs.size, s1.heap.objs.size + 1], _, _, G1, rfl, I1.kept (t' := s1.toks) gk, turnLT S,
        ⟨g1, g2, ⟨_, _, g3⟩, ⟨_, g4, rfl, rfl⟩, ⟨_, g5, rfl, rfl⟩⟩, fun c hc => ?_, q⟩
      have above : s1.heap.objs.size ≤ c := by
        rcases in5 hc with rfl | rfl | rfl | rfl | rfl
        · exact Nat.le_add_right _ _
        · exact Nat.le_add_right _ _
        · exact Nat.le_add_right _ _
        · exact Nat.le_refl _
        · exact Nat.le_add_right _ _
      exact I1.fpOk above (I1.hok.fresh above)
theorem walkLT {K : PySem.W.Frag} {a b : Addr} {xs ys : List V} {n : Nat} (h1 : xs.length = n) (h2 : ys.length = n) : Walk (ItLT K a b) n (fun G => SqL K G a xs ∧ SqT K G b ys) (YPair (fun i => xs[i]?) (fun i => ys[i]?)) := by
  refine ⟨fun i G hi q => ⟨xs, ys, xs[i]'(by omega), ys[i]'(by omega), q.1, q.2, List.getElem?_eq_getElem _, List.getElem?_eq_getElem _⟩, fun G q => ⟨xs, ys, q.1, q.2, by omega, by omega, by omega⟩, fun i G v G' _ q y => ?_⟩
  obtain ⟨T, u, v, e1, e2, e3, e4, e5⟩ := y
  exact ⟨T, u, v, e1, e2, e3, e4 xs q.1, e5 ys q.2⟩
/-! ### repr of data -/
def rReprD (K : PySem.W.Frag) : List V → Hp → VK → Prop := fun xs G Q => ∃ a d, xs = [.ref a] ∧ Dp K G (.ref a) d ∧ d.showable = true ∧ d.hasDict = false ∧ d.depth ≤ 60 ∧ d.shown.length ≤ sizeLine ∧ Q (.str d.shown) G
theorem call_reprD {X : Cx} (hu : X.A.units + 64 < cLine) (hgd : X.A.guards = some []) : CallR X (.builtin "repr") (rReprD X.K) := by
  intro pins s σ G xs us Q I r h
  obtain ⟨a, d, rfl, hd, s1, s2, s3, s4, q⟩ := h
  obtain ⟨given, rfl, rel⟩ := vals1 r
  obtain ⟨as, rd⟩ := Dp.reads I d _ _ hd rel
  cases rel
  refine repr_of_reads' rd s1 (fun e => by rw [s2] at e; cases e) hgd (by omega) (fun _ _ e => e) (fun h' t tk kp => ?_) s4
  exact ⟨.str d.shown, G, I.kept (t' := tk) kp, ⟨_, rfl⟩, q⟩
end C2

namespace C2
set_option Elab.async false
set_option linter.all false
set_option maxRecDepth 100000
set_option maxHeartbeats 4000000
open PySem PySem.Spec PyProof.Rows L2
/-! ### a def's promise where no repr is under way -/
structure FnG (P : Program) (w : World) (K : PySem.W.Frag) (mg : Str → Option Value) (base : Heap) (k : Nat) (f : Addr) (fd : FuncData) (ps : List Str) (sp : Sp) : Prop where
  len : ∀ vs G Q E, sp vs G Q E → vs.length = ps.length
  run : ∀ (A : Around) (outer : List Env) (s : Shared) (G : Hp) (args : Args) (us : List Value) (vs : List V) (Q : VK) (E : XK), A.guards = some [] → Room k A →
    Env0 P w K mg base A outer s G → BindsTo s fd args (ps.zip us) → Vals vs us → sp vs G Q E → codeAny (model P w) A (.call (.ref f) args) (CR CX0 outer P w G s Q E) s
section
variable {P : Program} {w : World} {K : PySem.W.Frag} {mg : Str → Option Value} {base : Heap}
theorem deeper_guards {A : Around} {env : Env} (h : A.guards = some []) : (A.deeper env).guards = some [] := h
theorem okG {x qual : Str} {st : Stmt} {f : Addr} {fd : FuncData} {N ps : List Str} {k : Nat} {sp : Sp} (F : Fun K x qual st f fd) (S : FnScope N ps (defScope st)) (len : ∀ vs G Q E, sp vs G Q E → vs.length = ps.length)
    (body : ∀ (cdv : Value) (A : Around) (outer : List Env) (s : Shared) (G : Hp) (vs : List V) (Q : VK) (E : XK), A.guards = some [] → Room k (A.deeper (envOfC qual (defScope st) s.heap.objs.size f cdv)) → sp vs G Q E →
      ∃ t, PSs (cxOf CX0 P w K mg base N qual (defScope st) f cdv A outer s G E).nox (defBody st) t ∧ t { nx := fun _ G' => Q .non G', rt := Q } (start N vs) G) : FnG P w K mg base (k + 1) f fd ps sp := by
  obtain ⟨v1, v2, v3, v4, v5, v6, cdv, v7, v8, rfl, lk, hcd⟩ := F.ex
  refine ⟨len, fun A outer s G args us vs Q E hgd hr e0 hb r hsp => ?_⟩
  have ln := len vs G Q E hsp
  have inK : K.In s.heap := e0.mod.kin.keeps fun c y e => (e0.bs c y e).left
  have noL : s.heap.NoLimit := e0.mod.nolimit.keeps fun c y e => (e0.bs c y e).left
  refine codeAny_call_function hr.depth (inK _ _ lk) rfl S.co S.gen rfl (PySem.W.codeRec_of inK hcd) (hb _ _ _ _ ?_)
  refine wpAny_newFunctionEnv_cells S.kind (fun y hy => ?_) fun env he s1 x => ?_
  · rcases S.par y.1 (List.of_mem_zip (a := y.1) (b := y.2) hy).1 with q | q
    · exact Or.inl q
    · exact Or.inr ⟨q, PySem.W.cellsFrom_some _ _ _ (Or.inl q)⟩
  · subst he
    refine ⟨noL.keeps x.toInCall.keep, codeAny_func ?_⟩
    obtain ⟨t, ht, hq⟩ := body cdv A outer s G vs Q E hgd (hr.deeper _) hsp
    have J0 := inv_start (CX := CX0) (E := E) S hr.hd e0 ln r x
    refine wpAny_mono (ht.nox.run [] s1 (start N vs) G _ J0 hq) (fun fl s' hs => ?_) fun _ _ hs => hs
    cases fl with
    | ret u =>
      obtain ⟨v, σ', G', J, rv, q⟩ := hs
      exact ⟨v, G', J.os, J.bare, J.base, J.hok, rv, q⟩
    | next =>
      obtain ⟨σ', G', J, q⟩ := hs
      exact ⟨V.non, G', J.os, J.bare, J.base, J.hok, rfl, q⟩
    | brk =>
      obtain ⟨_, _, _, q⟩ := hs
      exact q.elim
    | cont =>
      obtain ⟨_, _, _, q⟩ := hs
      exact q.elim
/-- what the law's own call leaves: True, and what stood before as it was -/
def Leaves (s₁ : Shared) : Except Value Flow → Shared → Prop := fun r s' => r = .ok (.ret (.bool true)) ∧ OldK s₁.heap s'.heap ∧
  s'.os = s₁.os ∧ AllBare s'.gens
/-- the law's own call -/
theorem law_callG {mb : Str → Option Value} {k : Nat} {fa a : Addr} {fd : FuncData} {x : Str} {sp : Sp} {s₁ : Shared} {vs : List Value} {ns : List Int}
    (inK : K.In s₁.heap) (hns : s₁.heap.Ns mainGlobals mg) (hb : s₁.heap.Ns builtinsNs mb) (hbb : ∀ x : Str, x ≠ "__name__" → mb x = bootBuiltins x) (hlim : s₁.heap.NoLimit) (hg : s₁.gens = #[])
    (hr : Room k callerA) (hl : ns.length ≤ sizeLine) (hi : IntsAre vs ns)
    (ha : s₁.heap.get? a = some { cls := .type "list", data := .seq vs.toArray })
    (F : ∀ base : Heap, K.In base → base.Ns mainGlobals mg → FnG P w K mg base k fa fd [x] sp) (hbind : ∀ (s : Shared) (u : Value), BindsTo s fd ⟨[u], []⟩ [(x, u)])
    (hsp : ∀ G : Hp, SqL K G a (ns.map V.int) → sp [.ref a] G (fun v _ => v = .bl true) fun _ _ _ => False) :
    codeAny (model P w) callerA (.call (.ref fa) ⟨[.ref a], []⟩) (Leaves s₁) s₁ := by
  have main : ∀ G : Hp, Only G → SqL K G a (ns.map V.int) → HOk P w G s₁.heap → (∀ b, G b ≠ none → b = a) → (G a ≠ none → K.lookup a = none) →
      codeAny (model P w) callerA (.call (.ref fa) ⟨[.ref a], []⟩) (Leaves s₁) s₁ := by
    intro G only sq hok one off
    have hid : ∀ {b : Addr} {y : Obj}, s₁.heap.get? b = some y → (G b = none) → (hidT s₁.heap G).get? b = some y := fun e n => hidT_get e n
    have dct : ∀ {b : Addr} {y : Obj} {es : Array DictEntry} {ep : Nat}, s₁.heap.get? b = some y → y.data = .dict es ep → G b = none := by
      intro b y es ep e d
      cases q : G b with
      | none => rfl
      | some u =>
        have z : b = a := one b (by rw [q]; exact Option.some_ne_none u)
        rw [z, ha] at e
        cases e
        exact absurd d (by intro c; cases c)
    have nsp : ∀ {b : Addr} {m : Str → Option Value}, s₁.heap.Ns b m → (hidT s₁.heap G).Ns b m := by
      rintro b m ⟨y, es, ep, e, d, r⟩
      exact ⟨y, es, ep, hid e (dct e d), d, r⟩
    have kb : K.In (hidT s₁.heap G) := by
      intro b y e
      refine hid (inK b y e) ?_
      cases q : G b with
      | none => rfl
      | some u =>
        have z : b = a := one b (by rw [q]; exact Option.some_ne_none u)
        rw [z] at q e
        rw [off (by rw [q]; exact Option.some_ne_none u)] at e
        cases e
    have md : Mod K mg (hidT s₁.heap G) := by
      refine ⟨kb, nsp hns, ⟨mb, nsp hb, hbb⟩, ?_⟩
      obtain ⟨mc, y1, y2⟩ := hlim
      exact ⟨mc, nsp y1, y2⟩
    have e0 : Env0 P w K mg (hidT s₁.heap G) callerA [] s₁ G :=
      ⟨rfl, md, fun b y e => of_hidT e, Nat.le_of_eq (hidT_size _ _), trivial, fun b z => absurd (show b ∈ ([] : List Addr) from z) List.not_mem_nil, hok, .of_eq hg⟩
    refine codeAny_mono ((F _ kb (nsp hns)).run callerA [] s₁ G ⟨[.ref a], []⟩ [.ref a] [.ref a] _ _ rfl hr e0 (hbind s₁ (.ref a)) (.cons rfl .nil) (hsp G sq)) fun r s' h => ?_
    cases r with
    | error e => exact False.elim h
    | ok fl => cases fl with
      | next => exact False.elim h
      | brk => exact False.elim h
      | cont => exact False.elim h
      | ret u =>
        obtain ⟨v, G', os, bare, un, hok', r', (q : v = .bl true)⟩ := h
        subst q
        cases (show u = Value.bool true from r')
        refine ⟨rfl, OldK.of_keep fun b y e => ?_, os, bare⟩
        cases q : G b with
        | none => exact un.keep b y e q (fun z => absurd (show b ∈ ([] : List Addr) from z) List.not_mem_nil) List.not_mem_nil
        | some u => rcases only b with z | ⟨ob, xs, z⟩
                    · rw [q] at z; cases z
                    · have f1 := (hok b _ z).1
                      have f2 := (hok' b _ (un.frzs b ob _ z)).1
                      rw [e] at f1
                      cases f1
                      exact f2
  have rv := vals_ints hi
  have ln := hi.length
  cases hk : K.lookup a with
  | some y =>
    have e := inK a y hk
    rw [ha] at e
    cases e
    exact main (fun _ => none) (fun _ => .inl rfl) (.inr ⟨_, vs.toArray, _, hk, rfl, rfl, rfl, by rw [List.size_toArray, ln]; exact hl, by simpa using rv⟩)
      (fun b u z => by cases (show (none : Option HO) = some u from z)) (fun b z => absurd rfl z) fun z => absurd rfl z
  | none =>
    obtain ⟨G, at_a, not_a⟩ : ∃ G : Hp, (∀ b, b = a → G b = some (.frz { cls := .type "list", data := .seq vs.toArray } (.lst (ns.map V.int)))) ∧ ∀ b, b ≠ a → G b = none :=
      ⟨fun b => if b = a then some (HO.frz { cls := .type "list", data := .seq vs.toArray } (.lst (ns.map V.int))) else none, fun b e => if_pos e, fun b e => if_neg e⟩
    refine main G (fun b => ?_) (.inl (.inr ⟨_, at_a a rfl⟩)) (fun b u z => ?_) (fun b z => ?_) fun _ => hk
    · by_cases c : b = a
      · exact .inr ⟨_, _, at_a b c⟩
      · exact .inl (not_a b c)
    · by_cases c : b = a
      · rw [at_a b c] at z
        cases z
        rw [c]
        refine ⟨ha, ?_, vs, _, rv, ha⟩
        rw [List.length_map]
        exact hl
      · rw [not_a b c] at z
        cases z
    · by_cases c : b = a
      · exact c
      · exact absurd (not_a b c) z
end
theorem walkG {l : PySem.W.OpenLaw} {n k : Nat} {q : Program} {loose : List Str} {XP : (Str → Option Value) → Heap → Prop} {YP : World → Heap → Prop} {d : DefRec} {K : Params → PySem.W.Frag} {sp : PySem.W.Frag → Sp} {x : Str}
    (most : l.most = some n) (short : n ≤ sizeLine) (bare : d.params.defaults = []) (room : Room k callerA)
    (stands : ∀ (w : World) (h : Heap), YP w h → (K w.params).In h)
    (promise : ∀ (w : World) (mg : Str → Option Value) (fa : Addr) (h : Heap), (K w.params).In h → h.Ns mainGlobals mg →
      mg d.name = some (.ref fa) →
      ∃ fd : FuncData, (∀ (s : Shared) (u : Value), BindsTo s fd ⟨[u], []⟩ [(x, u)]) ∧ ∀ base : Heap, (K w.params).In base → base.Ns mainGlobals mg → FnG l.prog w (K w.params) mg base k fa fd [x] (sp (K w.params)))
    (hsp : ∀ (K : PySem.W.Frag) (G : Hp) (a : Addr) (ns : List Int), ns.length ≤ n → SqL K G a (ns.map V.int) → sp K [.ref a] G (fun v _ => v = .bl true) fun _ _ _ => False) :
    PySem.W.WalkO q loose XP YP l.row.toRowW d []
      (fun f vs => PySem.call f vs) := by
  refine Att.attach_call most bare fun w _ s₁ mg mb fa _ _ _ _ a vs ns G Y _ _ _ hmg there nums few gens => ?_
  have inK := stands w _ Y
  obtain ⟨fd, binds, ok⟩ := promise w mg fa _ inK G.T.g hmg
  exact law_callG inK G.T.g G.T.b G.T.builtins G.T.nolimit gens room (Nat.le_trans few short) nums there ok binds fun H hS => hsp _ H a ns few hS
end C2

namespace C2
set_option Elab.async false
set_option linter.all false
set_option maxRecDepth 100000
set_option maxHeartbeats 4000000
set_option synthInstance.maxHeartbeats 400000
set_option synthInstance.maxSize 2000
/-! ### the mathematics of tables -/
def rg (q : Nat) : List Int := (List.range q).map fun i => ((i : Nat) : Int)
def IsP (q : Nat) (c : List Int) : Prop := c.Perm (rg q)
theorem rg_mem {q : Nat} {v : Int} : v ∈ rg q ↔ 0 ≤ v ∧ v < (q : Int) := by
  unfold rg
  rw [List.mem_map]
  constructor
  · rintro ⟨a, ha, rfl⟩
    rw [List.mem_range] at ha
    omega
  · rintro ⟨h0, h1⟩
    exact ⟨v.toNat, List.mem_range.mpr (by omega), by omega⟩
theorem rg_nodup (q : Nat) : (rg q).Nodup := by
  unfold rg
  refine List.Pairwise.map _ (fun a b h e => h (by omega)) List.nodup_range
theorem IsP.len {q : Nat} {c : List Int} (h : IsP q c) : c.length = q := by
  have := h.length_eq
  unfold rg at this
  rw [List.length_map, List.length_range] at this
  exact this
theorem IsP.nd {q : Nat} {c : List Int} (h : IsP q c) : c.Nodup := (List.Perm.nodup_iff h).mpr (rg_nodup q)
theorem IsP.mem {q : Nat} {c : List Int} (h : IsP q c) {v : Int} : v ∈ c ↔ 0 ≤ v ∧ v < (q : Int) := (List.Perm.mem_iff h).trans rg_mem
theorem IsP.get {q : Nat} {c : List Int} (h : IsP q c) {i : Nat} (hi : i < q) : 0 ≤ c.getD i 0 ∧ c.getD i 0 < (q : Int) := by
  have hl := h.len
  have hi' : i < c.length := by omega
  have e : c.getD i 0 = c[i] := by rw [List.getD_eq_getElem?_getD, List.getElem?_eq_getElem hi']; rfl
  rw [e]
  exact h.mem.mp (List.getElem_mem hi')
theorem IsP.at {q : Nat} {c : List Int} (h : IsP q c) {i : Nat} (hi : i < q) : c[i]? = some (c.getD i 0) := by
  have hl := h.len
  have hi' : i < c.length := by omega
  rw [List.getD_eq_getElem?_getD, List.getElem?_eq_getElem hi']; rfl
theorem IsP.inj {q : Nat} {c : List Int} (h : IsP q c) {i j : Nat} (hi : i < q) (hj : j < q) (e : c.getD i 0 = c.getD j 0) : i = j := by
  have hl := h.len
  have hi' : i < c.length := by omega
  have hj' : j < c.length := by omega
  have e1 := h.at hi
  have e2 := h.at hj
  rw [List.getElem?_eq_getElem hi'] at e1
  rw [List.getElem?_eq_getElem hj'] at e2
  have e3 : c[i] = c[j] := by
    rw [Option.some.inj e1, Option.some.inj e2]
    exact e
  exact (List.getElem_inj h.nd).mp e3
theorem IsP.sur {q : Nat} {c : List Int} (h : IsP q c) {v : Int} (h0 : 0 ≤ v) (h1 : v < (q : Int)) : ∃ i, i < q ∧ c.getD i 0 = v := by
  obtain ⟨i, hi, e⟩ := List.mem_iff_getElem.mp (h.mem.mpr ⟨h0, h1⟩)
  refine ⟨i, by have := h.len; omega, ?_⟩
  rw [List.getD_eq_getElem?_getD, List.getElem?_eq_getElem hi]
  exact e
structure Latin (q : Nat) (f : Nat → Nat → Nat × Nat) : Prop where
  lt1 : ∀ l w, l < q → w < q → (f l w).1 < q
  lt2 : ∀ l w, l < q → w < q → (f l w).2 < q
  p12 : ∀ w v, w < q → v < q → ∃ l, l < q ∧ (f l w).1 = v ∧ ∀ l', l' < q → (f l' w).1 = v → l' = l
  p23 : ∀ v u, v < q → u < q → ∃ l w, l < q ∧ w < q ∧ (f l w).1 = v ∧ (f l w).2 = u ∧ ∀ l' w', l' < q → w' < q → (f l' w').1 = v → (f l' w').2 = u → l' = l ∧ w' = w
  p30 : ∀ l u, l < q → u < q → ∃ w, w < q ∧ (f l w).2 = u ∧ ∀ w', w' < q → (f l w').2 = u → w' = w
def bq (f : Nat → Nat → Nat × Nat) (l w : Nat) : List Int := [(l : Int), (w : Int), ((f l w).1 : Int), ((f l w).2 : Int)]
def ren (cs : List (List Int)) (x : List Int) : List Int := List.zipWith (fun c s => c.getD s.toNat 0) cs x
def prs (q : Nat) : List (Nat × Nat) := (List.range q).flatMap fun l => (List.range q).map fun w => (l, w)
theorem prs_mem {q l w : Nat} : (l, w) ∈ prs q ↔ l < q ∧ w < q := by
  unfold prs
  rw [List.mem_flatMap]
  constructor
  · rintro ⟨a, ha, hm⟩
    obtain ⟨b, hb, e⟩ := List.mem_map.mp hm
    cases e
    exact ⟨List.mem_range.mp ha, List.mem_range.mp hb⟩
  · rintro ⟨h1, h2⟩
    exact ⟨l, List.mem_range.mpr h1, List.mem_map.mpr ⟨w, List.mem_range.mpr h2, rfl⟩⟩
theorem prs_nodup (q : Nat) : (prs q).Nodup := by
  unfold prs List.Nodup
  rw [List.pairwise_flatMap]
  constructor
  · intro a _
    exact List.Pairwise.map _ (fun x y h e => h (by cases e; rfl)) List.nodup_range
  · refine List.Pairwise.imp (fun {x y} h => ?_) List.nodup_range
    intro u hu v hv e
    obtain ⟨_, _, rfl⟩ := List.mem_map.mp hu
    obtain ⟨_, _, rfl⟩ := List.mem_map.mp hv
    exact h (Prod.mk.inj e).1
theorem prs_len (q : Nat) : (prs q).length = q * q := by
  unfold prs
  rw [List.length_flatMap]
  have : (List.range q).map (fun l => ((List.range q).map fun w => (l, w)).length) = (List.range q).map (fun _ => q) := by
    refine List.map_congr_left fun a _ => ?_
    rw [List.length_map, List.length_range]
  rw [this, List.map_const', List.length_range, List.sum_replicate_nat]
theorem filter_one {α : Type} {p : α → Bool} {x : α} : ∀ {l : List α}, l.Nodup → x ∈ l → p x = true → (∀ y ∈ l, p y = true → y = x) → (l.filter p).length = 1
  | [], _, h, _, _ => by cases h
  | a :: r, nd, hx, px, u => by
    obtain ⟨na, nr⟩ := List.nodup_cons.mp nd
    by_cases pa : p a = true
    · have ea : a = x := u a List.mem_cons_self pa
      rw [List.filter_cons_of_pos pa]
      have : r.filter p = [] := by
        rw [List.filter_eq_nil_iff]
        intro y hy py
        have := u y (List.mem_cons_of_mem _ hy) py
        subst this
        subst ea
        exact na hy
      rw [this]
      rfl
    · rw [List.filter_cons_of_neg pa]
      rcases List.mem_cons.mp hx with e | hx
      · subst e
        exact absurd px pa
      · exact filter_one nr hx px fun y hy => u y (List.mem_cons_of_mem _ hy)
def hit (leg : Nat) (one other : Int) (x : List Int) : Bool := x.getD leg 0 == one && x.getD ((leg + 1) % 4) 0 == other
structure Good (q : Nat) (L : List (List Int)) : Prop where
  len : L.length = q * q
  in4 : ∀ x ∈ L, x.length = 4
  inq : ∀ x ∈ L, ∀ v ∈ x, 0 ≤ v ∧ v < (q : Int)
  one : ∀ (leg : Nat) (a b : Int), leg < 4 → 0 ≤ a → a < (q : Int) → 0 ≤ b → b < (q : Int) → (L.filter (hit leg a b)).length = 1
theorem Good.perm {q : Nat} {L M : List (List Int)} (h : Good q L) (p : M.Perm L) : Good q M where
  len := p.length_eq.trans h.len
  in4 := fun x hx => h.in4 x (p.mem_iff.mp hx)
  inq := fun x hx => h.inq x (p.mem_iff.mp hx)
  one := fun leg a b h1 h2 h3 h4 h5 => (p.filter _).length_eq.trans (h.one leg a b h1 h2 h3 h4 h5)
def four (c0 c1 c2 c3 : List Int) (f : Nat → Nat → Nat × Nat) (l w : Nat) : List Int := [c0.getD l 0, c1.getD w 0, c2.getD (f l w).1 0, c3.getD (f l w).2 0]
theorem ren_bq (c0 c1 c2 c3 : List Int) (f : Nat → Nat → Nat × Nat) (l w : Nat) : ren [c0, c1, c2, c3] (bq f l w) = four c0 c1 c2 c3 f l w := by
  unfold ren bq four
  simp [List.zipWith]
theorem good_of {q : Nat} {f : Nat → Nat → Nat × Nat} {c0 c1 c2 c3 : List Int} (L : Latin q f) (h0 : IsP q c0) (h1 : IsP q c1) (h2 : IsP q c2) (h3 : IsP q c3) :
    Good q ((prs q).map fun x => ren [c0, c1, c2, c3] (bq f x.1 x.2)) := by
  have e : ((prs q).map fun x => ren [c0, c1, c2, c3] (bq f x.1 x.2)) = (prs q).map fun x => four c0 c1 c2 c3 f x.1 x.2 := List.map_congr_left fun x _ => ren_bq c0 c1 c2 c3 f x.1 x.2
  rw [e]
  refine ⟨by rw [List.length_map, prs_len], ?_, ?_, ?_⟩
  · intro x hx
    obtain ⟨y, _, rfl⟩ := List.mem_map.mp hx
    rfl
  · intro x hx v hv
    obtain ⟨⟨l, w⟩, hy, rfl⟩ := List.mem_map.mp hx
    obtain ⟨hl, hw⟩ := prs_mem.mp hy
    unfold four at hv
    simp only [List.mem_cons, List.not_mem_nil, or_false] at hv
    rcases hv with rfl | rfl | rfl | rfl
    · exact h0.get hl
    · exact h1.get hw
    · exact h2.get (L.lt1 l w hl hw)
    · exact h3.get (L.lt2 l w hl hw)
  · intro leg a b hleg ha0 ha1 hb0 hb1
    rw [List.filter_map, List.length_map]
    have key : ∀ (l w : Nat), (hit leg a b ∘ fun x : Nat × Nat => four c0 c1 c2 c3 f x.1 x.2) (l, w) = true ↔
        (four c0 c1 c2 c3 f l w).getD leg 0 = a ∧ (four c0 c1 c2 c3 f l w).getD ((leg + 1) % 4) 0 = b := by
      intro l w
      show hit leg a b (four c0 c1 c2 c3 f l w) = true ↔ _
      unfold hit
      rw [Bool.and_eq_true, beq_iff_eq, beq_iff_eq]
    have fin : (∃ l w, l < q ∧ w < q ∧ ((four c0 c1 c2 c3 f l w).getD leg 0 = a ∧ (four c0 c1 c2 c3 f l w).getD ((leg + 1) % 4) 0 = b) ∧
        ∀ l' w', l' < q → w' < q → (four c0 c1 c2 c3 f l' w').getD leg 0 = a → (four c0 c1 c2 c3 f l' w').getD ((leg + 1) % 4) 0 = b → l' = l ∧ w' = w) →
        (List.filter (hit leg a b ∘ fun x : Nat × Nat => four c0 c1 c2 c3 f x.1 x.2) (prs q)).length = 1 := by
      rintro ⟨l, w, hl, hw, hp, u⟩
      refine filter_one (x := (l, w)) (prs_nodup q) (prs_mem.mpr ⟨hl, hw⟩) ((key l w).mpr hp) ?_
      rintro ⟨l', w'⟩ hy py
      obtain ⟨hl', hw'⟩ := prs_mem.mp hy
      obtain ⟨y1, y2⟩ := (key l' w').mp py
      obtain ⟨e1, e2⟩ := u l' w' hl' hw' y1 y2
      rw [e1, e2]
    apply fin
    have hc : leg = 0 ∨ leg = 1 ∨ leg = 2 ∨ leg = 3 := by omega
    rcases hc with rfl | rfl | rfl | rfl
    · obtain ⟨l, hl, el⟩ := h0.sur ha0 ha1
      obtain ⟨w, hw, ew⟩ := h1.sur hb0 hb1
      refine ⟨l, w, hl, hw, ⟨el, ew⟩, fun l' w' hl' hw' y1 y2 => ⟨?_, ?_⟩⟩
      · exact h0.inj hl' hl (Eq.trans y1 el.symm)
      · exact h1.inj hw' hw (Eq.trans y2 ew.symm)
    · obtain ⟨w, hw, ew⟩ := h1.sur ha0 ha1
      obtain ⟨v, hv, ev⟩ := h2.sur hb0 hb1
      obtain ⟨l, hl, el, u⟩ := L.p12 w v hw hv
      refine ⟨l, w, hl, hw, ⟨ew, ?_⟩, fun l' w' hl' hw' y1 y2 => ?_⟩
      · show c2.getD (f l w).1 0 = b
        rw [el]
        exact ev
      · have z1 : w' = w := h1.inj hw' hw (Eq.trans y1 ew.symm)
        subst z1
        have z2 : (f l' w').1 = v := h2.inj (L.lt1 _ _ hl' hw') hv (Eq.trans y2 ev.symm)
        exact ⟨u l' hl' z2, rfl⟩
    · obtain ⟨v, hv, ev⟩ := h2.sur ha0 ha1
      obtain ⟨t, ht, et⟩ := h3.sur hb0 hb1
      obtain ⟨l, w, hl, hw, e1, e2, u⟩ := L.p23 v t hv ht
      refine ⟨l, w, hl, hw, ⟨?_, ?_⟩, fun l' w' hl' hw' y1 y2 => ?_⟩
      · show c2.getD (f l w).1 0 = a
        rw [e1]
        exact ev
      · show c3.getD (f l w).2 0 = b
        rw [e2]
        exact et
      · exact u l' w' hl' hw' (h2.inj (L.lt1 _ _ hl' hw') hv (Eq.trans y1 ev.symm)) (h3.inj (L.lt2 _ _ hl' hw') ht (Eq.trans y2 et.symm))
    · obtain ⟨t, ht, et⟩ := h3.sur ha0 ha1
      obtain ⟨l, hl, el⟩ := h0.sur hb0 hb1
      obtain ⟨w, hw, ew, u⟩ := L.p30 l t hl ht
      refine ⟨l, w, hl, hw, ⟨?_, el⟩, fun l' w' hl' hw' y1 y2 => ?_⟩
      · show c3.getD (f l w).2 0 = a
        rw [ew]
        exact et
      · have z1 : l' = l := h0.inj hl' hl (Eq.trans y2 el.symm)
        subst z1
        have z2 : (f l' w').2 = t := h3.inj (L.lt2 _ _ hl' hw') ht (Eq.trans y1 et.symm)
        exact ⟨rfl, u w' hw' z2⟩
/-! ### the three ways -/
def fway (way : Int) (ts : List (List Int)) (more less q : Nat) (l w : Nat) : Nat × Nat :=
  if way = 0 then (((ts.getD w []).getD l 0).toNat, w) else if way = 1 then (l, ((ts.getD l []).getD w 0).toNat) else ((l + more * w) % q, (w + less * l) % q)
theorem latin_way {way : Int} {ts : List (List Int)} {more less q : Nat} (h2 : 2 ≤ q) (h7 : q ≤ 7) (hw : way = 0 ∨ way = 1 ∨ way = 2) (ht : way < 2 → ts.length = q ∧ ∀ c ∈ ts, IsP q c)
    (hm : (more, less) ∈ [(1, 0), (0, 1), (2, 1), (1, 2)]) : Latin q (fway way ts more less q) := by
  have getT : way < 2 → ∀ i, i < q → IsP q (ts.getD i []) := fun c i hi => by
    obtain ⟨ln, al⟩ := ht c
    have hi' : i < ts.length := by omega
    rw [List.getD_eq_getElem?_getD, List.getElem?_eq_getElem hi']
    exact al _ (List.getElem_mem hi')
  rcases hw with rfl | rfl | rfl
  · have T := getT (by decide)
    have e : ∀ l w, fway 0 ts more less q l w = (((ts.getD w []).getD l 0).toNat, w) := fun l w => rfl
    refine ⟨fun l w hl hw => ?_, fun l w hl hw => ?_, fun w v hw hv => ?_, fun v u hv hu => ?_, fun l u hl hu => ?_⟩
    · have := (T w hw).get hl
      rw [e]
      show ((ts.getD w []).getD l 0).toNat < q
      omega
    · exact hw
    · obtain ⟨l, hl, el⟩ := (T w hw).sur (v := (v : Int)) (by omega) (by omega)
      refine ⟨l, hl, by rw [e]; show ((ts.getD w []).getD l 0).toNat = v; omega, fun l' hl' y => ?_⟩
      have y' : ((ts.getD w []).getD l' 0).toNat = v := y
      have := (T w hw).get hl'
      exact (T w hw).inj hl' hl (by omega)
    · obtain ⟨l, hl, el⟩ := (T u hu).sur (v := (v : Int)) (by omega) (by omega)
      refine ⟨l, u, hl, hu, by rw [e]; show ((ts.getD u []).getD l 0).toNat = v; omega, rfl, fun l' w' hl' hw' y1 y2 => ?_⟩
      have z : w' = u := y2
      subst z
      have y' : ((ts.getD w' []).getD l' 0).toNat = v := y1
      have := (T w' hw').get hl'
      exact ⟨(T w' hw').inj hl' hl (by omega), rfl⟩
    · exact ⟨u, hu, rfl, fun w' _ y => y⟩
  · have T := getT (by decide)
    have e : ∀ l w, fway 1 ts more less q l w = (l, ((ts.getD l []).getD w 0).toNat) := fun l w => rfl
    refine ⟨fun l w hl hw => ?_, fun l w hl hw => ?_, fun w v hw hv => ?_, fun v u hv hu => ?_, fun l u hl hu => ?_⟩
    · exact hl
    · have := (T l hl).get hw
      rw [e]
      show ((ts.getD l []).getD w 0).toNat < q
      omega
    · exact ⟨v, hv, rfl, fun l' _ y => y⟩
    · obtain ⟨w, hw, ew⟩ := (T v hv).sur (v := (u : Int)) (by omega) (by omega)
      refine ⟨v, w, hv, hw, rfl, by rw [e]; show ((ts.getD v []).getD w 0).toNat = u; omega, fun l' w' hl' hw' y1 y2 => ?_⟩
      have z : l' = v := y1
      subst z
      have y' : ((ts.getD l' []).getD w' 0).toNat = u := y2
      have := (T l' hl').get hw'
      exact ⟨rfl, (T l' hl').inj hw' hw (by omega)⟩
    · obtain ⟨w, hw, ew⟩ := (T l hl).sur (v := (u : Int)) (by omega) (by omega)
      refine ⟨w, hw, by rw [e]; show ((ts.getD l []).getD w 0).toNat = u; omega, fun w' hw' y => ?_⟩
      have y' : ((ts.getD l []).getD w' 0).toNat = u := y
      have := (T l hl).get hw'
      exact (T l hl).inj hw' hw (by omega)
  · have e : fway 2 ts more less q = fun l w => ((l + more * w) % q, (w + less * l) % q) := rfl
    rw [e]
    have hq : q ∈ [2, 3, 4, 5, 6, 7] := by
      have : q = 2 ∨ q = 3 ∨ q = 4 ∨ q = 5 ∨ q = 6 ∨ q = 7 := by omega
      rcases this with rfl | rfl | rfl | rfl | rfl | rfl <;> decide
    have c1 : ∀ ml ∈ [(1, 0), (0, 1), (2, 1), (1, 2)], ∀ q ∈ [2, 3, 4, 5, 6, 7], ∀ w, w < q → ∀ v, v < q → ∃ l, l < q ∧ ((l + ml.1 * w) % q = v ∧ ∀ l', l' < q → (l' + ml.1 * w) % q = v → l' = l) := by decide +kernel
    have c2 : ∀ ml ∈ [(1, 0), (0, 1), (2, 1), (1, 2)], ∀ q ∈ [2, 3, 4, 5, 6, 7], ∀ v, v < q → ∀ u, u < q → ∃ l, l < q ∧ ∃ w, w < q ∧ ((l + ml.1 * w) % q = v ∧ ((w + ml.2 * l) % q = u ∧ ∀ l', l' < q → ∀ w', w' < q → (l' + ml.1 * w') % q = v → (w' + ml.2 * l') % q = u → l' = l ∧ w' = w)) := by decide +kernel
    have c3 : ∀ ml ∈ [(1, 0), (0, 1), (2, 1), (1, 2)], ∀ q ∈ [2, 3, 4, 5, 6, 7], ∀ l, l < q → ∀ u, u < q → ∃ w, w < q ∧ ((w + ml.2 * l) % q = u ∧ ∀ w', w' < q → (w' + ml.2 * l) % q = u → w' = w) := by decide +kernel
    refine ⟨fun l w hl hw => Nat.mod_lt _ (by omega), fun l w hl hw => Nat.mod_lt _ (by omega), fun w v hw hv => ?_, fun v u hv hu => ?_, fun l u hl hu => ?_⟩
    · exact c1 _ hm q hq w hw v hv
    · obtain ⟨l, hl, w, hw, y1, y2, y3⟩ := c2 _ hm q hq v hv u hu
      exact ⟨l, w, hl, hw, y1, y2, fun l' w' hl' hw' => y3 l' hl' w' hw'⟩
    · exact c3 _ hm q hq l hl u hu
end C2

namespace C2
set_option Elab.async false
set_option linter.all false
set_option maxRecDepth 100000
set_option maxHeartbeats 4000000
open PySem PySem.Spec PyProof.Rows L2
abbrev NT : List Str := ["_law_pool", "_law_q", "_law_way", "_law_quads", "_law_turns", "_law_more", "_law_less", "_law_left", "_law_low", "_law_calls", "_law_k", "_law_leg", "_law_quad", "_law_call", "_law_sign"]
theorem scTable : FnScope NT ["_law_pool", "_law_q"] (defScope sTable) := ⟨rfl, rfl, rfl, by decide +kernel, rfl, by decide +kernel, by decide +kernel⟩
abbrev scQ : Scope := { kind := .function, names := [(".0", .local), ("_law_quad", .local), ("tuple", .globalImplicit), ("zip", .globalImplicit), ("_law_calls", .cell)], isGenerator := false, isCoroutine := false }
def Cells (G : Hp) (cs : List (Addr × List Int)) : Prop := ∀ c ∈ cs, G c.1 = some (.tup (c.2.map V.int))
abbrev refs (cs : List (Addr × List Int)) : List V := cs.map fun c => V.ref c.1
def Srt (L : List (List Int)) : Prop := L.Pairwise fun x y => TS.code 7 x ≤ TS.code 7 y
def spTable : Sp := fun vs H Q _ => ∃ (p : Addr) (q n : Nat), vs = [.ref p, .int (q : Int)] ∧ 2 ≤ q ∧ q ≤ 7 ∧ PotAt H p n ∧ n + 200 < 1000000 ∧
  ∀ H' t cs, Fr p H H' → PotAt H' p (n + 100) → H' t = some (.tup (refs cs)) → Cells H' cs → Good q (cs.map (·.2)) → Srt (cs.map (·.2)) → Q (.ref t) H'
section
variable {P : Program} {w : World} {K : PySem.W.Frag} {mg : Str → Option Value} {base : Heap}
def teMix (K : PySem.W.Frag) : TE := tCall (spMixed K) [] E0 (tCons (tVar 0) (tCons (tLstRg (tRg1 (tVar 1))) tNil))
def teIn (K : PySem.W.Frag) : TE := tOp (rIxL K) (tVar 13) (tVar 14)
def rTupOf (K : PySem.W.Frag) : List V → Hp → VK → Prop := fun xs H Q => ∃ p ys, xs = [.ref p] ∧ ((SqL K H p ys ∧ ∀ l, H l = none → Q (.ref l) (upd H l (.tup ys))) ∨ (SqT K H p ys ∧ Q (.ref p) H))
def teOut (K : PySem.W.Frag) : TE := tCB (rTupOf K) (tCons (tLc (iZipLT K (tCons (tVar 9) (tCons (tVar 12) tNil))) (gTup K 2 (gCons (gName 13) (gCons (gName 14) gNil))) tYes (teIn K) [13, 14]) tNil)
end
end C2

namespace C2
set_option Elab.async false
set_option linter.all false
set_option maxRecDepth 100000
set_option maxHeartbeats 4000000
open PySem PySem.Spec PyProof.Rows L2
theorem PotAt.mono {G : Hp} {p : Addr} {n m : Nat} (h : PotAt G p n) (le : n ≤ m) : PotAt G p m := by
  obtain ⟨g, c, t, h1, h2, h3⟩ := h
  exact ⟨g, c, t, h1, h2, by omega⟩
theorem PotAt.ne {G : Hp} {p b : Addr} {n : Nat} (h : PotAt G p n) (hb : G b = none) : p ≠ b := by
  obtain ⟨g, c, t, h1, _⟩ := h
  exact ne_of_none h1 hb
theorem PotAt.upd {G : Hp} {p b : Addr} {n : Nat} {o : HO} (h : PotAt G p n) (hb : p ≠ b) : PotAt (L2.upd G b o) p n := by
  obtain ⟨g, c, t, h1, h2⟩ := h
  exact ⟨g, c, t, by rw [upd_ne hb]; exact h1, h2⟩
theorem PotAt.fr {G G' : Hp} {p b : Addr} {n : Nat} (h : PotAt G p n) (f : Fr b G G') (hb : p ≠ b) : PotAt G' p n := by
  obtain ⟨g, c, t, h1, h2⟩ := h
  exact ⟨g, c, t, f _ _ hb h1, h2⟩
def unI : V → Int
  | .int i => i
  | _ => 0
theorem rgV_rg (q : Nat) : rgV 0 (q : Int) = (rg q).map V.int := by
  unfold rgV rg
  rw [List.map_map, show ((q : Int) - 0).toNat = q by omega]
  refine List.map_congr_left fun a _ => ?_
  show V.int (0 + (a : Int)) = V.int (a : Int)
  rw [Int.zero_add]
theorem perm_ints {ys : List V} {q : Nat} (h : ys.Perm (rgV 0 (q : Int))) : ∃ c, ys = c.map V.int ∧ IsP q c := by
  rw [rgV_rg] at h
  refine ⟨ys.map unI, ?_, ?_⟩
  · rw [List.map_map]
    have : ys.map (V.int ∘ unI) = ys.map id := List.map_congr_left fun y hy => by
      obtain ⟨i, _, rfl⟩ := List.mem_map.mp (h.mem_iff.mp hy)
      rfl
    rw [this, List.map_id]
  · have := h.map unI
    rw [List.map_map] at this
    have e : (rg q).map (unI ∘ V.int) = rg q := by
      rw [show (unI ∘ V.int) = id from rfl, List.map_id]
    rw [e] at this
    exact this
section
variable {K : PySem.W.Frag}
def MixI (p D : Addr) (q n : Nat) (H1 : Hp) (i : Nat) (H3 : Hp) : Prop := ∃ lc : List (Addr × List Int), lc.length = i ∧ H3 D = some (.lst (refs lc)) ∧ Fr p H1 H3 ∧ PotAt H3 p (n + i * q) ∧
  ∀ c ∈ lc, H1 c.1 = none ∧ c.1 ≠ D ∧ c.1 ≠ p ∧ H3 c.1 = some (.lst (c.2.map V.int)) ∧ IsP q c.2
theorem mix_turn {p D : Addr} {q n j i : Nat} {σ : L2.St} {H1 H3 : Hp} (σ0 : σ[0]? = some (some (.ref p))) (σ1 : σ[1]? = some (some (.int (q : Int)))) (hq : q ≤ 7) (hb : n + j * q < 1000000) (hi : i < j) (hj : j ≤ 1000) (hD : H1 D = none) (pD : p ≠ D) (I : MixI p D q n H1 i H3) :
    teMix K σ H3 fun y H4 => ∃ acc, H4 D = some (.lst acc) ∧ acc.length < sizeLine ∧ MixI p D q n H1 (i + 1) (upd H4 D (.lst (acc ++ [y]))) := by
  obtain ⟨lc, hlen, hDl, fr, hP, al⟩ := I
  have hle : (i + 1) * q ≤ j * q := Nat.mul_le_mul_right q hi
  have hs : (i + 1) * q = i * q + q := Nat.succ_mul i q
  refine ⟨.ref p, σ0, .int (q : Int), σ1, (q : Int), rfl, RgOk.of_le (by decide) (by omega) (by decide) (by omega), fun l nl => ?_⟩
  have pl : p ≠ l := hP.ne nl
  have lD : D ≠ l := ne_of_none hDl nl
  have hlenr : (rgV 0 (q : Int)).length = q := by
    rw [rgV_length]
    omega
  refine ⟨p, l, rgV 0 (q : Int), n + i * q, rfl, hP.upd pl, by rw [hlenr]; omega, pl.symm, .inl (.inl upd_same), fun r ys H4 fr4 hP4 nr hr hper => ?_⟩
  obtain ⟨c, rfl, hc⟩ := perm_ints hper
  rw [hlenr] at hP4
  have rl : r ≠ l := fun z => by rw [z, upd_same] at nr; cases nr
  have nr3 : H3 r = none := by rw [upd_ne rl] at nr; exact nr
  have rD : r ≠ D := fun z => by rw [z, hDl] at nr3; cases nr3
  have rp : r ≠ p := (hP.ne nr3).symm
  have fr34 : Fr p H3 H4 := Fr.trans (Fr.new nl) fr4
  have hD4 : H4 D = some (.lst (refs lc)) := fr34 _ _ pD.symm hDl
  refine ⟨refs lc, hD4, ?_, lc ++ [(r, c)], ?_, ?_, ?_, ?_, ?_⟩
  · rw [List.length_map]
    exact Nat.lt_of_lt_of_le (show lc.length < 100000 by omega) (by decide)
  · rw [List.length_append, hlen]
    rfl
  · rw [upd_same]
    show _ = some (HO.lst (List.map _ (lc ++ [(r, c)])))
    rw [List.map_append]
    rfl
  · intro b o nb e
    rw [upd_ne (ne_of_none e hD)]
    exact fr34 _ _ nb (fr _ _ nb e)
  · rw [hs, ← Nat.add_assoc]
    exact hP4.upd pD
  · intro d hd
    rcases List.mem_append.mp hd with hd | hd
    · obtain ⟨a1, a2, a3, a4, a5⟩ := al d hd
      refine ⟨a1, a2, a3, ?_, a5⟩
      rw [upd_ne a2]
      exact fr34 _ _ a3 a4
    · rw [List.mem_singleton] at hd
      subst hd
      refine ⟨fr.free rp nr3, rD, rp, ?_, hc⟩
      rw [upd_ne rD]
      exact hr
theorem set_slot0 {σ : L2.St} {slot i : Nat} {x y : Option V} (h : slot ≠ i) : ((σ.set slot x).set slot y)[i]? = σ[i]? := by
  rw [List.getElem?_set_ne h, List.getElem?_set_ne h]
theorem mix_lc {p : Addr} {q n j slot : Nat} {σ : L2.St} {ta : TA} {H1 : Hp} {Qv : VK} (hsl : 2 ≤ slot) (σ0 : σ[0]? = some (some (.ref p))) (σ1 : σ[1]? = some (some (.int (q : Int)))) (hq : q ≤ 7) (hb : n + j * q < 1000000) (hj : j ≤ 1000)
    (hta : ∀ R : List V → Hp → Prop, R [.int (j : Int)] H1 → ta σ H1 R) (hP : PotAt H1 p n)
    (k : ∀ D lc H2, Fr p H1 H2 → PotAt H2 p (n + j * q) → H1 D = none → H2 D = some (.lst (refs lc)) → lc.length = j →
      (∀ c ∈ lc, H1 c.1 = none ∧ c.1 ≠ D ∧ c.1 ≠ p ∧ H2 c.1 = some (.lst (c.2.map V.int)) ∧ IsP q c.2) → Qv (.ref D) H2) :
    tLc (iRng1 ta) (gName slot) tYes (teMix K) [slot] σ H1 Qv := by
  refine hta _ ⟨(j : Int), rfl, by omega, by omega, fun D nD => ?_⟩
  have pD : p ≠ D := hP.ne nD
  refine lc_range (lo := 0) (n := j) (MixI p D q n H1) ?_ ?_ ?_
  · refine ⟨[], rfl, upd_same, Fr.new nD, ?_, fun c hc => by cases hc⟩
    rw [Nat.zero_mul, Nat.add_zero]
    exact hP.upd pD
  · intro i H3 hi I
    have w1 : wipe σ [slot] = σ.set slot none := rfl
    refine ⟨?_, ?_⟩
    · show ((wipe σ [slot]).set slot _).set slot none = (wipe σ [slot])
      rw [w1, List.set_set, List.set_set]
    · simp only [tYes, ↓reduceIte]
      refine mix_turn (j := j) ?_ ?_ hq hb hi hj nD pD I
      · show ((σ.set slot none).set slot _)[0]? = _
        rw [set_slot0 (by omega)]
        exact σ0
      · show ((σ.set slot none).set slot _)[1]? = _
        rw [set_slot0 (by omega)]
        exact σ1
  · rintro H2 ⟨lc, h1, h2, h3, h4, h5⟩
    exact k D lc H2 h3 h4 nD h2 h1 h5
/-! ### the loops -/
def tLoop (K : PySem.W.Frag) : TS := tFor (iRng1 (tCons (tVar 1) tNil)) (gName 7) (tFor (iRng1 (tCons (tVar 1) tNil)) (gName 8)
  (tIfS (tTest (tOp rEq (tVar 2) (tC (V.int 0))))
    (tDrop (tBM K "list" rAppend (tVar 3) (tCons (tTup (tCons (tVar 7) (tCons (tVar 8) (tCons (tOp (rIxL K) (tOp (rIxL K) (tVar 4) (tVar 8)) (tVar 7)) (tCons (tVar 8) tNil))))) tNil)))
    (tIfS (tTest (tOp rEq (tVar 2) (tC (V.int 1))))
      (tDrop (tBM K "list" rAppend (tVar 3) (tCons (tTup (tCons (tVar 7) (tCons (tVar 8) (tCons (tVar 7) (tCons (tOp (rIxL K) (tOp (rIxL K) (tVar 4) (tVar 7)) (tVar 8)) tNil))))) tNil)))
      (tDrop (tBM K "list" rAppend (tVar 3) (tCons (tTup (tCons (tVar 7) (tCons (tVar 8) (tCons (tOp (rI (fun x j => 0 < j) fun i j => V.int (i % j)) (tOp (rI0 fun i j => V.int (i + j)) (tVar 7) (tOp (rI CMul fun i j => V.int (i * j)) (tVar 5) (tVar 8))) (tVar 1))
        (tCons (tOp (rI (fun x j => 0 < j) fun i j => V.int (i % j)) (tOp (rI0 fun i j => V.int (i + j)) (tVar 8) (tOp (rI CMul fun i j => V.int (i * j)) (tVar 6) (tVar 7))) (tVar 1)) tNil))))) tNil))))))
def σT (p : Addr) (q : Nat) (way : Int) (qa ta : Addr) (more less : Nat) (y7 y8 : Option V) : L2.St :=
  [some (.ref p), some (.int (q : Int)), some (.int way), some (.ref qa), some (.ref ta), some (.int (more : Int)), some (.int (less : Int)), y7, y8, none, none, none, none, none, none]
def pre (f : Nat → Nat → Nat × Nat) (q i j : Nat) : List (List Int) := ((List.range i).flatMap fun l => (List.range q).map fun w => bq f l w) ++ (List.range j).map fun w => bq f i w
theorem pre_step (f : Nat → Nat → Nat × Nat) (q i j : Nat) : pre f q i (j + 1) = pre f q i j ++ [bq f i j] := by
  unfold pre
  rw [List.range_succ, List.map_append, List.append_assoc]
  rfl
theorem pre_row (f : Nat → Nat → Nat × Nat) (q i : Nat) : pre f q (i + 1) 0 = pre f q i q := by
  unfold pre
  rw [List.range_succ, List.flatMap_append]
  simp
theorem pre_all (f : Nat → Nat → Nat × Nat) (q : Nat) : pre f q q 0 = (prs q).map fun x => bq f x.1 x.2 := by
  unfold pre prs
  simp [List.map_flatMap]
  rfl
structure LoopI (qa : Addr) (f : Nat → Nat → Nat × Nat) (q : Nat) (H6 : Hp) (i j : Nat) (H3 : Hp) (cs : List (Addr × List Int)) : Prop where
  fr : Fr qa H6 H3
  at_ : H3 qa = some (.lst (refs cs))
  ce : Cells H3 cs
  eq : cs.map (·.2) = pre f q i j
theorem pre_len (f : Nat → Nat → Nat × Nat) (q i j : Nat) : (pre f q i j).length = i * q + j := by
  unfold pre
  rw [List.length_append, List.length_flatMap, List.length_map, List.length_range]
  have : (List.range i).map (fun l => ((List.range q).map fun w => bq f l w).length) = (List.range i).map (fun _ => q) := List.map_congr_left fun a _ => by rw [List.length_map, List.length_range]
  rw [this, List.map_const', List.length_range, List.sum_replicate_nat]
/-- one more quad -/
theorem LoopI.more {qa T : Addr} {f : Nat → Nat → Nat × Nat} {q i j : Nat} {H6 H3 : Hp} {cs : List (Addr × List Int)} (I : LoopI qa f q H6 i j H3 cs) (nq : H6 qa ≠ none) (hT : H3 T = none) :
    LoopI qa f q H6 i (j + 1) (upd (upd H3 T (.tup ((bq f i j).map V.int))) qa (.lst (refs cs ++ [.ref T]))) (cs ++ [(T, bq f i j)]) := by
  have nT : qa ≠ T := ne_of_none I.at_ hT
  refine ⟨?_, ?_, ?_, ?_⟩
  · exact Fr.trans I.fr (Fr.trans (Fr.new hT) Fr.upd)
  · rw [upd_same]
    show _ = some (HO.lst (List.map _ (cs ++ [(T, bq f i j)])))
    rw [List.map_append]
    rfl
  · intro c hc
    rcases List.mem_append.mp hc with hc | hc
    · have h := I.ce c hc
      rw [upd_ne (ne_of h I.at_ (by intro z; cases z)), upd_ne (ne_of_none h hT)]
      exact h
    · rw [List.mem_singleton] at hc
      subst hc
      rw [upd_ne nT.symm]
      exact upd_same
  · rw [List.map_append, I.eq, pre_step]
    rfl
theorem loop_ok {p qa ta : Addr} {q more less : Nat} {way : Int} {tl : List (Addr × List Int)} {H6 : Hp} {D : Ends} {y7 y8 : Option V} (h2 : 2 ≤ q) (h7 : q ≤ 7) (hw : way = 0 ∨ way = 1 ∨ way = 2) (hml : more ≤ 2 ∧ less ≤ 2)
    (hq0 : H6 qa = some (.lst [])) (hta : H6 ta = some (.lst (refs tl))) (nta : ta ≠ qa) (htl : way < 2 → tl.length = q) (htc : ∀ c ∈ tl, c.1 ≠ qa ∧ H6 c.1 = some (.lst (c.2.map V.int)) ∧ IsP q c.2)
    (k : ∀ y7 y8 H7 cs, Fr qa H6 H7 → H7 qa = some (.lst (refs cs)) → Cells H7 cs → cs.map (·.2) = ((prs q).map fun x => bq (fway way (tl.map (·.2)) more less q) x.1 x.2) → D.nx (σT p q way qa ta more less y7 y8) H7) :
    tLoop K D (σT p q way qa ta more less y7 y8) H6 := by
  have nq : H6 qa ≠ none := by rw [hq0]; intro z; cases z
  refine ⟨.int (q : Int), rfl, (q : Int), rfl, by omega, by omega, ?_⟩
  refine for_range (lo := 0) (n := q) (fun i σ H3 => ∃ y7 y8 cs, σ = σT p q way qa ta more less y7 y8 ∧ LoopI qa (fway way (tl.map (·.2)) more less q) q H6 i 0 H3 cs) ⟨y7, y8, [], rfl, Fr.refl _ _, hq0, fun c hc => (by cases hc), rfl⟩ ?_ ?_
  · rintro i σ H3 hi ⟨z7, z8, cs, rfl, I⟩
    refine ⟨.int (q : Int), rfl, (q : Int), rfl, by omega, by omega, ?_⟩
    refine for_range (lo := 0) (n := q) (fun j σ H3 => ∃ y8 cs, σ = σT p q way qa ta more less (some (.int (i : Int))) y8 ∧ LoopI qa (fway way (tl.map (·.2)) more less q) q H6 i j H3 cs) ⟨z8, cs, ?_, I⟩ ?_ ?_
    · show (σT p q way qa ta more less z7 z8).set 7 (some (V.int (0 + (i : Int)))) = _
      rw [Int.zero_add]
      rfl
    · rintro j σ H4 hj ⟨w8, cs, rfl, I⟩
      have hsl : (cs.length : Nat) < 1000 := by
        have e : cs.length = (cs.map (·.2)).length := (List.length_map _).symm
        rw [e, I.eq, pre_len]
        have : i * q ≤ 7 * 7 := Nat.mul_le_mul (by omega) h7
        omega
      have hs2 : (σT p q way qa ta more less (some (.int (i : Int))) w8).set 8 (some (V.int (0 + (j : Int)))) = σT p q way qa ta more less (some (.int (i : Int))) (some (.int (j : Int))) := by
        rw [Int.zero_add]
        rfl
      show (tIfS _ _ _) _ ((σT p q way qa ta more less (some (.int (i : Int))) w8).set 8 (some (V.int (0 + (j : Int))))) H4
      rw [hs2]
      have S3 : SqL K H4 qa (refs cs) := .inl (.inl I.at_)
      have hta4 : SqL K H4 ta (refs tl) := .inl (.inl (I.fr _ _ nta hta))
      have fin : ∀ (vs : List V) (T : Addr), H4 T = none → vs = (bq (fway way (tl.map (·.2)) more less q) i j).map V.int →
          ∃ l xs y, (V.ref qa) = .ref l ∧ [V.ref T] = [y] ∧ (upd H4 T (.tup vs)) l = some (.lst xs) ∧ xs.length < sizeLine ∧
            (∃ y8 cs, σT p q way qa ta more less (some (.int (i : Int))) (some (.int (j : Int))) = σT p q way qa ta more less (some (.int (i : Int))) y8 ∧ LoopI qa (fway way (tl.map (·.2)) more less q) q H6 i (j + 1) (upd (upd H4 T (.tup vs)) l (.lst (xs ++ [y]))) cs) := by
        rintro vs T hT rfl
        refine ⟨qa, refs cs, .ref T, rfl, rfl, ?_, ?_, _, _, rfl, I.more nq hT⟩
        · rw [upd_ne (ne_of_none I.at_ hT)]
          exact I.at_
        · rw [List.length_map]
          exact Nat.lt_of_lt_of_le hsl (by decide)
      have getc : ∀ m, m < q → way < 2 → ∃ c : Addr × List Int, (refs tl)[m]? = some (.ref c.1) ∧ (tl.map (·.2)).getD m [] = c.2 ∧ SqL K H4 c.1 (c.2.map V.int) ∧ IsP q c.2 := by
        intro m hm hway
        have ln := htl hway
        have hm' : m < tl.length := by omega
        obtain ⟨b1, b2, b3⟩ := htc tl[m] (List.getElem_mem hm')
        refine ⟨tl[m], ?_, ?_, .inl (.inl (I.fr _ _ b1 b2)), b3⟩
        · rw [List.getElem?_map, List.getElem?_eq_getElem hm']
          rfl
        · rw [List.getD_eq_getElem?_getD, List.getElem?_map, List.getElem?_eq_getElem hm']
          rfl
      have geti : ∀ (c : List Int) (m : Nat), IsP q c → m < q → (c.map V.int)[m]? = some (.int (c.getD m 0)) := by
        intro c m hc hm
        rw [List.getElem?_map, hc.at hm]
        rfl
      rcases hw with rfl | rfl | rfl
      · obtain ⟨c, c1, c2, c3, c4⟩ := getc j hj (by decide)
        refine ⟨.int 0, rfl, rfl, _, rfl, iteT ?_⟩
        refine ⟨.ref qa, rfl, .inl ⟨rfl, _, S3⟩, .int (i : Int), rfl, .int (j : Int), rfl, .ref ta, rfl, .int (j : Int), rfl, ta, refs tl, (j : Int), .ref c.1, rfl, rfl, hta4, atI_nat c1, .int (i : Int), rfl, c.1, c.2.map V.int, (i : Int), .int (c.2.getD i 0), rfl, rfl, c3, atI_nat (geti _ _ c4 hi),
          .int (j : Int), rfl, by show 4 ≤ sizeLine; decide, fun T hT => fin _ T hT ?_⟩
        have e : fway 0 (tl.map (fun c => c.2)) more less q i j = ((((tl.map (fun c : Addr × List Int => c.2)).getD j []).getD i 0).toNat, j) := rfl
        have := (c4.get hi).1
        unfold bq
        rw [e, c2]
        show [V.int (i : Int), V.int (j : Int), V.int (c.2.getD i 0), V.int (j : Int)] = [V.int (i : Int), V.int (j : Int), V.int ((c.2.getD i 0).toNat : Int), V.int (j : Int)]
        rw [Int.toNat_of_nonneg this]
      · obtain ⟨c, c1, c2, c3, c4⟩ := getc i hi (by decide)
        refine ⟨.int 1, rfl, rfl, _, rfl, iteF ⟨.int 1, rfl, rfl, _, rfl, iteT ?_⟩⟩
        refine ⟨.ref qa, rfl, .inl ⟨rfl, _, S3⟩, .int (i : Int), rfl, .int (j : Int), rfl, .int (i : Int), rfl, .ref ta, rfl, .int (i : Int), rfl, ta, refs tl, (i : Int), .ref c.1, rfl, rfl, hta4, atI_nat c1, .int (j : Int), rfl, c.1, c.2.map V.int, (j : Int), .int (c.2.getD j 0), rfl, rfl, c3, atI_nat (geti _ _ c4 hj),
          by show 4 ≤ sizeLine; decide, fun T hT => fin _ T hT ?_⟩
        have e : fway 1 (tl.map (fun c => c.2)) more less q i j = (i, (((tl.map (fun c : Addr × List Int => c.2)).getD i []).getD j 0).toNat) := rfl
        have := (c4.get hj).1
        unfold bq
        rw [e, c2]
        show [V.int (i : Int), V.int (j : Int), V.int (i : Int), V.int (c.2.getD j 0)] = [V.int (i : Int), V.int (j : Int), V.int (i : Int), V.int ((c.2.getD j 0).toNat : Int)]
        rw [Int.toNat_of_nonneg this]
      · have q0 : (0 : Int) < (q : Int) := by omega
        refine ⟨.int 2, rfl, rfl, _, rfl, iteF ⟨.int 2, rfl, rfl, _, rfl, iteF ?_⟩⟩
        refine ⟨.ref qa, rfl, .inl ⟨rfl, _, S3⟩, .int (i : Int), rfl, .int (j : Int), rfl, .int (i : Int), rfl, .int (more : Int), rfl, .int (j : Int), rfl, _, _, rfl, rfl, .inl ⟨by omega, by omega⟩, _, _, rfl, rfl, .int (q : Int), rfl, _, _, rfl, rfl, q0,
          .int (j : Int), rfl, .int (less : Int), rfl, .int (i : Int), rfl, _, _, rfl, rfl, .inl ⟨by omega, by omega⟩, _, _, rfl, rfl, .int (q : Int), rfl, _, _, rfl, rfl, q0, by show 4 ≤ sizeLine; decide, fun T hT => fin _ T hT ?_⟩
        have e : fway 2 (tl.map (fun c => c.2)) more less q i j = ((i + more * j) % q, (j + less * i) % q) := rfl
        unfold bq
        rw [e]
        show [V.int (i : Int), V.int (j : Int), V.int (((i : Int) + (more : Int) * (j : Int)) % (q : Int)), V.int (((j : Int) + (less : Int) * (i : Int)) % (q : Int))] = [V.int (i : Int), V.int (j : Int), V.int (((i + more * j) % q : Nat) : Int), V.int (((j + less * i) % q : Nat) : Int)]
        rw [Int.natCast_emod, Int.natCast_emod, Int.natCast_add, Int.natCast_add, Int.natCast_mul, Int.natCast_mul]
    · rintro σ H4 ⟨w8, cs, rfl, I⟩
      refine ⟨_, _, cs, rfl, ?_⟩
      exact ⟨I.fr, I.at_, I.ce, by rw [I.eq, pre_row]⟩
  · rintro σ H3 ⟨z7, z8, cs, rfl, I⟩
    exact k z7 z8 H3 cs I.fr I.at_ I.ce (by rw [I.eq, pre_all])
end
end C2

namespace C2
set_option Elab.async false
set_option linter.all false
set_option maxRecDepth 100000
set_option maxHeartbeats 4000000
open PySem PySem.Spec PyProof.Rows L2
theorem perm_map_inv {α β : Type} (f : α → β) {ys zs : List β} (h : ys.Perm zs) : ∀ xs : List α, zs = xs.map f → ∃ ws : List α, ws.Perm xs ∧ ys = ws.map f := by
  induction h with
  | nil => exact fun xs e => ⟨xs, List.Perm.refl _, e⟩
  | cons x _ ih =>
    intro xs e
    cases xs with
    | nil => cases e
    | cons a r =>
      rw [List.map_cons] at e
      obtain ⟨e1, e2⟩ := List.cons.inj e
      obtain ⟨ws, p, e3⟩ := ih r e2
      exact ⟨a :: ws, p.cons a, by rw [List.map_cons, e1, e3]⟩
  | swap x y l =>
    intro xs e
    cases xs with
    | nil => cases e
    | cons a r =>
      cases r with
      | nil => cases e
      | cons b r =>
        rw [List.map_cons, List.map_cons] at e
        obtain ⟨e1, e2⟩ := List.cons.inj e
        obtain ⟨e3, e4⟩ := List.cons.inj e2
        exact ⟨b :: a :: r, List.Perm.swap _ _ _, by rw [List.map_cons, List.map_cons, e1, e3, e4]⟩
  | trans _ _ ih1 ih2 =>
    intro xs e
    obtain ⟨ws, p, e1⟩ := ih2 xs e
    obtain ⟨vs, p2, e2⟩ := ih1 ws e1
    exact ⟨vs, p2.trans p, e2⟩
section
variable {K : PySem.W.Frag}
def tEnd (K : PySem.W.Frag) : TS := tRet (tCB (rTupOf K) (tCons (tCB (rSortU K 4 7) (tCons (tLc (iList K (tVar 3)) (gName 12) tYes (teOut K) [12]) tNil)) tNil))
theorem Cells.same {G G' : Hp} {cs : List (Addr × List Int)} (h : Cells G cs) (s : Same G G') : Cells G' cs := fun c hc => s _ _ (h c hc)
theorem len_ren {cs : List (List Int)} {x : List Int} (h : cs.length = 4) (h' : x.length = 4) : (ren cs x).length = 4 := by
  unfold ren
  rw [List.length_zipWith, h, h']
  rfl
/-- tuple(sorted(..)) of a list of quads -/
theorem sort_tup {G : Hp} {D1 : Addr} {os : List (Addr × List Int)} {Q : VK} (hD : G D1 = some (.lst (refs os))) (hos : Cells G os) (h4 : ∀ c ∈ os, c.2.length = 4) (h7 : ∀ c ∈ os, ∀ v ∈ c.2, 0 ≤ v ∧ v < 7) (hl : os.length < 64)
    (k : ∀ t ws H8, Same G H8 → H8 t = some (.tup (refs ws)) → Cells H8 ws → ws.Perm os → Srt (ws.map (·.2)) → Q (.ref t) H8) : rSortU K 4 7 [.ref D1] G fun v G2 => rTupOf K [v] G2 Q := by
  refine ⟨D1, refs os, rfl, .inl (.inl hD), by rw [List.length_map]; exact hl, fun x hx => ?_, fun ys r per pr nr => ?_⟩
  · obtain ⟨c, hc, rfl⟩ := List.mem_map.mp hx
    exact ⟨c.2, ⟨c.1, rfl, .inl (.inl (hos c hc))⟩, h4 c hc, h7 c hc⟩
  · obtain ⟨ws, pw, rfl⟩ := perm_map_inv _ per os rfl
    refine ⟨r, _, rfl, .inl ⟨.inl (.inl upd_same), fun l nl => ?_⟩⟩
    have s2 : Same G (upd (upd G r (.lst (refs ws))) l (.tup (refs ws))) := (same_upd nr).trans (same_upd nl)
    refine k l ws _ s2 upd_same (fun c hc => s2 _ _ (hos c (pw.mem_iff.mp hc))) pw ?_
    rw [List.pairwise_map] at pr
    show (ws.map (·.2)).Pairwise _
    rw [List.pairwise_map]
    exact List.Pairwise.imp_of_mem (fun {c d} hc hd h => h c.2 d.2 ⟨c.1, rfl, .inl (.inl (hos c (pw.mem_iff.mp hc)))⟩ ⟨d.1, rfl, .inl (.inl (hos d (pw.mem_iff.mp hd)))⟩) pr
/-- the inner comprehension and the tuple of it -/
theorem out_turn {p qa ta ca a : Addr} {q more less : Nat} {way : Int} {y7 y8 : Option V} {lc : List (Addr × List Int)} {x : List Int} {H3 : Hp} {R : VK} (h4 : lc.length = 4) (hx4 : x.length = 4) (hxq : ∀ v ∈ x, 0 ≤ v ∧ v < (q : Int))
    (hca : SqL K H3 ca (refs lc)) (hlc : ∀ c ∈ lc, SqL K H3 c.1 (c.2.map V.int) ∧ IsP q c.2) (hx : H3 a = some (.tup (x.map V.int)))
    (k : ∀ T H4, Same H3 H4 → H3 T = none → H4 T = some (.tup ((ren (lc.map (·.2)) x).map V.int)) → R (.ref T) H4) :
    teOut K ((((σT p q way qa ta more less y7 y8).set 9 (some (.ref ca))).set 12 none).set 12 (some (.ref a))) H3 R := by
  have lr : (ren (lc.map (·.2)) x).length = 4 := len_ren (by rw [List.length_map]; exact h4) hx4
  refine ⟨.ref ca, rfl, .ref a, rfl, ca, a, refs lc, x.map V.int, rfl, hca, .inl (.inl hx), fun D2 nD2 => ?_⟩
  refine lc_it (walkLT (xs := refs lc) (ys := x.map V.int) (n := 4) (by rw [List.length_map]; exact h4) (by rw [List.length_map]; exact hx4)) (fun m G => Same H3 G ∧ G D2 = some (.lst (((ren (lc.map (·.2)) x).take m).map V.int))) ⟨same_upd nD2, upd_same⟩ ?_ ?_ ?_
  · rintro m G _ ⟨sm, _⟩
    exact ⟨sm.seq hca, .inl (.inl (sm _ _ hx))⟩
  · rintro m v G G' hm ⟨sm, hD2⟩ ⟨T, u, y, rfl, nT, rfl, eu, ey⟩
    replace eu : (refs lc)[m]? = some u := eu
    replace ey : (x.map V.int)[m]? = some y := ey
    have hm1 : m < lc.length := by omega
    have hm2 : m < x.length := by omega
    have eu' : u = .ref lc[m].1 := by
      rw [List.getElem?_map, List.getElem?_eq_getElem hm1] at eu
      exact (Option.some.inj eu).symm
    have ey' : y = .int x[m] := by
      rw [List.getElem?_map, List.getElem?_eq_getElem hm2] at ey
      exact (Option.some.inj ey).symm
    subst eu' ey'
    obtain ⟨b1, b2⟩ := hlc lc[m] (List.getElem_mem hm1)
    obtain ⟨z0, z1⟩ := hxq x[m] (List.getElem_mem hm2)
    have smT : Same G (upd G T (.tup [.ref lc[m].1, .int x[m]])) := same_upd nT
    have gv : (lc[m].2.map V.int)[x[m].toNat]? = some (.int (lc[m].2.getD x[m].toNat 0)) := by
      rw [List.getElem?_map, b2.at (by omega)]
      rfl
    refine ⟨T, [.ref lc[m].1, .int x[m]], rfl, .inl (.inl upd_same), rfl, _, _, rfl, _, _, rfl, rfl, rfl, .ref lc[m].1, rfl, .int x[m], rfl, lc[m].1, _, x[m], _, rfl, rfl, smT.seq (sm.seq b1), at_of (j := x[m].toNat) (by omega) gv, _, smT _ _ hD2, ?_, ?_, ?_⟩
    · rw [List.length_map, List.length_take]
      exact Nat.lt_of_le_of_lt (Nat.min_le_left _ _) (Nat.lt_of_lt_of_le (show m < 1000 by omega) (by decide))
    · intro b o e
      have nb : b ≠ D2 := ne_of_none e nD2
      rw [upd_ne nb]
      exact smT _ _ (sm _ _ e)
    · rw [upd_same]
      have g : (ren (lc.map (·.2)) x)[m]? = some (lc[m].2.getD x[m].toNat 0) := by
        unfold ren
        rw [List.getElem?_zipWith, List.getElem?_map, List.getElem?_eq_getElem hm1, List.getElem?_eq_getElem hm2]
        rfl
      rw [List.take_add_one, g, List.map_append]
      rfl
  · rintro G ⟨sm, hD2⟩
    rw [List.take_of_length_le (by omega)] at hD2
    refine ⟨D2, _, rfl, .inl ⟨.inl (.inl hD2), fun l nl => ?_⟩⟩
    exact k l _ (sm.trans (same_upd nl)) (sm.free nl) upd_same
theorem end_ok {p qa ta ca : Addr} {q more less : Nat} {way : Int} {y7 y8 : Option V} {cs lc : List (Addr × List Int)} {f : Nat → Nat → Nat × Nat} {H7 : Hp} {D : Ends} (h2 : 2 ≤ q) (h7 : q ≤ 7) (L : Latin q f)
    (hqa : H7 qa = some (.lst (refs cs))) (hcs : Cells H7 cs) (heq : cs.map (·.2) = (prs q).map fun x => bq f x.1 x.2) (hca : H7 ca = some (.lst (refs lc))) (h4 : lc.length = 4) (hlc : ∀ c ∈ lc, H7 c.1 = some (.lst (c.2.map V.int)) ∧ IsP q c.2)
    (k : ∀ t os H8, Same H7 H8 → H8 t = some (.tup (refs os)) → Cells H8 os → Good q (os.map (·.2)) → Srt (os.map (·.2)) → D.rt (.ref t) H8) :
    tEnd K D ((σT p q way qa ta more less y7 y8).set 9 (some (.ref ca))) H7 := by
  have hlen : cs.length = q * q := by
    have e : cs.length = (cs.map (·.2)).length := (List.length_map _).symm
    rw [e, heq, List.length_map, prs_len]
  have q49 : q * q ≤ 49 := Nat.mul_le_mul h7 h7
  have inb : ∀ c ∈ cs, c.2.length = 4 ∧ ∀ v ∈ c.2, 0 ≤ v ∧ v < (q : Int) := by
    intro c hc
    have m : c.2 ∈ cs.map (·.2) := List.mem_map.mpr ⟨c, hc, rfl⟩
    rw [heq] at m
    obtain ⟨⟨l, w⟩, hlw, e⟩ := List.mem_map.mp m
    obtain ⟨hl, hw⟩ := prs_mem.mp hlw
    have e' : bq f l w = c.2 := e
    rw [← e']
    refine ⟨rfl, fun v hv => ?_⟩
    have g1 := L.lt1 l w hl hw
    have g2 := L.lt2 l w hl hw
    unfold bq at hv
    simp only [List.mem_cons, List.not_mem_nil, or_false] at hv
    rcases hv with rfl | rfl | rfl | rfl <;> omega
  refine ⟨.ref qa, rfl, qa, rfl, ⟨_, .inl (.inl hqa)⟩, fun D1 nD1 => ?_⟩
  refine lc_list (xs := refs cs) (fun i G => ∃ os : List (Addr × List Int), Same H7 G ∧ G D1 = some (.lst (refs os)) ∧ Cells G os ∧ os.map (·.2) = (cs.take i).map fun c => ren (lc.map (·.2)) c.2) ?_ ?_ ?_ ?_
  · exact ⟨[], same_upd nD1, upd_same, fun c hc => (by cases hc), rfl⟩
  · rintro i G _ ⟨os, sm, _⟩
    exact sm.seq (.inl (.inl hqa))
  · rintro i x G hx ⟨os, sm, hD1, hos, e⟩
    have hi : i < cs.length := by
      have := (List.getElem?_eq_some_iff.mp hx).1
      rw [List.length_map] at this
      exact this
    have ex : x = .ref cs[i].1 := by
      rw [List.getElem?_map, List.getElem?_eq_getElem hi] at hx
      exact (Option.some.inj hx).symm
    subst ex
    refine ⟨rfl, ?_⟩
    simp only [tYes, ↓reduceIte]
    obtain ⟨b1, b2⟩ := inb cs[i] (List.getElem_mem hi)
    refine out_turn (lc := lc) (x := cs[i].2) h4 b1 b2 (sm.seq (.inl (.inl hca))) (fun c hc => ⟨sm.seq (.inl (.inl (hlc c hc).1)), (hlc c hc).2⟩) (sm _ _ (hcs _ (List.getElem_mem hi))) fun T G2 sm2 nT hT => ?_
    have lo : os.length = i := by
      have e1 : os.length = (os.map (·.2)).length := (List.length_map _).symm
      rw [e1, e, List.length_map, List.length_take]
      omega
    refine ⟨refs os, sm2 _ _ hD1, ?_, os ++ [(T, ren (lc.map (·.2)) cs[i].2)], ?_, ?_, ?_, ?_⟩
    · rw [List.length_map]
      exact Nat.lt_of_lt_of_le (show os.length < 1000 by omega) (by decide)
    · intro b o eb
      rw [upd_ne (ne_of_none eb nD1)]
      exact sm2 _ _ (sm _ _ eb)
    · rw [upd_same]
      show _ = some (HO.lst (List.map _ (os ++ [_])))
      rw [List.map_append]
      rfl
    · intro c hc
      rcases List.mem_append.mp hc with hc | hc
      · have hh := hos c hc
        rw [upd_ne (ne_of hh hD1 (by intro z; cases z))]
        exact sm2 _ _ hh
      · rw [List.mem_singleton] at hc
        subst hc
        have hne : T ≠ D1 := fun z => by
          rw [z, hD1] at nT
          cases nT
        rw [upd_ne hne]
        exact hT
    · rw [List.map_append, e, List.take_add_one, List.getElem?_eq_getElem hi, List.map_append]
      rfl
  · rintro G ⟨os, sm, hD1, hos, e⟩
    have e2 : os.map (·.2) = (prs q).map fun x => ren (lc.map (·.2)) (bq f x.1 x.2) := by
      rw [e, List.take_of_length_le (by rw [List.length_map]; exact Nat.le_refl _), show (cs.map fun c => ren (lc.map (·.2)) c.2) = (cs.map (·.2)).map (ren (lc.map (·.2))) by rw [List.map_map]; rfl, heq, List.map_map]
      rfl
    have gd : Good q (os.map (·.2)) := by
      rw [e2]
      match lc, h4, hlc with
      | [c0, c1, c2, c3], _, hl => exact good_of L (hl c0 (by simp)).2 (hl c1 (by simp)).2 (hl c2 (by simp)).2 (hl c3 (by simp)).2
    have lo : os.length = q * q := by
      have e1 : os.length = (os.map (·.2)).length := (List.length_map _).symm
      rw [e1, gd.len]
    refine sort_tup (Q := D.rt) hD1 hos (fun c hc => gd.in4 _ (List.mem_map.mpr ⟨c, hc, rfl⟩)) (fun c hc v hv => ?_) (by omega) fun t ws H8 s2 ht hws pw st => ?_
    · have := gd.inq _ (List.mem_map.mpr ⟨c, hc, rfl⟩) v hv
      omega
    · exact k t ws H8 (sm.trans s2) ht hws (gd.perm (pw.map _)) st
end
end C2

namespace C2
set_option Elab.async false
set_option linter.all false
set_option maxRecDepth 100000
set_option maxHeartbeats 4000000
open PySem PySem.Spec PyProof.Rows L2
section
variable {P : Program} {w : World} {K : PySem.W.Frag} {mg : Str → Option Value} {base : Heap}
def tCalls (K : PySem.W.Frag) : TS := tAsg (tLc (iRng1 (tCons (tC (V.int 4)) tNil)) (gName 11) tYes (teMix K) [11]) (gName 9)
/-- what follows the choice of the turns -/
theorem tail_ok {p qa ta : Addr} {q more less n : Nat} {way : Int} {tl : List (Addr × List Int)} {H6 : Hp} {D : Ends} (h2 : 2 ≤ q) (h7 : q ≤ 7) (hw : way = 0 ∨ way = 1 ∨ way = 2) (hml : (more, less) ∈ [(1, 0), (0, 1), (2, 1), (1, 2)])
    (hP : PotAt H6 p n) (hn : n + 30 < 1000000) (npq : p ≠ qa) (hq0 : H6 qa = some (.lst [])) (hta : H6 ta = some (.lst (refs tl))) (nta : ta ≠ qa) (htl : way < 2 → tl.length = q) (htc : ∀ c ∈ tl, c.1 ≠ qa ∧ H6 c.1 = some (.lst (c.2.map V.int)) ∧ IsP q c.2)
    (k : ∀ t os H8, (∀ b o, b ≠ p → b ≠ qa → H6 b = some o → H8 b = some o) → PotAt H8 p (n + 28) → H8 t = some (.tup (refs os)) → Cells H8 os → Good q (os.map (·.2)) → Srt (os.map (·.2)) → D.rt (.ref t) H8) :
    tSeq (tLoop K) (tSeq (tCalls K) (tEnd K)) D (σT p q way qa ta more less none none) H6 := by
  have hml2 : more ≤ 2 ∧ less ≤ 2 := by
    simp only [List.mem_cons, Prod.mk.injEq, List.not_mem_nil, or_false] at hml
    omega
  refine loop_ok h2 h7 hw hml2 hq0 hta nta htl htc fun y7 y8 H7 cs fr7 hqa hcs heq => ?_
  have hP7 : PotAt H7 p n := hP.fr fr7 npq
  have L : Latin q (fway way (tl.map (·.2)) more less q) := latin_way h2 h7 hw (fun c => ⟨by rw [List.length_map]; exact htl c, fun x hx => by
    obtain ⟨y, hy, rfl⟩ := List.mem_map.mp hx
    exact (htc y hy).2.2⟩) hml
  show tLc (iRng1 (tCons (tC (V.int 4)) tNil)) (gName 11) tYes (teMix K) [11] (σT p q way qa ta more less y7 y8) H7 (fun x G => gName 9 x (σT p q way qa ta more less y7 y8) G (tEnd K D))
  refine mix_lc (slot := 11) (j := 4) (n := n) (q := q) (p := p) (by decide) rfl rfl h7 (by omega) (by decide) (fun R h => h) hP7 fun ca lc H8 fr8 hP8 nca hca hl4 hlc => ?_
  have nqp : qa ≠ p := npq.symm
  refine end_ok (cs := cs) (lc := lc) h2 h7 L (fr8 _ _ nqp hqa) (fun c hc => ?_) heq hca hl4 (fun c hc => ⟨(hlc c hc).2.2.2.1, (hlc c hc).2.2.2.2⟩) fun t os H9 sm ht hos gd st => ?_
  · have h := hcs c hc
    obtain ⟨g, cc, tt, hp, _⟩ := hP7
    exact fr8 _ _ (ne_of h hp (by intro z; cases z)) h
  · refine k t os H9 (fun b o nb nbq e => sm _ _ (fr8 _ _ nb (fr7 _ _ nbq e))) ?_ ht hos gd st
    obtain ⟨g, cc, tt, hp, h0, h1⟩ := hP8
    exact ⟨g, cc, tt, sm _ _ hp, h0, by omega⟩
theorem ok_table {f fT fO fM : Addr} {fd fdT fdO fdM : FuncData} (F : Fun K "_law_table" "_law_table" sTable f fd) (FT : Fun K "_law_take" "_law_take" sTake fT fdT) (FO : Fun K "_law_of" "_law_of" sOf fO fdO) (FM : Fun K "_law_mixed" "_law_mixed" sMixed fM fdM)
    (bT : Binds K fdT ["_law_pool", "_law_many"] []) (bO : Binds K fdO ["_law_pool", "_law_some"] []) (bM : Binds K fdM ["_law_pool", "_law_some"] [])
    (gT : mg "_law_take" = some (.ref fT)) (gO : mg "_law_of" = some (.ref fO)) (gM : mg "_law_mixed" = some (.ref fM))
    (ml : mg "len" = none) (mli : mg "list" = none) (mr : mg "range" = none) (mt : mg "tuple" = none) (ms : mg "sorted" = none) (mz : mg "zip" = none) : FnOk P w K mg base CX0 3 f fd ["_law_pool", "_law_q"] spTable := by
  have GT : FnOk P w K mg base CX0 1 fT fdT ["_law_pool", "_law_many"] spTake := ok_take FT
  have GO : FnOk P w K mg base CX0 2 fO fdO ["_law_pool", "_law_some"] (spOf K) := ok_of FO FT bT gT ml
  have GM : FnOk P w K mg base CX0 2 fM fdM ["_law_pool", "_law_some"] (spMixed K) := ok_mixed FM FT bT gT ml mli mr
  refine F.ok scTable (fun vs H Q E h => ?_) (fun cdv A outer s H vs Q E hr h => ?_)
  · obtain ⟨p, q, n, rfl, _⟩ := h
    rfl
  · obtain ⟨p, q, n, rfl, h2, h7, hP, hn, k⟩ := h
    have nd := scTable.nd
    refine ⟨_, pss_cons (ps_par3 (i := 2) (j := 3) (l := 4) rfl nd rfl rfl rfl (by decide) (by decide) (by decide) rfl rfl rfl (pa_cons (pe_call GT (hr.mono (by decide)) (by rfl) gT FT.kp bT .nil pass0 (pa_cons (pv 0) (pa_cons pe_int pa_nil))) (pa_cons (pe_lst pa_nil) (pa_cons (pe_lst pa_nil) pa_nil))) (by rfl))
      (pss_cons (ps_asg (pe_call GO hr (by rfl) gO FO.kp bO .nil pass0 (pa_cons (pv 0) (pa_cons (pe_lst (pa_cons (pe_tup (pa_cons pe_int (pa_cons pe_int pa_nil))) (pa_cons (pe_tup (pa_cons pe_int (pa_cons pe_int pa_nil))) (pa_cons (pe_tup (pa_cons pe_int (pa_cons pe_int pa_nil))) (pa_cons (pe_tup (pa_cons pe_int (pa_cons pe_int pa_nil))) pa_nil))))) pa_nil))) (pg_tup rfl (pgs_cons (pg_name (i := 5) nd rfl (.inl rfl)) (pgs_cons (pg_name (i := 6) nd rfl (.inl rfl)) pgs_nil))))
      (pss_cons (ps_if (pt_cmpR op_lt (pv 2) pe_int (nomark _)) (pss_one (ps_setLc (i := 4) (own := [("_law_k", 10)]) (g := gName 10) (tt := tYes) (te := teMix K) rfl nd rfl rfl (sw_true rfl rfl rfl (by decide +kernel)) (pi_range1 (by rfl) mr (pa_cons (pv 1) pa_nil)) (blkOk_by (own := [("_law_k", 10)]) (N := NT) (sc := defScope sTable) (by decide +kernel)) (fun _ _ _ _ _ => (pg_name (i := 10) nd rfl (Or.inl rfl))) (fun _ _ _ _ _ => pts_nil) (fun _ _ _ _ _ => (pe_call GM hr (by rfl) gM FM.kp bM .nil pass0 (pa_cons (pv 0) (pa_cons (pe_listRg rfl (by rfl) mli (prg_1 (by rfl) mr (pv 1))) pa_nil)))))) pss_nil)
      (pss_cons (ps_for PassesOwn.never rfl (pi_range1 (by rfl) mr (pa_cons (pv 1) pa_nil)) (pg_name (i := 7) nd rfl (.inl rfl)) (pss_one (ps_for PassesOwn.never rfl (pi_range1 (by rfl) mr (pa_cons (pv 1) pa_nil)) (pg_name (i := 8) nd rfl (.inl rfl)) (pss_one (ps_if (pt_cmpR op_eq (pv 2) pe_int (nomark _)) (pss_one (ps_expr (pe_bm PySem.F.plainAttrs_list PySem.F.slot_list_append PySem.F.type_list_append mt_append (pv 3) (pa_cons (pe_tup (pa_cons (pv 7) (pa_cons (pv 8) (pa_cons (pe_ix ix_list (pe_ix ix_list (pv 4) (pv 8) (fun _ _ => rfl)) (pv 7) (fun _ _ => rfl)) (pa_cons (pv 8) pa_nil))))) pa_nil)))) (pss_one (ps_if (pt_cmpR op_eq (pv 2) pe_int (nomark _)) (pss_one (ps_expr (pe_bm PySem.F.plainAttrs_list PySem.F.slot_list_append PySem.F.type_list_append mt_append (pv 3) (pa_cons (pe_tup (pa_cons (pv 7) (pa_cons (pv 8) (pa_cons (pv 7) (pa_cons (pe_ix ix_list (pe_ix ix_list (pv 4) (pv 7) (fun _ _ => rfl)) (pv 8) (fun _ _ => rfl)) pa_nil))))) pa_nil)))) (pss_one (ps_expr (pe_bm PySem.F.plainAttrs_list PySem.F.slot_list_append PySem.F.type_list_append mt_append (pv 3) (pa_cons (pe_tup (pa_cons (pv 7) (pa_cons (pv 8) (pa_cons (pe_op op_mod (pe_op op_add (pv 7) (pe_op op_mul (pv 5) (pv 8))) (pv 1)) (pa_cons (pe_op op_mod (pe_op op_add (pv 8) (pe_op op_mul (pv 6) (pv 7))) (pv 1)) pa_nil))))) pa_nil)))))))))))
      (pss_cons (ps_set (i := 9) nd rfl (.inr rfl) (pe_lc (own := [("_law_leg", 11)]) (g := gName 11) (tt := tYes) (te := teMix K) rfl nd  (pi_range1 (by rfl) mr (pa_cons pe_int pa_nil)) (blkOk_by (own := [("_law_leg", 11)]) (N := NT) (sc := defScope sTable) (by decide +kernel)) (fun _ _ _ _ _ => (pg_name (i := 11) nd rfl (Or.inl rfl))) (fun _ _ _ _ _ => pts_nil) (fun _ _ _ _ _ => (pe_call GM hr (by rfl) gM FM.kp bM .nil pass0 (pa_cons (pv 0) (pa_cons (pe_listRg rfl (by rfl) mli (prg_1 (by rfl) mr (pv 1))) pa_nil))))))
      (pss_one (ps_ret (pe_callTy call_tuple_of (by rfl) mt (by decide +kernel) (pa_cons (pe_callB (cr_sortT (d := 4) (B := 7) (by decide)) (by rfl) ms (by decide +kernel) (pa_cons (pe_lc (own := [("_law_quad", 12)]) (g := gName 12) (tt := tYes) (te := teOut K) rfl nd  (pi_list (pv 3)) (blkOk_by (own := [("_law_quad", 12)]) (N := NT) (sc := defScope sTable) (by decide +kernel)) (fun _ _ _ _ _ => (pg_name (i := 12) nd rfl (Or.inl rfl))) (fun _ _ _ _ _ => pts_nil) (fun _ _ _ _ _ => (pe_callTy call_tuple_of (by rfl) mt (by decide +kernel) (pa_cons (pe_lc (own := [("_law_call", 13), ("_law_sign", 14)]) (g := gTup K 2 (gCons (gName 13) (gCons (gName 14) gNil))) (tt := tYes) (te := teIn K) rfl nd  (pi_zipLT (by rfl) mz (pa_cons (pv 9) (pa_cons (pv 12) pa_nil))) (blkOk_by (own := [("_law_call", 13), ("_law_sign", 14)]) (N := NT) (sc := scQ) (by decide +kernel)) (fun _ _ _ _ _ => pg_tup rfl (pgs_cons (pg_name (i := 13) nd rfl (.inl rfl)) (pgs_cons (pg_name (i := 14) nd rfl (.inl rfl)) pgs_nil))) (fun _ _ _ _ _ => pts_nil) (fun _ _ _ _ _ => (pe_ix ix_list (pv 13) (pv 14) (fun _ _ => rfl)))) pa_nil)))) pa_nil)) pa_nil)))))))), ?_⟩
    refine ⟨.ref p, rfl, p, 3, n, rfl, hP, by omega, by decide, by decide, fun way H1 fr1 hP1 d0 d1 => ⟨Nat.zero_le _, fun qa nqa => ⟨Nat.zero_le _, fun ta nta => ⟨_, _, _, rfl, ?_⟩⟩⟩⟩
    have npq : p ≠ qa := hP1.ne nqa
    have hPa : PotAt (upd H1 qa (.lst [])) p (n + 1) := hP1.upd npq
    have npt : p ≠ ta := hPa.ne nta
    have hPb : PotAt (upd (upd H1 qa (.lst [])) ta (.lst [])) p (n + 1) := hPa.upd npt
    have nqt : qa ≠ ta := ne_of_none upd_same nta
    have hqb : (upd (upd H1 qa (.lst [])) ta (.lst [])) qa = some (.lst []) := by rw [upd_ne nqt]; exact upd_same
    have htb : (upd (upd H1 qa (.lst [])) ta (.lst [])) ta = some (.lst []) := upd_same
    have frb : Fr p H (upd (upd H1 qa (.lst [])) ta (.lst [])) := fr1.trans (Fr.trans (Fr.new nqa) (Fr.new nta))
    have nHq : H qa = none := fr1.free npq.symm nqa
    generalize upd (upd H1 qa (.lst [])) ta (.lst []) = Hb at hPb hqb htb frb
    refine ⟨.ref p, rfl, by show 2 ≤ sizeLine; decide, fun t1 n1 => ⟨by show 2 ≤ sizeLine; decide, fun t2 n2 => ⟨by show 2 ≤ sizeLine; decide, fun t3 n3 => ⟨by show 2 ≤ sizeLine; decide, fun t4 n4 => ⟨by show 4 ≤ sizeLine; decide, fun l nl => ?_⟩⟩⟩⟩⟩
    have c1 : Fr p Hb (upd Hb t1 (.tup [.int 1, .int 0])) := Fr.new n1
    have c2 : Fr p (upd Hb t1 (.tup [.int 1, .int 0])) (upd (upd Hb t1 (.tup [.int 1, .int 0])) t2 (.tup [.int 0, .int 1])) := Fr.new n2
    have c3 := Fr.new (p := p) (o := .tup [.int 2, .int 1]) n3
    have c4 := Fr.new (p := p) (o := .tup [.int 1, .int 2]) n4
    have c5 := Fr.new (p := p) (o := .lst [.ref t1, .ref t2, .ref t3, .ref t4]) nl
    have p1 : p ≠ t1 := hPb.ne n1
    have hP2 := hPb.upd (o := .tup [.int 1, .int 0]) p1
    have p2 : p ≠ t2 := hP2.ne n2
    have hP3 := hP2.upd (o := .tup [.int 0, .int 1]) p2
    have p3 : p ≠ t3 := hP3.ne n3
    have hP4 := hP3.upd (o := .tup [.int 2, .int 1]) p3
    have p4 : p ≠ t4 := hP4.ne n4
    have hP5 := hP4.upd (o := .tup [.int 1, .int 2]) p4
    have p5 : p ≠ l := hP5.ne nl
    have hP6 := hP5.upd (o := .lst [.ref t1, .ref t2, .ref t3, .ref t4]) p5
    have fbl : Fr p Hb _ := c1.trans (c2.trans (c3.trans (c4.trans c5)))
    have e1 := c5 _ _ p1.symm (c4 _ _ p1.symm (c3 _ _ p1.symm (c2 _ _ p1.symm (upd_same (H := Hb) (a := t1) (o := .tup [.int 1, .int 0])))))
    have e2 := c5 _ _ p2.symm (c4 _ _ p2.symm (c3 _ _ p2.symm upd_same))
    have e3 := c5 _ _ p3.symm (c4 _ _ p3.symm upd_same)
    have e4 := c5 _ _ p4.symm upd_same
    refine ⟨p, l, _, n + 1, rfl, hP6, by omega, p5.symm, .inl (.inl upd_same), by show 0 < 4; decide, by show 4 < 1000000; decide, fun v H5 fr5 hP7 hv => ?_⟩
    have pick : ∃ (more less : Nat) (a : Addr), (more, less) ∈ [(1, 0), (0, 1), (2, 1), (1, 2)] ∧ v = .ref a ∧ H5 a = some (.tup [.int (more : Int), .int (less : Int)]) := by
      simp only [List.mem_cons, List.not_mem_nil, or_false] at hv
      rcases hv with rfl | rfl | rfl | rfl
      · exact ⟨1, 0, t1, by decide, rfl, fr5 _ _ p1.symm e1⟩
      · exact ⟨0, 1, t2, by decide, rfl, fr5 _ _ p2.symm e2⟩
      · exact ⟨2, 1, t3, by decide, rfl, fr5 _ _ p3.symm e3⟩
      · exact ⟨1, 2, t4, by decide, rfl, fr5 _ _ p4.symm e4⟩
    obtain ⟨more, less, a, hml, rfl, ha⟩ := pick
    refine ⟨a, _, rfl, .inl (.inl ha), rfl, _, _, rfl, _, _, rfl, rfl, ?_⟩
    have fr6 : Fr p Hb H5 := fbl.trans fr5
    have hq5 : H5 qa = some (.lst []) := fr6 _ _ npq.symm hqb
    have ht5 : H5 ta = some (.lst []) := fr6 _ _ npt.symm htb
    have hway : way = 0 ∨ way = 1 ∨ way = 2 := by omega
    refine ⟨.int way, rfl, _, _, rfl, rfl, _, rfl, ite2 (fun e => ?_) (fun e => ?_)⟩
    · show tLc (iRng1 (tCons (tVar 1) tNil)) (gName 10) tYes (teMix K) [10] (σT p q way qa ta more less none none) H5 _
      have sq : q * q ≤ 49 := Nat.mul_le_mul h7 h7
      refine mix_lc (slot := 10) (j := q) (n := n + 1 + 1) (q := q) (p := p) (by decide) rfl rfl h7 (by omega) (by omega) (fun R h => ⟨.int (q : Int), rfl, h⟩) hP7 fun D lc H6 f6 hP8 nD hD hlen hal => ?_
      show tSeq (tLoop K) (tSeq (tCalls K) (tEnd K)) _ (σT p q way qa D more less none none) H6
      have nDq : D ≠ qa := fun z => by rw [z, hq5] at nD; cases nD
      refine tail_ok h2 h7 hway hml hP8 (by omega) npq (f6 _ _ npq.symm hq5) hD nDq (fun _ => hlen) (fun c hc => ⟨fun z => ?_, (hal c hc).2.2.2.1, (hal c hc).2.2.2.2⟩) fun t os H8 fr8 hP9 ht hos gd st => ?_
      · have := (hal c hc).1
        rw [z, hq5] at this
        cases this
      · refine k H8 t os (fun b o nb eb => ?_) (hP9.mono (by omega)) ht hos gd st
        exact fr8 b o nb (ne_of_none eb nHq) (f6 _ _ nb (fr6 _ _ nb (frb _ _ nb eb)))
    · show tSeq (tLoop K) (tSeq (tCalls K) (tEnd K)) _ (σT p q way qa ta more less none none) H5
      have nw : ¬ way < 2 := fun c => e (decide_eq_true c)
      refine tail_ok (tl := []) h2 h7 hway hml hP7 (by omega) npq hq5 ht5 nqt.symm (fun c => absurd c nw) (fun c hc => by cases hc) fun t os H8 fr8 hP9 ht hos gd st => ?_
      refine k H8 t os (fun b o nb eb => ?_) (hP9.mono (by omega)) ht hos gd st
      exact fr8 b o nb (ne_of_none eb nHq) (fr6 _ _ nb (frb _ _ nb eb))
end
end C2

namespace C2
set_option Elab.async false
set_option linter.all false
set_option maxRecDepth 100000
set_option maxHeartbeats 4000000
open PySem PySem.Spec PyProof.Rows L2
/-! ### tables led by places; order; data -/
def sel (ps : List Int) (x : List Int) : List Int := ps.map fun j => x.getD j.toNat 0
abbrev pT : List Int := [3, 0, 1, 2]
abbrev pF : List Int := [2, 1, 0, 3]
structure InR (L : List (List Int)) : Prop where
  l4 : ∀ x ∈ L, x.length = 4
  lt : ∀ x ∈ L, ∀ v ∈ x, 0 ≤ v ∧ v < 7
theorem Good.inR {q : Nat} {L : List (List Int)} (g : Good q L) (h : q ≤ 7) : InR L := ⟨g.in4, fun x hx v hv => by have := g.inq x hx v hv; omega⟩
theorem InR.perm {L M : List (List Int)} (h : InR L) (p : M.Perm L) : InR M := ⟨fun x hx => h.l4 x (p.mem_iff.mp hx), fun x hx => h.lt x (p.mem_iff.mp hx)⟩
theorem four_of {x : List Int} (h : x.length = 4) : ∃ a b c d, x = [a, b, c, d] := by
  match x, h with
  | [a, b, c, d], _ => exact ⟨a, b, c, d, rfl⟩
theorem code7 (a b c d : Int) : TS.code 7 [a, b, c, d] = a * 343 + (b * 49 + (c * 7 + (d * 1 + 0))) := rfl
theorem code_eq {x y : List Int} (hx : x.length = 4) (hy : y.length = 4) (rx : ∀ v ∈ x, 0 ≤ v ∧ v < 7) (ry : ∀ v ∈ y, 0 ≤ v ∧ v < 7) (h1 : TS.code 7 x ≤ TS.code 7 y) (h2 : TS.code 7 y ≤ TS.code 7 x) : x = y := by
  obtain ⟨a, b, c, d, rfl⟩ := four_of hx
  obtain ⟨a', b', c', d', rfl⟩ := four_of hy
  rw [code7, code7] at h1 h2
  simp only [List.mem_cons, List.not_mem_nil, or_false, forall_eq_or_imp, forall_eq] at rx ry
  obtain ⟨e1, e2, e3, e4⟩ : a = a' ∧ b = b' ∧ c = c' ∧ d = d' := by omega
  rw [e1, e2, e3, e4]
theorem srt_uniq {L M : List (List Int)} (p : L.Perm M) (sL : Srt L) (sM : Srt M) (r : InR M) : L = M :=
  List.Perm.eq_of_pairwise (fun x y hx hy h1 h2 => code_eq (r.l4 x (p.mem_iff.mp hx)) (r.l4 y hy) (r.lt x (p.mem_iff.mp hx)) (r.lt y hy) h1 h2) sL sM p
theorem selT (a b c d : Int) : sel pT [a, b, c, d] = [d, a, b, c] := rfl
theorem selF (a b c d : Int) : sel pF [a, b, c, d] = [c, b, a, d] := rfl
theorem good_map {q : Nat} {L : List (List Int)} {f : List Int → List Int} (g : Good q L) (h4 : ∀ x : List Int, x.length = 4 → (f x).length = 4) (hm : ∀ x : List Int, x.length = 4 → ∀ v ∈ f x, v ∈ x)
    (hh : ∀ (leg : Nat) (a b : Int), leg < 4 → ∃ leg' a' b', leg' < 4 ∧ ((a' = a ∧ b' = b) ∨ (a' = b ∧ b' = a)) ∧ ∀ x : List Int, x.length = 4 → hit leg a b (f x) = hit leg' a' b' x) : Good q (L.map f) where
  len := by rw [List.length_map]; exact g.len
  in4 := fun x hx => by
    obtain ⟨y, hy, rfl⟩ := List.mem_map.mp hx
    exact h4 y (g.in4 y hy)
  inq := fun x hx v hv => by
    obtain ⟨y, hy, rfl⟩ := List.mem_map.mp hx
    exact g.inq y hy v (hm y (g.in4 y hy) v hv)
  one := fun leg a b hl a0 a1 b0 b1 => by
    obtain ⟨leg', a', b', hl', hab, e⟩ := hh leg a b hl
    rw [List.filter_map, List.length_map]
    have ef : L.filter (hit leg a b ∘ f) = L.filter (hit leg' a' b') := List.filter_congr fun x hx => e x (g.in4 x hx)
    rw [ef]
    rcases hab with ⟨rfl, rfl⟩ | ⟨rfl, rfl⟩
    · exact g.one leg' _ _ hl' a0 a1 b0 b1
    · exact g.one leg' _ _ hl' b0 b1 a0 a1
theorem legs4 {leg : Nat} (h : leg < 4) : leg = 0 ∨ leg = 1 ∨ leg = 2 ∨ leg = 3 := by omega
theorem good_T {q : Nat} {L : List (List Int)} (g : Good q L) : Good q (L.map (sel pT)) := by
  refine good_map g (fun x _ => rfl) (fun x hx v hv => ?_) (fun leg a b hl => ?_)
  · obtain ⟨a, b, c, d, rfl⟩ := four_of hx
    rw [selT] at hv
    simp only [List.mem_cons, List.not_mem_nil, or_false] at hv ⊢
    omega
  · refine ⟨(leg + 3) % 4, a, b, Nat.mod_lt _ (by decide), .inl ⟨rfl, rfl⟩, fun x hx => ?_⟩
    obtain ⟨x0, x1, x2, x3, rfl⟩ := four_of hx
    rw [selT]
    rcases legs4 hl with rfl | rfl | rfl | rfl <;> rfl
theorem good_F {q : Nat} {L : List (List Int)} (g : Good q L) : Good q (L.map (sel pF)) := by
  refine good_map g (fun x _ => rfl) (fun x hx v hv => ?_) (fun leg a b hl => ?_)
  · obtain ⟨a, b, c, d, rfl⟩ := four_of hx
    rw [selF] at hv
    simp only [List.mem_cons, List.not_mem_nil, or_false] at hv ⊢
    omega
  · have cm : ∀ (u v s t : Int), (u == s && v == t) = (v == t && u == s) := fun u v s t => Bool.and_comm _ _
    rcases legs4 hl with rfl | rfl | rfl | rfl
    · exact ⟨1, b, a, by decide, .inr ⟨rfl, rfl⟩, fun x hx => by obtain ⟨x0, x1, x2, x3, rfl⟩ := four_of hx; exact cm _ _ _ _⟩
    · exact ⟨0, b, a, by decide, .inr ⟨rfl, rfl⟩, fun x hx => by obtain ⟨x0, x1, x2, x3, rfl⟩ := four_of hx; exact cm _ _ _ _⟩
    · exact ⟨3, b, a, by decide, .inr ⟨rfl, rfl⟩, fun x hx => by obtain ⟨x0, x1, x2, x3, rfl⟩ := four_of hx; exact cm _ _ _ _⟩
    · exact ⟨2, b, a, by decide, .inr ⟨rfl, rfl⟩, fun x hx => by obtain ⟨x0, x1, x2, x3, rfl⟩ := four_of hx; exact cm _ _ _ _⟩
/-- M is L led by ps, risen -/
structure LedBy (ps : List Int) (L M : List (List Int)) : Prop where
  pm : M.Perm (L.map (sel ps))
  st : Srt M
theorem LedBy.len {ps : List Int} {L M : List (List Int)} (h : LedBy ps L M) : M.length = L.length := by rw [h.pm.length_eq, List.length_map]
theorem LedBy.goodT {q : Nat} {L M : List (List Int)} (h : LedBy pT L M) (g : Good q L) : Good q M := (good_T g).perm h.pm
theorem LedBy.goodF {q : Nat} {L M : List (List Int)} (h : LedBy pF L M) (g : Good q L) : Good q M := (good_F g).perm h.pm
theorem LedBy.uniq {q : Nat} {ps : List Int} {L M N : List (List Int)} (h : LedBy ps L M) (h' : LedBy ps L N) (r : InR N) : M = N := srt_uniq (h.pm.trans h'.pm.symm) h.st h'.st r
theorem led_perm {ps ps' : List Int} {L M N : List (List Int)} (h : LedBy ps L M) (h' : LedBy ps' M N) : N.Perm (L.map (sel ps' ∘ sel ps)) := by
  rw [← List.map_map]
  exact h'.pm.trans (h.pm.map _)
theorem map_four {L : List (List Int)} {f g : List Int → List Int} (h4 : ∀ x ∈ L, x.length = 4) (h : ∀ a b c d, f [a, b, c, d] = g [a, b, c, d]) : L.map f = L.map g :=
  List.map_congr_left fun x hx => by
    obtain ⟨a, b, c, d, rfl⟩ := four_of (h4 x hx)
    exact h a b c d
/-! ### data -/
abbrev dT (x : List Int) : PyData := .tuple (x.map PyData.int)
abbrev dTT (L : List (List Int)) : PyData := .tuple (L.map dT)
theorem dpAll (K : PySem.W.Frag) (G : Hp) : ∀ x : List Int, DpAll K G (x.map V.int) (x.map PyData.int)
  | [] => .nil
  | v :: r => .cons (.int v) (dpAll K G r)
theorem dpCells {K : PySem.W.Frag} {G : Hp} : ∀ cs : List (Addr × List Int), (∀ c ∈ cs, SqT K G c.1 (c.2.map V.int)) → DpAll K G (refs cs) ((cs.map (·.2)).map dT)
  | [], _ => .nil
  | c :: r, h => .cons (.tup (h c List.mem_cons_self) (dpAll K G c.2)) (dpCells r fun d hd => h d (List.mem_cons_of_mem _ hd))
theorem eqv_ints : ∀ x y : List Int, PyData.eqvAll (x.map PyData.int) (y.map PyData.int) = decide (x = y)
  | [], [] => by simp [PyData.eqvAll]
  | [], b :: s => by simp [PyData.eqvAll]
  | a :: r, [] => by simp [PyData.eqvAll]
  | a :: r, b :: s => by
    simp only [List.map_cons, PyData.eqvAll, PyData.eqv, eqv_ints r s, List.cons.injEq]
    by_cases h : a = b <;> simp [h]
theorem eqv_quads : ∀ L M : List (List Int), PyData.eqvAll (L.map dT) (M.map dT) = decide (L = M)
  | [], [] => by simp [PyData.eqvAll]
  | [], b :: s => by simp [PyData.eqvAll]
  | a :: r, [] => by simp [PyData.eqvAll]
  | a :: r, b :: s => by
    have e : PyData.eqv (dT a) (dT b) = decide (a = b) := by
      show PyData.eqv (.tuple _) (.tuple _) = _
      simp only [PyData.eqv]
      exact eqv_ints a b
    simp only [List.map_cons, PyData.eqvAll, e, eqv_quads r s, List.cons.injEq]
    by_cases h : a = b <;> simp [h]
theorem small7 {v : Int} (h0 : 0 ≤ v) (h1 : v < 7) : PyData.showable (.int v) = true ∧ PyData.leavesShort 8 (.int v) = true ∧ PyData.weight (.int v) ≤ 3 ∧ PyData.canLay0 (.int v) = true := by
  have : v = 0 ∨ v = 1 ∨ v = 2 ∨ v = 3 ∨ v = 4 ∨ v = 5 ∨ v = 6 := by omega
  rcases this with rfl | rfl | rfl | rfl | rfl | rfl | rfl <;> (refine ⟨?_, ?_, ?_, ?_⟩ <;> simp only [PyData.showable, PyData.leavesShort, PyData.weight, PyData.shown, PyData.canLay0] <;> decide +kernel)
structure Plain (ds : List PyData) (dp wt : Nat) : Prop where
  sh : PyData.showableAll ds = true
  hd : PyData.hasDictAll ds = false
  ls : PyData.leavesShortAll 8 ds = true
  dp : PyData.depthAll ds ≤ dp
  wt : PyData.weightAll ds ≤ wt
  cl : PyData.canLayAll0 ds = true
theorem Plain.nil (dp : Nat) : Plain [] dp 0 := ⟨by simp [PyData.showableAll], by simp [PyData.hasDictAll], by simp [PyData.leavesShortAll], by simp [PyData.depthAll], by simp [PyData.weightAll], by simp [PyData.canLayAll0]⟩
theorem plain_ints : ∀ x : List Int, (∀ v ∈ x, 0 ≤ v ∧ v < 7) → Plain (x.map PyData.int) 0 (4 * x.length)
  | [], _ => Plain.nil 0
  | v :: r, h => by
    obtain ⟨i1, i2, i3, i4, i5, i6⟩ := plain_ints r fun y hy => h y (List.mem_cons_of_mem _ hy)
    obtain ⟨s1, s2, s3, s4⟩ := small7 (h v List.mem_cons_self).1 (h v List.mem_cons_self).2
    refine ⟨?_, ?_, ?_, ?_, ?_, ?_⟩ <;> simp only [List.map_cons, PyData.showableAll, PyData.hasDictAll, PyData.leavesShortAll, PyData.depthAll, PyData.weightAll, PyData.canLayAll0, s1, s2, s4, i1, i2, i3, i6, PyData.hasDict, PyData.depth, List.length_cons]
    · rfl
    · rfl
    · rfl
    · omega
    · omega
    · rfl
theorem Plain.tup {ds : List PyData} {dp wt : Nat} (h : Plain ds dp wt) : Plain [.tuple ds] (dp + 1) (wt + 1) := by
  obtain ⟨i1, i2, i3, i4, i5, i6⟩ := h
  refine ⟨?_, ?_, ?_, ?_, ?_, ?_⟩ <;> simp only [PyData.showableAll, PyData.hasDictAll, PyData.leavesShortAll, PyData.depthAll, PyData.weightAll, PyData.canLayAll0, PyData.showable, PyData.hasDict, PyData.leavesShort, PyData.depth, PyData.weight, PyData.canLay0, i1, i2, i3, i6]
  · rfl
  · rfl
  · rfl
  · omega
  · omega
  · rfl
theorem Plain.lst {ds : List PyData} {dp wt : Nat} (h : Plain ds dp wt) : Plain [.list ds] (dp + 1) (wt + 1) := by
  obtain ⟨i1, i2, i3, i4, i5, i6⟩ := h
  refine ⟨?_, ?_, ?_, ?_, ?_, ?_⟩ <;> simp only [PyData.showableAll, PyData.hasDictAll, PyData.leavesShortAll, PyData.depthAll, PyData.weightAll, PyData.canLayAll0, PyData.showable, PyData.hasDict, PyData.leavesShort, PyData.depth, PyData.weight, PyData.canLay0, i1, i2, i3, i6]
  · rfl
  · rfl
  · rfl
  · omega
  · omega
  · rfl
theorem Plain.cons {d : PyData} {ds : List PyData} {dp wt wt' : Nat} (h : Plain [d] dp wt) (h' : Plain ds dp wt') : Plain (d :: ds) dp (wt + wt') := by
  obtain ⟨i1, i2, i3, i4, i5, i6⟩ := h
  obtain ⟨j1, j2, j3, j4, j5, j6⟩ := h'
  simp only [PyData.showableAll, PyData.hasDictAll, PyData.leavesShortAll, PyData.depthAll, PyData.weightAll, PyData.canLayAll0, Bool.and_true, Bool.or_false] at i1 i2 i3 i4 i5 i6
  refine ⟨?_, ?_, ?_, ?_, ?_, ?_⟩ <;> simp only [PyData.showableAll, PyData.hasDictAll, PyData.leavesShortAll, PyData.depthAll, PyData.weightAll, PyData.canLayAll0, i1, i2, i3, i6, j1, j2, j3, j6]
  · rfl
  · rfl
  · rfl
  · omega
  · omega
  · rfl
theorem plain_quads : ∀ L : List (List Int), InR L → Plain (L.map dT) 1 (17 * L.length)
  | [], _ => Plain.nil 1
  | x :: r, h => by
    have h1 := (plain_ints x (h.lt x List.mem_cons_self)).tup
    rw [h.l4 x List.mem_cons_self] at h1
    have h2 := plain_quads r ⟨fun y hy => h.l4 y (List.mem_cons_of_mem _ hy), fun y hy => h.lt y (List.mem_cons_of_mem _ hy)⟩
    have h3 := h1.cons h2
    have z : PyData.weightAll (List.map dT (x :: r)) ≤ 4 * 4 + 1 + 17 * r.length := h3.wt
    exact ⟨h3.sh, h3.hd, h3.ls, h3.dp, by rw [List.length_cons]; omega, h3.cl⟩
/-- what repr and == ask of a thing -/
structure Fine (d : PyData) : Prop where
  sh : d.showable = true
  hd : d.hasDict = false
  dp : d.depth ≤ 60
  ln : d.shown.length ≤ sizeLine
  sp : SeqAt.shaped d = true
theorem Plain.fine {d : PyData} {dp wt : Nat} (h : Plain [d] dp wt) (hd : dp ≤ 60) (hw : wt ≤ 100000) : Fine d := by
  obtain ⟨i1, i2, i3, i4, i5, i6⟩ := h
  simp only [PyData.showableAll, PyData.hasDictAll, PyData.leavesShortAll, PyData.depthAll, PyData.weightAll, PyData.canLayAll0, Bool.and_true, Bool.or_false] at i1 i2 i3 i4 i5 i6
  refine ⟨i1, i2, by omega, ?_, ?_⟩
  · have := PyData.shown_le 8 (by decide) d i3
    have s : 2000000 ≤ sizeLine := by decide
    omega
  · unfold SeqAt.shaped
    rw [i6, decide_eq_true (show d.depth ≤ 64 by omega)]
    rfl
theorem fineT {L : List (List Int)} (h : InR L) (hl : L.length < 64) : Plain [dTT L] 2 1200 := by
  have := (plain_quads L h).tup
  have z : PyData.weightAll [dTT L] ≤ 17 * L.length + 1 := this.wt
  exact ⟨this.sh, this.hd, this.ls, this.dp, by omega, this.cl⟩
theorem eqvTT (L M : List (List Int)) : PyData.eqv (dTT L) (dTT M) = decide (L = M) := by
  show PyData.eqv (.tuple _) (.tuple _) = _
  simp only [PyData.eqv]
  exact eqv_quads L M
theorem sameT {K : PySem.W.Frag} {G G' : Hp} {b : Addr} {xs : List V} (s : Same G G') (h : SqT K G b xs) : SqT K G' b xs := by
  rcases h with (h | ⟨o, h⟩) | h
  · exact .inl (.inl (s _ _ h))
  · exact .inl (.inr ⟨o, s _ _ h⟩)
  · exact .inr h
theorem freshSeq {K : PySem.W.Frag} {p a : Addr} {G G' : Hp} {xs : List V} (h : SqL K G a xs) (n : G p = none) (f : Fr p G G') : SqL K G' a xs := by
  rcases h with (h | ⟨o, h⟩) | h
  · exact .inl (.inl (f _ _ (ne_of_none h n) h))
  · exact .inl (.inr ⟨o, f _ _ (ne_of_none h n) h⟩)
  · exact .inr h
theorem get4 {x : List Int} {m : Nat} (h : x.length = 4) (hm : m < 4) : (x.map V.int)[m]? = some (.int (x.getD m 0)) := by
  have : m < x.length := by omega
  rw [List.getElem?_map, List.getElem?_eq_getElem this, List.getD_eq_getElem?_getD, List.getElem?_eq_getElem this]
  rfl
/-- a table stands there -/
structure TabAt (K : PySem.W.Frag) (G : Hp) (t : Addr) (cs : List (Addr × List Int)) : Prop where
  at_ : SqT K G t (refs cs)
  ce : ∀ c ∈ cs, SqT K G c.1 (c.2.map V.int)
  rg : InR (cs.map (·.2))
  ln : cs.length < 64
theorem TabAt.same {K : PySem.W.Frag} {G G' : Hp} {t : Addr} {cs : List (Addr × List Int)} (h : TabAt K G t cs) (s : Same G G') : TabAt K G' t cs := ⟨sameT s h.at_, fun c hc => sameT s (h.ce c hc), h.rg, h.ln⟩
theorem TabAt.dp {K : PySem.W.Frag} {G : Hp} {t : Addr} {cs : List (Addr × List Int)} (h : TabAt K G t cs) : Dp K G (.ref t) (dTT (cs.map (·.2))) := .tup h.at_ (dpCells cs h.ce)
theorem TabAt.pl {K : PySem.W.Frag} {G : Hp} {t : Addr} {cs : List (Addr × List Int)} (h : TabAt K G t cs) : Plain [dTT (cs.map (·.2))] 2 1200 := fineT h.rg (by rw [List.length_map]; exact h.ln)
end C2

namespace C2
set_option Elab.async false
set_option linter.all false
set_option maxRecDepth 100000
set_option maxHeartbeats 4000000
open PySem PySem.Spec PyProof.Rows L2
abbrev NTu : List Str := ["table", "l", "w", "r", "h"]
def gQuad (K : PySem.W.Frag) : TG := gTup K 4 (gCons (gName 1) (gCons (gName 2) (gCons (gName 3) (gCons (gName 4) gNil))))
def spLed (ps : List Int) (K : PySem.W.Frag) : Sp := fun vs H Q _ => ∃ (t : Addr) (cs : List (Addr × List Int)), vs = [.ref t] ∧ TabAt K H t cs ∧
  ∀ H' t' ws, Same H H' → TabAt K H' t' ws → LedBy ps (cs.map (·.2)) (ws.map (·.2)) → Q (.ref t') H'
/-- the quads led so far -/
def LedI (ps : List Int) (H : Hp) (cs : List (Addr × List Int)) (D : Addr) (i : Nat) (G : Hp) : Prop :=
  ∃ os : List (Addr × List Int), Same H G ∧ G D = some (.lst (refs os)) ∧ Cells G os ∧ os.map (·.2) = (cs.take i).map fun c => sel ps c.2
theorem ref_at {cs : List (Addr × List Int)} {i : Nat} {x : V} (h : (refs cs)[i]? = some x) : ∃ hi : i < cs.length, x = .ref cs[i].1 := by
  have hi : i < cs.length := by
    have := (List.getElem?_eq_some_iff.mp h).1
    rw [List.length_map] at this
    exact this
  refine ⟨hi, ?_⟩
  rw [List.getElem?_map, List.getElem?_eq_getElem hi] at h
  exact (Option.some.inj h).symm
/-- one more led quad, at T -/
theorem LedI.step {ps : List Int} {H G G2 : Hp} {cs : List (Addr × List Int)} {D T : Addr} {i : Nat} {y : List Int} (I : LedI ps H cs D i G) (hi : i < cs.length) (hl : cs.length < 64) (nD : H D = none) (sm2 : Same G G2) (nT : G T = none) (hT : G2 T = some (.tup (y.map V.int))) (ey : y = sel ps cs[i].2) :
    ∃ acc, G2 D = some (.lst acc) ∧ acc.length < sizeLine ∧ LedI ps H cs D (i + 1) (upd G2 D (.lst (acc ++ [.ref T]))) := by
  obtain ⟨os, sm, hD, hos, e⟩ := I
  have lo : os.length = i := by
    have e1 : os.length = (os.map (·.2)).length := (List.length_map _).symm
    rw [e1, e, List.length_map, List.length_take]
    omega
  have hne : T ≠ D := fun z => by rw [z, hD] at nT; cases nT
  refine ⟨refs os, sm2 _ _ hD, ?_, os ++ [(T, y)], ?_, ?_, ?_, ?_⟩
  · rw [List.length_map]
    exact Nat.lt_of_lt_of_le (show os.length < 1000 by omega) (by decide)
  · intro b o eb
    rw [upd_ne (ne_of_none eb nD)]
    exact sm2 _ _ (sm _ _ eb)
  · rw [upd_same]
    show _ = some (HO.lst (List.map _ (os ++ [_])))
    rw [List.map_append]
    rfl
  · intro c hc
    rcases List.mem_append.mp hc with hc | hc
    · have hh := hos c hc
      rw [upd_ne (ne_of hh hD (by intro z; cases z))]
      exact sm2 _ _ hh
    · rw [List.mem_singleton] at hc
      subst hc
      rw [upd_ne hne]
      exact hT
  · rw [List.map_append, e, List.take_add_one, List.getElem?_eq_getElem hi, List.map_append, ey]
    rfl
theorem sel_in {ps : List Int} (h4 : ps.length = 4) (hp : ∀ j ∈ ps, 0 ≤ j ∧ j < 4) {L : List (List Int)} (r : InR L) : InR (L.map (sel ps)) := by
  refine ⟨fun x hx => ?_, fun x hx v hv => ?_⟩
  · obtain ⟨y, hy, rfl⟩ := List.mem_map.mp hx
    unfold sel
    rw [List.length_map]
    exact h4
  · obtain ⟨y, hy, rfl⟩ := List.mem_map.mp hx
    obtain ⟨j, hj, rfl⟩ := List.mem_map.mp hv
    have hj' := hp j hj
    have l4 := r.l4 y hy
    have hlt : j.toNat < y.length := by omega
    rw [List.getD_eq_getElem?_getD, List.getElem?_eq_getElem hlt]
    exact r.lt y hy _ (List.getElem_mem hlt)
theorem led_end {K : PySem.W.Frag} {ps : List Int} {H G : Hp} {t D : Addr} {cs : List (Addr × List Int)} {Q : VK} (h4 : ps.length = 4) (hp : ∀ j ∈ ps, 0 ≤ j ∧ j < 4) (hT : TabAt K H t cs) (I : LedI ps H cs D cs.length G)
    (k : ∀ H' t' ws, Same H H' → TabAt K H' t' ws → LedBy ps (cs.map (·.2)) (ws.map (·.2)) → Q (.ref t') H') : rSortU K 4 7 [.ref D] G fun v G2 => rTupOf K [v] G2 Q := by
  obtain ⟨os, sm, hD, hos, e⟩ := I
  rw [List.take_of_length_le (Nat.le_refl _)] at e
  have e2 : os.map (·.2) = (cs.map (·.2)).map (sel ps) := by rw [e, List.map_map]; rfl
  have r : InR (os.map (·.2)) := by rw [e2]; exact sel_in h4 hp hT.rg
  have lo : os.length = cs.length := by
    have e1 : os.length = (os.map (·.2)).length := (List.length_map _).symm
    rw [e1, e, List.length_map]
  have hl := hT.ln
  refine sort_tup hD hos (fun c hc => r.l4 _ (List.mem_map.mpr ⟨c, hc, rfl⟩)) (fun c hc => r.lt _ (List.mem_map.mpr ⟨c, hc, rfl⟩)) (by omega) fun t' ws H8 s2 ht hws pw st => ?_
  have pm : (ws.map (·.2)).Perm (os.map (·.2)) := pw.map _
  refine k H8 t' ws (sm.trans s2) ⟨.inl (.inl ht), fun c hc => .inl (.inl (hws c hc)), r.perm pm, by rw [pw.length_eq]; omega⟩ ⟨?_, st⟩
  rw [← e2]
  exact pm
end C2

namespace C2
set_option Elab.async false
set_option linter.all false
set_option maxRecDepth 100000
set_option maxHeartbeats 4000000
open PySem PySem.Spec PyProof.Rows L2
section
variable {P : Program} {w : World} {K : PySem.W.Frag} {mg : Str → Option Value} {base : Heap}
theorem scTurned : FnScope NTu ["table"] (defScope sTurned) := ⟨rfl, rfl, rfl, by decide +kernel, rfl, by decide +kernel, by decide +kernel⟩
theorem ok_turned {f : Addr} {fd : FuncData} {k : Nat} (F : Fun K "turned" "turned" sTurned f fd) (mt : mg "tuple" = none) (ms : mg "sorted" = none) : FnOk P w K mg base CX0 (k + 1) f fd ["table"] (spLed pT K) := by
  refine F.ok scTurned (fun vs H Q E h => ?_) (fun cdv A outer s H vs Q E hr h => ?_)
  · obtain ⟨t, cs, rfl, _⟩ := h
    rfl
  · obtain ⟨t, cs, rfl, hT, k⟩ := h
    have nd := scTurned.nd
    refine ⟨_, pss_one (ps_ret (pe_callTy call_tuple_of (by rfl) mt (by decide +kernel) (pa_cons (pe_callB (cr_sortT (d := 4) (B := 7) (by decide)) (by rfl) ms (by decide +kernel) (pa_cons
      (pe_lc (own := [("l", 1), ("w", 2), ("r", 3), ("h", 4)]) (g := gQuad K) (tt := tYes) (te := tTup (tCons (tVar 4) (tCons (tVar 1) (tCons (tVar 2) (tCons (tVar 3) tNil))))) rfl nd (pi_tup (pv 0))
        (blkOk_by (own := [("l", 1), ("w", 2), ("r", 3), ("h", 4)]) (N := NTu) (sc := defScope sTurned) (by decide +kernel))
        (fun _ _ _ _ _ => pg_tup rfl (pgs_cons (pg_name (i := 1) nd rfl (.inl rfl)) (pgs_cons (pg_name (i := 2) nd rfl (.inl rfl)) (pgs_cons (pg_name (i := 3) nd rfl (.inl rfl)) (pgs_cons (pg_name (i := 4) nd rfl (.inl rfl)) pgs_nil)))))
        (fun _ _ _ _ _ => pts_nil) (fun _ _ _ _ _ => pe_tup (pa_cons (pv 4) (pa_cons (pv 1) (pa_cons (pv 2) (pa_cons (pv 3) pa_nil)))))) pa_nil)) pa_nil))), ?_⟩
    refine ⟨.ref t, rfl, t, rfl, ⟨_, hT.at_⟩, fun D nD => ?_⟩
    refine lc_tup (xs := refs cs) (LedI pT H cs D) ⟨[], same_upd nD, upd_same, fun c hc => (by cases hc), rfl⟩ ?_ ?_ ?_
    · rintro i G _ ⟨os, sm, _⟩
      exact sameT sm hT.at_
    · rintro i x G hx I
      obtain ⟨hi, rfl⟩ := ref_at hx
      obtain ⟨x0, x1, x2, x3, e4⟩ := four_of (hT.rg.l4 cs[i].2 (List.mem_map.mpr ⟨_, List.getElem_mem hi, rfl⟩))
      have hc := hT.ce _ (List.getElem_mem hi)
      obtain ⟨os, sm, hh⟩ := id I
      replace hc := sameT sm hc
      rw [e4] at hc
      refine ⟨cs[i].1, _, rfl, hc, rfl, _, _, rfl, _, _, rfl, _, _, rfl, _, _, rfl, rfl, rfl, .int x3, rfl, .int x0, rfl, .int x1, rfl, .int x2, rfl, by show 4 ≤ sizeLine; decide, fun T nT => ?_⟩
      exact I.step (y := [x3, x0, x1, x2]) hi hT.ln nD (same_upd nT) nT upd_same (by rw [e4]; rfl)
    · intro G I
      have ln : (refs cs).length = cs.length := List.length_map _
      rw [ln] at I
      exact led_end (by decide) (by decide) hT I k
theorem scFlipped : FnScope NTu ["table"] (defScope sFlipped) := ⟨rfl, rfl, rfl, by decide +kernel, rfl, by decide +kernel, by decide +kernel⟩
theorem ok_flipped {f : Addr} {fd : FuncData} {k : Nat} (F : Fun K "flipped" "flipped" sFlipped f fd) (mt : mg "tuple" = none) (ms : mg "sorted" = none) : FnOk P w K mg base CX0 (k + 1) f fd ["table"] (spLed pF K) := by
  refine F.ok scFlipped (fun vs H Q E h => ?_) (fun cdv A outer s H vs Q E hr h => ?_)
  · obtain ⟨t, cs, rfl, _⟩ := h
    rfl
  · obtain ⟨t, cs, rfl, hT, k⟩ := h
    have nd := scFlipped.nd
    refine ⟨_, pss_one (ps_ret (pe_callTy call_tuple_of (by rfl) mt (by decide +kernel) (pa_cons (pe_callB (cr_sortT (d := 4) (B := 7) (by decide)) (by rfl) ms (by decide +kernel) (pa_cons
      (pe_lc (own := [("l", 1), ("w", 2), ("r", 3), ("h", 4)]) (g := gQuad K) (tt := tYes) (te := tTup (tCons (tVar 3) (tCons (tVar 2) (tCons (tVar 1) (tCons (tVar 4) tNil))))) rfl nd (pi_tup (pv 0))
        (blkOk_by (own := [("l", 1), ("w", 2), ("r", 3), ("h", 4)]) (N := NTu) (sc := defScope sFlipped) (by decide +kernel))
        (fun _ _ _ _ _ => pg_tup rfl (pgs_cons (pg_name (i := 1) nd rfl (.inl rfl)) (pgs_cons (pg_name (i := 2) nd rfl (.inl rfl)) (pgs_cons (pg_name (i := 3) nd rfl (.inl rfl)) (pgs_cons (pg_name (i := 4) nd rfl (.inl rfl)) pgs_nil)))))
        (fun _ _ _ _ _ => pts_nil) (fun _ _ _ _ _ => pe_tup (pa_cons (pv 3) (pa_cons (pv 2) (pa_cons (pv 1) (pa_cons (pv 4) pa_nil)))))) pa_nil)) pa_nil))), ?_⟩
    refine ⟨.ref t, rfl, t, rfl, ⟨_, hT.at_⟩, fun D nD => ?_⟩
    refine lc_tup (xs := refs cs) (LedI pF H cs D) ⟨[], same_upd nD, upd_same, fun c hc => (by cases hc), rfl⟩ ?_ ?_ ?_
    · rintro i G _ ⟨os, sm, _⟩
      exact sameT sm hT.at_
    · rintro i x G hx I
      obtain ⟨hi, rfl⟩ := ref_at hx
      obtain ⟨x0, x1, x2, x3, e4⟩ := four_of (hT.rg.l4 cs[i].2 (List.mem_map.mpr ⟨_, List.getElem_mem hi, rfl⟩))
      have hc := hT.ce _ (List.getElem_mem hi)
      obtain ⟨os, sm, hh⟩ := id I
      replace hc := sameT sm hc
      rw [e4] at hc
      refine ⟨cs[i].1, _, rfl, hc, rfl, _, _, rfl, _, _, rfl, _, _, rfl, _, _, rfl, rfl, rfl, .int x2, rfl, .int x1, rfl, .int x0, rfl, .int x3, rfl, by show 4 ≤ sizeLine; decide, fun T nT => ?_⟩
      exact I.step (y := [x2, x1, x0, x3]) hi hT.ln nD (same_upd nT) nT upd_same (by rw [e4]; rfl)
    · intro G I
      have ln : (refs cs).length = cs.length := List.length_map _
      rw [ln] at I
      exact led_end (by decide) (by decide) hT I k
end
end C2

namespace C2
set_option Elab.async false
set_option linter.all false
set_option maxRecDepth 100000
set_option maxHeartbeats 4000000
open PySem PySem.Spec PyProof.Rows L2
/-! ### dict comprehensions whose keys are tuples of numbers and texts -/
theorem dictSet_tup {X : Cx} {pins : List (Addr × Obj)} {σ : L2.St} {G : Hp} {s : Shared} {E : Value → Shared → Prop} {D b : Addr} {kvs : List (List Key × V)} {ky : List Key} {v : V} {r : Value} {Q : Unit → Shared → Prop} (hu : X.A.units + 1 < cLine)
    (I : Inv X pins σ G s) (hD : G D = some (.dT kvs)) (hb : G b = some (.tup (ky.map kV))) (small : kvs.length < sizeLine) (rv : RelV v r) (h : ∀ s', Inv X pins σ (upd G D (.dT (putK kvs ky v))) s' → Q () s') : wpAny (model X.prog X.w) X.A (dictSet D (.ref b) r) Q E s := by
  obtain ⟨z, nsm, xs, rel, dd⟩ := dt_of I.hok hD
  have lx : xs.length ≤ sizeLine := by rw [← Paired.length rel]; exact z
  have lp : (putK kvs ky v).length ≤ sizeLine := by have := length_putK kvs ky v; omega
  refine wpAny_dictSet_heap (hsz := lx) (show X.A.units < cLine by omega) (key_of I.hok hb) dd fun h' dd' same => h _ ?_
  obtain ⟨q, es, ep, hq, a2, a3, a4, _, a5⟩ := dd'
  refine d_write I (by rw [hD]; exact True.intro) same ⟨q, hq⟩ ⟨lp, nsm, _, (rel.put ky hb rv).keeps fun c ys ec => ?_, q, es, ep, hq, a2, a3, a4, a5⟩
  rw [upd_ne (ne_of ec hD (fun z => nomatch z))]
  exact ec
section
variable {X : Cx}
/-- {k: v for ..}: D the new dict, its keys tuples -/
def tDcT (wi : TI) (g : TG) (tt : TT) (tk tv : TE) (vs : List Nat) : TE := fun σ G Q => wi σ G fun J G1 => ∀ D, G1 D = none → ∃ W : Nat → Nat → Hp → Prop, (∃ m, W 0 m (upd G1 D (.dT []))) ∧ ∀ i m G, W i m G →
  (J.stop i G ∧ Q (.ref D) G) ∨ (J.go i G ∧ ∃ Nx : Hp → Prop, (∀ G', Nx G' → ∃ m', m' < m ∧ W (i + 1) m' G') ∧ ∀ x G', J.yld i G x G' → g x (wipe σ vs) G' fun σ2 G2 => wipe σ2 vs = wipe σ vs ∧ tt σ2 G2 fun b G3 =>
    if b = true then tk σ2 G3 fun y G4 => tv σ2 G4 fun z G5 => ∃ kvs ky c, y = .ref c ∧ G5 c = some (.tup (ky.map kV)) ∧ G5 D = some (.dT kvs) ∧ kvs.length < sizeLine ∧ Nx (upd G5 D (.dT (putK kvs ky z))) else Nx G3)
abbrev Blk (X : Cx) (scope : Scope) (J : Cx → Prop) : Prop := ∀ (s : Shared) (G : Hp) (C : Addr) (cl : List (Str × Addr)) (fp : List Addr), J (X.blk s G scope (compEnvC scope cl C X.env) fp)
theorem dcT_core {pins : List (Addr × Obj)} {s : Shared} {σ : L2.St} {G : Hp} {Q : VK} {keyE valE aim iter : Expr} {conds : List Expr} {scope : Scope} {own : List (Str × Nat)} {pos pos' : Pos} {wi : TI} {g : TG} {tt : TT} {tk tv : TE} {use : Option (Value → Sem Unit)} {Qf : Value → Shared → Prop}
    (hu : X.A.units + 1 < cLine) (hc : X.calm = true) (hN : X.N.Nodup) (I : Inv X pins σ G s) (hi : PI X aim iter wi) (ok : BlkOk X.N X.env.scope scope own)
    (hg : Blk X scope fun Y => PG Y aim g) (ht : Blk X scope fun Y => PTs Y conds tt) (hk : Blk X scope fun Y => PE Y keyE tk) (he : Blk X scope fun Y => PE Y valE tv) (hs : ∀ x, foldedSetIterable iter X.env x = pure x) (h : tDcT wi g tt tk tv (own.map (·.2)) σ G Q)
    (out : ∀ D C s' m G', Inv X pins σ G' s' → Q (.ref D) G' → s'.heap.Ns C m → FpOk X pins G' C → compPost (model X.prog X.w) X.A X.xe use Qf (.ref D) C (.ok .next) s') :
    wpAny (model X.prog X.w) X.A (comprehension (.DictComp keyE valE [⟨aim, iter, conds, 0⟩] scope pos) scope X.env pos' newDict false (eval iter X.env) use) Qf X.xe s := by
  have hfr : ∀ y ∈ scope.names, y.2 = .free → ∃ c, X.env.cells.lookup y.1 = some c := fun y hy e => (ok.free y hy e).elim (fun k => I.ok.has _ (.inl k)) fun k => I.ok.has _ (.inr k)
  refine wpAny_comprehension_free (use := use) rfl hs (closure_ok hfr) ok.kind (fun y hy e => by rw [ok.uniq y hy, e]) (thn (hi.run pins s σ G _ I h) fun xv s1 hx => thn hx fun itv s2 h2 => ?_)
  obtain ⟨it, fp, tn, J, G2, rfl, I2, T, st2, f2, q⟩ := h2
  refine wpAny_newObj_type ?_
  refine newEnv_comp ?_
  generalize eD : s2.heap.objs.size = D
  obtain ⟨W, ⟨m0, w0⟩, turn⟩ := q D (I2.hok.fresh (Nat.le_of_eq eD))
  generalize e3 : ({ s2 with heap := s2.heap.push { cls := .type "dict", data := .dict #[] } } : Shared) = s3
  have I3 : Inv X pins σ (upd G2 D (.dT [])) s3 := by
    rw [← e3]
    refine I2.laid (t' := s2.toks) (fun b o e => Heap.get?_push_of_some _ e) (Nat.le_of_eq eD) ?_
    rw [← eD]
    exact dt_empty s2.heap I2.big
  have h3 : s3.heap = s2.heap.push { cls := .type "dict", data := .dict #[] } := by rw [← e3]
  have f3 : ∀ b ∈ fp, FpOk X pins (upd G2 D (.dT [])) b ∧ b < s3.heap.objs.size := by
    intro b hb
    have ⟨_, stands, _⟩ := T.obj _ _ st2 b hb
    have low := Heap.lt_size stands
    refine ⟨⟨?_, (f2 b hb).2⟩, by rw [h3, Heap.size_push]; exact Nat.lt_succ_of_lt low⟩
    rw [upd_ne (by rw [← eD]; exact Nat.ne_of_lt low)]
    exact (f2 b hb).1
  have st3 : tn 0 s3.heap := by
    rw [h3]
    exact T.keep _ _ _ st2 fun _ _ _ there => Heap.get?_push_of_some _ there
  have I4 := block_start (scope := scope) I3 ok hN f3
  have pg := hg s3 (upd G2 D (.dT [])) s3.heap.objs.size (cellsFrom (s3.heap.objs.size + 1) scope.names (cloFrom X.env.cells scope.names [])) fp
  have pt := ht s3 (upd G2 D (.dT [])) s3.heap.objs.size (cellsFrom (s3.heap.objs.size + 1) scope.names (cloFrom X.env.cells scope.names [])) fp
  have pk := hk s3 (upd G2 D (.dT [])) s3.heap.objs.size (cellsFrom (s3.heap.objs.size + 1) scope.names (cloFrom X.env.cells scope.names [])) fp
  have pe := he s3 (upd G2 D (.dT [])) s3.heap.objs.size (cellsFrom (s3.heap.objs.size + 1) scope.names (cloFrom X.env.cells scope.names [])) fp
  show codeAny _ _ (.compStart (.DictComp keyE valE [⟨aim, iter, conds, 0⟩] scope pos) 0 (.ref it) (.ref D) (compEnvC scope (cellsFrom (s3.heap.objs.size + 1) scope.names (cloFrom X.env.cells scope.names [])) s3.heap.objs.size X.env)) (compPost (model X.prog X.w) X.A X.xe use Qf (.ref D) s3.heap.objs.size) { s3 with heap := pushCells (s3.heap.push { cls := .type "dict", data := .dict #[] }) scope.names }
  have nfp : ∀ b ∈ fp, (upd G2 D (.dT [])) b = none := fun b hb => (f3 b hb).1.1
  generalize ece : compEnvC scope (cellsFrom (s3.heap.objs.size + 1) scope.names (cloFrom X.env.cells scope.names [])) s3.heap.objs.size X.env = ce at I4 pg pt pk pe ⊢
  have cL : ce.locals = s3.heap.objs.size := by subst ece; rfl
  generalize eG3 : upd G2 D (.dT []) = G3 at I3 I4 pg pt pk pe w0 nfp f3
  generalize e4 : ({ s3 with heap := pushCells (s3.heap.push { cls := .type "dict", data := .dict #[] }) scope.names } : Shared) = s4 at I4 ⊢
  have st4 : tn 0 s4.heap := T.keep _ _ _ st3 fun b _ o e => by rw [← e4]; exact pushCells_keeps _ _ _ _ (Heap.get?_push_of_some _ e)
  have stat : ∀ {σ' : L2.St} {G' : Hp} {s' : Shared}, Inv (X.blk s3 G3 scope ce fp) [] σ' G' s' → (∀ b ∈ fp, G' b = none) → ∀ b ∈ fp, FpOk (X.blk s3 G3 scope ce fp) [] G' b := by
    intro σ' G' s' I' hn b hb
    exact ⟨hn b hb, (I'.ok.exf b hb).1, I'.ok.exfs b hb, Or.inl hb, fun x c e => (I'.ok.exf b hb).2 x c e, fun p hp => absurd (show p ∈ ([] : List (Addr × Obj)) ++ [] from hp) (by simp)⟩
  have loop : codeAny (model X.prog X.w) X.A (.compLoop (.DictComp keyE valE [⟨aim, iter, conds, 0⟩] scope pos) 0 (.ref it) (.ref D) ce) (compPost (model X.prog X.w) X.A X.xe use Qf (.ref D) s3.heap.objs.size) s4 := by
    refine compLoop_anyD (fun n s' => ∃ i G', Inv (X.blk s3 G3 scope ce fp) [] (wipe σ (own.map (·.2))) G' s' ∧ tn i s'.heap ∧ (∀ b ∈ fp, G' b = none) ∧ W i n G') ?_ m0 ⟨0, G3, I4, st4, nfp, w0⟩
    rintro n s5 ⟨i, G5, I5, st5, n5, w5⟩
    rcases turn i n G5 w5 with ⟨stop, qq⟩ | ⟨go, Nx, hNx, step⟩
    · refine thnF (T.done (X.blk s3 G3 scope ce fp) rfl rfl rfl hc i [] s5 _ G5 (fun _ _ => False) I5 (stat I5 n5) st5 stop) fun r s6 ⟨hr, I6⟩ => ?_
      subst hr
      have I7 : Inv X pins σ G5 s6 := I3.call' (ch := fp) I6.os I6.base I6.hok I6.bare fun b hb => ⟨(f3 b hb).1.2.2.2.1, (f3 b hb).1.2.1, (f3 b hb).1.2.2.2.2.1, (f3 b hb).1.2.2.2.2.2⟩
      have nC : G5 s3.heap.objs.size = none := by
        have z : G5 ce.locals = none := I6.free
        rw [cL] at z
        exact z
      obtain ⟨m, hn, _⟩ := I6.loc
      replace hn : s6.heap.Ns ce.locals m := hn
      rw [cL] at hn
      exact out D s3.heap.objs.size s6 m G5 I7 qq hn (I3.fpOk (Nat.le_refl _) nC)
    · refine thnF (T.item (X.blk s3 G3 scope ce fp) rfl rfl rfl hc i [] s5 _ G5 (fun _ _ => False) I5 (stat I5 n5) st5 go) fun r s6 ⟨u, hr, h6⟩ => ?_
      subst hr
      refine thnF h6 fun _ s7 ⟨x, G7, I7, r7, y7, st7, n7⟩ => ?_
      refine thnF (pg.run _ s7 _ G7 x u _ (I7.pinned (stat I7 n7) (T.obj _ _ st7)) r7 (step x G7 y7)) fun _ s8 ⟨σ8, G8, I8, hw8, q8⟩ => ?_
      refine thnF (pt.run _ s8 σ8 G8 _ I8 q8) fun b s9 ⟨G9, I9, q9⟩ => ?_
      have fin : ∀ {s' : Shared} {G' : Hp}, Inv (X.blk s3 G3 scope ce fp) ([] ++ pinsAt fp s7.heap) σ8 G' s' → Nx G' → ∃ m, m < n ∧ ∃ i G', Inv (X.blk s3 G3 scope ce fp) [] (wipe σ (own.map (·.2))) G' s' ∧ tn i s'.heap ∧ (∀ b ∈ fp, G' b = none) ∧ W i m G' := by
        intro s' G' I' nx
        obtain ⟨m', hm, w'⟩ := hNx G' nx
        have pin' : ∀ b ∈ fp, ∀ o, s7.heap.get? b = some o → s'.heap.get? b = some o ∧ G' b = none := by
          intro b hb o e
          have z := I'.pin (b, o) (List.mem_append_right _ (List.mem_append_right _ (mem_pinsAt hb e)))
          exact ⟨z.1, z.2.1⟩
        have long : (wipe σ (own.map (·.2))).length = σ8.length := (congrArg List.length hw8).symm.trans (wipe_length _ _)
        refine ⟨m', hm, i + 1, G', (I'.unpinned (pins := [])).weak long (fun j v e => ?_), T.keep _ _ _ st7 fun b hb o e => (pin' b hb o e).1, fun b hb => ?_, w'⟩
        · rw [← hw8] at e
          exact (wipe_some e).1
        · have ⟨_, stands, _⟩ := T.obj _ _ st7 b hb
          exact (pin' b hb _ stands).2
      cases b with
      | false =>
        rw [if_neg (fun z => nomatch z)] at q9
        exact fin I9 q9
      | true =>
        simp only [if_true] at q9 ⊢
        refine thnF (pk.run _ s9 σ8 G9 _ I9 q9) fun z s10 ⟨yk, G10, I10, r10, q10⟩ => ?_
        refine thnF (pe.run _ s10 σ8 G10 _ I10 q10) fun z2 s11 ⟨yv, G11, I11, r11, kvs, ky, c, ec, hc11, hD11, hz11, nx⟩ => ?_
        subst ec
        cases r10
        exact dictSet_tup (X := X.blk s3 G3 scope ce fp) hu I11 hD11 hc11 hz11 r11 fun s12 I12 => fin I12 nx
  refine codeAny_compStart_dict loop ?_
  exact T.self X.A 0 _ _ _ st4 loop
theorem pe_dcT {keyE valE aim iter : Expr} {conds : List Expr} {scope : Scope} {own : List (Str × Nat)} {pos : Pos} {wi : TI} {g : TG} {tt : TT} {tk tv : TE} (hu : X.A.units + 1 < cLine) (hc : X.calm = true) (hN : X.N.Nodup) (hi : PI X aim iter wi) (ok : BlkOk X.N X.env.scope scope own)
    (hg : Blk X scope fun Y => PG Y aim g) (ht : Blk X scope fun Y => PTs Y conds tt) (hk : Blk X scope fun Y => PE Y keyE tk) (he : Blk X scope fun Y => PE Y valE tv) (hs : ∀ x, foldedSetIterable iter X.env x = pure x := by intro _; rfl) :
    PE X (.DictComp keyE valE [⟨aim, iter, conds, 0⟩] scope pos) (tDcT wi g tt tk tv (own.map (·.2))) := by
  refine ⟨fun pins s σ G Q I h => ?_⟩
  rw [arm_eval_DictComp]
  refine dcT_core hu hc hN I hi ok hg ht hk he hs h fun D C s' m G' I' q hn f => ⟨m, hn, fun h'' sb => ?_⟩
  exact ⟨.ref D, G', I'.turned (t' := s'.toks) (fun b o hb e => (sb.2 b hb).trans e) f.1 f.2.1 f.2.2.2.1 f.2.2.2.2.1 f.2.2.2.2.2, rfl, q⟩

/-- name = {..}, the name a local -/
theorem swd_true {keyE valE : Expr} {gs : List Comprehension} {scope : Scope} {pos py : Pos} {y : Str} {l : Nat} {env : Env} (hk : env.scope.kind = .function) (hy : env.scope.names.lookup y = some .local) (hl : (py.line == pos.line) = true)
    (ha : (scope.names.any fun (n, k) => n == y && (k == .local || k == .cell)) = false) : swapsWith (.DictComp keyE valE gs scope pos) (some (.Name y py)) l env = pure true := by
  have own : env.kindOf y = some .local := hy
  have blk : env.blockKind = .function := by unfold Env.blockKind; rw [hk]; rfl
  unfold swapsWith
  simp only [blk, own, ha, Expr.pos, hl]
  rfl
theorem ps_setDcT {i : Nat} {y : Str} {py : Pos} {keyE valE aim iter : Expr} {conds : List Expr} {scope : Scope} {own : List (Str × Nat)} {pos spos : Pos} {wi : TI} {g : TG} {tt : TT} {tk tv : TE} (hu : X.A.units + 1 < cLine) (hc : X.calm = true) (hN : X.N.Nodup) (hy : X.N[i]? = some y) (hyl : X.env.scope.names.lookup y = some .local)
    (hsw : swapsWith (.DictComp keyE valE [⟨aim, iter, conds, 0⟩] scope pos) (some (.Name y py)) spos.line X.env = pure true) (hi : PI X aim iter wi) (ok : BlkOk X.N X.env.scope scope own)
    (hg : Blk X scope fun Y => PG Y aim g) (ht : Blk X scope fun Y => PTs Y conds tt) (hk : Blk X scope fun Y => PE Y keyE tk) (he : Blk X scope fun Y => PE Y valE tv) (hs : ∀ x, foldedSetIterable iter X.env x = pure x := by intro _; rfl) :
    PS X (.Assign [.Name y py] (.DictComp keyE valE [⟨aim, iter, conds, 0⟩] scope pos) spos) (tAsg (tDcT wi g tt tk tv (own.map (·.2))) (gName i)) := by
  constructor
  intro pins s σ G D I h
  rw [exec_Assign_Name_used _ _ _ _ hsw]; refine wpAny_bind (wpAny_standAt (wpAny_bind ?_))
  have h : tDcT wi g tt tk tv (own.map (·.2)) σ G (fun x H1 => gName i x σ H1 D.nx) := h
  refine wpAny_bind (thn (dcT_core (Qf := fun _ s' => SP X pins D .next s') (use := some (assign (.Name y py) X.env)) hu hc hN I hi ok hg ht hk he hs h fun d C s' m G' I' q hn f => ?_) fun _ s' hq => wpAny_pure (wpAny_pure hq))
  show wpAny _ _ (assign (.Name y py) X.env (.ref d)) _ _ _
  refine wpAny_assign_Name (store_ok2 (v := V.ref d) I' hN hy (.inl hyl) rfl (fun s2 I2 ⟨a, sb, ha⟩ => ?_) (.inr hyl))
  have off : C ≠ a := ha.elim (fun z => z ▸ f.2.1) fun z e => f.2.2.2.2.1 y a z e.symm
  exact ⟨m, hn.sameBut sb off, fun h3 sb3 => ⟨_, G', I2.turned (t' := s2.toks) (fun b o hb e => (sb3.2 b hb).trans e) f.1 f.2.1 f.2.2.2.1 f.2.2.2.2.1 f.2.2.2.2.2, q⟩⟩
/-- the reading over a tuple -/
theorem dcT_tup {K : PySem.W.Frag} {a : Addr} {xs : List V} {g : TG} {tt : TT} {tk tv : TE} {vs : List Nat} {σ : L2.St} {G1 : Hp} {D : Addr} {Qd : Hp → Prop} (Pv : Nat → Hp → Prop) (start : Pv 0 (upd G1 D (.dT []))) (still : ∀ i G, i ≤ xs.length → Pv i G → SqT K G a xs)
    (turn : ∀ i x G, xs[i]? = some x → Pv i G → g x (wipe σ vs) G fun σ2 G2 => wipe σ2 vs = wipe σ vs ∧ tt σ2 G2 fun b G3 =>
      if b = true then tk σ2 G3 fun y G4 => tv σ2 G4 fun z G5 => ∃ kvs ky c, y = .ref c ∧ G5 c = some (.tup (ky.map kV)) ∧ G5 D = some (.dT kvs) ∧ kvs.length < sizeLine ∧ Pv (i + 1) (upd G5 D (.dT (putK kvs ky z))) else Pv (i + 1) G3) (after : ∀ G, Pv xs.length G → Qd G) :
    ∃ W : Nat → Nat → Hp → Prop, (∃ m, W 0 m (upd G1 D (.dT []))) ∧ ∀ i m G, W i m G →
      ((Itt K a).stop i G ∧ Qd G) ∨ ((Itt K a).go i G ∧ ∃ Nx : Hp → Prop, (∀ G', Nx G' → ∃ m', m' < m ∧ W (i + 1) m' G') ∧ ∀ x G', (Itt K a).yld i G x G' → g x (wipe σ vs) G' fun σ2 G2 => wipe σ2 vs = wipe σ vs ∧ tt σ2 G2 fun b G3 =>
        if b = true then tk σ2 G3 fun y G4 => tv σ2 G4 fun z G5 => ∃ kvs ky c, y = .ref c ∧ G5 c = some (.tup (ky.map kV)) ∧ G5 D = some (.dT kvs) ∧ kvs.length < sizeLine ∧ Nx (upd G5 D (.dT (putK kvs ky z))) else Nx G3) := by
  refine ⟨fun i m G => m + i = xs.length ∧ Pv i G, ⟨xs.length, rfl, start⟩, fun i m G ⟨em, p⟩ => ?_⟩
  have sq := still i G (by omega) p
  cases m with
  | zero =>
    obtain rfl : i = xs.length := by omega
    exact .inl ⟨⟨xs, sq, Nat.le_refl _⟩, after G p⟩
  | succ m =>
    have lt : i < xs.length := by omega
    refine .inr ⟨⟨xs, xs[i], sq, List.getElem?_eq_getElem lt⟩, Pv (i + 1), fun G' p' => ⟨m, Nat.lt_succ_self _, by omega, p'⟩, ?_⟩
    rintro x G' ⟨rfl, y⟩
    exact turn i x _ (y xs sq) p
end
/-! ### dicts whose keys are tuples: dict(pairs), update, sorted -/
def mergeT (kvs more : List (List Key × V)) : List (List Key × V) := more.foldl (fun acc kv => putK acc kv.1 kv.2) kvs
theorem length_mergeT : ∀ (more kvs : List (List Key × V)), (mergeT kvs more).length ≤ kvs.length + more.length
  | [], kvs => Nat.le_refl _
  | p :: more, kvs => by
    have h1 := length_mergeT more (putK kvs p.1 p.2)
    have h2 := length_putK kvs p.1 p.2
    show (mergeT (putK kvs p.1 p.2) more).length ≤ _
    rw [List.length_cons]
    omega
theorem KT_merge {H : Hp} : ∀ {more : List (List Key × V)} {ys : List (List Key × Addr × Value)} {kvs : List (List Key × V)} {xs : List (List Key × Addr × Value)}, KT H more ys → KT H kvs xs → KT H (mergeT kvs more) (storedAllH xs ys)
  | _, _, _, _, .nil, r => r
  | _, _, _, _, .cons (a := p) (b := q) h t, r => by
    have e : p.1 = q.1 := h.1
    show KT H (mergeT (putK _ p.1 p.2) _) (storedAllH (storedH _ q.1 q.2.1 q.2.2) _)
    rw [← e]
    exact KT_merge t (r.put p.1 h.2.1 h.2.2)
section
variable {X : Cx}
/-- d.update(e), both with tuples as keys -/
def rUpdT : V → List V → Hp → VK → Prop := fun x xs H Q => ∃ (d e : Addr) (kvs more : List (List Key × V)), x = .ref d ∧ xs = [.ref e] ∧ d ≠ e ∧ H d = some (.dT kvs) ∧ H e = some (.dT more) ∧ kvs ≠ [] ∧ kvs.length + more.length ≤ sizeLine ∧ Q .non (upd H d (.dT (mergeT kvs more)))
theorem mt_updT (hu : X.A.units + 64 < cLine) : MtR X "dict.update" rUpdT := by
  rintro pins s σ H x xs v us Q I rx rs ⟨d, e, kvs, more, rfl, rfl, de, hd, he, ne, sz, q⟩
  cases rx
  obtain ⟨u, rfl, ru⟩ := rs.one
  cases ru
  obtain ⟨z1, n1, ks, r1, d1⟩ := dt_of I.hok hd
  obtain ⟨z2, n2, ls, r2, d2⟩ := dt_of I.hok he
  have l1 := Paired.length r1
  have l2 := Paired.length r2
  refine call_update_dictH (knd := tupleKind (mixKind X.prog X.w)) (show X.A.units + 1 < cLine by omega) de n2 d1 d2 (.inl fun z => ne ?_) (by omega) fun h' dd' _ same => ?_
  · rw [z] at l1
    exact List.eq_nil_of_length_eq_zero l1
  · obtain ⟨o, es, ep, hq, a2, a3, a4, _, a5⟩ := dd'
    have len : (mergeT kvs more).length ≤ sizeLine := Nat.le_trans (length_mergeT more kvs) sz
    exact ⟨.non, upd H d (.dT (mergeT kvs more)), d_write I (by rw [hd]; exact True.intro) same ⟨o, hq⟩ ⟨len, n1, _, (KT_merge r2 r1).keeps (fun c ys ec => by rw [upd_ne (ne_of ec hd (fun z => nomatch z))]; exact ec), o, es, ep, hq, a2, a3, a4, a5⟩, rfl, q⟩
/-- pairs of a tuple and a value, as they stand in a list -/
abbrev PrT (H : Hp) (ps : List (Addr × Addr)) (kvs : List (List Key × V)) : Prop := Paired (fun p kv => H p.1 = some (.tup [.ref p.2, kv.2]) ∧ H p.2 = some (.tup (kv.1.map kV))) ps kvs
theorem prT_of {pins : List (Addr × Obj)} {σ : L2.St} {H : Hp} {s : Shared} (I : Inv X pins σ H s) : ∀ {ps : List (Addr × Addr)} {kvs : List (List Key × V)}, PrT H ps kvs →
    ∃ xs : List (List Key × Addr × Value), KT H kvs xs ∧ xs.length = ps.length ∧ ∀ (j : Nat) (x : List Key × Addr × Value), xs[j]? = some x → ∃ p, ps[j]? = some p ∧ x.2.1 = p.2 ∧ s.heap.IsTuple p.1 #[.ref p.2, x.2.2]
  | _, _, .nil => ⟨[], .nil, rfl, fun j x e => by simp at e⟩
  | _, _, .cons (a := p) (b := kv) h t => by
    obtain ⟨xs, r, hl, hp⟩ := prT_of I t
    obtain ⟨its, rv, ht, _⟩ := I.tuple (.inl (.inl h.1))
    cases rv with
    | cons r1 rv =>
    cases rv with
    | cons r2 rv =>
    cases rv
    cases r1
    rename_i u
    obtain ⟨o, g, c, m, dt⟩ := ht
    refine ⟨(kv.1, p.2, u) :: xs, .cons ⟨rfl, h.2, r2⟩ r, by rw [List.length_cons, List.length_cons, hl], fun j x e => ?_⟩
    cases j with
    | zero =>
      cases (Option.some.inj e : (kv.1, p.2, u) = x)
      exact ⟨p, rfl, rfl, ⟨o, g, c, m, dt⟩⟩
    | succ j =>
      obtain ⟨p', e1, e2, e3⟩ := hp j x (by simpa using e)
      exact ⟨p', by simpa using e1, e2, e3⟩
/-- dict(xs), xs a list of pairs whose first is a tuple -/
def rDictT : List V → Hp → VK → Prop := fun xs H Q => ∃ (a : Addr) (ps : List (Addr × Addr)) (kvs : List (List Key × V)), xs = [.ref a] ∧ H a = some (.lst (ps.map fun p => V.ref p.1)) ∧ PrT H ps kvs ∧ ∀ d, H d = none → Q (.ref d) (upd H d (.dT (mergeT [] kvs)))
theorem call_dictT (hcalm : X.calm = true) (hu : X.A.units + 64 < cLine) : CallR X (.type "dict") rDictT := by
  rintro pins s σ H xs us Q I r ⟨a, ps, kvs, rfl, ha, pr, q⟩
  obtain ⟨u, rfl, rx⟩ := vals1 r
  cases rx
  obtain ⟨small, its, n, rv, hob⟩ := (show ObjOk X.prog X.w H s.heap a (.lst (ps.map fun p => V.ref p.1)) from I.hok a _ ha)
  have ei : its = (ps.map (·.1)).map Value.ref := refs_at (ps := ps.map (·.1)) (by rw [List.map_map]; exact rv)
  subst ei
  obtain ⟨ks, rel, lk, hp⟩ := prT_of I pr
  rw [List.length_map] at small
  have pv : ∀ (j : Nat) (k v : Value), (ks.map fun x => (Value.ref x.2.1, x.2.2))[j]? = some (k, v) → ∃ x p, ks[j]? = some x ∧ ps[j]? = some p ∧ k = .ref p.2 ∧ v = x.2.2 ∧ x.2.1 = p.2 ∧ s.heap.IsTuple p.1 #[.ref p.2, x.2.2] := fun j k v e => by
    rw [List.getElem?_map] at e
    cases ex : ks[j]? with
    | none => rw [ex] at e; cases e
    | some x =>
      rw [ex] at e
      cases e
      obtain ⟨p, e1, e2, e3⟩ := hp j x ex
      exact ⟨x, p, rfl, e1, by rw [e2], rfl, e2, e3⟩
  refine call_dict_pairsH (knd := tupleKind (mixKind X.prog X.w)) (ps := ks) (PairArg.list a ((ps.map (·.1)).map Value.ref).toArray (fun j => (ps.getD j (0, 0)).1) (ks.map fun x => (Value.ref x.2.1, x.2.2))) (I.ok.hd hcalm) (show X.A.units + 1 + 1 < cLine by omega) ⟨⟨_, n, hob, rfl, rfl, rfl⟩, ?_, fun j k v e => ?_⟩ ⟨by rw [List.length_map], fun i key v e => ?_⟩ (fun h' keep x hx => ?_) (by rw [List.length_map]; omega) fun h' tk dd' keep => ?_
  · rw [List.size_toArray, List.length_map, List.length_map, List.length_map, lk]
  · obtain ⟨x, p, e1, e2, rfl, rfl, e3, e4⟩ := pv j k v e
    have eg : ps.getD j (0, 0) = p := by rw [List.getD_eq_getElem?_getD, e2]; rfl
    refine ⟨?_, ?_⟩
    · show _ = some (Value.ref (ps.getD j (0, 0)).1)
      rw [eg]
      simp [e2]
    · show PairAt s.heap (ps.getD j (0, 0)).1 _ _
      rw [eg]
      exact .inl e4
  · obtain ⟨x, p, e1, e2, rfl, rfl, e3, e4⟩ := pv i key v e
    exact ⟨x.1, p.2, by rw [e1, ← e3], rfl⟩
  · have all : ∀ {l : List (List Key × V)} {m : List (List Key × Addr × Value)}, KT H l m → ∀ x ∈ m, (tupleKind (mixKind X.prog X.w)).is s.heap x.1 x.2.1 := by
      intro l m t
      induction t with
      | nil => intro x hx; exact nomatch hx
      | @cons p q ps' qs' hq t ih =>
        intro x hx
        rcases List.mem_cons.mp hx with rfl | hx
        · exact key_of I.hok (by rw [← hq.1]; exact hq.2.1)
        · exact ih x hx
    exact tupleKind_stays.stays (fun b o vs m e _ => keep b o (Nat.ne_of_lt (Heap.lt_size e)) (fun z => nomatch z) e) (all rel x hx)
  · obtain ⟨o, es, ep, hq, a2, a3, a4, _, a5⟩ := dd'
    have nm : (s.heap.objs.size == sysModules) = false := beq_eq_false_iff_ne.mpr (Nat.ne_of_gt I.big)
    have len : (mergeT [] kvs).length ≤ sizeLine := by
      have h1 := length_mergeT kvs []
      have h2 := Paired.length rel
      rw [List.length_nil] at h1
      omega
    have nw := I.hok.fresh (Nat.le_refl s.heap.objs.size)
    refine ⟨.ref s.heap.objs.size, upd H s.heap.objs.size (.dT (mergeT [] kvs)), I.laid (t' := tk) (fun b o e => keep b o (fun z => nomatch z) e) (Nat.le_refl _) ⟨len, nm, _, (KT_merge rel .nil).keeps (fun c ys ec => by rw [upd_ne (ne_of_none ec nw)]; exact ec), o, es, ep, hq, a2, a3, a4, a5⟩, rfl, q _ nw⟩
end
end C2

namespace C2
set_option Elab.async false
set_option linter.all false
set_option maxRecDepth 100000
set_option maxHeartbeats 4000000
open PySem PySem.Spec PyProof.Rows L2
/-! ### wires, sorted -/
abbrev WB := Addr × Bool × Int × Int
def wordOf (r : Bool) : Str := if r then "row" else "column"
def wv (b : Bool × Int × Int) : List V := [.str (wordOf b.1), .int b.2.1, .int b.2.2]
def encW (b : WB) : PyData := .tuple [.str (wordOf b.2.1), .int b.2.2.1, .int b.2.2.2]
/-- less, as tuples rise -/
def ltW (x y : WB) : Prop := (x.2.1 = false ∧ y.2.1 = true) ∨ (x.2.1 = y.2.1 ∧ (x.2.2.1 < y.2.2.1 ∨ (x.2.2.1 = y.2.2.1 ∧ x.2.2.2 < y.2.2.2)))
instance (x y : WB) : Decidable (ltW x y) := by unfold ltW; infer_instance
theorem word_eqv : ∀ r r' : Bool, PyData.eqv (.str (wordOf r)) (.str (wordOf r')) = decide (r = r') := by decide +kernel
theorem word_lt : ∀ r r' : Bool, PySem.W.dataLt (.str (wordOf r)) (.str (wordOf r')) = decide (r = false ∧ r' = true) := by decide +kernel
theorem dataLt_w (x y : WB) : PySem.W.dataLt (encW x) (encW y) = decide (ltW x y) := by
  obtain ⟨a, r, i, j⟩ := x
  obtain ⟨a', r', i', j'⟩ := y
  unfold encW
  rw [PySem.W.dataLt_tuple, PySem.W.dataLt_cons (by simp [PySem.W.alike]), PySem.W.dataLt_cons (by simp [PySem.W.alike]), PySem.W.dataLt_cons (by simp [PySem.W.alike]), word_eqv, word_lt, PySem.W.dataLt_int, PySem.W.dataLt_int]
  have e : PyProof.Rows.lexLt itemOrd (PySem.W.keyToksAll []) (PySem.W.keyToksAll []) = false := lex_irrefl _
  rw [e]
  unfold ltW
  simp only [PyData.eqv]
  by_cases hr : r = r'
  · subst hr
    by_cases hi : i = i'
    · subst hi
      by_cases hj : j = j'
      · subst hj
        cases r <;> simp
      · cases r <;> simp [hj]
    · cases r <;> simp [hi]
  · cases r <;> cases r' <;> simp at hr ⊢
def leW (x y : WB) : Bool := !decide (ltW y x)
theorem dataLe_w : PySem.W.dataLe false encW = leW := by
  rw [PySem.W.dataLe_eq]
  funext x y
  show (!PySem.W.dataLt (encW y) (encW x)) = _
  rw [dataLt_w]
  rfl
def bI (b : Bool) : Int := if b then 1 else 0
theorem ltW_iff (x y : WB) : ltW x y ↔ (bI x.2.1 < bI y.2.1 ∨ (bI x.2.1 = bI y.2.1 ∧ (x.2.2.1 < y.2.2.1 ∨ (x.2.2.1 = y.2.2.1 ∧ x.2.2.2 < y.2.2.2)))) := by
  obtain ⟨a, r, i, j⟩ := x
  obtain ⟨a', r', i', j'⟩ := y
  unfold ltW bI
  cases r <;> cases r' <;> simp
theorem leW_trans (x y z : WB) (h1 : leW x y = true) (h2 : leW y z = true) : leW x z = true := by
  unfold leW at *
  simp only [Bool.not_eq_true', decide_eq_false_iff_not, ltW_iff] at *
  omega
theorem leW_total (x y : WB) : (leW x y || leW y x) = true := by
  unfold leW
  by_cases h : ltW y x
  · have : ¬ ltW x y := by
      rw [ltW_iff] at h ⊢
      omega
    simp [h, this]
  · simp [h]
theorem ltW_le {x y : WB} (h : ltW x y) : leW x y = true := by
  unfold leW
  have : ¬ ltW y x := by
    rw [ltW_iff] at h ⊢
    omega
  simp [this]
abbrev brefs (bs : List WB) : List V := bs.map fun b => V.ref b.1
section
variable {X : Cx}
theorem each_refs : ∀ {bs : List WB} {us : List Value}, Vals (brefs bs) us → PySem.W.EachIs (fun v (b : WB) => v = Value.ref b.1) us bs
  | [], _, r => by
    cases r
    exact .nil
  | b :: bs, _, r => by
    cases r with
    | cons r1 r2 =>
      cases r1
      exact .cons rfl (each_refs r2)
theorem refs_each : ∀ {bs : List WB} {us : List Value}, PySem.W.EachIs (fun v (b : WB) => v = Value.ref b.1) us bs → Vals (brefs bs) us
  | _, _, .nil => .nil
  | _, _, .cons e r => by
    subst e
    exact .cons rfl (refs_each r)
theorem wire_reads {pins : List (Addr × Obj)} {σ : L2.St} {H : Hp} {s : Shared} (I : Inv X pins σ H s) (b : WB) (h : H b.1 = some (.tup (wv b.2))) {u : Value} (r : RelV (.ref b.1) u) : Reads s.heap u (encW b) [] := by
  cases r
  obtain ⟨us, rv, ⟨ob, g, c, m, dt⟩, _⟩ := I.tuple (.inl (.inl h))
  cases rv with
  | cons r1 rv =>
  cases rv with
  | cons r2 rv =>
  cases rv with
  | cons r3 rv =>
  cases rv
  obtain ⟨t1, rfl⟩ := r1
  obtain ⟨t2, rfl⟩ := r2
  obtain ⟨t3, rfl⟩ := r3
  exact (show Reads _ _ _ ([] ++ ([] ++ ([] ++ []))) from .tuple g c dt (.cons (.str _ _) (.cons (.int _ _) (.cons (.int _ _) .nil))))
theorem each_reads {pins : List (Addr × Obj)} {σ : L2.St} {H : Hp} {s : Shared} (I : Inv X pins σ H s) : ∀ {bs : List WB} {us : List Value}, Vals (brefs bs) us → (∀ b ∈ bs, H b.1 = some (.tup (wv b.2))) → PySem.W.EachIs (fun v b => Reads s.heap v (encW b) []) us bs
  | [], _, r, _ => by
    cases r
    exact .nil
  | b :: bs, _, r, h => by
    cases r with
    | cons r1 r2 => exact .cons (wire_reads I b (h b List.mem_cons_self) r1) (each_reads I r2 fun c hc => h c (List.mem_cons_of_mem _ hc))

theorem alike_w (bs : List WB) : PySem.W.AllAlike (bs.map encW) := PySem.W.AllAlike.of fun x y => by
  unfold encW
  simp [PySem.W.alike, PySem.W.alikeAll]
theorem sortable_w (bs : List WB) : PySem.W.Sortable (bs.map encW) := PySem.W.Sortable.tuples fun x => ⟨_, _, rfl⟩
theorem depth_w (x : WB) : PyData.depth (encW x) = 1 := by unfold encW; simp [PyData.depth, PyData.depthAll]
/-- sorted(l), l a list of wires -/
def rSortL (K : PySem.W.Frag) : List V → Hp → VK → Prop := fun vs H Q => ∃ (a : Addr) (bs : List WB), vs = [V.ref a] ∧ SqL K H a (brefs bs) ∧ (∀ b ∈ bs, H b.1 = some (.tup (wv b.2))) ∧ bs.length ≤ 100000 ∧
  ∀ p, H p = none → Q (.ref p) (upd H p (.lst (brefs (bs.mergeSort leW))))
theorem cr_sortL (hu : X.A.units + 64 < cLine) : CallR X (.builtin "sorted") (rSortL X.K) := by
  rintro pins s σ H vs us Q I r ⟨a, bs, rfl, hs, hb, hl, q⟩
  obtain ⟨its, rv, at_, _⟩ := I.list hs
  rw [Vals.ref1 r]
  have big : (100000 : Nat) ≤ sizeLine := by decide
  refine PySem.W.sorted_data (enc := encW) (vs := its) at_.isList (each_refs rv) ((each_reads I rv hb).mono fun _ _ x => ⟨_, x⟩) (alike_w bs) (sortable_w bs) (by omega) (fun x _ => by rw [depth_w]; omega) fun out lo ho => ?_
  rw [dataLe_w] at ho
  obtain ⟨ep, there⟩ := PyProof.Rows.sortedAll_at s.heap its out.toArray
  have lts : (brefs (bs.mergeSort leW)).length ≤ sizeLine := by
    rw [List.length_map, (List.mergeSort_perm bs leW).length_eq]
    omega
  refine ⟨.ref _, upd H (s.heap.objs.size + 1) (.lst (brefs (bs.mergeSort leW))), I.laid (t' := s.toks) (fun _ _ => PyProof.Rows.sortedAll_old) (Nat.le_succ _) ⟨lts, out.toArray.toList, ep, ?_, there⟩, rfl, q _ (I.hok.fresh (Nat.le_succ _))⟩
  simpa using refs_each ho
abbrev Wi := Bool × Int × Int
def kW (w : Wi) : List Key × V := ([.inr (wordOf w.1), .inl w.2.1, .inl w.2.2], .bl true)
theorem kW_v (w : Wi) : (kW w).1.map kV = wv w := rfl
/-- the keys of a dict of wires, where they stand -/
theorem keys_w {H : Hp} : ∀ {ws : List Wi} {as : List Addr}, IsKeys H (ws.map kW) as → ∃ bs : List WB, as = bs.map (·.1) ∧ bs.map (·.2) = ws ∧ ∀ b ∈ bs, H b.1 = some (.tup (wv b.2))
  | [], _, h => by
    cases h
    exact ⟨[], rfl, rfl, fun b hb => nomatch hb⟩
  | w :: ws, _, h => by
    cases h with
    | cons h1 h2 =>
      rename_i a as
      obtain ⟨bs, rfl, e2, h3⟩ := keys_w (ws := ws) h2
      refine ⟨(a, w) :: bs, rfl, by rw [List.map_cons, e2], fun b hb => ?_⟩
      rcases List.mem_cons.mp hb with rfl | hb
      · exact h1
      · exact h3 b hb
/-- list(d), d a dict of wires -/
def rListDW : List V → Hp → VK → Prop := fun xs H Q => ∃ d ws, xs = [V.ref d] ∧ H d = some (.dT (ws.map kW)) ∧ ∀ p (bs : List WB), H p = none → bs.map (·.2) = ws → (∀ b ∈ bs, H b.1 = some (.tup (wv b.2))) → Q (.ref p) (upd H p (.lst (brefs bs)))
theorem call_listDW (hc : X.calm = true) : CallR X (.type "list") rListDW := by
  rintro pins s σ H xs us Q I r ⟨d, ws, rfl, hd, q⟩
  refine call_list_dT hc pins s σ H _ us Q I r ⟨d, _, rfl, .inl hd, fun p as np ik => ?_⟩
  obtain ⟨bs, rfl, e2, h3⟩ := keys_w ik
  rw [List.map_map]
  exact q p bs np e2 h3
/-- sorted(d), d a dict of wires -/
def rSortDW : List V → Hp → VK → Prop := fun xs H Q => ∃ d ws, xs = [V.ref d] ∧ H d = some (.dT (ws.map kW)) ∧ ws.length ≤ 100000 ∧ ∀ p (bs : List WB), H p = none → bs.map (·.2) = ws → (∀ b ∈ bs, H b.1 = some (.tup (wv b.2))) → Q (.ref p) (upd H p (.lst (brefs (bs.mergeSort leW))))
theorem cr_sortDW (hc : X.calm = true) (hu : X.A.units + 64 < cLine) : CallR X (.builtin "sorted") rSortDW := by
  rintro pins s σ H xs us Q I r ⟨d, ws, rfl, hd, lw, q⟩
  obtain ⟨u, rfl, rx⟩ := vals1 r
  cases rx
  obtain ⟨z, hs, ks, pr, o, es, ep, ho, hx, hdt, he, hn⟩ := (show ObjOk X.prog X.w H s.heap d (.dT (ws.map kW)) from I.hok d _ hd)
  have l1 : es.size = ks.length := size_of_entries he
  have l2 : (ws.map kW).length = ks.length := Paired.length pr
  rw [List.length_map] at l2
  have big : (100000 : Nat) ≤ sizeLine := by decide
  obtain ⟨bs, eb, ew, hb⟩ := keys_w (isKeys_of pr)
  have lb : bs.length = ws.length := by rw [← ew, List.length_map]
  have door := fun h => Calls.call_function_entry (prog := X.prog) (w := X.w) (A := X.A) (E := X.xe) (s := s) (Q := EP X pins σ Q) PyProof.Rows.kind_sorted PyProof.Rows.plain_sorted PyProof.Rows.entry_sorted (PyProof.Rows.args_sorted1 (.ref d)) h
  refine door ?_
  unfold Builtin.«sorted»
  refine wpAny_bind (m := checkCount _ _ _ _) (wpAny_pure ?_)
  refine wpAny_bind (PySem.W.kdu_collect (A := X.A.in1) (kdl_raw hs hx hdt) (I.ok.hd hc) ho (by omega) fun h' tk acc keep items => ?_)
  have ea : acc.toList = bs.map fun b => Value.ref b.1 := by
    have hl : acc.toList.length = ks.length := by rw [Array.length_toList, items.1]; exact l1
    have eb' : (bs.map fun b => Value.ref b.1) = ks.map fun x => Value.ref x.2.1 := by
      have := congrArg (List.map Value.ref) eb
      rw [List.map_map, List.map_map] at this
      exact this.symm
    rw [eb']
    refine List.ext_getElem? fun j => ?_
    by_cases lt : j < ks.length
    · obtain ⟨en, hen, hv⟩ := items.2 j acc.toList[j] (by rw [← Array.getElem?_toList]; exact List.getElem?_eq_getElem (by omega))
      have at_ := entry_at he j
      rw [hen, List.getElem?_eq_getElem lt] at at_
      have e2 : en = entryOfKey (tupleKind (mixKind X.prog X.w)) ks[j] := Option.some.inj at_
      rw [List.getElem?_eq_getElem (by omega), List.getElem?_map, List.getElem?_eq_getElem lt, hv, e2]
      rfl
    · rw [List.getElem?_eq_none (by omega), List.getElem?_eq_none (by rw [List.length_map]; omega)]
  have I1 : Inv X pins σ H { s with heap := h', toks := tk } := I.kept keep
  rw [ea]
  refine wpAny_bind (wpAny_newList ?_ (by rw [List.length_map]; omega))
  have rv : Vals (brefs bs) (bs.map fun b => Value.ref b.1) := by
    have := vals_refs (bs.map (·.1))
    rw [List.map_map, List.map_map] at this
    exact this
  have hoL : (h'.push (seqObj "list" (bs.map fun b => Value.ref b.1).toArray 0)).get? h'.objs.size = some (seqObj "list" (bs.map fun b => Value.ref b.1).toArray 0) := Heap.get?_push_size _ rfl
  show wpAny _ _ _ _ _ { s with heap := h'.push (seqObj "list" (bs.map fun b => Value.ref b.1).toArray 0), toks := tk }
  have I2 : Inv X pins σ H { s with heap := h'.push (seqObj "list" (bs.map fun b => Value.ref b.1).toArray 0), toks := tk } := I.kept fun b u e => Heap.get?_push_of_some _ (keep b u e)
  have er := each_reads I2 rv hb
  refine wpAny_bind (wpAny_holding (PySem.W.list_sort_data (enc := encW) (s := { s with heap := h'.push (seqObj "list" (bs.map fun b => Value.ref b.1).toArray 0), toks := tk }) hoL (each_refs rv) (er.mono fun _ _ x => ⟨_, x, List.not_mem_nil⟩) (alike_w bs) (sortable_w bs) (by omega) (fun x _ => by rw [depth_w]; show X.A.units + 1 + 1 + 1 < cLine; omega) fun out lo hout => ?_))
  rw [dataLe_w] at hout
  obtain ⟨e', there⟩ := PyProof.Rows.sortedHeap_at (vs := bs.map fun b => Value.ref b.1) (out := out.toArray) hoL
  have lts : (brefs (bs.mergeSort leW)).length ≤ sizeLine := by
    rw [List.length_map, (List.mergeSort_perm bs leW).length_eq]
    omega
  refine wpAny_pure ⟨_, rfl, .ref h'.objs.size, upd H h'.objs.size (.lst (brefs (bs.mergeSort leW))), I1.laid (t' := tk) (fun b u e => ?_) (Nat.le_refl _) ⟨lts, out.toArray.toList, e', ?_, there⟩, rfl, q _ bs (I1.hok.fresh (Nat.le_refl _)) ew hb⟩
  · have low : b < h'.objs.size := Heap.lt_size e
    rw [PyProof.Rows.sortedHeap_old (Nat.ne_of_lt low) (by rw [Heap.size_push]; exact Nat.lt_succ_of_lt low)]
    exact Heap.get?_push_of_some _ e
  · simpa using refs_each hout
end
end C2

namespace C2
set_option Elab.async false
set_option linter.all false
set_option maxRecDepth 100000
set_option maxHeartbeats 1000000
open PySem PySem.Spec PyProof.Rows L2
/-! ### what is told: mathematics -/
def legsW (i j : Int) : List Wi := [(true, j, i), (false, i, j), (true, j, i + 1), (false, i, j + 1)]
def legW (i j : Int) (l : Nat) : Wi := (legsW i j).getD l (true, 0, 0)
def InC (a b i j : Int) : Prop := (0 ≤ i ∧ i < a) ∧ 0 ≤ j ∧ j < b
def InW (a b : Int) (w : Wi) : Prop := (w.1 = true ∧ (0 ≤ w.2.1 ∧ w.2.1 < b) ∧ 0 ≤ w.2.2 ∧ w.2.2 ≤ a) ∨ (w.1 = false ∧ (0 ≤ w.2.1 ∧ w.2.1 < a) ∧ 0 ≤ w.2.2 ∧ w.2.2 ≤ b)
inductive Told (a b : Int) (K : Wi → Prop) : Wi → Prop
  | known {w : Wi} (h : K w) : Told a b K w
  | step {i j : Int} {l : Nat} {w : Wi} (c : InC a b i j) (hl : l < 4) (h1 : Told a b K (legW i j l)) (h2 : Told a b K (legW i j ((l + 1) % 4))) (hw : w ∈ legsW i j) : Told a b K w
def Tells (S : List Wi) (i j : Int) : Prop := ∃ l, l < 4 ∧ legW i j l ∈ S ∧ legW i j ((l + 1) % 4) ∈ S
def Full (S : List Wi) (i j : Int) : Prop := ∀ w ∈ legsW i j, w ∈ S
def Shut (a b : Int) (S : List Wi) : Prop := ∀ i j, InC a b i j → Tells S i j → Full S i j
theorem legW_mem {i j : Int} {l : Nat} (h : l < 4) : legW i j l ∈ legsW i j := by
  unfold legW
  match l, h with
  | 0, _ => exact .head _
  | 1, _ => exact .tail _ (.head _)
  | 2, _ => exact .tail _ (.tail _ (.head _))
  | 3, _ => exact .tail _ (.tail _ (.tail _ (.head _)))
theorem told_least {a b : Int} {K : Wi → Prop} {S : List Wi} (h : Shut a b S) (k : ∀ w, K w → w ∈ S) {w : Wi} (t : Told a b K w) : w ∈ S := by
  induction t with
  | known h => exact k _ h
  | step c hl _ _ hw i1 i2 => exact h _ _ c ⟨_, hl, i1, i2⟩ _ hw
theorem legs_in {a b i j : Int} (c : InC a b i j) {w : Wi} (h : w ∈ legsW i j) : InW a b w := by
  obtain ⟨⟨c1, c2⟩, c3, c4⟩ := c
  unfold legsW at h
  rcases List.mem_cons.mp h with rfl | h
  · exact .inl ⟨rfl, ⟨c3, c4⟩, c1, by show i ≤ a; omega⟩
  rcases List.mem_cons.mp h with rfl | h
  · exact .inr ⟨rfl, ⟨c1, c2⟩, c3, by show j ≤ b; omega⟩
  rcases List.mem_cons.mp h with rfl | h
  · exact .inl ⟨rfl, ⟨c3, c4⟩, by show 0 ≤ i + 1; omega, by show i + 1 ≤ a; omega⟩
  · rw [List.mem_singleton.mp h]
    exact .inr ⟨rfl, ⟨c1, c2⟩, by show 0 ≤ j + 1; omega, by show j + 1 ≤ b; omega⟩
/-! rows of unlike wires -/
def addW (ws : List Wi) (w : Wi) : List Wi := if w ∈ ws then ws else ws ++ [w]
def addL (ws us : List Wi) : List Wi := us.foldl addW ws
theorem mem_addW {ws : List Wi} {w x : Wi} : x ∈ addW ws w ↔ x ∈ ws ∨ x = w := by
  unfold addW
  split
  · rename_i h
    exact ⟨.inl, fun z => z.elim id fun e => e ▸ h⟩
  · rw [List.mem_append, List.mem_singleton]
theorem mem_addL {x : Wi} : ∀ {us ws : List Wi}, x ∈ addL ws us ↔ x ∈ ws ∨ x ∈ us
  | [], ws => by simp [addL]
  | u :: us, ws => by
    show x ∈ addL (addW ws u) us ↔ _
    rw [mem_addL, mem_addW, List.mem_cons, or_assoc]
theorem nodup_addW {ws : List Wi} {w : Wi} (h : ws.Nodup) : (addW ws w).Nodup := by
  unfold addW
  split
  · exact h
  · rename_i n
    rw [List.nodup_append]
    exact ⟨h, List.nodup_cons.mpr ⟨List.not_mem_nil, List.nodup_nil⟩, fun x hx y hy e => n (by rw [← List.mem_singleton.mp hy, ← e]; exact hx)⟩
theorem nodup_addL : ∀ {us ws : List Wi}, ws.Nodup → (addL ws us).Nodup
  | [], ws, h => h
  | u :: us, ws, h => nodup_addL (us := us) (nodup_addW h)
theorem len_addW (ws : List Wi) (w : Wi) : ws.length ≤ (addW ws w).length ∧ (addW ws w).length ≤ ws.length + 1 := by
  unfold addW
  split
  · omega
  · rw [List.length_append, List.length_singleton]; omega
theorem len_addL : ∀ (us ws : List Wi), ws.length ≤ (addL ws us).length ∧ (addL ws us).length ≤ ws.length + us.length
  | [], ws => ⟨Nat.le_refl _, Nat.le_refl _⟩
  | u :: us, ws => by
    have h1 := len_addL us (addW ws u)
    have h2 := len_addW ws u
    show ws.length ≤ (addL (addW ws u) us).length ∧ (addL (addW ws u) us).length ≤ ws.length + (us.length + 1)
    omega
/-- the new ones of a row -/
theorem len_new : ∀ {us ws : List Wi}, us.Nodup → (addL ws us).length = ws.length + (us.filter fun u => decide (u ∉ ws)).length
  | [], ws, _ => rfl
  | u :: us, ws, h => by
    obtain ⟨h1, h2⟩ := List.nodup_cons.mp h
    have ih := len_new (ws := addW ws u) h2
    have same : (us.filter fun x => decide (x ∉ addW ws u)) = us.filter fun x => decide (x ∉ ws) := by
      refine List.filter_congr fun x hx => ?_
      have ne : x ≠ u := fun e => h1 (e ▸ hx)
      simp only [mem_addW, ne, or_false]
    rw [same] at ih
    show (addL (addW ws u) us).length = _
    rw [ih, List.filter_cons]
    by_cases m : u ∈ ws
    · have e : addW ws u = ws := if_pos m
      rw [e, if_neg (by simp [m])]
    · have e : addW ws u = ws ++ [u] := if_neg m
      rw [e, if_pos (by simp [m]), List.length_append, List.length_singleton, List.length_cons]
      omega
theorem legs_nodup (i j : Int) : (legsW i j).Nodup := by
  unfold legsW
  simp only [List.nodup_cons, List.mem_cons, Prod.mk.injEq, List.not_mem_nil, List.nodup_nil]
  simp
  omega
theorem kW_inj {w w' : Wi} (h : (kW w).1 = (kW w').1) : w = w' := by
  obtain ⟨r, n, p⟩ := w
  obtain ⟨r', n', p'⟩ := w'
  unfold kW at h
  simp only [List.cons.injEq, Sum.inr.injEq, Sum.inl.injEq] at h
  obtain ⟨h1, h2, h3, _⟩ := h
  have e : r = r' := by
    revert h1
    cases r <;> cases r' <;> decide +kernel
  rw [e, h2, h3]
theorem any_w {w : Wi} : ∀ {ws : List Wi}, ((ws.map kW).any fun kv => decide (kv.1 = (kW w).1)) = decide (w ∈ ws)
  | [] => by simp
  | u :: us => by
    rw [List.map_cons, List.any_cons, any_w]
    by_cases e : u = w
    · subst e; simp
    · have ne : (kW u).1 ≠ (kW w).1 := fun z => e (kW_inj z)
      have ne' : w ≠ u := fun z => e z.symm
      simp [ne, ne']
theorem put_w (ws : List Wi) (w : Wi) : putK (ws.map kW) (kW w).1 (.bl true) = (addW ws w).map kW := by
  unfold putK addW
  rw [any_w]
  by_cases m : w ∈ ws
  · rw [if_pos (decide_eq_true m), if_pos m, List.map_map]
    refine List.map_congr_left fun u _ => ?_
    show (if (kW u).1 = _ then _ else _) = kW u
    split <;> rfl
  · rw [if_neg (by simp [m]), if_neg m, List.map_append]
    rfl
theorem merge_w : ∀ (us ws : List Wi), mergeT (ws.map kW) (us.map kW) = (addL ws us).map kW
  | [], ws => rfl
  | u :: us, ws => by
    show mergeT (putK (ws.map kW) (kW u).1 (.bl true)) (us.map kW) = (addL (addW ws u) us).map kW
    rw [put_w]
    exact merge_w us _
theorem val_w (ws : List Wi) (w : Wi) : (valV (ws.map kW) (kW w).1).isSome = decide (w ∈ ws) := by
  rw [← valV_any, any_w]
/-! all wires -/
def colW (i : Nat) (b : Nat) : List Wi := (List.range (b + 1)).map fun (y : Nat) => (false, (i : Int), (y : Int))
def rowW (j : Nat) (a : Nat) : List Wi := (List.range (a + 1)).map fun (x : Nat) => (true, (j : Int), (x : Int))
def allW (a b : Nat) : List Wi := (List.range a).flatMap (fun i => colW i b) ++ (List.range b).flatMap (fun j => rowW j a)
theorem all_w {a b : Nat} {w : Wi} : w ∈ allW a b ↔ InW a b w := by
  unfold allW colW rowW InW
  rw [List.mem_append, List.mem_flatMap, List.mem_flatMap]
  constructor
  · rintro (⟨i, hi, h⟩ | ⟨j, hj, h⟩)
    · obtain ⟨y, hy, rfl⟩ := List.mem_map.mp h
      have := List.mem_range.mp hi
      have := List.mem_range.mp hy
      exact .inr ⟨rfl, ⟨by show (0 : Int) ≤ (i : Int); omega, by show (i : Int) < a; omega⟩, by show (0 : Int) ≤ (y : Int); omega, by show (y : Int) ≤ b; omega⟩
    · obtain ⟨y, hy, rfl⟩ := List.mem_map.mp h
      have := List.mem_range.mp hj
      have := List.mem_range.mp hy
      exact .inl ⟨rfl, ⟨by show (0 : Int) ≤ (j : Int); omega, by show (j : Int) < b; omega⟩, by show (0 : Int) ≤ (y : Int); omega, by show (y : Int) ≤ a; omega⟩
  · obtain ⟨r, n, p⟩ := w
    rintro (⟨rfl, ⟨h1, h2⟩, h3, h4⟩ | ⟨rfl, ⟨h1, h2⟩, h3, h4⟩)
    · have h1 : 0 ≤ n := h1
      have h2 : n < b := h2
      have h3 : 0 ≤ p := h3
      have h4 : p ≤ a := h4
      refine .inr ⟨n.toNat, List.mem_range.mpr (by omega), List.mem_map.mpr ⟨p.toNat, List.mem_range.mpr (by omega), ?_⟩⟩
      rw [Int.toNat_of_nonneg h1, Int.toNat_of_nonneg h3]
    · have h1 : 0 ≤ n := h1
      have h2 : n < a := h2
      have h3 : 0 ≤ p := h3
      have h4 : p ≤ b := h4
      refine .inl ⟨n.toNat, List.mem_range.mpr (by omega), List.mem_map.mpr ⟨p.toNat, List.mem_range.mpr (by omega), ?_⟩⟩
      rw [Int.toNat_of_nonneg h1, Int.toNat_of_nonneg h3]
theorem len_flat {α β : Type} {f : α → List β} {c : Nat} (h : ∀ x, (f x).length = c) : ∀ l : List α, (l.flatMap f).length = l.length * c
  | [] => by simp
  | x :: l => by rw [List.flatMap_cons, List.length_append, h, len_flat h l, List.length_cons, Nat.succ_mul, Nat.add_comm]
theorem len_all (a b : Nat) : (allW a b).length = a * (b + 1) + b * (a + 1) := by
  unfold allW
  rw [List.length_append, len_flat (c := b + 1) (fun i => by unfold colW; rw [List.length_map, List.length_range]), len_flat (c := a + 1) (fun i => by unfold rowW; rw [List.length_map, List.length_range]), List.length_range, List.length_range]
theorem len_all_le {a b : Nat} (ha : a ≤ 40) (hb : b ≤ 40) : (allW a b).length ≤ 3280 := by
  rw [len_all]
  have h1 : a * (b + 1) ≤ 40 * 41 := Nat.mul_le_mul ha (by omega)
  have h2 : b * (a + 1) ≤ 40 * 41 := Nat.mul_le_mul hb (by omega)
  omega
theorem few_of : ∀ {ws us : List Wi}, ws.Nodup → (∀ x ∈ ws, x ∈ us) → ws.length ≤ us.length
  | [], us, _, _ => Nat.zero_le _
  | w :: ws, us, h, s => by
    obtain ⟨h1, h2⟩ := List.nodup_cons.mp h
    have m := s w List.mem_cons_self
    have := few_of (us := us.erase w) h2 fun x hx => (List.mem_erase_of_ne (fun (e : x = w) => h1 (e ▸ hx))).mpr (s x (List.mem_cons_of_mem _ hx))
    rw [List.length_erase_of_mem m] at this
    have pos : 0 < us.length := List.length_pos_of_mem m
    rw [List.length_cons]
    omega
theorem count_nodup {x : Wi} : ∀ {l : List Wi}, l.Nodup → l.count x = if x ∈ l then 1 else 0
  | [], _ => by simp
  | y :: l, h => by
    obtain ⟨h1, h2⟩ := List.nodup_cons.mp h
    rw [List.count_cons, count_nodup h2]
    by_cases e : y = x
    · subst e; simp [h1]
    · have e' : x ≠ y := fun z => e z.symm
      simp [e, e']
theorem perm_of {ws us : List Wi} (hw : ws.Nodup) (hu : us.Nodup) (h : ∀ x, x ∈ ws ↔ x ∈ us) : ws.Perm us := List.perm_iff_count.mpr fun x => by
  rw [count_nodup hw, count_nodup hu]
  simp only [h x]
/-- sorted, two rows of the same wires are one row -/
theorem sort_one {bs cs : List WB} (nb : (bs.map (·.2)).Nodup) (nc : (cs.map (·.2)).Nodup) (h : ∀ x, x ∈ bs.map (·.2) ↔ x ∈ cs.map (·.2)) : (bs.mergeSort leW).map (·.2) = (cs.mergeSort leW).map (·.2) := by
  let le : Wi → Wi → Bool := fun x y => leW (0, x) (0, y)
  have inj : ∀ x y : Wi, le x y = true → le y x = true → x = y := fun x y h1 h2 => by
    obtain ⟨r, n, p⟩ := x
    obtain ⟨r', n', p'⟩ := y
    have h1' : leW (0, r, n, p) (0, r', n', p') = true := h1
    have h2' : leW (0, r', n', p') (0, r, n, p) = true := h2
    unfold leW at h1' h2'
    simp only [Bool.not_eq_true', decide_eq_false_iff_not, ltW_iff] at h1' h2'
    have e1 : bI r = bI r' := by omega
    have e2 : n = n' := by omega
    have e3 : p = p' := by omega
    have e0 : r = r' := by
      revert e1
      cases r <;> cases r' <;> decide
    rw [e0, e2, e3]
  have srt : ∀ ds : List WB, ((ds.mergeSort leW).map (·.2)).Pairwise fun x y => le x y = true := fun ds => by
    rw [List.pairwise_map]
    exact (List.pairwise_mergeSort leW_trans leW_total ds).imp fun h => h
  have pm : ∀ ds : List WB, ((ds.mergeSort leW).map (·.2)).Perm (ds.map (·.2)) := fun ds => (List.mergeSort_perm ds leW).map _
  exact List.Perm.eq_of_pairwise (fun x y _ _ h1 h2 => inj x y h1 h2) (srt bs) (srt cs) ((pm bs).trans ((perm_of nb nc h).trans (pm cs).symm))
/-! the worklist -/
def crossW (a b : Int) (w : Wi) : List (Int × Int) := if w.1 = true then ([w.2.2 - 1, w.2.2].filter fun i => decide (0 ≤ i ∧ i < a)).map fun i => (i, w.2.1) else ([w.2.2 - 1, w.2.2].filter fun j => decide (0 ≤ j ∧ j < b)).map fun j => (w.2.1, j)
theorem cross_has {a b i j : Int} (c : InC a b i j) {w : Wi} (h : w ∈ legsW i j) : (i, j) ∈ crossW a b w := by
  obtain ⟨⟨c1, c2⟩, c3, c4⟩ := c
  unfold legsW at h
  have f : ∀ {k n m : Int}, 0 ≤ k → k < m → k = n - 1 ∨ k = n → k ∈ [n - 1, n].filter fun i => decide (0 ≤ i ∧ i < m) := fun h0 h1 e => List.mem_filter.mpr ⟨by simpa using e, decide_eq_true ⟨h0, h1⟩⟩
  rcases List.mem_cons.mp h with rfl | h
  · exact List.mem_map.mpr ⟨i, f c1 c2 (.inr rfl), rfl⟩
  rcases List.mem_cons.mp h with rfl | h
  · exact List.mem_map.mpr ⟨j, f c3 c4 (.inr rfl), rfl⟩
  rcases List.mem_cons.mp h with rfl | h
  · exact List.mem_map.mpr ⟨i, f c1 c2 (.inl (by show i = i + 1 - 1; omega)), rfl⟩
  · rw [List.mem_singleton.mp h]
    exact List.mem_map.mpr ⟨j, f c3 c4 (.inl (by show j = j + 1 - 1; omega)), rfl⟩
theorem cross_in {a b : Int} {w : Wi} (hw : InW a b w) {c : Int × Int} (h : c ∈ crossW a b w) : InC a b c.1 c.2 := by
  unfold crossW at h
  rcases hw with ⟨e, h1, _⟩ | ⟨e, h1, _⟩
  · rw [if_pos e] at h
    obtain ⟨i, hi, rfl⟩ := List.mem_map.mp h
    exact ⟨of_decide_eq_true (List.mem_filter.mp hi).2, h1⟩
  · rw [if_neg (by rw [e]; decide)] at h
    obtain ⟨i, hi, rfl⟩ := List.mem_map.mp h
    exact ⟨h1, of_decide_eq_true (List.mem_filter.mp hi).2⟩
def WInv (a b : Int) (ws wt : List Wi) (todo : List (Int × Int)) : Prop := ∀ i j, InC a b i j → Full ws i j ∨ ¬ Tells ws i j ∨ (∃ w ∈ wt, w ∈ legsW i j) ∨ (i, j) ∈ todo
theorem winv_start {a b : Int} {ws wt : List Wi} (h : ∀ w ∈ ws, w ∈ wt) : WInv a b ws wt [] := fun i j c => by
  by_cases t : Tells ws i j
  · obtain ⟨l, hl, m, _⟩ := t
    exact .inr (.inr (.inl ⟨_, h _ m, legW_mem hl⟩))
  · exact .inr (.inl t)
theorem winv_pop {a b : Int} {ws wt : List Wi} {w : Wi} (h : WInv a b ws (wt ++ [w]) []) : WInv a b ws wt (crossW a b w) := fun i j c => by
  rcases h i j c with h | h | ⟨x, hx, hl⟩ | h
  · exact .inl h
  · exact .inr (.inl h)
  · rcases List.mem_append.mp hx with hx | hx
    · exact .inr (.inr (.inl ⟨x, hx, hl⟩))
    · rw [List.mem_singleton.mp hx] at hl
      exact .inr (.inr (.inr (cross_has c hl)))
  · exact nomatch h
theorem winv_skip {a b : Int} {ws wt : List Wi} {i j : Int} {todo : List (Int × Int)} (h : WInv a b ws wt ((i, j) :: todo)) (n : ¬ Tells ws i j ∨ Full ws i j) : WInv a b ws wt todo := fun k l c => by
  rcases h k l c with h | h | h | h
  · exact .inl h
  · exact .inr (.inl h)
  · exact .inr (.inr (.inl h))
  · rcases List.mem_cons.mp h with e | h
    · cases e
      exact n.elim (fun n => .inr (.inl n)) .inl
    · exact .inr (.inr (.inr h))
theorem winv_hold {a b : Int} {ws wt : List Wi} {i j : Int} {todo : List (Int × Int)} (h : WInv a b ws wt ((i, j) :: todo)) : WInv a b (addL ws (legsW i j)) (wt ++ (legsW i j).filter fun u => decide (u ∉ ws)) todo := fun k l c => by
  by_cases e : (k, l) = (i, j)
  · cases e
    exact .inl fun w hw => mem_addL.mpr (.inr hw)
  by_cases fresh : ∃ w ∈ legsW k l, w ∈ addL ws (legsW i j) ∧ w ∉ ws
  · obtain ⟨w, hw, h1, h2⟩ := fresh
    refine .inr (.inr (.inl ⟨w, List.mem_append_right _ (List.mem_filter.mpr ⟨(mem_addL.mp h1).resolve_left h2, decide_eq_true h2⟩), hw⟩))
  have old : ∀ w ∈ legsW k l, w ∈ addL ws (legsW i j) → w ∈ ws := fun w hw h1 => by
    by_cases m : w ∈ ws
    · exact m
    · exact absurd ⟨w, hw, h1, m⟩ fresh
  rcases h k l c with h | h | ⟨w, hw, hl⟩ | h
  · exact .inl fun w hw => mem_addL.mpr (.inl (h w hw))
  · refine .inr (.inl fun ⟨m, hm, t1, t2⟩ => h ⟨m, hm, old _ (legW_mem hm) t1, old _ (legW_mem (Nat.mod_lt _ (by decide))) t2⟩)
  · exact .inr (.inr (.inl ⟨w, List.mem_append_left _ hw, hl⟩))
  · rcases List.mem_cons.mp h with z | h
    · exact absurd z e
    · exact .inr (.inr (.inr h))
theorem winv_end {a b : Int} {ws : List Wi} (h : WInv a b ws [] []) : Shut a b ws := fun i j c t => by
  rcases h i j c with h | h | ⟨w, hw, _⟩ | h
  · exact h
  · exact absurd t h
  · exact nomatch hw
  · exact nomatch h
/-- a row of steps -/
inductive Run (a b : Int) (K : List Wi) : List (Int × Int × Int) → List Wi → Prop
  | nil : Run a b K [] K
  | snoc {ts : List (Int × Int × Int)} {ws : List Wi} {i j : Int} {l : Nat} (h : Run a b K ts ws) (c : InC a b i j) (hl : l < 4) (h1 : legW i j l ∈ ws) (h2 : legW i j ((l + 1) % 4) ∈ ws) (h3 : ∃ w ∈ legsW i j, w ∉ ws) : Run a b K (ts ++ [(i, j, (l : Int))]) (addL ws (legsW i j))
theorem Run.sound {a b : Int} {K : List Wi} {ts : List (Int × Int × Int)} {ws : List Wi} (h : Run a b K ts ws) : ∀ w ∈ ws, Told a b (· ∈ K) w := by
  induction h with
  | nil => exact fun w hw => .known hw
  | snoc _ c hl h1 h2 _ ih => exact fun w hw => (mem_addL.mp hw).elim (ih w) fun m => .step c hl (ih _ h1) (ih _ h2) m
theorem Run.has {a b : Int} {K : List Wi} {ts : List (Int × Int × Int)} {ws : List Wi} (h : Run a b K ts ws) : ∀ w ∈ K, w ∈ ws := by
  induction h with
  | nil => exact fun w hw => hw
  | snoc _ c hl h1 h2 _ ih => exact fun w hw => mem_addL.mpr (.inl (ih w hw))
theorem Run.fold {a b : Int} {K : List Wi} {ts : List (Int × Int × Int)} {ws : List Wi} (h : Run a b K ts ws) : ws = ts.foldl (fun acc t => addL acc (legsW t.1 t.2.1)) K := by
  induction h with
  | nil => rfl
  | snoc _ c hl h1 h2 _ ih => rw [List.foldl_append, ← ih]; rfl
theorem Run.inW {a b : Int} {K : List Wi} {ts : List (Int × Int × Int)} {ws : List Wi} (h : Run a b K ts ws) (k : ∀ w ∈ K, InW a b w) : ∀ w ∈ ws, InW a b w := by
  induction h with
  | nil => exact k
  | snoc _ c hl h1 h2 _ ih => exact fun w hw => (mem_addL.mp hw).elim (ih w) (legs_in c)
theorem Run.inC {a b : Int} {K : List Wi} {ts : List (Int × Int × Int)} {ws : List Wi} (h : Run a b K ts ws) : ∀ t ∈ ts, InC a b t.1 t.2.1 := by
  induction h with
  | nil => exact fun t ht => nomatch ht
  | snoc _ c hl h1 h2 _ ih => exact fun t ht => (List.mem_append.mp ht).elim (ih t) fun m => by rw [List.mem_singleton.mp m]; exact c
theorem Run.nodup {a b : Int} {K : List Wi} {ts : List (Int × Int × Int)} {ws : List Wi} (h : Run a b K ts ws) (k : K.Nodup) : ws.Nodup := by
  induction h with
  | nil => exact k
  | snoc _ c hl h1 h2 _ ih => exact nodup_addL ih
end C2

namespace C2
set_option Elab.async false
set_option linter.all false
set_option maxRecDepth 100000
set_option maxHeartbeats 1000000
open PySem PySem.Spec PyProof.Rows L2 HT
theorem seqAsg {ta : TE} {i : Nat} {t : TS} {D : _} {σ : L2.St} {H : Hp} (h : ta σ H fun x H1 => t D (σ.set i (some x)) H1) : tSeq (tAsg ta (gName i)) t D σ H := h
theorem tcb_run {r : List V → Hp → VK → Prop} {te : TE} {σ : L2.St} {H : Hp} {Q : VK} (h : te σ H fun x H1 => r [x] H1 Q) : tCB r (tCons te tNil) σ H Q := h
theorem gName_run {i : Nat} {v : V} {σ : L2.St} {H : Hp} {Q : L2.St → Hp → Prop} (h : Q (σ.set i (some v)) H) : gName i v σ H Q := h
theorem tcons_run {te : TE} {ta : TA} {σ : L2.St} {H : Hp} {R : List V → Hp → Prop} (h : te σ H fun v H1 => ta σ H1 fun vs H2 => R (v :: vs) H2) : tCons te ta σ H R := h
theorem same_none {G G' : Hp} {l : Addr} (s : Same G G') (n : G' l = none) : G l = none := by
  cases e : G l with
  | none => rfl
  | some o => rw [s _ _ e] at n; cases n
theorem PotAt.same {H H' : Hp} {p : Addr} {n : Nat} (h : PotAt H p n) (s : Same H H') : PotAt H' p n := by
  obtain ⟨g, c, u, hp, r⟩ := h
  exact ⟨g, c, u, s _ _ hp, r⟩
theorem fr_at {p l : Addr} {H G : Hp} {o : HO} (h : Fr p H G) (n : H l = none) : Fr p H (upd G l o) := fun b x nb e => by
  rw [upd_ne (ne_of_none e n)]
  exact h b x nb e
/-- tuples stay where only lists and dicts change -/
def Keeps (G G' : Hp) : Prop := ∀ b xs, G b = some (.tup xs) → G' b = some (.tup xs)
theorem Keeps.same {G G' : Hp} (s : Same G G') : Keeps G G' := fun b xs h => s _ _ h
theorem Keeps.trans {G G' G'' : Hp} (a : Keeps G G') (b : Keeps G' G'') : Keeps G G'' := fun c xs h => b _ _ (a _ _ h)
theorem Keeps.at {G : Hp} {d : Addr} {o o' : HO} (e : G d = some o) (nt : ∀ xs, o ≠ .tup xs) : Keeps G (upd G d o') := fun b xs h => by
  rw [upd_ne (fun z => by rw [z, e] at h; cases h; exact nt _ rfl)]
  exact h
theorem keeps_fr {p : Addr} {n : Nat} {G G' : Hp} (f : Fr p G G') (h : PotAt G p n) : Keeps G G' := fun b xs e => f _ _ (fun z => by
  obtain ⟨g, c, u, hp, _⟩ := h
  rw [z, hp] at e
  cases e) e
theorem Cells.keeps {G G' : Hp} {cs : List (Addr × List Int)} (h : Cells G cs) (s : Keeps G G') : Cells G' cs := fun c hc => s _ _ (h c hc)
/-! ### plans -/
abbrev Tb := Addr × List (Addr × List Int)
abbrev trefs (ts : List Tb) : List V := ts.map fun x => V.ref x.1
theorem trefs_app (xs ys : List Tb) : trefs (xs ++ ys) = trefs xs ++ trefs ys := List.map_append
theorem refs_app (xs ys : List (Addr × List Int)) : refs (xs ++ ys) = refs xs ++ refs ys := List.map_append
structure TbAt (G : Hp) (q : Nat) (x : Tb) : Prop where
  at_ : G x.1 = some (.tup (refs x.2))
  ce : Cells G x.2
  go : Good q (x.2.map (·.2))
  st : Srt (x.2.map (·.2))
theorem TbAt.keeps {G G' : Hp} {q : Nat} {x : Tb} (h : TbAt G q x) (s : Keeps G G') : TbAt G' q x := ⟨s _ _ h.at_, h.ce.keeps s, h.go, h.st⟩
structure PlanAt (G : Hp) (t : Addr) (q a b : Nat) (ts : List Tb) (rs : List (Addr × List Int)) : Prop where
  ex : ∃ tt tr, G t = some (.tup [.int (q : Int), .ref tt, .int (a : Int), .ref tr]) ∧ G tt = some (.tup (trefs ts)) ∧ G tr = some (.tup (refs rs))
  tb : ∀ x ∈ ts, TbAt G q x
  ce : Cells G rs
  lt : ts.length ≤ 3
  lr : rs.length = b
  la : ∀ r ∈ rs, r.2.length = a
  rg : ∀ r ∈ rs, ∀ v ∈ r.2, 0 ≤ v ∧ v < 7
theorem PlanAt.keeps {G G' : Hp} {t : Addr} {q a b : Nat} {ts : List Tb} {rs : List (Addr × List Int)} (h : PlanAt G t q a b ts rs) (s : Keeps G G') : PlanAt G' t q a b ts rs := by
  obtain ⟨tt, tr, h1, h2, h3⟩ := h.ex
  exact ⟨⟨tt, tr, s _ _ h1, s _ _ h2, s _ _ h3⟩, fun x hx => (h.tb x hx).keeps s, h.ce.keeps s, h.lt, h.lr, h.la, h.rg⟩
section
variable {P : Program} {w : World} {K : PySem.W.Frag} {mg : Str → Option Value} {base : Heap}
abbrev NPl : List Str := ["_law_pool", "_law_q", "_law_a", "_law_b", "_law_most", "_law_tables", "_law_rows", "_law_k", "_law_i", "_law_j"]
theorem scPlan : FnScope NPl ["_law_pool", "_law_q", "_law_a", "_law_b", "_law_most"] (defScope sPlan) := ⟨rfl, rfl, rfl, by decide +kernel, rfl, by decide +kernel, by decide +kernel⟩
abbrev scPj : Scope := { kind := .function, names := [(".0", .local), ("_law_j", .local), ("tuple", .globalImplicit), ("range", .globalImplicit), ("_law_a", .cell), ("_law_pool", .cell), ("_law_tables", .cell)], isGenerator := false, isCoroutine := false }
def teTb : TE := tCall spTable [] E0 (tCons (tVar 0) (tCons (tVar 1) tNil))
def teRw (K : PySem.W.Frag) : TE := tCall spTake [] E0 (tCons (tVar 0) (tCons (tCB (rLen K) (tCons (tVar 5) tNil)) tNil))
def teRow (K : PySem.W.Frag) : TE := tCB (rTupOf K) (tCons (tLc (iRng1 (tCons (tVar 2) tNil)) (gName 8) tYes (teRw K) [8]) tNil)
/-- numbers drawn -/
theorem lc_draw {te : TE} {ta : TA} {σ : L2.St} {H : Hp} {Q : VK} {p : Addr} {sl n len : Nat} (hs : ∀ v, wipe ((wipe σ [sl]).set sl (some v)) [sl] = wipe σ [sl]) (hlen : len ≤ 40) (hta : ∀ R : List V → Hp → Prop, R [.int (len : Int)] H → ta σ H R) (hP : PotAt H p n)
    (hte : ∀ (j : Nat) (G : Hp) (R : VK), j < len → Fr p H G → PotAt G p (n + j) → (∀ (d : Int) G', Fr p G G' → PotAt G' p (n + (j + 1)) → 0 ≤ d → d < 7 → R (.int d) G') → te ((wipe σ [sl]).set sl (some (.int (j : Int)))) G R)
    (k : ∀ (D : Addr) (vs : List Int) (G : Hp), Fr p H G → PotAt G p (n + len) → H D = none → G D = some (.lst (vs.map V.int)) → vs.length = len → (∀ v ∈ vs, 0 ≤ v ∧ v < 7) → Q (.ref D) G) : tLc (iRng1 ta) (gName sl) tYes te [sl] σ H Q := by
  refine hta _ ⟨(len : Int), rfl, by omega, by omega, fun D nD => ?_⟩
  have nDp : D ≠ p := (hP.ne nD).symm
  refine lc_range (lo := 0) (n := len) (fun j G => Fr p H G ∧ PotAt G p (n + j) ∧ ∃ vs : List Int, G D = some (.lst (vs.map V.int)) ∧ vs.length = j ∧ ∀ v ∈ vs, 0 ≤ v ∧ v < 7) ⟨Fr.new nD, hP.same (same_upd nD), [], upd_same, rfl, fun v hv => nomatch hv⟩ ?_ ?_
  · rintro j G hj ⟨fr, pt, vs, hD, hl, up⟩
    rw [Int.zero_add]
    refine ⟨hs _, ?_⟩
    simp only [tYes, ↓reduceIte]
    refine hte j G _ hj fr pt fun d G' f P d0 d1 => ⟨_, f _ _ nDp hD, ?_, fr_at (fr.trans f) nD, P.upd nDp.symm, vs ++ [d], ?_, ?_, fun v hv => ?_⟩
    · rw [List.length_map, hl]
      exact Nat.lt_of_lt_of_le (show j < 1000 by omega) (by decide)
    · rw [upd_same, List.map_append]
      rfl
    · rw [List.length_append, hl]
      rfl
    · rcases List.mem_append.mp hv with hv | hv
      · exact up v hv
      · rw [List.mem_singleton.mp hv]
        exact ⟨d0, d1⟩
  · rintro G ⟨fr, pt, vs, hD, hl, up⟩
    exact k D vs G fr pt nD hD hl up
def spPlan : Sp := fun vs H Q _ => ∃ (p : Addr) (q a b n : Nat), vs = [.ref p, .int (q : Int), .int (a : Int), .int (b : Int), .int 3] ∧ 2 ≤ q ∧ q ≤ 7 ∧ a ≤ 9 ∧ b ≤ 9 ∧ PotAt H p n ∧ n < 900000 ∧ ∀ t ts rs H', Fr p H H' → PotAt H' p (n + 400) → PlanAt H' t q a b ts rs → Q (.ref t) H'
theorem ok_plan {f fT fO fM fTb : Addr} {fd fdT fdO fdM fdTb : FuncData} (F : Fun K "_law_plan" "_law_plan" sPlan f fd) (FT : Fun K "_law_take" "_law_take" sTake fT fdT) (FTb : Fun K "_law_table" "_law_table" sTable fTb fdTb) (bT : Binds K fdT ["_law_pool", "_law_many"] []) (bTb : Binds K fdTb ["_law_pool", "_law_q"] []) (gT : mg "_law_take" = some (.ref fT)) (gTb : mg "_law_table" = some (.ref fTb)) (ml : mg "len" = none) (mtup : mg "tuple" = none) (mr : mg "range" = none)
    (GTb : FnOk P w K mg base CX0 3 fTb fdTb ["_law_pool", "_law_q"] spTable) : FnOk P w K mg base CX0 4 f fd ["_law_pool", "_law_q", "_law_a", "_law_b", "_law_most"] spPlan := by
  have GT : FnOk P w K mg base CX0 1 fT fdT ["_law_pool", "_law_many"] spTake := ok_take FT
  refine F.ok scPlan (fun vs H Q E h => ?_) (fun cdv A outer s H vs Q E hr h => ?_)
  · obtain ⟨p, q, a, b, n, rfl, _⟩ := h
    rfl
  obtain ⟨p, q, a, b, n, rfl, q2, q7, a9, b9, hP, hn, k⟩ := h
  have nd := scPlan.nd
  refine ⟨_, pss_cons (ps_set (i := 5) nd rfl (.inr rfl) (pe_callTy call_tuple_of (by rfl) mtup (by decide +kernel) (pa_cons (pe_lc (own := [("_law_k", 7)]) (g := gName 7) (tt := tYes) (te := teTb) rfl nd (pi_range1 (by rfl) mr (pa_cons (pe_op op_add pe_int (pe_call GT (hr.mono (by omega)) (by rfl) gT FT.kp bT .nil pass0 (pa_cons (pv 0) (pa_cons (pv 4) pa_nil)))) pa_nil)) (blkOk_by (own := [("_law_k", 7)]) (N := NPl) (sc := defScope sPlan) (by decide +kernel)) (fun _ _ _ _ _ => pg_name (i := 7) nd rfl (.inl rfl)) (fun _ _ _ _ _ => pts_nil) (fun _ _ _ _ _ => (pe_call GTb (hr.mono (by omega)) (by rfl) gTb FTb.kp bTb .nil pass0 (pa_cons (pv 0) (pa_cons (pv 1) pa_nil))))) pa_nil)))
      (pss_cons (ps_setLc (i := 6) (own := [("_law_j", 9)]) (g := gName 9) (tt := tYes) (te := teRow K) rfl nd rfl rfl (sw_true rfl rfl rfl (by decide +kernel)) (pi_range1 (by rfl) mr (pa_cons (pv 3) pa_nil)) (blkOk_by (own := [("_law_j", 9)]) (N := NPl) (sc := defScope sPlan) (by decide +kernel)) (fun _ _ _ _ _ => pg_name (i := 9) nd rfl (.inl rfl)) (fun _ _ _ _ _ => pts_nil) (fun _ _ _ _ _ => (pe_callTy call_tuple_of (by rfl) mtup (by decide +kernel) (pa_cons (pe_lc (own := [("_law_i", 8)]) (g := gName 8) (tt := tYes) (te := teRw K) rfl nd (pi_range1 (by rfl) mr (pa_cons (pv 2) pa_nil)) (blkOk_by (own := [("_law_i", 8)]) (N := NPl) (sc := scPj) (by decide +kernel)) (fun _ _ _ _ _ => pg_name (i := 8) nd rfl (.inl rfl)) (fun _ _ _ _ _ => pts_nil) (fun _ _ _ _ _ => (pe_call GT (hr.mono (by omega)) (by rfl) gT FT.kp bT .nil pass0 (pa_cons (pv 0) (pa_cons (pe_callB call_len_seq (by rfl) ml PySem.boot_len (pa_cons (pv 5) pa_nil)) pa_nil))))) pa_nil))))
      (pss_one (ps_ret (pe_tup (pa_cons (pv 1) (pa_cons (pv 5) (pa_cons (pv 2) (pa_cons (pe_callTy call_tuple_of (by rfl) mtup (by decide +kernel) (pa_cons (pv 6) pa_nil)) pa_nil)))))))), ?_⟩
  refine ⟨.ref p, rfl, .int 3, rfl, p, 3, n, rfl, hP, by omega, by decide, by decide, fun d H1 f1 P1 d0 d1 => ?_⟩
  obtain ⟨m, rfl⟩ : ∃ m : Nat, d = (m : Int) := ⟨d.toNat, by omega⟩
  refine ⟨1, (m : Int), rfl, rfl, 1 + (m : Int), rfl, by omega, by omega, fun D nD => ?_⟩
  have nDp : D ≠ p := (P1.ne nD).symm
  have em : (1 + (m : Int)).toNat = m + 1 := by omega
  refine lc_range (lo := 0) (n := (1 + (m : Int)).toNat) (fun j G => Fr p H1 G ∧ PotAt G p (n + 1 + 100 * j) ∧ ∃ ts : List Tb, G D = some (.lst (trefs ts)) ∧ ts.length = j ∧ ∀ x ∈ ts, TbAt G q x) ⟨Fr.new nD, P1.same (same_upd nD), [], upd_same, rfl, fun x hx => nomatch hx⟩ ?_ ?_
  · rintro j G hj ⟨fr, pt, ts, hD, lt, tb⟩
    rw [Int.zero_add]
    refine ⟨rfl, ?_⟩
    simp only [tYes, ↓reduceIte]
    refine ⟨.ref p, rfl, .int (q : Int), rfl, p, q, n + 1 + 100 * j, rfl, q2, q7, pt, by omega, fun G' t cs f' P' ht hc go st => ?_⟩
    have hD' := f' _ _ nDp hD
    have kp : Keeps G' (upd G' D (.lst (trefs ts ++ [.ref t]))) := Keeps.at hD' (fun xs z => nomatch z)
    refine ⟨_, hD', Nat.lt_of_lt_of_le (show (trefs ts).length < 1000 by rw [List.length_map]; omega) (by decide), fr_at (fr.trans f') nD, (P'.upd nDp.symm).mono (by omega), ts ++ [(t, cs)], by rw [upd_same, trefs_app]; rfl, by rw [List.length_append, lt]; rfl, fun x hx => ?_⟩
    rcases List.mem_append.mp hx with hx | hx
    · exact ((tb x hx).keeps (keeps_fr f' pt)).keeps kp
    · rw [List.mem_singleton.mp hx]
      exact ⟨kp _ _ ht, Cells.keeps hc kp, go, st⟩
  rintro G2 ⟨fr2, P2, ts, hD2, lt2, tb2⟩
  rw [em] at lt2 P2
  refine ⟨D, _, rfl, .inl ⟨.inl (.inl hD2), fun tt ntt => ?_⟩⟩
  have s3 := same_upd (o := .tup (trefs ts)) ntt
  have P3 := P2.same s3
  have tb3 : ∀ x ∈ ts, TbAt (upd G2 tt (.tup (trefs ts))) q x := fun x hx => (tb2 x hx).keeps (Keeps.same s3)
  have ht3 := upd_same (H := G2) (a := tt) (o := .tup (trefs ts))
  have F3 : Fr p H _ := f1.trans (fr2.trans (Fr.same s3))
  generalize upd G2 tt (.tup (trefs ts)) = H3 at P3 tb3 ht3 F3 ⊢
  refine gName_run ?_
  dsimp only [List.set]
  show tSeq (tAsg (tLc (iRng1 (tCons (tVar 3) tNil)) (gName 9) tYes (teRow K) [9]) (gName 6)) _ _ [some (.ref p), some (.int (q : Int)), some (.int (a : Int)), some (.int (b : Int)), some (.int 3), some (.ref tt), none, none, none, none] H3
  refine seqAsg ?_
  refine ⟨.int (b : Int), rfl, (b : Int), rfl, by omega, by omega, fun D2 nD2 => ?_⟩
  have nD2p : D2 ≠ p := (P3.ne nD2).symm
  have eb : (b : Int).toNat = b := Int.toNat_natCast b
  refine lc_range (lo := 0) (n := (b : Int).toNat) (fun j G => Fr p H3 G ∧ PotAt G p (n + 301 + 9 * j) ∧ ∃ rs : List (Addr × List Int), G D2 = some (.lst (refs rs)) ∧ rs.length = j ∧ Cells G rs ∧ (∀ r ∈ rs, r.2.length = a) ∧ ∀ r ∈ rs, ∀ v ∈ r.2, 0 ≤ v ∧ v < 7) ⟨Fr.new nD2, (P3.same (same_upd nD2)).mono (by omega), [], upd_same, rfl, (fun c hc => nomatch hc), (fun c hc => nomatch hc), fun c hc => nomatch hc⟩ ?_ ?_
  · rintro j G hj ⟨fr, pt, rs, hD, lr, ce, la, rg⟩
    rw [Int.zero_add]
    refine ⟨rfl, ?_⟩
    simp only [tYes, ↓reduceIte]
    refine tcb_run ?_
    refine lc_draw (te := teRw K) (sl := 8) (len := a) (n := n + 301 + 9 * j) (p := p) (fun v => rfl) (by omega) (fun R h => ⟨.int (a : Int), rfl, h⟩) pt (fun i G4 R hi f4 P4 kk => ?_) fun D3 vs G4 f4 P4 nD3 hD3 lv rv => ?_
    · have ht4 := keeps_fr f4 pt _ _ (keeps_fr fr P3 _ _ ht3)
      refine ⟨.ref p, rfl, .ref tt, rfl, tt, _, rfl, .inr (.inl (.inl ht4)), ?_⟩
      rw [List.length_map, lt2]
      exact ⟨p, ((m + 1 : Nat) : Int), _, rfl, P4, by omega, by omega, by omega, fun d G5 f5 P5 d0 d1 => kk d G5 f5 P5 d0 (by omega)⟩
    · refine ⟨D3, _, rfl, .inl ⟨.inl (.inl hD3), fun tr ntr => ?_⟩⟩
      have st := same_upd (o := .tup (vs.map V.int)) ntr
      have hD4 := st _ _ (f4 _ _ nD2p hD)
      have kp : Keeps (upd G4 tr (.tup (vs.map V.int))) (upd (upd G4 tr (.tup (vs.map V.int))) D2 (.lst (refs rs ++ [.ref tr]))) := Keeps.at hD4 (fun xs z => nomatch z)
      refine ⟨_, hD4, Nat.lt_of_lt_of_le (show (refs rs).length < 1000 by rw [List.length_map]; omega) (by decide), fr_at (fr.trans (f4.trans (Fr.same st))) nD2, ((P4.same st).upd nD2p.symm).mono (by omega), rs ++ [(tr, vs)], by rw [upd_same, refs_app]; rfl, by rw [List.length_append, lr]; rfl, fun c hc => ?_, fun c hc => ?_, fun c hc => ?_⟩
      · rcases List.mem_append.mp hc with hc | hc
        · exact kp _ _ (st _ _ (keeps_fr f4 pt _ _ (ce c hc)))
        · rw [List.mem_singleton.mp hc]
          exact kp _ _ upd_same
      · rcases List.mem_append.mp hc with hc | hc
        · exact la c hc
        · rw [List.mem_singleton.mp hc]
          exact lv
      · rcases List.mem_append.mp hc with hc | hc
        · exact rg c hc
        · rw [List.mem_singleton.mp hc]
          exact rv
  rintro G4 ⟨fr4, P4, rs, hD4, lr, ce, la, rg⟩
  rw [eb] at lr P4
  refine ⟨.int (q : Int), rfl, .ref tt, rfl, .int (a : Int), rfl, .ref D2, rfl, D2, _, rfl, .inl ⟨.inl (.inl hD4), fun tr ntr => ⟨by show 4 ≤ sizeLine; decide, fun t nt => ?_⟩⟩⟩
  have s5 := same_upd (o := .tup (refs rs)) ntr
  have s6 := same_upd (o := .tup [.int (q : Int), .ref tt, .int (a : Int), .ref tr]) nt
  have s56 := s5.trans s6
  have k34 := keeps_fr fr4 P3
  have k36 := k34.trans (Keeps.same s56)
  exact k t ts rs _ (F3.trans (fr4.trans (Fr.same s56))) ((P4.same s56).mono (by omega)) ⟨⟨tt, tr, upd_same, k36 _ _ ht3, s6 _ _ upd_same⟩, fun x hx => (tb3 x hx).keeps k36, Cells.keeps ce (Keeps.same s56), by omega, lr, la, rg⟩
theorem scSize : FnScope ["_law_pool"] ["_law_pool"] (defScope sSize) := ⟨rfl, rfl, rfl, by decide +kernel, rfl, by decide +kernel, by decide +kernel⟩
def spSize : Sp := fun vs H Q _ => ∃ (p : Addr) (n : Nat), vs = [.ref p] ∧ PotAt H p n ∧ n < 900000 ∧ ∀ (a b : Nat) t H', a ≤ 9 → b ≤ 9 → Fr p H H' → PotAt H' p (n + 3) → H' t = some (.tup [.int (a : Int), .int (b : Int)]) → Q (.ref t) H'
theorem ok_size {f fT fO : Addr} {fd fdT fdO : FuncData} {k : Nat} (F : Fun K "_law_size" "_law_size" sSize f fd) (FT : Fun K "_law_take" "_law_take" sTake fT fdT) (FO : Fun K "_law_of" "_law_of" sOf fO fdO) (bT : Binds K fdT ["_law_pool", "_law_many"] []) (bO : Binds K fdO ["_law_pool", "_law_some"] []) (gT : mg "_law_take" = some (.ref fT)) (gO : mg "_law_of" = some (.ref fO)) (ml : mg "len" = none) : FnOk P w K mg base CX0 (k + 3) f fd ["_law_pool"] spSize := by
  have GT : FnOk P w K mg base CX0 (k + 1) fT fdT ["_law_pool", "_law_many"] spTake := ok_take FT
  have GO : FnOk P w K mg base CX0 (k + 2) fO fdO ["_law_pool", "_law_some"] (spOf K) := ok_of FO FT bT gT ml
  refine F.ok scSize (fun vs H Q E h => ?_) (fun cdv A outer s H vs Q E hr h => ?_)
  · obtain ⟨p, n, rfl, _⟩ := h
    rfl
  obtain ⟨p, n, rfl, hP, hn, q⟩ := h
  have nd := scSize.nd
  refine ⟨_, pss_cons (ps_if (pt_cmpR op_eq (pe_call GT (hr.mono (by omega)) (by rfl) gT FT.kp bT .nil pass0 (pa_cons (pv 0) (pa_cons pe_int pa_nil))) pe_int (nomark _)) (pss_one (ps_ret (pe_call GO (hr.mono (by omega)) (by rfl) gO FO.kp bO .nil pass0 (pa_cons (pv 0) (pa_cons (pe_lst (pa_cons (pe_tup (pa_cons pe_int (pa_cons pe_int pa_nil))) (pa_cons (pe_tup (pa_cons pe_int (pa_cons pe_int pa_nil))) (pa_cons (pe_tup (pa_cons pe_int (pa_cons pe_int pa_nil))) (pa_cons (pe_tup (pa_cons pe_int (pa_cons pe_int pa_nil))) (pa_cons (pe_tup (pa_cons pe_int (pa_cons pe_int pa_nil))) (pa_cons (pe_tup (pa_cons pe_int (pa_cons pe_int pa_nil))) pa_nil))))))) pa_nil))))) pss_nil)
      (pss_one (ps_ret (pe_tup (pa_cons (pe_call GT (hr.mono (by omega)) (by rfl) gT FT.kp bT .nil pass0 (pa_cons (pv 0) (pa_cons pe_int pa_nil))) (pa_cons (pe_call GT (hr.mono (by omega)) (by rfl) gT FT.kp bT .nil pass0 (pa_cons (pv 0) (pa_cons pe_int pa_nil))) pa_nil))))), ?_⟩
  refine ⟨.ref p, rfl, p, 6, n, rfl, hP, by omega, by decide, by decide, fun d H1 f1 P1 d0 d1 => ⟨rfl, _, rfl, ite2 (fun z => ?_) (fun z => ?_)⟩⟩
  · refine ⟨.ref p, rfl, by show 2 ≤ sizeLine; decide, fun a1 m1 => ⟨by show 2 ≤ sizeLine; decide, fun a2 m2 => ⟨by show 2 ≤ sizeLine; decide, fun a3 m3 => ⟨by show 2 ≤ sizeLine; decide, fun a4 m4 => ⟨by show 2 ≤ sizeLine; decide, fun a5 m5 => ⟨by show 2 ≤ sizeLine; decide, fun a6 m6 => ⟨by show 6 ≤ sizeLine; decide, fun l nl => ?_⟩⟩⟩⟩⟩⟩⟩
    have r1 := same_upd (o := .tup [.int ((9 : Nat) : Int), .int ((2 : Nat) : Int)]) m1
    have r2 := same_upd (o := .tup [.int ((2 : Nat) : Int), .int ((9 : Nat) : Int)]) m2
    have r3 := same_upd (o := .tup [.int ((0 : Nat) : Int), .int ((4 : Nat) : Int)]) m3
    have r4 := same_upd (o := .tup [.int ((4 : Nat) : Int), .int ((0 : Nat) : Int)]) m4
    have r5 := same_upd (o := .tup [.int ((0 : Nat) : Int), .int ((0 : Nat) : Int)]) m5
    have r6 := same_upd (o := .tup [.int ((1 : Nat) : Int), .int ((8 : Nat) : Int)]) m6
    have r7 := same_upd (o := .lst [.ref a1, .ref a2, .ref a3, .ref a4, .ref a5, .ref a6]) nl
    have t6 := r7
    have t5 := r6.trans t6
    have t4 := r5.trans t5
    have t3 := r4.trans t4
    have t2 := r3.trans t3
    have t1 := r2.trans t2
    have t0 := r1.trans t1
    refine ⟨p, l, _, n + 1, rfl, P1.same t0, by omega, ((P1.same (r1.trans (r2.trans (r3.trans (r4.trans (r5.trans r6)))))).ne nl).symm, .inl (.inl upd_same), by show 0 < 6; decide, by show 6 < 1000000; decide, fun v H2 f2 P2 mem => ?_⟩
    have kk := keeps_fr f2 (P1.same t0)
    have fin : ∀ (c : Addr) (x y : Nat), x ≤ 9 → y ≤ 9 → H2 c = some (.tup [.int (x : Int), .int (y : Int)]) → Q (.ref c) H2 := fun c x y hx hy hc => q x y c H2 hx hy (f1.trans ((Fr.same t0).trans f2)) (P2.mono (by omega)) hc
    rcases List.mem_cons.mp mem with rfl | mem
    · exact fin a1 9 2 (by decide) (by decide) (kk _ _ (t1 _ _ upd_same))
    rcases List.mem_cons.mp mem with rfl | mem
    · exact fin a2 2 9 (by decide) (by decide) (kk _ _ (t2 _ _ upd_same))
    rcases List.mem_cons.mp mem with rfl | mem
    · exact fin a3 0 4 (by decide) (by decide) (kk _ _ (t3 _ _ upd_same))
    rcases List.mem_cons.mp mem with rfl | mem
    · exact fin a4 4 0 (by decide) (by decide) (kk _ _ (t4 _ _ upd_same))
    rcases List.mem_cons.mp mem with rfl | mem
    · exact fin a5 0 0 (by decide) (by decide) (kk _ _ (t5 _ _ upd_same))
    · rw [List.mem_singleton.mp mem]
      exact fin a6 1 8 (by decide) (by decide) (kk _ _ (t6 _ _ upd_same))
  · refine ⟨.ref p, rfl, p, 6, n + 1, rfl, P1, by omega, by decide, by decide, fun x H2 f2 P2 x0 x1 => ?_⟩
    refine ⟨.ref p, rfl, p, 6, n + 1 + 1, rfl, P2, by omega, by decide, by decide, fun y H3 f3 P3 y0 y1 => ⟨by show 2 ≤ sizeLine; decide, fun t nt => ?_⟩⟩
    obtain ⟨a, rfl⟩ : ∃ a : Nat, x = (a : Int) := ⟨x.toNat, by omega⟩
    obtain ⟨b, rfl⟩ : ∃ b : Nat, y = (b : Int) := ⟨y.toNat, by omega⟩
    have st := same_upd (o := .tup [.int (a : Int), .int (b : Int)]) nt
    exact q a b t _ (by omega) (by omega) (f1.trans (f2.trans (f3.trans (Fr.same st)))) (P3.same st) upd_same
theorem scDesign : FnScope ["_law_pool", "_law_most", "_law_a", "_law_b", "_law_q"] ["_law_pool", "_law_most"] (defScope sDesign) := ⟨rfl, rfl, rfl, by decide +kernel, rfl, by decide +kernel, by decide +kernel⟩
def spDesign : Sp := fun vs H Q _ => ∃ (p : Addr) (n : Nat), vs = [.ref p, .int 3] ∧ PotAt H p n ∧ n < 800000 ∧ ∀ (q a b : Nat) t ts rs H', 2 ≤ q → q ≤ 7 → a ≤ 9 → b ≤ 9 → Fr p H H' → PotAt H' p (n + 410) → PlanAt H' t q a b ts rs → Q (.ref t) H'
theorem ok_design {f fT fO fS fPl fTb : Addr} {fd fdT fdO fdS fdPl fdTb : FuncData} (F : Fun K "_law_design" "_law_design" sDesign f fd) (FT : Fun K "_law_take" "_law_take" sTake fT fdT) (FO : Fun K "_law_of" "_law_of" sOf fO fdO) (FS : Fun K "_law_size" "_law_size" sSize fS fdS) (FPl : Fun K "_law_plan" "_law_plan" sPlan fPl fdPl) (FTb : Fun K "_law_table" "_law_table" sTable fTb fdTb)
    (bT : Binds K fdT ["_law_pool", "_law_many"] []) (bO : Binds K fdO ["_law_pool", "_law_some"] []) (bS : Binds K fdS ["_law_pool"] []) (bPl : Binds K fdPl ["_law_pool", "_law_q", "_law_a", "_law_b", "_law_most"] []) (bTb : Binds K fdTb ["_law_pool", "_law_q"] [])
    (gT : mg "_law_take" = some (.ref fT)) (gO : mg "_law_of" = some (.ref fO)) (gS : mg "_law_size" = some (.ref fS)) (gPl : mg "_law_plan" = some (.ref fPl)) (gTb : mg "_law_table" = some (.ref fTb)) (ml : mg "len" = none) (mtup : mg "tuple" = none) (mr : mg "range" = none)
    (GTb : FnOk P w K mg base CX0 3 fTb fdTb ["_law_pool", "_law_q"] spTable) : FnOk P w K mg base CX0 5 f fd ["_law_pool", "_law_most"] spDesign := by
  have GT : FnOk P w K mg base CX0 1 fT fdT ["_law_pool", "_law_many"] spTake := ok_take FT
  have GS : FnOk P w K mg base CX0 3 fS fdS ["_law_pool"] spSize := ok_size FS FT FO bT bO gT gO ml
  have GPl : FnOk P w K mg base CX0 4 fPl fdPl ["_law_pool", "_law_q", "_law_a", "_law_b", "_law_most"] spPlan := ok_plan (fO := fO) (fM := fO) (fdO := fdO) (fdM := fdO) FPl FT FTb bT bTb gT gTb ml mtup mr GTb
  refine F.ok scDesign (fun vs H Q E h => ?_) (fun cdv A outer s H vs Q E hr h => ?_)
  · obtain ⟨p, n, rfl, _⟩ := h
    rfl
  obtain ⟨p, n, rfl, hP, hn, q⟩ := h
  have nd := scDesign.nd
  refine ⟨_, pss_cons (ps_asg (pe_call GS (hr.mono (by omega)) (by rfl) gS FS.kp bS .nil pass0 (pa_cons (pv 0) pa_nil)) (pg_tup rfl (pgs_cons (pg_name (i := 2) nd rfl (.inl rfl)) (pgs_cons (pg_name (i := 3) nd rfl (.inl rfl)) pgs_nil))))
      (pss_cons (ps_set (i := 4) nd rfl (.inl rfl) (pe_op op_add pe_int (pe_call GT (hr.mono (by omega)) (by rfl) gT FT.kp bT .nil pass0 (pa_cons (pv 0) (pa_cons pe_int pa_nil)))))
      (pss_one (ps_ret (pe_call GPl hr (by rfl) gPl FPl.kp bPl .nil pass0 (pa_cons (pv 0) (pa_cons (pv 4) (pa_cons (pv 2) (pa_cons (pv 3) (pa_cons (pv 1) pa_nil))))))))), ?_⟩
  refine ⟨.ref p, rfl, p, n, rfl, hP, by omega, fun a b t H1 ha hb f1 P1 ht => ?_⟩
  refine ⟨t, _, rfl, .inl (.inl ht), rfl, _, _, rfl, _, _, rfl, rfl, ?_⟩
  refine ⟨.ref p, rfl, p, 6, n + 3, rfl, P1, by omega, by decide, by decide, fun d H2 f2 P2 d0 d1 => ⟨2, d, rfl, rfl, ?_⟩⟩
  obtain ⟨m, rfl⟩ : ∃ m : Nat, d = (m : Int) := ⟨d.toNat, by omega⟩
  have e2 : (2 : Int) + (m : Int) = ((m + 2 : Nat) : Int) := by omega
  refine gName_run ?_
  dsimp only
  rw [e2]
  refine ⟨.ref p, rfl, .int ((m + 2 : Nat) : Int), rfl, .int (a : Int), rfl, .int (b : Int), rfl, .int 3, rfl, p, m + 2, a, b, n + 3 + 1, rfl, by omega, by omega, ha, hb, P2, by omega, fun t' ts rs H3 f3 P3 pl => ?_⟩
  exact q (m + 2) a b t' ts rs H3 (by omega) (by omega) ha hb (f1.trans (f2.trans f3)) (P3.mono (by omega)) pl
end
end C2

namespace C2
set_option Elab.async false
set_option linter.all false
set_option maxRecDepth 100000
set_option maxHeartbeats 1000000
open PySem PySem.Spec PyProof.Rows L2 HT RT
/-! ### t[::-1] -/
theorem adjust_back (n : Nat) : Builtin.Slice.sliceAdjust none none (-1) (n : Int) = ((n : Int) - 1, -1) := rfl
theorem places_back (n : Nat) : Builtin.Slice.slicePlaces ((n : Int) - 1) (-1) (-1) = n := by
  unfold Builtin.Slice.slicePlaces
  rw [if_neg (by decide)]
  by_cases h : n = 0
  · subst h; rfl
  · rw [if_pos (by omega)]
    simp only [Int.neg_neg, Int.ediv_one]
    omega
theorem fm_congr {α β : Type} {f g : α → Option β} : ∀ {l : List α}, (∀ x ∈ l, f x = g x) → l.filterMap f = l.filterMap g
  | [], _ => rfl
  | x :: l, h => by rw [List.filterMap_cons, List.filterMap_cons, h x List.mem_cons_self, fm_congr fun y hy => h y (List.mem_cons_of_mem _ hy)]
theorem pick_back (us : List Value) : ((List.range us.length).filterMap fun k : Nat => us.toArray[((us.length : Int) - 1 + (k : Int) * (-1)).toNat]?).toArray = us.reverse.toArray := by
  congr 1
  have one : (List.range us.length).filterMap (fun k : Nat => us.toArray[((us.length : Int) - 1 + (k : Int) * (-1)).toNat]?) = ((List.range us.length).map fun k => us.length - 1 - k).filterMap (us.toArray[·]?) := by
    rw [List.filterMap_map]
    refine fm_congr fun k hk => ?_
    have := List.mem_range.mp hk
    show us.toArray[_]? = us.toArray[_]?
    rw [show ((us.length : Int) - 1 + (k : Int) * (-1)).toNat = us.length - 1 - k by omega]
  rw [one, PySem.W.krv_range, List.filterMap_reverse]
  have all := PySem.W.krv_all us.toArray
  rw [List.size_toArray] at all
  rw [all]
section
variable {prog : Program} {w : World} {A : Around} {E : Value → Shared → Prop} {s : Shared}
theorem applied_back {sl : Addr} {low top step : Value} {n : Nat} {Q : Int × Int × Nat → Shared → Prop} (hs : s.heap.IsSliceOf sl low top step) (pl : IsPart low none) (pt : IsPart top none) (ps : IsPart step (some (-1)))
    (fin : Q ((n : Int) - 1, -1, n) s) : wpAny (model prog w) A (Builtin.Slice.sliceApplied (.ref sl) (pure (n : Int))) Q E s := by
  obtain ⟨ob, at_, _, dat⟩ := id hs
  have three : ∀ {R : Value × Value × Value → Shared → Prop}, R (low, top, step) s → wpAny (model prog w) A (Builtin.Slice.sliceFields (.ref sl)) R E s := fun h =>
    wpAny_bind (wpAny_field at_ dat (x := low) rfl (wpAny_bind (wpAny_field at_ dat (x := top) rfl (wpAny_bind (wpAny_field at_ dat (x := step) rfl (wpAny_pure h))))))
  refine wpAny_bind (three (wpAny_bind (slicePart_ ps ?_)))
  show wpAny _ _ (if ((-1 : Int) == 0) = true then _ else _) _ _ _
  rw [if_neg (by decide)]
  refine wpAny_bind (slicePart_ pl (wpAny_bind (slicePart_ pt (wpAny_bind (wpAny_pure ?_)))))
  show wpAny _ _ (match Builtin.Slice.sliceAdjust none none (-1) (n : Int) with | (lo, hi) => pure (lo, (-1 : Int), Builtin.Slice.slicePlaces lo hi (-1))) _ _ _
  rw [adjust_back]
  show wpAny _ _ (pure ((n : Int) - 1, (-1 : Int), Builtin.Slice.slicePlaces ((n : Int) - 1) (-1) (-1))) _ _ _
  rw [places_back]
  exact wpAny_pure fin
theorem back_tup {t sl : Addr} {us : List Value} {low top step : Value} {Q : Value → Shared → Prop} (tup : IsTup s.heap t us.toArray) (hs : s.heap.IsSliceOf sl low top step) (pl : IsPart low none) (pt : IsPart top none) (ps : IsPart step (some (-1)))
    (fin : Q (.ref s.heap.objs.size) { s with heap := s.heap.push { cls := .type "tuple", data := .seq us.reverse.toArray } }) (few : us.length ≤ sizeLine) : wpAny (model prog w) A (getItem (.ref t) (.ref sl)) Q E s := by
  have lay : sizeOk (.seq us.reverse.toArray) := by
    show us.reverse.toArray.size ≤ sizeLine
    rw [List.size_toArray, List.length_reverse]
    exact few
  have isSl : s.TypeIs (.ref sl) "slice" := by
    obtain ⟨ob, at_, kind, _⟩ := id hs
    exact ⟨ob, at_, kind⟩
  unfold getItem
  refine wpAny_holding (wpAny_bind (wpAny_sequenceKey tup.typeIs (by decide) (wpAny_bind (wpAny_callSpecial?_slot (name := Str.ofString "__getitem__") tup.typeIs PyProof.Rows.slot_tuple_getitem (wpAny_call_entry PyProof.Rows.slot_tuple_getitem tup.typeIs entry_tuple_getitem ?_ (args_tuple_getitem _ _))))))
  show wpAny _ _ (Builtin.Tuple.tupleItemsOf (.ref t) >>= _) _ _ _
  refine wpAny_bind (tupleItemsOf_ tup (wpAny_bind (wpAny_typeOf isSl ?_)))
  rw [if_pos (by decide)]
  have sz : us.toArray.size = us.length := List.size_toArray
  rw [sz]
  refine wpAny_bind (applied_back (n := us.length) hs pl pt ps ?_)
  have no : ¬ (((us.length : Int) - 1 == 0 && (-1 : Int) == 1 && us.length == us.length) = true) := fun z => by
    rw [Bool.and_eq_true, Bool.and_eq_true] at z
    exact absurd z.1.2 (by decide)
  show wpAny _ _ (if ((us.length : Int) - 1 == 0 && (-1 : Int) == 1 && us.length == us.length) = true then _ else _) _ _ _
  rw [if_neg no, pick_back]
  exact wpAny_bind (m := Builtin.Tuple.tupleExact _) (wpAny_newObj_type (wpAny_pure ⟨_, rfl, wpAny_pure fin⟩) lay)
end
section
variable {X : Cx}
/-- t[::-1], t a tuple -/
def tBackT (K : PySem.W.Frag) (te : TE) : TE := fun σ H Q => te σ H fun x H1 => ∃ a xs, x = .ref a ∧ SqT K H1 a xs ∧ ∀ p, H1 p = none → Q (.ref p) (upd H1 p (.tup xs.reverse))
theorem pe_backT {e : Expr} {te : TE} {k : Nat} {p1 p2 p3 pos : Pos} (he : PE X e te) : PE X (.Subscript e (.Slice none none (some (.UnaryOp .USub (.Constant (.int 1) k p1) p2)) p3) pos) (tBackT X.K te) := by
  refine ⟨fun pins s0 σ H Q I0 h => Subscript_ (thn (he.run pins s0 σ H _ I0 h) fun v1 s1 ⟨x, H1, I1, r1, a, xs, ex, sq, q⟩ => ?_)⟩
  subst ex
  cases r1
  refine wpAny_Slice (thn (po_none.run pins s1 σ H1 (fun o G => o = none ∧ G = H1) I1 ⟨rfl, rfl⟩) ?_)
  rintro low s2 ⟨_, G2, I2, plow, rfl, e2⟩
  subst e2
  refine thn (po_none.run pins s2 σ G2 (fun o G => o = none ∧ G = G2) I2 ⟨rfl, rfl⟩) ?_
  rintro top s3 ⟨_, G3, I3, ptop, rfl, e3⟩
  subst e3
  refine thn ((po_some (pe_un un_neg pe_int)).run pins s3 σ G3 (fun o G => o = some (-1) ∧ G = G3) I3 ⟨1, rfl, -1, rfl, rfl, rfl⟩) ?_
  rintro step s4 ⟨o, G4, I4, pstep, rfl, e4⟩
  subst e4
  have I5 := I4.kept (h' := s4.heap.push { cls := .type "slice", data := .fields #[low, top, step] }) (t' := s4.toks) fun b ob g => Heap.get?_push_of_some _ g
  obtain ⟨us, rv, isT, small⟩ := I5.tuple sq
  have len : us.length = xs.length := rv.length.symm
  refine tail_any (ops := [.ref a, .ref s4.heap.objs.size]) isT.typeIs PyProof.Rows.slot_tuple_getitem.lookup ?_ (by with_unfolding_all rfl)
  refine back_tup isT (Heap.IsSliceOf.new _ low top step) plow ptop pstep ?_ (by omega)
  exact ⟨.ref _, _, I5.laid (t' := s4.toks) (o := .tup xs.reverse) (fun b ob g => Heap.get?_push_of_some _ g) (Nat.le_refl _) ⟨by rw [List.length_reverse]; exact small, _, rv.reverse, IsTup.new _ _⟩, rfl, q _ (I5.hok.fresh (Nat.le_refl _))⟩
end
def WBs (G : Hp) (bs : List WB) : Prop := ∀ b ∈ bs, G b.1 = some (.tup (wv b.2))
theorem WBs.same {G G' : Hp} {bs : List WB} (h : WBs G bs) (s : Same G G') : WBs G' bs := fun b hb => s _ _ (h b hb)
theorem WBs.at_ {G : Hp} {bs : List WB} {ws : List Wi} {n : Nat} {w : Wi} (h : WBs G bs) (e : bs.map (·.2) = ws) (hn : ws[n]? = some w) : ∃ c, (brefs bs)[n]? = some (.ref c) ∧ G c = some (.tup (wv w)) := by
  rw [← e, List.getElem?_map] at hn
  cases hb : bs[n]? with
  | none => rw [hb] at hn; cases hn
  | some b =>
    rw [hb] at hn
    cases hn
    exact ⟨b.1, by rw [List.getElem?_map, hb]; rfl, h b (List.mem_of_getElem? hb)⟩
theorem WBs.keeps {G G' : Hp} {bs : List WB} (h : WBs G bs) (s : Keeps G G') : WBs G' bs := fun b hb => s _ _ (h b hb)
theorem brefs_app (xs ys : List WB) : brefs (xs ++ ys) = brefs xs ++ brefs ys := List.map_append
theorem same_at {H G : Hp} {l : Addr} {o : HO} (s : Same H G) (n : H l = none) : Same H (upd G l o) := fun b x e => by
  rw [upd_ne (ne_of_none e n)]
  exact s _ _ e
theorem sqT_at {K : PySem.W.Frag} {G : Hp} {D b : Addr} {us : List V} {o : HO} {xs : List V} (h : SqT K G b xs) (hD : G D = some (.lst us)) : SqT K (upd G D o) b xs := by
  rcases h with (h | ⟨ob, h⟩) | h
  · exact .inl (.inl (by rw [upd_ne (ne_of h hD (fun z => nomatch z))]; exact h))
  · exact .inl (.inr ⟨ob, by rw [upd_ne (ne_of h hD (fun z => nomatch z))]; exact h⟩)
  · exact .inr h
theorem TabAt.at {K : PySem.W.Frag} {G : Hp} {D t : Addr} {us : List V} {o : HO} {cs : List (Addr × List Int)} (h : TabAt K G t cs) (hD : G D = some (.lst us)) : TabAt K (upd G D o) t cs := ⟨sqT_at h.at_ hD, fun c hc => sqT_at (h.ce c hc) hD, h.rg, h.ln⟩
theorem TbAt.tab {K : PySem.W.Frag} {G : Hp} {q : Nat} {x : Tb} (h : TbAt G q x) (q7 : q ≤ 7) : TabAt K G x.1 x.2 := ⟨.inl (.inl h.at_), fun c hc => .inl (.inl (h.ce c hc)), h.go.inR q7, by
  have l := h.go.len
  rw [List.length_map] at l
  have : q * q ≤ 7 * 7 := Nat.mul_le_mul q7 q7
  omega⟩
/-- tables led, one by one -/
inductive LedAll (ps : List Int) : List (List (List Int)) → List (List (List Int)) → Prop
  | nil : LedAll ps [] []
  | cons {L M : List (List Int)} {Ls Ms : List (List (List Int))} (h : LedBy ps L M) (t : LedAll ps Ls Ms) : LedAll ps (L :: Ls) (M :: Ms)
theorem LedAll.snoc {ps : List Int} {L M : List (List Int)} (h : LedBy ps L M) : ∀ {Ls Ms : List (List (List Int))}, LedAll ps Ls Ms → LedAll ps (Ls ++ [L]) (Ms ++ [M])
  | _, _, .nil => .cons h .nil
  | _, _, .cons r t => .cons r (LedAll.snoc h t)
theorem LedAll.uniq {ps : List Int} : ∀ {Ls Ms Ns : List (List (List Int))}, LedAll ps Ls Ms → LedAll ps Ls Ns → (∀ N ∈ Ns, InR N) → Ms = Ns
  | _, _, _, .nil, .nil, _ => rfl
  | _, _, _, .cons h t, .cons h' t', r => by
    rw [LedBy.uniq (q := 0) h h' (r _ List.mem_cons_self), LedAll.uniq t t' fun N hN => r N (List.mem_cons_of_mem _ hN)]
theorem LedAll.len {ps : List Int} : ∀ {Ls Ms : List (List (List Int))}, LedAll ps Ls Ms → Ms.length = Ls.length
  | _, _, .nil => rfl
  | _, _, .cons _ t => by rw [List.length_cons, List.length_cons, LedAll.len t]
abbrev tabs (ts : List Tb) : List (List (List Int)) := ts.map fun x => x.2.map (·.2)
/-- a plan, by its parts -/
structure PD (K : PySem.W.Frag) (G : Hp) (t : Addr) (q w : Nat) (TT : List (List (List Int))) (RR : List (List Int)) : Prop where
  ex : ∃ (tt tr : Addr) (ts : List Tb) (rs : List (Addr × List Int)), G t = some (.tup [.int (q : Int), .ref tt, .int (w : Int), .ref tr]) ∧ G tt = some (.tup (trefs ts)) ∧ G tr = some (.tup (refs rs)) ∧ (∀ x ∈ ts, TabAt K G x.1 x.2) ∧ Cells G rs ∧ tabs ts = TT ∧ rs.map (·.2) = RR
theorem PD.same {K : PySem.W.Frag} {G G' : Hp} {t : Addr} {q w : Nat} {TT : List (List (List Int))} {RR : List (List Int)} (h : PD K G t q w TT RR) (s : Same G G') : PD K G' t q w TT RR := by
  obtain ⟨tt, tr, ts, rs, h1, h2, h3, h4, h5, h6⟩ := h.ex
  exact ⟨⟨tt, tr, ts, rs, s _ _ h1, s _ _ h2, s _ _ h3, fun x hx => (h4 x hx).same s, h5.same s, h6⟩⟩
def qRows (a : Nat) (RR : List (List Int)) : List (List Int) := (List.range a).map fun i => RR.reverse.map fun r => r.getD i 0
def qW (b : Int) : Wi → Wi
  | (true, n, p) => (false, b - 1 - n, p)
  | (false, n, p) => (true, n, b - p)
def fW (a : Int) : Wi → Wi
  | (true, n, p) => (true, n, a - p)
  | (false, n, p) => (false, a - 1 - n, p)
section
variable {P : Program} {w : World} {K : PySem.W.Frag} {mg : Str → Option Value} {base : Heap}
/-- [led(table) for table in tables] -/
theorem lc_tabs {σ : L2.St} {G : Hp} {Q : VK} {te : TE} {sl kl q : Nat} {tt : Addr} {ts : List Tb} {ps : List Int} (q7 : q ≤ 7) (hk : σ[kl]? = some (some (.ref tt))) (hw : ∀ v, wipe ((wipe σ [sl]).set sl (some v)) [sl] = wipe σ [sl]) (ht : G tt = some (.tup (trefs ts))) (tb : ∀ x ∈ ts, TbAt G q x) (lt : ts.length ≤ 3)
    (hte : ∀ (t : Addr) (cs : List (Addr × List Int)) (G1 : Hp) (R : VK), Same G G1 → TabAt K G1 t cs → (∀ H' t' ws, Same G1 H' → TabAt K H' t' ws → LedBy ps (cs.map (·.2)) (ws.map (·.2)) → R (.ref t') H') → te ((wipe σ [sl]).set sl (some (.ref t))) G1 R)
    (k : ∀ D us G', Same G G' → G D = none → G' D = some (.lst (trefs us)) → (∀ x ∈ us, TabAt K G' x.1 x.2) → LedAll ps (tabs ts) (tabs us) → Q (.ref D) G') : tLc (iTup K (tVar kl)) (gName sl) tYes te [sl] σ G Q := by
  refine ⟨_, hk, tt, rfl, ⟨_, .inl (.inl ht)⟩, fun D nD => ?_⟩
  refine lc_tup (xs := trefs ts) (fun r G' => Same G G' ∧ ∃ us : List Tb, G' D = some (.lst (trefs us)) ∧ us.length = r ∧ (∀ x ∈ us, TabAt K G' x.1 x.2) ∧ LedAll ps (tabs (ts.take r)) (tabs us)) ⟨same_upd nD, [], upd_same, rfl, (fun x hx => nomatch hx), .nil⟩ (fun r G' _ h => .inl (.inl (h.1 _ _ ht))) ?_ ?_
  · rintro r x G' hx ⟨sm, us, hD, lu, tu, la⟩
    have hr : r < ts.length := by have := (List.getElem?_eq_some_iff.mp hx).1; rw [List.length_map] at this; exact this
    have etr : ts[r]? = some ts[r] := List.getElem?_eq_getElem hr
    have hx2 : x = .ref ts[r].1 := by
      rw [List.getElem?_map, etr] at hx
      exact (Option.some.inj hx).symm
    subst hx2
    refine ⟨hw _, ?_⟩
    simp only [tYes, ↓reduceIte]
    refine hte ts[r].1 ts[r].2 G' _ sm (((tb _ (List.getElem_mem hr)).tab q7).same sm) fun G2 t' ws s2 tw led => ?_
    have hD2 := s2 _ _ hD
    refine ⟨_, hD2, Nat.lt_of_lt_of_le (show (trefs us).length < 1000 by rw [List.length_map]; omega) (by decide), same_at (sm.trans s2) nD, us ++ [(t', ws)], by rw [upd_same, trefs_app]; rfl, by rw [List.length_append, lu]; rfl, fun y hy => ?_, ?_⟩
    · rcases List.mem_append.mp hy with hy | hy
      · exact ((tu y hy).same s2).at hD2
      · rw [List.mem_singleton.mp hy]
        exact tw.at hD2
    · unfold tabs
      rw [List.take_add_one, etr, List.map_append, List.map_append]
      exact la.snoc led
  · rintro G' ⟨sm, us, hD, lu, tu, la⟩
    rw [List.length_map, List.take_length] at la
    exact k D us G' sm nD hD tu la
abbrev NQu : List Str := ["plan", "q", "tables", "a", "rows", "led", "i", "row", "table"]
theorem scQuarter : FnScope NQu ["plan"] (defScope sQuarter) := ⟨rfl, rfl, rfl, by decide +kernel, rfl, by decide +kernel, by decide +kernel⟩
abbrev scQi : Scope := { kind := .function, names := [(".0", .local), ("i", .cell), ("tuple", .globalImplicit), ("reversed", .globalImplicit), ("rows", .cell)], isGenerator := false, isCoroutine := false }
def teQi (K : PySem.W.Frag) : TE := tOp (rIxT K) (tVar 7) (tVar 6)
def teQo (K : PySem.W.Frag) : TE := tCB (rTupOf K) (tCons (tLc (iRevA K (tVar 4)) (gName 7) tYes (teQi K) [7]) tNil)
def teQt (K : PySem.W.Frag) : TE := tCall (spLed pT K) [] E0 (tCons (tVar 8) tNil)
theorem walk_revT {a : Addr} {xs : List V} : Walk (ItvT K a xs.length) xs.length (fun H => SqT K H a xs) (fun i H x H' => H' = H ∧ xs[xs.length - 1 - i]? = some x) :=
  ⟨fun i _ hi q => ⟨hi, xs, xs[xs.length - 1 - i]'(by omega), q, List.getElem?_eq_getElem (by omega)⟩, fun _ _ => Nat.le_refl _, fun _ _ _ _ _ q y => ⟨y.1, y.2 xs q⟩⟩
theorem atD {xs : List Int} {i : Nat} (h : i < xs.length) : atI (xs.map V.int) ((i : Nat) : Int) = some (.int (xs.getD i 0)) := atI_nat (by
  rw [List.getElem?_map, List.getElem?_eq_getElem h, List.getD_eq_getElem?_getD, List.getElem?_eq_getElem h]
  rfl)
theorem rev_take {α : Type} (l : List α) {r : Nat} (h : r < l.length) : l.reverse.take (r + 1) = l.reverse.take r ++ [l[l.length - 1 - r]'(by omega)] := by
  rw [List.take_add_one, List.getElem?_reverse h, List.getElem?_eq_getElem (by omega)]
  rfl
def spQuarter (K : PySem.W.Frag) : Sp := fun vs H Q _ => ∃ (t : Addr) (q a b : Nat) (ts : List Tb) (rs : List (Addr × List Int)), vs = [.ref t] ∧ PlanAt H t q a b ts rs ∧ q ≤ 7 ∧ a ≤ 9 ∧ b ≤ 9 ∧ ∀ t' TT H', Same H H' → H t' = none → PD K H' t' q b TT (qRows a (rs.map (·.2))) → LedAll pT (tabs ts) TT → Q (.ref t') H'
/-- [row[i] for row in reversed(rows)], made a tuple -/
theorem q_row {σ : L2.St} {G : Hp} {Q : VK} {tr : Addr} {a i : Nat} {rs : List (Addr × List Int)} (h4 : σ[4]? = some (some (.ref tr))) (hw : ∀ v, wipe ((wipe σ [7]).set 7 (some v)) [7] = wipe σ [7]) (h7 : ∀ v, ((wipe σ [7]).set 7 (some v))[7]? = some (some v)) (h6 : ∀ v, ((wipe σ [7]).set 7 (some v))[6]? = some (some (.int (i : Int)))) (ht : G tr = some (.tup (refs rs))) (ce : Cells G rs) (la : ∀ r ∈ rs, r.2.length = a) (ia : i < a) (lr : rs.length ≤ 9)
    (k : ∀ t G', Same G G' → G t = none → G' t = some (.tup ((rs.map (·.2)).reverse.map fun r => r.getD i 0 |> V.int)) → Q (.ref t) G') : teQo K σ G Q := by
  unfold teQo
  refine tcb_run ?_
  refine ⟨.ref tr, h4, tr, refs rs, rfl, .inr ⟨.inl (.inl ht), fun D nD => ?_⟩⟩
  have len : (refs rs).length = rs.length := List.length_map _
  refine lc_it walk_revT (fun r G' => Same G G' ∧ G' D = some (.lst (((rs.map (·.2)).reverse.take r).map fun r => r.getD i 0 |> V.int))) ⟨same_upd nD, upd_same⟩ (fun r G' _ h => .inl (.inl (h.1 _ _ ht))) ?_ ?_
  · rintro r x G' _ hr ⟨sm, hD⟩ ⟨rfl, hx⟩
    rw [len] at hr hx
    have hj : rs.length - 1 - r < rs.length := by omega
    have ex : x = .ref rs[rs.length - 1 - r].1 := by
      rw [List.getElem?_map, List.getElem?_eq_getElem hj] at hx
      exact (Option.some.inj hx).symm
    subst ex
    refine ⟨hw _, ?_⟩
    simp only [tYes, ↓reduceIte]
    have mm := List.getElem_mem hj
    refine ⟨_, h7 _, .int (i : Int), h6 _, _, _, _, _, rfl, rfl, .inl (.inl (sm _ _ (ce _ mm))), atD (by rw [la _ mm]; exact ia), _, hD, ?_, same_at sm nD, ?_⟩
    · rw [List.length_map, List.length_take, List.length_reverse, List.length_map]
      exact Nat.lt_of_le_of_lt (show _ ≤ 9 by omega) (by decide)
    · rw [upd_same, rev_take _ (show r < (rs.map (·.2)).length by rw [List.length_map]; exact hr), List.map_append]
      congr 2
      simp
  · rintro G' ⟨sm, hD⟩
    rw [len, List.take_of_length_le (by rw [List.length_reverse, List.length_map]; exact Nat.le_refl _)] at hD
    exact ⟨D, _, rfl, .inl ⟨.inl (.inl hD), fun t nt => k t _ (sm.trans (same_upd nt)) (same_none sm nt) upd_same⟩⟩
theorem ok_quarter {f fTu : Addr} {fd fdTu : FuncData} {k : Nat} (F : Fun K "quarter" "quarter" sQuarter f fd) (FTu : Fun K "turned" "turned" sTurned fTu fdTu) (bTu : Binds K fdTu ["table"] []) (gTu : mg "turned" = some (.ref fTu)) (ml : mg "len" = none) (mtup : mg "tuple" = none) (ms : mg "sorted" = none) (mr : mg "range" = none) (mrev : mg "reversed" = none) : FnOk P w K mg base CX0 (k + 2) f fd ["plan"] (spQuarter K) := by
  have GTu : FnOk P w K mg base CX0 (k + 1) fTu fdTu ["table"] (spLed pT K) := ok_turned FTu mtup ms
  refine F.ok scQuarter (fun vs H Q E h => ?_) (fun cdv A outer s H vs Q E hr h => ?_)
  · obtain ⟨t, q, a, b, ts, rs, rfl, _⟩ := h
    rfl
  obtain ⟨t, q, a, b, ts, rs, rfl, pl, q7, a9, b9, kk⟩ := h
  have nd := scQuarter.nd
  refine ⟨_, pss_cons (ps_asg (pv 0) (pg_tup rfl (pgs_cons (pg_name (i := 1) nd rfl (.inl rfl)) (pgs_cons (pg_name (i := 2) nd rfl (.inl rfl)) (pgs_cons (pg_name (i := 3) nd rfl (.inl rfl)) (pgs_cons (pg_name (i := 4) nd rfl (.inr rfl)) pgs_nil))))))
      (pss_cons (ps_set (i := 5) nd rfl (.inl rfl) (pe_callTy call_tuple_of (by rfl) mtup (by decide +kernel) (pa_cons (pe_lc (own := [("i", 6)]) (g := gName 6) (tt := tYes) (te := teQo K) rfl nd (pi_range1 (by rfl) mr (pa_cons (pv 3) pa_nil)) (blkOk_by (own := [("i", 6)]) (N := NQu) (sc := defScope sQuarter) (by decide +kernel)) (fun _ _ _ _ _ => pg_name (i := 6) nd rfl (.inr rfl)) (fun _ _ _ _ _ => pts_nil) (fun _ _ _ _ _ => (pe_callTy call_tuple_of (by rfl) mtup (by decide +kernel) (pa_cons (pe_lc (own := [("row", 7)]) (g := gName 7) (tt := tYes) (te := teQi K) rfl nd (pi_revA (by rfl) mrev (pv 4)) (blkOk_by (own := [("row", 7)]) (N := NQu) (sc := scQi) (by decide +kernel)) (fun _ _ _ _ _ => pg_name (i := 7) nd rfl (.inl rfl)) (fun _ _ _ _ _ => pts_nil) (fun _ _ _ _ _ => (pe_ix ix_tup (pv 7) (pv 6) (fun _ _ => rfl)))) pa_nil)))) pa_nil)))
      (pss_one (ps_ret (pe_tup (pa_cons (pv 1) (pa_cons (pe_callTy call_tuple_of (by rfl) mtup (by decide +kernel) (pa_cons (pe_lc (own := [("table", 8)]) (g := gName 8) (tt := tYes) (te := teQt K) rfl nd (pi_tup (pv 2)) (blkOk_by (own := [("table", 8)]) (N := NQu) (sc := defScope sQuarter) (by decide +kernel)) (fun _ _ _ _ _ => pg_name (i := 8) nd rfl (.inl rfl)) (fun _ _ _ _ _ => pts_nil) (fun _ _ _ _ _ => (pe_call GTu (hr.mono (by omega)) (by rfl) gTu FTu.kp bTu .nil pass0 (pa_cons (pv 8) pa_nil)))) pa_nil)) (pa_cons (pe_callB call_len_seq (by rfl) ml PySem.boot_len (pa_cons (pv 4) pa_nil)) (pa_cons (pv 5) pa_nil)))))))), ?_⟩
  obtain ⟨tt, tr, h1, h2, h3⟩ := pl.ex
  refine ⟨.ref t, rfl, t, _, rfl, .inl (.inl h1), rfl, _, _, rfl, _, _, rfl, _, _, rfl, _, _, rfl, rfl, ?_⟩
  show tSeq (tAsg (tCB (rTupOf K) (tCons (tLc (iRng1 (tCons (tVar 3) tNil)) (gName 6) tYes (teQo K) [6]) tNil)) (gName 5)) _ _ [some (.ref t), some (.int (q : Int)), some (.ref tt), some (.int (a : Int)), some (.ref tr), none, none, none, none] H
  refine seqAsg (tcb_run ?_)
  refine ⟨.int (a : Int), rfl, (a : Int), rfl, by omega, by omega, fun D nD => ?_⟩
  refine lc_range (lo := 0) (n := (a : Int).toNat) (fun i G => Same H G ∧ ∃ cs : List (Addr × List Int), G D = some (.lst (refs cs)) ∧ cs.length = i ∧ Cells G cs ∧ cs.map (·.2) = qRows i (rs.map (·.2))) ⟨same_upd nD, [], upd_same, rfl, (fun c hc => nomatch hc), rfl⟩ ?_ ?_
  · rintro i G hi ⟨sm, cs, hD, lc, ce, ec⟩
    rw [Int.zero_add]
    refine ⟨rfl, ?_⟩
    simp only [tYes, ↓reduceIte]
    refine q_row (tr := tr) (a := a) (i := i) (rs := rs) rfl (fun v => rfl) (fun v => rfl) (fun v => rfl) (sm _ _ h3) (pl.ce.same sm) pl.la (by omega) (by rw [pl.lr]; exact b9) fun tq G' s' nq hq => ?_
    have hD' := s' _ _ hD
    have kp : Keeps G' (upd G' D (.lst (refs cs ++ [.ref tq]))) := Keeps.at hD' (fun xs z => nomatch z)
    refine ⟨_, hD', Nat.lt_of_lt_of_le (show (refs cs).length < 1000 by rw [List.length_map]; omega) (by decide), same_at (sm.trans s') nD, cs ++ [(tq, (rs.map (·.2)).reverse.map fun r => r.getD i 0)], by rw [upd_same, refs_app]; rfl, by rw [List.length_append, lc]; rfl, fun c hc => ?_, ?_⟩
    · rcases List.mem_append.mp hc with hc | hc
      · exact kp _ _ (s' _ _ (ce c hc))
      · rw [List.mem_singleton.mp hc]
        refine kp _ _ ?_
        rw [hq, List.map_map]
        rfl
    · rw [List.map_append, ec]
      unfold qRows
      rw [List.range_succ, List.map_append]
      rfl
  rintro G ⟨sm, cs, hD, lc, ce, ec⟩
  rw [Int.toNat_natCast] at ec lc
  refine ⟨D, _, rfl, .inl ⟨.inl (.inl hD), fun tq ntq => ?_⟩⟩
  have s2 := same_upd (o := .tup (refs cs)) ntq
  have sm2 := sm.trans s2
  have hq2 := upd_same (H := G) (a := tq) (o := .tup (refs cs))
  have ce2 := Cells.same ce s2
  generalize upd G tq (.tup (refs cs)) = H2 at sm2 hq2 ce2 ⊢
  show tRet (tTup (tCons (tVar 1) (tCons (tCB (rTupOf K) (tCons (tLc (iTup K (tVar 2)) (gName 8) tYes (teQt K) [8]) tNil)) (tCons (tCB (rLen K) (tCons (tVar 4) tNil)) (tCons (tVar 5) tNil))))) _ [some (.ref t), some (.int (q : Int)), some (.ref tt), some (.int (a : Int)), some (.ref tr), some (.ref tq), none, none, none] H2
  refine ⟨.int (q : Int), rfl, ?_⟩
  refine tcons_run (tcb_run ?_)
  refine lc_tabs (q := q) (tt := tt) (ts := ts) (ps := pT) q7 rfl (fun v => rfl) (sm2 _ _ h2) (fun x hx => (pl.tb x hx).keeps (Keeps.same sm2)) pl.lt (fun t cs G R _ tab h => ⟨_, rfl, t, cs, rfl, tab, h⟩) fun D2 us G2 sg nD2 hD2 tu la => ?_
  refine ⟨D2, _, rfl, .inl ⟨.inl (.inl hD2), fun tw ntw => ?_⟩⟩
  have s4 := same_upd (o := .tup (trefs us)) ntw
  have sm4 := sm2.trans (sg.trans s4)
  have h34 := sm4 _ _ h3
  refine ⟨.ref tr, rfl, tr, _, rfl, .inr (.inl (.inl h34)), .ref tq, rfl, by show 4 ≤ sizeLine; decide, fun t' nt' => ?_⟩
  have s5 := same_upd (o := .tup [.int (q : Int), .ref tw, .int ((refs rs).length : Int), .ref tq]) nt'
  have n0 : H t' = none := same_none sm4 nt'
  refine kk t' (tabs us) _ (sm4.trans s5) n0 ⟨⟨tw, tq, us, cs, ?_, s5 _ _ upd_same, s5 _ _ (s4 _ _ (sg _ _ hq2)), fun x hx => ((tu x hx).same s4).same s5, ((ce2.same sg).same s4).same s5, rfl, ec⟩⟩ la
  rw [upd_same, show (refs rs).length = b by rw [List.length_map, pl.lr]]

end
end C2

namespace C2
set_option Elab.async false
set_option linter.all false
set_option maxRecDepth 100000
set_option maxHeartbeats 1000000
open PySem PySem.Spec PyProof.Rows L2 HT RT
theorem flat_snoc {α : Type} (f : Nat → List α) (r : Nat) : (List.range (r + 1)).flatMap f = (List.range r).flatMap f ++ f r := by
  rw [List.range_succ, List.flatMap_append, List.flatMap_cons, List.flatMap_nil, List.append_nil]
/-! ### all wires, sorted -/
def allR (a b : Nat) : List Wi := (List.range b).flatMap (fun j => rowW j a) ++ (List.range a).flatMap (fun i => colW i b)
theorem all_r {a b : Nat} {w : Wi} : w ∈ allR a b ↔ InW a b w := by
  rw [← all_w]
  unfold allR allW
  rw [List.mem_append, List.mem_append, or_comm]
theorem nodup_flat {f : Nat → List Wi} (h1 : ∀ j, (f j).Nodup) (h2 : ∀ j, ∀ w ∈ f j, w.2.1 = (j : Int)) : ∀ r, ((List.range r).flatMap f).Nodup
  | 0 => by simp
  | r + 1 => by
    rw [flat_snoc]
    refine List.nodup_append.mpr ⟨nodup_flat h1 h2 r, h1 r, fun x hx y hy e => ?_⟩
    subst e
    obtain ⟨j, hj, hxj⟩ := List.mem_flatMap.mp hx
    have e1 := h2 j _ hxj
    have e2 := h2 r _ hy
    have := List.mem_range.mp hj
    omega
theorem nodup_map_of {α β : Type} {f : α → β} : ∀ {l : List α}, l.Nodup → (∀ x ∈ l, ∀ y ∈ l, f x = f y → x = y) → (l.map f).Nodup
  | [], _, _ => List.nodup_nil
  | x :: l, h, i => by
    obtain ⟨h1, h2⟩ := List.nodup_cons.mp h
    rw [List.map_cons]
    refine List.nodup_cons.mpr ⟨fun z => ?_, nodup_map_of h2 fun a ha b hb => i a (List.mem_cons_of_mem _ ha) b (List.mem_cons_of_mem _ hb)⟩
    obtain ⟨y, hy, e⟩ := List.mem_map.mp z
    exact h1 (i x List.mem_cons_self y (List.mem_cons_of_mem _ hy) e.symm ▸ hy)
theorem all_nodup (a b : Nat) : (allR a b).Nodup := by
  unfold allR
  refine List.nodup_append.mpr ⟨nodup_flat (fun j => ?_) (fun j w hw => ?_) b, nodup_flat (fun j => ?_) (fun j w hw => ?_) a, fun x hx y hy e => ?_⟩
  · exact nodup_map_of List.nodup_range fun x _ y _ e => by
      have : (x : Int) = (y : Int) := congrArg (fun w : Wi => w.2.2) e
      omega
  · obtain ⟨x, _, rfl⟩ := List.mem_map.mp hw
    rfl
  · exact nodup_map_of List.nodup_range fun x _ y _ e => by
      have : (x : Int) = (y : Int) := congrArg (fun w : Wi => w.2.2) e
      omega
  · obtain ⟨x, _, rfl⟩ := List.mem_map.mp hw
    rfl
  · subst e
    obtain ⟨j, _, h⟩ := List.mem_flatMap.mp hx
    obtain ⟨i, _, h'⟩ := List.mem_flatMap.mp hy
    obtain ⟨p, _, rfl⟩ := List.mem_map.mp h
    obtain ⟨p', _, e⟩ := List.mem_map.mp h'
    cases congrArg (fun w : Wi => w.1) e
/-- in rising order -/
def sortW (ws : List Wi) : List Wi := ((ws.map fun w => ((0, w) : WB)).mergeSort leW).map (·.2)
theorem tag_w (ws : List Wi) : (ws.map fun w => ((0, w) : WB)).map (·.2) = ws := by
  rw [List.map_map]
  exact List.map_id _
theorem sortW_of {bs : List WB} {ws : List Wi} (nb : (bs.map (·.2)).Nodup) (nw : ws.Nodup) (h : ∀ x, x ∈ bs.map (·.2) ↔ x ∈ ws) : (bs.mergeSort leW).map (·.2) = sortW ws := sort_one nb (by rw [tag_w]; exact nw) (by rw [tag_w]; exact h)
theorem sortW_mem {ws : List Wi} {w : Wi} : w ∈ sortW ws ↔ w ∈ ws := by
  have p : (sortW ws).Perm ((ws.map fun w => ((0, w) : WB)).map (·.2)) := (List.mergeSort_perm _ leW).map _
  rw [tag_w] at p
  exact p.mem_iff
theorem sortW_nodup {ws : List Wi} (h : ws.Nodup) : (sortW ws).Nodup := by
  have p : (sortW ws).Perm ((ws.map fun w => ((0, w) : WB)).map (·.2)) := (List.mergeSort_perm _ leW).map _
  rw [tag_w] at p
  exact p.nodup_iff.mpr h
theorem qW_in {a b : Int} {w : Wi} : InW b a (qW b w) ↔ InW a b w := by
  obtain ⟨r, n, p⟩ := w
  cases r
  · show InW b a (true, n, b - p) ↔ InW a b (false, n, p)
    unfold InW
    constructor
    · rintro (⟨_, ⟨h1, h2⟩, h3, h4⟩ | ⟨h, _⟩)
      · exact .inr ⟨rfl, ⟨h1, h2⟩, by show 0 ≤ p; have : b - p ≤ b := h4; omega, by show p ≤ b; have : 0 ≤ b - p := h3; omega⟩
      · cases h
    · rintro (⟨h, _⟩ | ⟨_, ⟨h1, h2⟩, h3, h4⟩)
      · cases h
      · exact .inl ⟨rfl, ⟨h1, h2⟩, by show 0 ≤ b - p; have : p ≤ b := h4; omega, by show b - p ≤ b; have : 0 ≤ p := h3; omega⟩
  · show InW b a (false, b - 1 - n, p) ↔ InW a b (true, n, p)
    unfold InW
    constructor
    · rintro (⟨h, _⟩ | ⟨_, ⟨h1, h2⟩, h3, h4⟩)
      · cases h
      · exact .inl ⟨rfl, ⟨by show 0 ≤ n; have : b - 1 - n < b := h2; omega, by show n < b; have : 0 ≤ b - 1 - n := h1; omega⟩, h3, h4⟩
    · rintro (⟨_, ⟨h1, h2⟩, h3, h4⟩ | ⟨h, _⟩)
      · exact .inr ⟨rfl, ⟨by show 0 ≤ b - 1 - n; have : n < b := h2; omega, by show b - 1 - n < b; have : 0 ≤ n := h1; omega⟩, h3, h4⟩
      · cases h
theorem fW_in {a b : Int} {w : Wi} : InW a b (fW a w) ↔ InW a b w := by
  obtain ⟨r, n, p⟩ := w
  cases r
  · show InW a b (false, a - 1 - n, p) ↔ InW a b (false, n, p)
    unfold InW
    constructor
    · rintro (⟨h, _⟩ | ⟨_, ⟨h1, h2⟩, h3, h4⟩)
      · cases h
      · exact .inr ⟨rfl, ⟨by show 0 ≤ n; have : a - 1 - n < a := h2; omega, by show n < a; have : 0 ≤ a - 1 - n := h1; omega⟩, h3, h4⟩
    · rintro (⟨h, _⟩ | ⟨_, ⟨h1, h2⟩, h3, h4⟩)
      · cases h
      · exact .inr ⟨rfl, ⟨by show 0 ≤ a - 1 - n; have : n < a := h2; omega, by show a - 1 - n < a; have : 0 ≤ n := h1; omega⟩, h3, h4⟩
  · show InW a b (true, n, a - p) ↔ InW a b (true, n, p)
    unfold InW
    constructor
    · rintro (⟨_, ⟨h1, h2⟩, h3, h4⟩ | ⟨h, _⟩)
      · exact .inl ⟨rfl, ⟨h1, h2⟩, by show 0 ≤ p; have : a - p ≤ a := h4; omega, by show p ≤ a; have : 0 ≤ a - p := h3; omega⟩
      · cases h
    · rintro (⟨_, ⟨h1, h2⟩, h3, h4⟩ | ⟨h, _⟩)
      · exact .inl ⟨rfl, ⟨h1, h2⟩, by show 0 ≤ a - p; have : p ≤ a := h4; omega, by show a - p ≤ a; have : 0 ≤ p := h3; omega⟩
      · cases h
def qB (b : Int) : Wi → Wi
  | (false, n, p) => (true, b - 1 - n, p)
  | (true, n, p) => (false, n, b - p)
theorem qB_q (b : Int) (w : Wi) : qB b (qW b w) = w := by
  obtain ⟨r, n, p⟩ := w
  cases r
  · show ((false, n, b - (b - p)) : Wi) = _
    rw [show b - (b - p) = p by omega]
  · show ((true, b - 1 - (b - 1 - n), p) : Wi) = _
    rw [show b - 1 - (b - 1 - n) = n by omega]
theorem q_qB (b : Int) (w : Wi) : qW b (qB b w) = w := by
  obtain ⟨r, n, p⟩ := w
  cases r
  · show ((false, b - 1 - (b - 1 - n), p) : Wi) = _
    rw [show b - 1 - (b - 1 - n) = n by omega]
  · show ((true, n, b - (b - p)) : Wi) = _
    rw [show b - (b - p) = p by omega]
theorem f_f (a : Int) (w : Wi) : fW a (fW a w) = w := by
  obtain ⟨r, n, p⟩ := w
  cases r
  · show ((false, a - 1 - (a - 1 - n), p) : Wi) = _
    rw [show a - 1 - (a - 1 - n) = n by omega]
  · show ((true, n, a - (a - p)) : Wi) = _
    rw [show a - (a - p) = p by omega]
/-- all wires led come to all wires -/
theorem led_q {a b : Nat} {bs : List WB} {L : List Wi} (e : bs.map (·.2) = L.map (qW b)) (hn : L.Nodup) (hm : ∀ w, w ∈ L ↔ InW a b w) : (bs.mergeSort leW).map (·.2) = sortW (allR b a) := by
  refine sortW_of ?_ (all_nodup b a) fun x => ?_
  · rw [e]
    exact nodup_map_of hn fun x _ y _ h => by rw [← qB_q b x, h, qB_q]
  · rw [e, List.mem_map, all_r]
    constructor
    · rintro ⟨w, hw, rfl⟩
      exact qW_in.mpr ((hm w).mp hw)
    · intro h
      refine ⟨qB b x, (hm _).mpr (qW_in.mp ?_), q_qB b x⟩
      rw [q_qB]
      exact h
theorem led_f {a b : Nat} {bs : List WB} {L : List Wi} (e : bs.map (·.2) = L.map (fW a)) (hn : L.Nodup) (hm : ∀ w, w ∈ L ↔ InW a b w) : (bs.mergeSort leW).map (·.2) = sortW (allR a b) := by
  refine sortW_of ?_ (all_nodup a b) fun x => ?_
  · rw [e]
    exact nodup_map_of hn fun x _ y _ h => by rw [← f_f a x, h, f_f]
  · rw [e, List.mem_map, all_r]
    constructor
    · rintro ⟨w, hw, rfl⟩
      exact fW_in.mpr ((hm w).mp hw)
    · intro h
      refine ⟨fW a x, (hm _).mpr (fW_in.mp ?_), f_f a x⟩
      rw [f_f]
      exact h
section
variable {P : Program} {w : World} {K : PySem.W.Frag} {mg : Str → Option Value} {base : Heap}
abbrev NFl : List Str := ["plan", "q", "tables", "a", "rows", "table", "row"]
theorem scFlip : FnScope NFl ["plan"] (defScope sFlip) := ⟨rfl, rfl, rfl, by decide +kernel, rfl, by decide +kernel, by decide +kernel⟩
def teFt (K : PySem.W.Frag) : TE := tCall (spLed pF K) [] E0 (tCons (tVar 5) tNil)
def teFr (K : PySem.W.Frag) : TE := tBackT K (tVar 6)
def spFlip (K : PySem.W.Frag) : Sp := fun vs H Q _ => ∃ (t : Addr) (q a b : Nat) (ts : List Tb) (rs : List (Addr × List Int)), vs = [.ref t] ∧ PlanAt H t q a b ts rs ∧ q ≤ 7 ∧ a ≤ 9 ∧ b ≤ 9 ∧ ∀ t' TT H', Same H H' → H t' = none → PD K H' t' q a TT ((rs.map (·.2)).map List.reverse) → LedAll pF (tabs ts) TT → Q (.ref t') H'
theorem ok_flip {f fFl : Addr} {fd fdFl : FuncData} {k : Nat} (F : Fun K "flip" "flip" sFlip f fd) (FFl : Fun K "flipped" "flipped" sFlipped fFl fdFl) (bFl : Binds K fdFl ["table"] []) (gFl : mg "flipped" = some (.ref fFl)) (mtup : mg "tuple" = none) (ms : mg "sorted" = none) : FnOk P w K mg base CX0 (k + 2) f fd ["plan"] (spFlip K) := by
  have GFl : FnOk P w K mg base CX0 (k + 1) fFl fdFl ["table"] (spLed pF K) := ok_flipped FFl mtup ms
  refine F.ok scFlip (fun vs H Q E h => ?_) (fun cdv A outer s H vs Q E hr h => ?_)
  · obtain ⟨t, q, a, b, ts, rs, rfl, _⟩ := h
    rfl
  obtain ⟨t, q, a, b, ts, rs, rfl, pl, q7, a9, b9, kk⟩ := h
  have nd := scFlip.nd
  refine ⟨_, pss_cons (ps_asg (pv 0) (pg_tup rfl (pgs_cons (pg_name (i := 1) nd rfl (.inl rfl)) (pgs_cons (pg_name (i := 2) nd rfl (.inl rfl)) (pgs_cons (pg_name (i := 3) nd rfl (.inl rfl)) (pgs_cons (pg_name (i := 4) nd rfl (.inl rfl)) pgs_nil))))))
      (pss_one (ps_ret (pe_tup (pa_cons (pv 1) (pa_cons (pe_callTy call_tuple_of (by rfl) mtup (by decide +kernel) (pa_cons (pe_lc (own := [("table", 5)]) (g := gName 5) (tt := tYes) (te := teFt K) rfl nd (pi_tup (pv 2)) (blkOk_by (own := [("table", 5)]) (N := NFl) (sc := defScope sFlip) (by decide +kernel)) (fun _ _ _ _ _ => pg_name (i := 5) nd rfl (.inl rfl)) (fun _ _ _ _ _ => pts_nil) (fun _ _ _ _ _ => (pe_call GFl (hr.mono (by omega)) (by rfl) gFl FFl.kp bFl .nil pass0 (pa_cons (pv 5) pa_nil)))) pa_nil)) (pa_cons (pv 3) (pa_cons (pe_callTy call_tuple_of (by rfl) mtup (by decide +kernel) (pa_cons (pe_lc (own := [("row", 6)]) (g := gName 6) (tt := tYes) (te := teFr K) rfl nd (pi_tup (pv 4)) (blkOk_by (own := [("row", 6)]) (N := NFl) (sc := defScope sFlip) (by decide +kernel)) (fun _ _ _ _ _ => pg_name (i := 6) nd rfl (.inl rfl)) (fun _ _ _ _ _ => pts_nil) (fun _ _ _ _ _ => (pe_backT (pv 6)))) pa_nil)) pa_nil))))))), ?_⟩
  obtain ⟨tt, tr, h1, h2, h3⟩ := pl.ex
  refine ⟨.ref t, rfl, t, _, rfl, .inl (.inl h1), rfl, _, _, rfl, _, _, rfl, _, _, rfl, _, _, rfl, rfl, ?_⟩
  show tRet (tTup (tCons (tVar 1) (tCons (tCB (rTupOf K) (tCons (tLc (iTup K (tVar 2)) (gName 5) tYes (teFt K) [5]) tNil)) (tCons (tVar 3) (tCons (tCB (rTupOf K) (tCons (tLc (iTup K (tVar 4)) (gName 6) tYes (teFr K) [6]) tNil)) tNil))))) _ [some (.ref t), some (.int (q : Int)), some (.ref tt), some (.int (a : Int)), some (.ref tr), none, none] H
  refine ⟨.int (q : Int), rfl, ?_⟩
  refine tcons_run (tcb_run ?_)
  refine lc_tabs (q := q) (tt := tt) (ts := ts) (ps := pF) q7 rfl (fun v => rfl) h2 pl.tb pl.lt (fun t cs G R _ tab h => ⟨_, rfl, t, cs, rfl, tab, h⟩) fun D2 us G2 sg nD2 hD2 tu la => ?_
  refine ⟨D2, _, rfl, .inl ⟨.inl (.inl hD2), fun tw ntw => ?_⟩⟩
  have s4 := same_upd (o := .tup (trefs us)) ntw
  have sm4 := sg.trans s4
  have htw := upd_same (H := G2) (a := tw) (o := .tup (trefs us))
  have tu4 : ∀ x ∈ us, TabAt K (upd G2 tw (.tup (trefs us))) x.1 x.2 := fun x hx => (tu x hx).same s4
  generalize upd G2 tw (.tup (trefs us)) = H4 at sm4 htw tu4 ⊢
  refine ⟨.int (a : Int), rfl, ?_⟩
  refine tcons_run (tcb_run ?_)
  refine ⟨.ref tr, rfl, tr, rfl, ⟨_, .inl (.inl (sm4 _ _ h3))⟩, fun D nD => ?_⟩
  have len : (refs rs).length = rs.length := List.length_map _
  have lr := pl.lr
  refine lc_tup (xs := refs rs) (fun r G => Same H4 G ∧ ∃ cs : List (Addr × List Int), G D = some (.lst (refs cs)) ∧ cs.length = r ∧ Cells G cs ∧ cs.map (·.2) = ((rs.map (·.2)).take r).map List.reverse) ⟨same_upd nD, [], upd_same, rfl, (fun c hc => nomatch hc), rfl⟩ (fun r G _ h => .inl (.inl (h.1 _ _ (sm4 _ _ h3)))) ?_ ?_
  · rintro r x G hx ⟨sm, cs, hD, lc, ce, ec⟩
    obtain ⟨hi, rfl⟩ := ref_at hx
    refine ⟨rfl, ?_⟩
    simp only [tYes, ↓reduceIte]
    have hc := sm _ _ (sm4 _ _ (pl.ce _ (List.getElem_mem hi)))
    refine ⟨_, rfl, _, _, rfl, .inl (.inl hc), fun c nc => ?_⟩
    have sc := same_upd (o := .tup (rs[r].2.map V.int).reverse) nc
    have hD' := sc _ _ hD
    refine ⟨_, hD', Nat.lt_of_lt_of_le (show (refs cs).length < 1000 by rw [List.length_map]; omega) (by decide), same_at (sm.trans sc) nD, cs ++ [(c, rs[r].2.reverse)], by rw [upd_same, refs_app]; rfl, by rw [List.length_append, lc]; rfl, fun z hz => ?_, ?_⟩
    · have kp : Keeps (upd G c (.tup (rs[r].2.map V.int).reverse)) _ := Keeps.at (o' := .lst (refs cs ++ [.ref c])) hD' (fun xs z => nomatch z)
      rcases List.mem_append.mp hz with hz | hz
      · exact kp _ _ (sc _ _ (ce z hz))
      · rw [List.mem_singleton.mp hz]
        refine kp _ _ ?_
        rw [upd_same, ← List.map_reverse]
    · rw [List.map_append, ec, List.take_add_one, List.getElem?_map, List.getElem?_eq_getElem hi, List.map_append]
      rfl
  rintro G ⟨sm, cs, hD, lc, ce, ec⟩
  rw [len] at ec lc
  rw [List.take_of_length_le (by rw [List.length_map]; exact Nat.le_refl _)] at ec
  refine ⟨D, _, rfl, .inl ⟨.inl (.inl hD), fun tq ntq => ⟨by show 4 ≤ sizeLine; decide, fun t' nt' => ?_⟩⟩⟩
  have s5 := same_upd (o := .tup (refs cs)) ntq
  have s6 := same_upd (o := .tup [.int (q : Int), .ref tw, .int (a : Int), .ref tq]) nt'
  have n0 : H t' = none := same_none (sm4.trans (sm.trans s5)) nt'
  have s56 := s5.trans s6
  exact kk t' (tabs us) _ (sm4.trans (sm.trans s56)) n0 ⟨⟨tw, tq, us, cs, upd_same, s56 _ _ (sm _ _ htw), s6 _ _ upd_same, fun x hx => ((tu4 x hx).same sm).same s56, Cells.same ce s56, rfl, ec⟩⟩ la
abbrev NWQWire : List Str := ["a", "b", "wire", "word", "number", "place"]
theorem scQWire : FnScope NWQWire ["a", "b", "wire"] (defScope sQWire) := ⟨rfl, rfl, rfl, by decide +kernel, rfl, by decide +kernel, by decide +kernel⟩
def spQWire : Sp := fun vs H Q _ => ∃ (a b : Int) (c : Addr) (x : Wi), vs = [.int a, .int b, .ref c] ∧ H c = some (.tup (wv x)) ∧ ∀ c' H', Same H H' → H c' = none → H' c' = some (.tup (wv (qW b x))) → Q (.ref c') H'
theorem ok_QWire {f : Addr} {fd : FuncData} {k : Nat} (F : Fun K "quarter_wire" "quarter_wire" sQWire f fd) : FnOk P w K mg base CX0 (k + 1) f fd ["a", "b", "wire"] spQWire := by
  refine F.ok scQWire (fun vs H Q E h => ?_) (fun cdv A outer s H vs Q E hr h => ?_)
  · obtain ⟨a, b, c, x, rfl, _⟩ := h
    rfl
  obtain ⟨a, b, c, x, rfl, hc, q⟩ := h
  have nd := scQWire.nd
  refine ⟨_, pss_cons (ps_asg (pv 2) (pg_tup rfl (pgs_cons (pg_name (i := 3) nd rfl (.inl rfl)) (pgs_cons (pg_name (i := 4) nd rfl (.inl rfl)) (pgs_cons (pg_name (i := 5) nd rfl (.inl rfl)) pgs_nil)))))
      (pss_cons (ps_if (pt_cmpR op_eq (pv 3) pe_str (nomark _)) (pss_one (ps_ret (pe_tup (pa_cons pe_str (pa_cons (pe_op op_sub (pe_op op_sub (pv 1) pe_int) (pv 4)) (pa_cons (pv 5) pa_nil)))))) pss_nil)
      (pss_one (ps_ret (pe_tup (pa_cons pe_str (pa_cons (pv 4) (pa_cons (pe_op op_sub (pv 1) (pv 5)) pa_nil))))))), ?_⟩
  obtain ⟨r, n, p⟩ := x
  refine ⟨.ref c, rfl, c, _, rfl, .inl (.inl hc), rfl, _, _, rfl, _, _, rfl, _, _, rfl, rfl, ?_⟩
  refine ⟨.str (wordOf r), rfl, rfl, _, rfl, ?_⟩
  cases r with
  | true =>
    refine iteT ?_
    exact ⟨.int b, rfl, b, 1, rfl, rfl, .int n, rfl, b - 1, n, rfl, rfl, .int p, rfl, by show 3 ≤ sizeLine; decide, fun c' nc => q c' _ (same_upd nc) nc upd_same⟩
  | false =>
    refine iteF ?_
    exact ⟨.int n, rfl, .int b, rfl, .int p, rfl, b, p, rfl, rfl, by show 3 ≤ sizeLine; decide, fun c' nc => q c' _ (same_upd nc) nc upd_same⟩
abbrev NWFWire : List Str := ["a", "b", "wire", "word", "number", "place"]
theorem scFWire : FnScope NWFWire ["a", "b", "wire"] (defScope sFWire) := ⟨rfl, rfl, rfl, by decide +kernel, rfl, by decide +kernel, by decide +kernel⟩
def spFWire : Sp := fun vs H Q _ => ∃ (a b : Int) (c : Addr) (x : Wi), vs = [.int a, .int b, .ref c] ∧ H c = some (.tup (wv x)) ∧ ∀ c' H', Same H H' → H c' = none → H' c' = some (.tup (wv (fW a x))) → Q (.ref c') H'
theorem ok_FWire {f : Addr} {fd : FuncData} {k : Nat} (F : Fun K "flip_wire" "flip_wire" sFWire f fd) : FnOk P w K mg base CX0 (k + 1) f fd ["a", "b", "wire"] spFWire := by
  refine F.ok scFWire (fun vs H Q E h => ?_) (fun cdv A outer s H vs Q E hr h => ?_)
  · obtain ⟨a, b, c, x, rfl, _⟩ := h
    rfl
  obtain ⟨a, b, c, x, rfl, hc, q⟩ := h
  have nd := scFWire.nd
  refine ⟨_, pss_cons (ps_asg (pv 2) (pg_tup rfl (pgs_cons (pg_name (i := 3) nd rfl (.inl rfl)) (pgs_cons (pg_name (i := 4) nd rfl (.inl rfl)) (pgs_cons (pg_name (i := 5) nd rfl (.inl rfl)) pgs_nil)))))
      (pss_cons (ps_if (pt_cmpR op_eq (pv 3) pe_str (nomark _)) (pss_one (ps_ret (pe_tup (pa_cons pe_str (pa_cons (pv 4) (pa_cons (pe_op op_sub (pv 0) (pv 5)) pa_nil)))))) pss_nil)
      (pss_one (ps_ret (pe_tup (pa_cons pe_str (pa_cons (pe_op op_sub (pe_op op_sub (pv 0) pe_int) (pv 4)) (pa_cons (pv 5) pa_nil))))))), ?_⟩
  obtain ⟨r, n, p⟩ := x
  refine ⟨.ref c, rfl, c, _, rfl, .inl (.inl hc), rfl, _, _, rfl, _, _, rfl, _, _, rfl, rfl, ?_⟩
  refine ⟨.str (wordOf r), rfl, rfl, _, rfl, ?_⟩
  cases r with
  | true =>
    refine iteT ?_
    exact ⟨.int n, rfl, .int a, rfl, .int p, rfl, a, p, rfl, rfl, by show 3 ≤ sizeLine; decide, fun c' nc => q c' _ (same_upd nc) nc upd_same⟩
  | false =>
    refine iteF ?_
    exact ⟨.int a, rfl, a, 1, rfl, rfl, .int n, rfl, a - 1, n, rfl, rfl, .int p, rfl, by show 3 ≤ sizeLine; decide, fun c' nc => q c' _ (same_upd nc) nc upd_same⟩
theorem four_wires {G : Hp} {c0 c1 c2 c3 : Addr} {i j : Int} (h0 : G c0 = some (.tup (wv (true, j, i)))) (h1 : G c1 = some (.tup (wv (false, i, j)))) (h2 : G c2 = some (.tup (wv (true, j, i + 1)))) (h3 : G c3 = some (.tup (wv (false, i, j + 1)))) : WBs G [(c0, true, j, i), (c1, false, i, j), (c2, true, j, i + 1), (c3, false, i, j + 1)] := fun b hb => by
  rcases List.mem_cons.mp hb with rfl | hb
  · exact h0
  rcases List.mem_cons.mp hb with rfl | hb
  · exact h1
  rcases List.mem_cons.mp hb with rfl | hb
  · exact h2
  · rw [List.mem_singleton.mp hb]
    exact h3
theorem scLLegs : FnScope ["_law_i", "_law_j"] ["_law_i", "_law_j"] (defScope sLLegs) := ⟨rfl, rfl, rfl, by decide +kernel, rfl, by decide +kernel, by decide +kernel⟩
def spLLegs : Sp := fun vs H Q _ => ∃ (i j : Int), vs = [.int i, .int j] ∧ ∀ (T : Addr) (bs : List WB) H', Same H H' → H T = none → H' T = some (.lst (brefs bs)) → bs.map (·.2) = legsW i j → WBs H' bs → Q (.ref T) H'
theorem ok_llegs {f : Addr} {fd : FuncData} {k : Nat} (F : Fun K "_law_legs" "_law_legs" sLLegs f fd) : FnOk P w K mg base CX0 (k + 1) f fd ["_law_i", "_law_j"] spLLegs := by
  refine F.ok scLLegs (fun vs H Q E h => ?_) (fun cdv A outer s H vs Q E hr h => ?_)
  · obtain ⟨i, j, rfl, _⟩ := h
    rfl
  · obtain ⟨i, j, rfl, q⟩ := h
    have nd := scLLegs.nd
    refine ⟨_, pss_one (ps_ret (pe_lst (pa_cons (pe_tup (pa_cons pe_str (pa_cons (pv 1) (pa_cons (pv 0) pa_nil)))) (pa_cons (pe_tup (pa_cons pe_str (pa_cons (pv 0) (pa_cons (pv 1) pa_nil)))) (pa_cons (pe_tup (pa_cons pe_str (pa_cons (pv 1) (pa_cons (pe_op op_add (pv 0) pe_int) pa_nil)))) (pa_cons (pe_tup (pa_cons pe_str (pa_cons (pv 0) (pa_cons (pe_op op_add (pv 1) pe_int) pa_nil)))) pa_nil)))))), ?_⟩
    refine ⟨.int j, rfl, .int i, rfl, by show 3 ≤ sizeLine; decide, fun a1 m1 => ?_⟩
    refine ⟨.int i, rfl, .int j, rfl, by show 3 ≤ sizeLine; decide, fun a2 m2 => ?_⟩
    refine ⟨.int j, rfl, .int i, rfl, i, 1, rfl, rfl, by show 3 ≤ sizeLine; decide, fun a3 m3 => ?_⟩
    refine ⟨.int i, rfl, .int j, rfl, j, 1, rfl, rfl, by show 3 ≤ sizeLine; decide, fun a4 m4 => ?_⟩
    refine ⟨by show 4 ≤ sizeLine; decide, fun a5 m5 => ?_⟩
    have r1 := same_upd (o := .tup (wv (true, j, i))) m1
    have r2 := same_upd (o := .tup (wv (false, i, j))) m2
    have r3 := same_upd (o := .tup (wv (true, j, i + 1))) m3
    have r4 := same_upd (o := .tup (wv (false, i, j + 1))) m4
    have r5 := same_upd (o := .lst [.ref a1, .ref a2, .ref a3, .ref a4]) m5
    have n0 : H a5 = none := same_none (r1.trans (r2.trans (r3.trans r4))) m5
    exact q a5 [(a1, true, j, i), (a2, false, i, j), (a3, true, j, i + 1), (a4, false, i, j + 1)] _ (r1.trans (r2.trans (r3.trans (r4.trans r5)))) n0 upd_same rfl (four_wires ((r2.trans (r3.trans (r4.trans r5))) _ _ upd_same) ((r3.trans (r4.trans r5)) _ _ upd_same) ((r4.trans r5) _ _ upd_same) (r5 _ _ upd_same))
def teCol : TE := tTup (tCons (tC (.str "column")) (tCons (tVar 4) (tCons (tVar 6) tNil)))
def teRowA : TE := tTup (tCons (tC (.str "row")) (tCons (tVar 3) (tCons (tVar 5) tNil)))
/-- the wires of one thread -/
theorem lc_thread {te : TE} {ta : TA} {σ : L2.St} {G : Hp} {Q : VK} {sl m : Nat} {f : Nat → Wi} (hw : ∀ v, wipe ((wipe σ [sl]).set sl (some v)) [sl] = wipe σ [sl]) (hm : m ≤ 40) (hta : ∀ R : List V → Hp → Prop, R [.int ((m : Int) + 1)] G → ta σ G R)
    (hte : ∀ (y : Nat) (G : Hp) (R : VK), (∀ c G', Same G G' → G' c = some (.tup (wv (f y))) → R (.ref c) G') → te ((wipe σ [sl]).set sl (some (.int (y : Int)))) G R)
    (q : ∀ D bs G', Same G G' → G D = none → G' D = some (.lst (brefs bs)) → WBs G' bs → bs.map (·.2) = (List.range (m + 1)).map f → Q (.ref D) G') : tLc (iRng1 ta) (gName sl) tYes te [sl] σ G Q := by
  refine hta _ ⟨(m : Int) + 1, rfl, by omega, by omega, fun D nD => ?_⟩
  have em : ((m : Int) + 1).toNat = m + 1 := by omega
  refine lc_range (lo := 0) (n := ((m : Int) + 1).toNat) (fun r G' => Same G G' ∧ ∃ bs : List WB, G' D = some (.lst (brefs bs)) ∧ WBs G' bs ∧ bs.map (·.2) = (List.range r).map f) ⟨same_upd nD, [], upd_same, (fun b hb => nomatch hb), rfl⟩ ?_ ?_
  · rintro r G' hr ⟨sm, bs, hD, hb, eb⟩
    rw [Int.zero_add]
    refine ⟨hw _, ?_⟩
    simp only [tYes, ↓reduceIte]
    refine hte r G' _ fun c G2 s2 hc => ?_
    have hD2 := s2 _ _ hD
    have kp : Keeps G2 (upd G2 D (.lst (brefs bs ++ [.ref c]))) := Keeps.at hD2 (fun xs z => nomatch z)
    have lb : bs.length = r := by have := congrArg List.length eb; rw [List.length_map, List.length_map, List.length_range] at this; exact this
    refine ⟨_, hD2, Nat.lt_of_lt_of_le (show (brefs bs).length < 1000 by rw [List.length_map]; omega) (by decide), fun b o e => ?_, bs ++ [(c, f r)], ?_, fun b hb' => ?_, ?_⟩
    · rw [upd_ne (ne_of_none e nD)]
      exact s2 _ _ (sm _ _ e)
    · rw [upd_same, brefs_app]
      rfl
    · rcases List.mem_append.mp hb' with hb' | hb'
      · exact kp _ _ (s2 _ _ (hb b hb'))
      · rw [List.mem_singleton.mp hb']
        exact kp _ _ hc
    · rw [List.map_append, eb, List.range_succ, List.map_append]
      rfl
  · rintro G' ⟨sm, bs, hD, hb, eb⟩
    rw [em] at eb
    exact q D bs G' sm nD hD hb eb
abbrev NAl : List Str := ["_law_a", "_law_b", "_law_found", "_law_j", "_law_i", "_law_x", "_law_y"]
theorem scAll : FnScope NAl ["_law_a", "_law_b"] (defScope sAll) := ⟨rfl, rfl, rfl, by decide +kernel, rfl, by decide +kernel, by decide +kernel⟩
def spAll : Sp := fun vs H Q _ => ∃ (a b : Nat), vs = [.int (a : Int), .int (b : Int)] ∧ a ≤ 40 ∧ b ≤ 40 ∧ ∀ l bs H', Same H H' → H l = none → H' l = some (.lst (brefs bs)) → WBs H' bs → bs.map (·.2) = sortW (allR a b) → Q (.ref l) H'
theorem ok_all {f : Addr} {fd : FuncData} {k : Nat} (F : Fun K "_law_all" "_law_all" sAll f fd) (mr : mg "range" = none) (ms : mg "sorted" = none) : FnOk P w K mg base CX0 (k + 1) f fd ["_law_a", "_law_b"] spAll := by
  refine F.ok scAll (fun vs H Q E h => ?_) (fun cdv A outer s H vs Q E hr h => ?_)
  · obtain ⟨a, b, rfl, _⟩ := h
    rfl
  obtain ⟨a, b, rfl, a40, b40, q⟩ := h
  have nd := scAll.nd
  refine ⟨_, pss_cons (ps_set (i := 2) nd rfl (.inl rfl) (pe_lst pa_nil))
      (pss_cons (ps_for PassesOwn.never rfl (pi_range1 (by rfl) mr (pa_cons (pv 1) pa_nil)) (pg_name (i := 3) nd rfl (.inr rfl)) (pss_one (ps_expr (pe_bm PySem.F.plainAttrs_list PySem.F.slot_list_extend PySem.F.type_list_extend mt_extend (pv 2) (pa_cons (pe_lc (own := [("_law_x", 5)]) (g := gName 5) (tt := tYes) (te := teRowA) rfl nd (pi_range1 (by rfl) mr (pa_cons (pe_op op_add (pv 0) pe_int) pa_nil)) (blkOk_by (own := [("_law_x", 5)]) (N := NAl) (sc := defScope sAll) (by decide +kernel)) (fun _ _ _ _ _ => pg_name (i := 5) nd rfl (.inl rfl)) (fun _ _ _ _ _ => pts_nil) (fun _ _ _ _ _ => (pe_tup (pa_cons pe_str (pa_cons (pv 3) (pa_cons (pv 5) pa_nil)))))) pa_nil)))))
      (pss_cons (ps_for PassesOwn.never rfl (pi_range1 (by rfl) mr (pa_cons (pv 0) pa_nil)) (pg_name (i := 4) nd rfl (.inr rfl)) (pss_one (ps_expr (pe_bm PySem.F.plainAttrs_list PySem.F.slot_list_extend PySem.F.type_list_extend mt_extend (pv 2) (pa_cons (pe_lc (own := [("_law_y", 6)]) (g := gName 6) (tt := tYes) (te := teCol) rfl nd (pi_range1 (by rfl) mr (pa_cons (pe_op op_add (pv 1) pe_int) pa_nil)) (blkOk_by (own := [("_law_y", 6)]) (N := NAl) (sc := defScope sAll) (by decide +kernel)) (fun _ _ _ _ _ => pg_name (i := 6) nd rfl (.inl rfl)) (fun _ _ _ _ _ => pts_nil) (fun _ _ _ _ _ => (pe_tup (pa_cons pe_str (pa_cons (pv 4) (pa_cons (pv 6) pa_nil)))))) pa_nil)))))
      (pss_one (ps_ret (pe_callB (cr_sortL (Nat.lt_of_le_of_lt (Nat.add_le_add_left (by decide) _) hr.units)) (by rfl) ms (by decide +kernel) (pa_cons (pv 2) pa_nil)))))), ?_⟩
  refine ⟨by decide, fun l nl => ?_⟩
  refine gName_run ?_
  dsimp only [List.set]
  have N3 := len_all_le a40 b40
  have bound : ∀ r r', r ≤ a → r' ≤ b → ((List.range r).flatMap (fun i => colW i b) ++ (List.range r').flatMap (fun j => rowW j a)).length ≤ 3280 := fun r r' h h' => by
    rw [List.length_append, len_flat (c := b + 1) (fun i => by unfold colW; rw [List.length_map, List.length_range]), len_flat (c := a + 1) (fun i => by unfold rowW; rw [List.length_map, List.length_range]), List.length_range, List.length_range]
    have h1 : r * (b + 1) ≤ 40 * 41 := Nat.mul_le_mul (by omega) (by omega)
    have h2 : r' * (a + 1) ≤ 40 * 41 := Nat.mul_le_mul (by omega) (by omega)
    omega
  show tSeq _ _ _ [some (.int (a : Int)), some (.int (b : Int)), some (.ref l), none, none, none, none] (upd H l (.lst []))
  refine ⟨.int (b : Int), rfl, (b : Int), rfl, by omega, by omega, ?_⟩
  refine for_range (lo := 0) (n := (b : Int).toNat) (fun r σ G => Same H G ∧ (∃ bs : List WB, G l = some (.lst (brefs bs)) ∧ WBs G bs ∧ bs.map (·.2) = (List.range r).flatMap (fun j => rowW j a)) ∧ ∃ y3 y4, σ = [some (.int (a : Int)), some (.int (b : Int)), some (.ref l), y3, y4, none, none]) ⟨same_upd nl, ⟨[], upd_same, (fun b hb => nomatch hb), rfl⟩, _, _, rfl⟩ ?_ ?_
  · rintro r σ G hr ⟨sm, ⟨bs, hl, hb, eb⟩, y3, y4, rfl⟩
    rw [Int.zero_add]
    refine ⟨.ref l, rfl, .inl ⟨rfl, _, .inl (.inl hl)⟩, tcons_run ?_⟩
    refine lc_thread (te := teRowA) (m := a) (f := fun y => (true, (r : Int), (y : Int))) (fun v => rfl) a40 (fun R h => ⟨.int (a : Int), rfl, (a : Int), 1, rfl, rfl, h⟩) (fun y G R h => ⟨.int (r : Int), rfl, .int (y : Int), rfl, by show 3 ≤ sizeLine; decide, fun c nc => h c _ (same_upd nc) upd_same⟩) fun D bs2 G2 s2 nD hD hb2 eb2 => ?_
    have hl2 := s2 _ _ hl
    have lb : bs.length ≤ 3280 := by
      have := bound 0 r (by omega) (by omega)
      rw [← List.length_map (f := fun x : WB => x.2), eb]
      simpa using this
    have lb2 : bs2.length = a + 1 := by have := congrArg List.length eb2; rw [List.length_map, List.length_map, List.length_range] at this; exact this
    refine ⟨l, D, _, _, rfl, rfl, hl2, hD, Nat.le_trans (show (brefs bs).length + (brefs bs2).length ≤ 100000 by rw [List.length_map, List.length_map]; omega) (by decide), ?_⟩
    have kp : Keeps G2 (upd G2 l (.lst (brefs bs ++ brefs bs2))) := Keeps.at hl2 (fun xs z => nomatch z)
    refine ⟨same_at (sm.trans s2) nl, ⟨bs ++ bs2, by rw [upd_same, brefs_app], fun b hb' => ?_, ?_⟩, _, _, rfl⟩
    · rcases List.mem_append.mp hb' with hb' | hb'
      · exact kp _ _ (s2 _ _ (hb b hb'))
      · exact kp _ _ (hb2 b hb')
    · rw [List.map_append, eb, eb2, flat_snoc]
      rfl
  · rintro σ G ⟨sm, ⟨bs, hl, hb, eb⟩, y3, y4, rfl⟩
    have ea : (b : Int).toNat = b := Int.toNat_natCast b
    rw [ea] at eb
    refine ⟨.int (a : Int), rfl, (a : Int), rfl, by omega, by omega, ?_⟩
    refine for_range (lo := 0) (n := (a : Int).toNat) (fun r σ G => Same H G ∧ (∃ bs : List WB, G l = some (.lst (brefs bs)) ∧ WBs G bs ∧ bs.map (·.2) = (List.range b).flatMap (fun j => rowW j a) ++ (List.range r).flatMap (fun i => colW i b)) ∧ ∃ y3 y4, σ = [some (.int (a : Int)), some (.int (b : Int)), some (.ref l), y3, y4, none, none]) ⟨sm, ⟨bs, hl, hb, by rw [eb, List.range_zero, List.flatMap_nil, List.append_nil]⟩, _, _, rfl⟩ ?_ ?_
    · rintro r σ G hr ⟨sm, ⟨bs, hl, hb, eb⟩, y3, y4, rfl⟩
      rw [Int.zero_add]
      refine ⟨.ref l, rfl, .inl ⟨rfl, _, .inl (.inl hl)⟩, tcons_run ?_⟩
      refine lc_thread (te := teCol) (m := b) (f := fun x => (false, (r : Int), (x : Int))) (fun v => rfl) b40 (fun R h => ⟨.int (b : Int), rfl, (b : Int), 1, rfl, rfl, h⟩) (fun y G R h => ⟨.int (r : Int), rfl, .int (y : Int), rfl, by show 3 ≤ sizeLine; decide, fun c nc => h c _ (same_upd nc) upd_same⟩) fun D bs2 G2 s2 nD hD hb2 eb2 => ?_
      have hl2 := s2 _ _ hl
      have lb : bs.length ≤ 3280 := by
        have := bound r b (by omega) (Nat.le_refl _)
        rw [← List.length_map (f := fun x : WB => x.2), eb]
        rw [List.length_append] at this ⊢
        omega
      have lb2 : bs2.length = b + 1 := by have := congrArg List.length eb2; rw [List.length_map, List.length_map, List.length_range] at this; exact this
      refine ⟨l, D, _, _, rfl, rfl, hl2, hD, Nat.le_trans (show (brefs bs).length + (brefs bs2).length ≤ 100000 by rw [List.length_map, List.length_map]; omega) (by decide), ?_⟩
      have kp : Keeps G2 (upd G2 l (.lst (brefs bs ++ brefs bs2))) := Keeps.at hl2 (fun xs z => nomatch z)
      refine ⟨same_at (sm.trans s2) nl, ⟨bs ++ bs2, by rw [upd_same, brefs_app], fun b hb' => ?_, ?_⟩, _, _, rfl⟩
      · rcases List.mem_append.mp hb' with hb' | hb'
        · exact kp _ _ (s2 _ _ (hb b hb'))
        · exact kp _ _ (hb2 b hb')
      · rw [List.map_append, eb, eb2, flat_snoc, List.append_assoc]
        rfl
    · rintro σ G ⟨sm, ⟨bs, hl, hb, eb⟩, y3, y4, rfl⟩
      have eb' : (a : Int).toNat = a := Int.toNat_natCast a
      rw [eb'] at eb
      have lb : bs.length ≤ 3280 := by
        have := bound a b (Nat.le_refl _) (Nat.le_refl _)
        rw [← List.length_map (f := fun x : WB => x.2), eb]
        rw [List.length_append] at this ⊢
        omega
      refine ⟨.ref l, rfl, l, bs, rfl, .inl (.inl hl), hb, by omega, fun p np => ?_⟩
      have sp := same_upd (o := .lst (brefs (bs.mergeSort leW))) np
      refine q p (bs.mergeSort leW) _ (sm.trans sp) (same_none sm np) upd_same (fun x hx => sp _ _ (hb x ((List.mergeSort_perm bs leW).mem_iff.mp hx))) ?_
      refine sortW_of (by rw [eb]; exact all_nodup a b) (all_nodup a b) fun x => ?_
      rw [eb]
      exact Iff.rfl
end
end C2

namespace C2
set_option Elab.async false
set_option linter.all false
set_option maxRecDepth 100000
set_option maxHeartbeats 1000000
open PySem PySem.Spec PyProof.Rows L2 HT RT
/-! ### places: where crossings come to -/
abbrev PlE := (Nat × Nat) × (Nat × Nat) × Addr
def kPl (e : PlE) : List Key × V := ([.inl (e.1.1 : Int), .inl (e.1.2 : Int)], .ref e.2.2)
def Plc (G : Hp) (L : List PlE) : Prop := ∀ e ∈ L, G e.2.2 = some (.tup [.int (e.2.1.1 : Int), .int (e.2.1.2 : Int)])
theorem Plc.keeps {G G' : Hp} {L : List PlE} (h : Plc G L) (s : Keeps G G') : Plc G' L := fun e he => s _ _ (h e he)
theorem kPl_inj {e e' : PlE} (h : (kPl e).1 = (kPl e').1) : e.1 = e'.1 := by
  unfold kPl at h
  injection h with h1 h2
  injection h2 with h2 _
  injection h1 with h1
  injection h2 with h2
  exact Prod.ext (by omega) (by omega)
theorem val_pl : ∀ {L : List PlE} {e : PlE}, (L.map (·.1)).Nodup → e ∈ L → valV (L.map kPl) (kPl e).1 = some (.ref e.2.2)
  | x :: L, e, h, m => by
    rw [List.map_cons] at h ⊢
    obtain ⟨h1, h2⟩ := List.nodup_cons.mp h
    by_cases z : (kPl x).1 = (kPl e).1
    · rw [valV_pos z]
      rcases List.mem_cons.mp m with rfl | m
      · rfl
      · exact absurd (List.mem_map.mpr ⟨e, m, (kPl_inj z).symm⟩) h1
    · rcases List.mem_cons.mp m with rfl | m
      · exact absurd rfl z
      · rw [← val_pl h2 m]
        unfold valV
        rw [List.find?_cons]
        simp [z]
theorem put_pl {L : List PlE} {e : PlE} (h : e.1 ∉ L.map (·.1)) : putK (L.map kPl) (kPl e).1 (.ref e.2.2) = (L ++ [e]).map kPl := by
  unfold putK
  rw [if_neg, List.map_append]
  · rfl
  · intro z
    obtain ⟨kv, hk, hd⟩ := List.any_eq_true.mp z
    obtain ⟨x, hx, rfl⟩ := List.mem_map.mp hk
    exact h (List.mem_map.mpr ⟨x, hx, kPl_inj (of_decide_eq_true hd)⟩)
/-! ### matrices: a list of lists -/
def getM (M : List (List Int)) (y x : Nat) : Int := (M.getD y []).getD x 0
structure Mat (G : Hp) (D : Addr) (ms : List (Addr × List Int)) : Prop where
  at_ : G D = some (.lst (refs ms))
  ro : ∀ c ∈ ms, G c.1 = some (.lst (c.2.map V.int))
  nd : (ms.map (·.1)).Nodup
  nD : D ∉ ms.map (·.1)
theorem set_self {α : Type} {l : List α} {y : Nat} {c : α} (h : l[y]? = some c) : l.set y c = l := by
  apply List.ext_getElem?
  intro k
  rw [List.getElem?_set]
  by_cases e : y = k
  · subst e
    rw [if_pos rfl, h]
    simp [(List.getElem?_eq_some_iff.mp h).1]
  · rw [if_neg e]
theorem Mat.set {G : Hp} {D c : Addr} {ms : List (Addr × List Int)} {y x : Nat} {xs : List Int} {v : Int} (h : Mat G D ms) (hy : ms[y]? = some (c, xs)) : Mat (upd G c (.lst ((xs.map V.int).set x (.int v)))) D (ms.set y (c, xs.set x v)) := by
  have hc : (ms.map (·.1))[y]? = some c := by rw [List.getElem?_map, hy]; rfl
  have ly : y < (ms.map (·.1)).length := (List.getElem?_eq_some_iff.mp hc).1
  have mc : c ∈ ms.map (·.1) := List.mem_of_getElem? hc
  have nDc : D ≠ c := fun z => h.nD (z ▸ mc)
  have e1 : (ms.set y (c, xs.set x v)).map (·.1) = ms.map (·.1) := by
    rw [List.map_set]
    exact set_self hc
  have rf : ∀ l : List (Addr × List Int), refs l = (l.map (·.1)).map V.ref := fun l => by rw [List.map_map]; rfl
  refine ⟨?_, fun z hz => ?_, by rw [e1]; exact h.nd, by rw [e1]; exact h.nD⟩
  · rw [upd_ne nDc, h.at_, rf, rf, e1]
  · obtain ⟨k, hk⟩ := List.mem_iff_getElem?.mp hz
    rw [List.getElem?_set] at hk
    by_cases e : y = k
    · rw [if_pos e] at hk
      split at hk
      · cases hk
        rw [upd_same, List.map_set]
      · cases hk
    · rw [if_neg e] at hk
      have hk2 : (ms.map (·.1))[k]? = some z.1 := by rw [List.getElem?_map, hk]; rfl
      have nz : z.1 ≠ c := fun zc => e ((List.getElem?_inj ly h.nd).mp (by rw [hc, hk2, zc]))
      rw [upd_ne nz]
      exact h.ro z (List.mem_of_getElem? hk)
theorem get_set {M : List (List Int)} {y x : Nat} {xs : List Int} {v : Int} (hy : M[y]? = some xs) (hx : x < xs.length) (y' x' : Nat) : getM (M.set y (xs.set x v)) y' x' = if y' = y ∧ x' = x then v else getM M y' x' := by
  have ly := (List.getElem?_eq_some_iff.mp hy).1
  unfold getM
  rw [List.getD_eq_getElem?_getD, List.getD_eq_getElem?_getD, List.getD_eq_getElem?_getD (l := M), List.getElem?_set]
  by_cases e : y = y'
  · subst e
    rw [if_pos rfl, if_pos ly, hy]
    show ((xs.set x v)[x']?).getD 0 = _
    rw [List.getElem?_set]
    by_cases e2 : x = x'
    · subst e2
      rw [if_pos rfl, if_pos hx, if_pos ⟨rfl, rfl⟩]
      rfl
    · rw [if_neg e2, if_neg (fun z => e2 z.2.symm), List.getD_eq_getElem?_getD]
      rfl
  · rw [if_neg e, if_neg (fun z => e z.1.symm), List.getD_eq_getElem?_getD]
def matE (hi wi : Nat) (E : Nat → Nat → Int) : List (List Int) := (List.range hi).map fun y => (List.range wi).map (E y)
theorem mat_ext {M : List (List Int)} {hi wi : Nat} {E : Nat → Nat → Int} (l : M.length = hi) (r : ∀ x ∈ M, x.length = wi) (e : ∀ y x, y < hi → x < wi → getM M y x = E y x) : M = matE hi wi E := by
  subst l
  unfold matE
  apply List.ext_getElem
  · rw [List.length_map, List.length_range]
  intro y h1 h2
  rw [List.getElem_map, List.getElem_range]
  have lr := r _ (List.getElem_mem h1)
  apply List.ext_getElem
  · rw [List.length_map, List.length_range, lr]
  intro x h3 h4
  rw [List.getElem_map, List.getElem_range, ← e y x h1 (by omega)]
  unfold getM
  rw [List.getD_eq_getElem?_getD, List.getD_eq_getElem?_getD, List.getElem?_eq_getElem h1]
  show _ = (M[y][x]?).getD 0
  rw [List.getElem?_eq_getElem h3]
  rfl
theorem mat_get {hi wi : Nat} {E : Nat → Nat → Int} {y x : Nat} (hy : y < hi) (hx : x < wi) : getM (matE hi wi E) y x = E y x := by
  unfold getM matE
  rw [List.getD_eq_getElem?_getD, List.getD_eq_getElem?_getD, List.getElem?_map, List.getElem?_range hy]
  show (((List.range wi).map (E y))[x]?).getD 0 = _
  rw [List.getElem?_map, List.getElem?_range hx]
  rfl
section
variable {P : Program} {w : World} {K : PySem.W.Frag} {mg : Str → Option Value} {base : Heap}
/-! ### the law's own leading -/
def teLl (K : PySem.W.Frag) : TE := tOp (rIxT K) (tVar 16) (tVar 17)
def teLq (K : PySem.W.Frag) : TE := tCB (rTupOf K) (tCons (tLc (iTup K (tVar 2)) (gName 17) tYes (teLl K) [17]) tNil)
def teLt (K : PySem.W.Frag) : TE := tCB (rTupOf K) (tCons (tCB (rSortU K 4 7) (tCons (tLc (iTup K (tVar 15)) (gName 16) tYes (teLq K) [16]) tNil)) tNil)
theorem led_one {v0 v1 v3 v4 v5 v6 v7 v8 v9 v10 v11 v12 v13 v14 : Option V} {H : Hp} {Q : VK} {t pl : Addr} {ps : List Int} {cs : List (Addr × List Int)} (hT : TabAt K H t cs) (hpl : SqT K H pl (ps.map V.int)) (h4 : ps.length = 4) (hp : ∀ j ∈ ps, 0 ≤ j ∧ j < 4)
    (k : ∀ H' t' ws, Same H H' → TabAt K H' t' ws → LedBy ps (cs.map (·.2)) (ws.map (·.2)) → Q (.ref t') H') : teLt K [v0, v1, some (.ref pl), v3, v4, v5, v6, v7, v8, v9, v10, v11, v12, v13, v14, some (.ref t), none, none, none] H Q := by
  refine tcb_run (tcb_run ?_)
  refine ⟨.ref t, rfl, t, rfl, ⟨_, hT.at_⟩, fun D nD => ?_⟩
  refine lc_tup (xs := refs cs) (LedI ps H cs D) ⟨[], same_upd nD, upd_same, fun c hc => (by cases hc), rfl⟩ ?_ ?_ ?_
  · rintro i G _ ⟨os, sm, _⟩
    exact sameT sm hT.at_
  · rintro i x G hx I
    obtain ⟨hi, rfl⟩ := ref_at hx
    have l4 := hT.rg.l4 cs[i].2 (List.mem_map.mpr ⟨_, List.getElem_mem hi, rfl⟩)
    have hc := hT.ce _ (List.getElem_mem hi)
    obtain ⟨os, sm, hh⟩ := id I
    replace hc := sameT sm hc
    have hplG := sameT sm hpl
    refine ⟨rfl, .ref pl, rfl, pl, rfl, ⟨_, hplG⟩, fun D2 nD2 => ?_⟩
    refine lc_tup (xs := ps.map V.int) (fun m G2 => Same G G2 ∧ G2 D2 = some (.lst (((sel ps cs[i].2).take m).map V.int))) ⟨same_upd nD2, upd_same⟩ ?_ ?_ ?_
    · rintro m G2 _ ⟨s2, _⟩
      exact sameT s2 hplG
    · rintro m x G2 hx ⟨s2, hD2⟩
      have hm : m < ps.length := by
        have := (List.getElem?_eq_some_iff.mp hx).1
        rw [List.length_map] at this
        exact this
      have ex : x = .int ps[m] := by
        rw [List.getElem?_map, List.getElem?_eq_getElem hm] at hx
        exact (Option.some.inj hx).symm
      subst ex
      obtain ⟨j0, j1⟩ := hp ps[m] (List.getElem_mem hm)
      refine ⟨rfl, .ref cs[i].1, rfl, .int ps[m], rfl, cs[i].1, _, _, _, rfl, rfl, sameT s2 hc, at_of (j := ps[m].toNat) (by omega) (get4 l4 (by omega)), _, hD2, ?_, ?_, ?_⟩
      · rw [List.length_map, List.length_take]
        exact Nat.lt_of_le_of_lt (Nat.min_le_left _ _) (Nat.lt_of_lt_of_le (show m < 1000 by omega) (by decide))
      · intro b o e
        rw [upd_ne (ne_of_none e nD2)]
        exact s2 _ _ e
      · rw [upd_same]
        have g : (sel ps cs[i].2)[m]? = some (cs[i].2.getD ps[m].toNat 0) := by
          unfold sel
          rw [List.getElem?_map, List.getElem?_eq_getElem hm]
          rfl
        rw [List.take_add_one, g, List.map_append]
        rfl
    · rintro G2 ⟨s2, hD2⟩
      have ls : (sel ps cs[i].2).length = ps.length := List.length_map _
      rw [List.take_of_length_le (by rw [List.length_map, ls]; exact Nat.le_refl _)] at hD2
      refine ⟨D2, _, rfl, .inl ⟨.inl (.inl hD2), fun T nT => ?_⟩⟩
      exact I.step hi hT.ln nD (s2.trans (same_upd nT)) (s2.free nT) upd_same rfl
  · intro G I
    have ln : (refs cs).length = cs.length := List.length_map _
    rw [ln] at I
    exact led_end h4 hp hT I k
theorem rep_zero : ∀ n : Nat, (List.replicate n [V.int 0]).flatten = (List.replicate n (0 : Int)).map V.int
  | 0 => rfl
  | n + 1 => by
    rw [List.replicate_succ, List.flatten_cons, rep_zero n]
    rfl
/-- [[0] * wide for _ in range(high)] -/
def teZ : TE := tOp rRep (tLst (tCons (tC (.int 0)) tNil)) (tVar 7)
theorem lc_zeros {σ : L2.St} {H : Hp} {Q : VK} {wi hi : Nat} {ta : TA} (w9 : wi ≤ 9) (h9 : hi ≤ 9) (hw : ∀ v, wipe ((wipe σ [9]).set 9 (some v)) [9] = wipe σ [9]) (h7 : ∀ v : V, ((wipe σ [9]).set 9 (some v))[7]? = some (some (.int (wi : Int)))) (hta : ∀ R : List V → Hp → Prop, R [.int (hi : Int)] H → ta σ H R)
    (k : ∀ D ms G, Same H G → H D = none → Mat G D ms → ms.length = hi → (∀ c ∈ ms, H c.1 = none) → (∀ c ∈ ms, c.2.length = wi) → Q (.ref D) G) : tLc (iRng1 ta) (gName 9) tYes teZ [9] σ H Q := by
  refine hta _ ⟨(hi : Int), rfl, by omega, by omega, fun D nD => ?_⟩
  refine lc_range (lo := 0) (n := (hi : Int).toNat) (fun r G => Same H G ∧ ∃ ms, Mat G D ms ∧ ms.length = r ∧ (∀ c ∈ ms, H c.1 = none) ∧ ∀ c ∈ ms, c.2.length = wi) ⟨same_upd nD, [], ⟨upd_same, (fun c hc => nomatch hc), List.nodup_nil, List.not_mem_nil⟩, rfl, (fun c hc => nomatch hc), fun c hc => nomatch hc⟩ ?_ ?_
  · rintro r G hr ⟨sm, ms, mt, lm, fm, wm⟩
    refine ⟨hw _, ?_⟩
    simp only [tYes, ↓reduceIte]
    refine ⟨by show 1 ≤ sizeLine; decide, fun l nl => ⟨_, h7 _, l, (wi : Int), [.int 0], rfl, rfl, upd_same, by omega, by omega, ?_, fun c nc => ?_⟩⟩
    · rw [Int.toNat_natCast]
      exact Nat.le_trans (show [V.int 0].length * wi ≤ 9 by rw [List.length_singleton]; omega) (by decide)
    have s1 := same_upd (o := .lst [.int 0]) nl
    have ez : (List.replicate (wi : Int).toNat [V.int 0]).flatten = (List.replicate wi (0 : Int)).map V.int := by
      rw [Int.toNat_natCast]
      exact rep_zero wi
    rw [ez]
    have s2 := same_upd (o := .lst ((List.replicate wi (0 : Int)).map V.int)) nc
    have s12 := s1.trans s2
    have hD2 := s12 _ _ mt.at_
    have ncG : G c = none := same_none s1 nc
    have nDc : D ≠ c := fun z => by rw [← z, mt.at_] at ncG; cases ncG
    have ncm : c ∉ ms.map (·.1) := fun z => by
      obtain ⟨m, hm, e⟩ := List.mem_map.mp z
      rw [← e, mt.ro m hm] at ncG
      cases ncG
    refine ⟨_, hD2, Nat.lt_of_lt_of_le (show (refs ms).length < 1000 by rw [List.length_map]; omega) (by decide), same_at (sm.trans s12) nD, ms ++ [(c, List.replicate wi 0)], ⟨by rw [upd_same, refs_app]; rfl, fun z hz => ?_, ?_, ?_⟩, by rw [List.length_append, lm]; rfl, fun z hz => ?_, fun z hz => ?_⟩
    · rcases List.mem_append.mp hz with hz | hz
      · have nz : z.1 ≠ D := fun e => mt.nD (by rw [← e]; exact List.mem_map.mpr ⟨z, hz, rfl⟩)
        rw [upd_ne nz]
        exact s12 _ _ (mt.ro z hz)
      · rw [List.mem_singleton.mp hz]
        rw [upd_ne nDc.symm, upd_same]
    · rw [List.map_append]
      refine List.nodup_append.mpr ⟨mt.nd, by simp, fun x hx y hy e => ?_⟩
      rw [List.map_singleton, List.mem_singleton] at hy
      rw [e, hy] at hx
      exact ncm hx
    · rw [List.map_append, List.mem_append]
      rintro (z | z)
      · exact mt.nD z
      · rw [List.map_singleton, List.mem_singleton] at z
        exact nDc z
    · rcases List.mem_append.mp hz with hz | hz
      · exact fm z hz
      · rw [List.mem_singleton.mp hz]
        exact same_none sm ncG
    · rcases List.mem_append.mp hz with hz | hz
      · exact wm z hz
      · rw [List.mem_singleton.mp hz]
        exact List.length_replicate
  · rintro G ⟨sm, ms, mt, lm, fm, wm⟩
    rw [Int.toNat_natCast] at lm
    exact k D ms G sm nD mt lm fm wm
/-- [tuple(row) for row in found] -/
def teFo (K : PySem.W.Frag) : TE := tCB (rTupOf K) (tCons (tVar 18) tNil)
theorem lc_rows {σ : L2.St} {H : Hp} {Q : VK} {D : Addr} {ms : List (Addr × List Int)} (h10 : σ[10]? = some (some (.ref D))) (hw : ∀ v, wipe ((wipe σ [18]).set 18 (some v)) [18] = wipe σ [18]) (h18 : ∀ v : V, ((wipe σ [18]).set 18 (some v))[18]? = some (some v)) (mt : Mat H D ms) (lm : ms.length ≤ 9)
    (k : ∀ D2 cs G, Same H G → G D2 = some (.lst (refs cs)) → Cells G cs → cs.map (·.2) = ms.map (·.2) → Q (.ref D2) G) : tLc (iList K (tVar 10)) (gName 18) tYes (teFo K) [18] σ H Q := by
  refine ⟨_, h10, D, rfl, ⟨_, .inl (.inl mt.at_)⟩, fun D2 nD2 => ?_⟩
  refine lc_list (xs := refs ms) (fun r G => Same H G ∧ ∃ cs, G D2 = some (.lst (refs cs)) ∧ cs.length = r ∧ Cells G cs ∧ cs.map (·.2) = (ms.take r).map (·.2)) ⟨same_upd nD2, [], upd_same, rfl, (fun c hc => nomatch hc), rfl⟩ (fun r G _ h => .inl (.inl (h.1 _ _ mt.at_))) ?_ ?_
  · rintro r x G hx ⟨sm, cs, hD, lc, ce, ec⟩
    obtain ⟨hi, rfl⟩ := ref_at hx
    refine ⟨hw _, ?_⟩
    simp only [tYes, ↓reduceIte]
    have hr := sm _ _ (mt.ro _ (List.getElem_mem hi))
    refine ⟨_, h18 _, ms[r].1, _, rfl, .inl ⟨.inl (.inl hr), fun c nc => ?_⟩⟩
    have sc := same_upd (o := .tup (ms[r].2.map V.int)) nc
    have hD' := sc _ _ hD
    have kp : Keeps (upd G c (.tup (ms[r].2.map V.int))) _ := Keeps.at (o' := .lst (refs cs ++ [.ref c])) hD' (fun xs z => nomatch z)
    refine ⟨_, hD', Nat.lt_of_lt_of_le (show (refs cs).length < 1000 by rw [List.length_map]; omega) (by decide), same_at (sm.trans sc) nD2, cs ++ [(c, ms[r].2)], by rw [upd_same, refs_app]; rfl, by rw [List.length_append, lc]; rfl, fun z hz => ?_, ?_⟩
    · rcases List.mem_append.mp hz with hz | hz
      · exact kp _ _ (sc _ _ (ce z hz))
      · rw [List.mem_singleton.mp hz]
        exact kp _ _ upd_same
    · rw [List.map_append, ec, List.take_add_one, List.getElem?_eq_getElem hi, List.map_append]
      rfl
  · rintro G ⟨sm, cs, hD, lc, ce, ec⟩
    have len : (refs ms).length = ms.length := List.length_map _
    rw [len, List.take_of_length_le (Nat.le_refl _)] at ec
    exact k D2 cs G sm hD ce ec
end
end C2

namespace C2
set_option Elab.async false
set_option linter.all false
set_option maxRecDepth 100000
set_option maxHeartbeats 1000000
open PySem PySem.Spec PyProof.Rows L2 HT RT
theorem same_lock {G G' : Hp} {d : Addr} {o : HO} (s : Same G G') : Same (upd G d o) (upd G' d o) := fun b x e => by
  by_cases z : b = d
  · subst z
    rw [upd_same] at e ⊢
    exact e
  · rw [upd_ne z] at e ⊢
    exact s _ _ e
theorem same_unlock {G G' : Hp} {d : Addr} {o u : HO} (s : Same (upd G d o) G') (h : G d = some u) : Same G (upd G' d u) := fun b x e => by
  by_cases z : b = d
  · subst z
    rw [upd_same, ← e, h]
  · rw [upd_ne z]
    exact s _ _ (by rw [upd_ne z]; exact e)
abbrev NLed : List Str := ["_law_design_here", "_law_places", "_law_turn", "_law_q", "_law_tables", "_law_a", "_law_rows", "_law_wide", "_law_high", "_law_j", "_law_found", "_law_i", "_law_x", "_law_y", "_law_new", "_law_table_here", "_law_quad", "_law_leg", "_law_row"]
theorem scLed : FnScope NLed ["_law_design_here", "_law_places", "_law_turn"] (defScope sLed) := ⟨rfl, rfl, rfl, by decide +kernel, rfl, by decide +kernel, by decide +kernel⟩
abbrev scLt : Scope := { kind := .function, names := [(".0", .local), ("_law_table_here", .local), ("tuple", .globalImplicit), ("sorted", .globalImplicit), ("_law_turn", .cell)], isGenerator := false, isCoroutine := false }
abbrev scLq : Scope := { kind := .function, names := [(".0", .local), ("_law_quad", .cell), ("tuple", .globalImplicit), ("_law_turn", .cell)], isGenerator := false, isCoroutine := false }
section
variable {P : Program} {w : World} {K : PySem.W.Frag} {mg : Str → Option Value} {base : Heap}
structure LedOk (q a b wi hi : Nat) (ps : List Int) (rs : List (Addr × List Int)) (L : List PlE) (E : Nat → Nat → Int) : Prop where
  q7 : q ≤ 7
  a9 : a ≤ 9
  b9 : b ≤ 9
  way : (ps = pT ∧ wi = b ∧ hi = a) ∨ (ps = pF ∧ wi = a ∧ hi = b)
  nd : (L.map (·.1)).Nodup
  at_ : ∀ e ∈ L, e.1.1 < a ∧ e.1.2 < b ∧ e.2.1.1 < wi ∧ e.2.1.2 < hi ∧ getM (rs.map (·.2)) e.1.2 e.1.1 = E e.2.1.2 e.2.1.1
  sur : ∀ y x, y < hi → x < wi → ∃ e ∈ L, e.2.1 = (x, y)
def spLawLed (K : PySem.W.Frag) : Sp := fun vs H Q _ => ∃ (t d u : Addr) (q a b wi hi : Nat) (ts : List Tb) (rs : List (Addr × List Int)) (L : List PlE) (ps : List Int) (E : Nat → Nat → Int), vs = [.ref t, .ref d, .ref u] ∧ PlanAt H t q a b ts rs ∧ H d = some (.dT (L.map kPl)) ∧ Plc H L ∧ H u = some (.tup (ps.map V.int)) ∧ LedOk q a b wi hi ps rs L E ∧
  ∀ t' TT H', Same H H' → H t' = none → PD K H' t' q wi TT (matE hi wi E) → LedAll ps (tabs ts) TT → Q (.ref t') H'
theorem eqv_T : PyData.eqv (.tuple [.int 3, .int 0, .int 1, .int 2]) (.tuple [.int 3, .int 0, .int 1, .int 2]) = true := by decide +kernel
theorem eqv_F : PyData.eqv (.tuple [.int 2, .int 1, .int 0, .int 3]) (.tuple [.int 3, .int 0, .int 1, .int 2]) = false := by decide +kernel
theorem four_dp {G : Hp} {u : Addr} {x0 x1 x2 x3 : Int} (h : G u = some (.tup [.int x0, .int x1, .int x2, .int x3])) : Dp K G (.ref u) (.tuple [.int x0, .int x1, .int x2, .int x3]) := .tup (.inl (.inl h)) (.cons (.int x0) (.cons (.int x1) (.cons (.int x2) (.cons (.int x3) .nil))))
theorem Mat.same {G G' : Hp} {D : Addr} {ms : List (Addr × List Int)} (h : Mat G D ms) (s : Same G G') : Mat G' D ms := ⟨s _ _ h.at_, fun c hc => s _ _ (h.ro c hc), h.nd, h.nD⟩
theorem Mat.by {G : Hp} {D d : Addr} {ms : List (Addr × List Int)} {o o' : HO} (h : Mat G D ms) (hd : G d = some o) (no : ∀ xs, o ≠ .lst xs) : Mat (upd G d o') D ms := by
  have ne : ∀ b xs, G b = some (.lst xs) → b ≠ d := fun b xs e z => by
    rw [z, hd] at e
    exact no _ (Option.some.inj e)
  exact ⟨by rw [upd_ne (ne _ _ h.at_)]; exact h.at_, fun c hc => by rw [upd_ne (ne _ _ (h.ro c hc))]; exact h.ro c hc, h.nd, h.nD⟩
def tsRest (K : PySem.W.Frag) (n1 n2 : Nat) : TS := tSeq (tAsg (tLc (iRng1 (tCons (tVar 8) tNil)) (gName 9) tYes teZ [9]) (gName 10)) (tSeq (tLock (tFor (iKeys (tVar 1)) (gTup K n1 (gCons (gName 11) (gCons (gName 9) gNil))) (tSeq (tAsg (tDGet (tVar 1) (tTup (tCons (tVar 11) (tCons (tVar 9) tNil)))) (gTup K n2 (gCons (gName 12) (gCons (gName 13) gNil)))) (tAsg (tOp (rIxT K) (tOp (rIxT K) (tVar 6) (tVar 9)) (tVar 11)) (gSub (tOp (rIxL K) (tVar 10) (tVar 13)) (tVar 12) rSetL))))) (tSeq (tAsg (tLc (iTup K (tVar 4)) (gName 15) tYes (teLt K) [15]) (gName 14)) (tRet (tTup (tCons (tVar 3) (tCons (tCB (rTupOf K) (tCons (tVar 14) tNil)) (tCons (tVar 7) (tCons (tCB (rTupOf K) (tCons (tLc (iList K (tVar 10)) (gName 18) tYes (teFo K) [18]) tNil)) tNil))))))))
theorem led_rest {n1 n2 : Nat} (e1 : n1 = 2) (e2 : n2 = 2) {D : Ends} {Q : VK} {G : Hp} {t d u tt tr : Addr} {q a b wi hi : Nat} {ts : List Tb} {rs : List (Addr × List Int)} {L : List PlE} {ps : List Int} {E : Nat → Nat → Int} (ok : LedOk q a b wi hi ps rs L E) (h2 : G tt = some (.tup (trefs ts))) (h3 : G tr = some (.tup (refs rs))) (tb : ∀ x ∈ ts, TbAt G q x) (ce : Cells G rs) (lt : ts.length ≤ 3) (lr : rs.length = b) (lra : ∀ r ∈ rs, r.2.length = a)
    (hd : G d = some (.dT (L.map kPl))) (hL : Plc G L) (hu : G u = some (.tup (ps.map V.int))) (hrt : ∀ v H', Q v H' → D.rt v H')
    (kk : ∀ t' TT H', Same G H' → G t' = none → PD K H' t' q wi TT (matE hi wi E) → LedAll ps (tabs ts) TT → Q (.ref t') H') :
    tsRest K n1 n2 D [some (.ref t), some (.ref d), some (.ref u), some (.int (q : Int)), some (.ref tt), some (.int (a : Int)), some (.ref tr), some (.int (wi : Int)), some (.int (hi : Int)), none, none, none, none, none, none, none, none, none, none] G := by
  subst e1 e2
  have a9 := ok.a9
  have b9 := ok.b9
  have w9 : wi ≤ 9 := by rcases ok.way with ⟨_, e, _⟩ | ⟨_, e, _⟩ <;> omega
  have i9 : hi ≤ 9 := by rcases ok.way with ⟨_, _, e⟩ | ⟨_, _, e⟩ <;> omega
  have p4 : ps.length = 4 := by rcases ok.way with ⟨e, _⟩ | ⟨e, _⟩ <;> rw [e] <;> rfl
  have pr : ∀ j ∈ ps, 0 ≤ j ∧ j < 4 := by rcases ok.way with ⟨e, _⟩ | ⟨e, _⟩ <;> rw [e] <;> decide
  unfold tsRest
  refine seqAsg ?_
  refine lc_zeros w9 i9 (fun v => rfl) (fun v => rfl) (fun R h => ⟨_, rfl, h⟩) fun D0 ms G1 s1 nD mt lm fm wm => ?_
  dsimp only [List.set]
  have hd1 := s1 _ _ hd
  refine ⟨d, _, hd1, (by trivial), fun od => ?_⟩
  refine ⟨.ref d, rfl, d, od, rfl, .inr ⟨L.map kPl, upd_same, ?_⟩⟩
  refine for_it walk_keysT (fun r σ G2 => Same (upd G d (.frz od (.dT (L.map kPl)))) G2 ∧ (∃ ms, Mat G2 D0 ms ∧ ms.length = hi ∧ (∀ c ∈ ms, G c.1 = none) ∧ (∀ c ∈ ms, c.2.length = wi) ∧ ∀ m e, m < r → L[m]? = some e → getM (ms.map (·.2)) e.2.1.2 e.2.1.1 = E e.2.1.2 e.2.1.1) ∧ ∃ z9 z11 z12 z13, σ = [some (.ref t), some (.ref d), some (.ref u), some (.int (q : Int)), some (.ref tt), some (.int (a : Int)), some (.ref tr), some (.int (wi : Int)), some (.int (hi : Int)), z9, some (.ref D0), z11, z12, z13, none, none, none, none, none])
    ⟨same_lock s1, ⟨ms, mt.by hd1 (fun xs z => nomatch z), lm, fm, wm, fun m e h => absurd h (Nat.not_lt_zero _)⟩, none, none, none, none, rfl⟩ (fun r σ G2 _ h => h.1 _ _ upd_same) ?_ ?_
  · rintro r x σ _ G2 hr ⟨sm2, ⟨ms, mt, lm, fm, wm, done⟩, z9, z11, z12, z13, rfl⟩ ⟨rfl, k, v, qa, hk, rfl, hq⟩
    rw [List.length_map] at hr
    have hLr : L[r]? = some L[r] := List.getElem?_eq_getElem hr
    rw [List.getElem?_map, hLr] at hk
    have memL : L[r] ∈ L := List.getElem_mem hr
    generalize L[r] = e at hk hLr memL
    obtain ⟨⟨i, j⟩, ⟨xx, yy⟩, ca⟩ := e
    cases hk
    have hq' : G2 qa = some (.tup [.int (i : Int), .int (j : Int)]) := hq
    have K2 : Keeps G G2 := fun b xs h => sm2 _ _ (by
      rw [upd_ne (fun z => by rw [z, hd] at h; cases h)]
      exact h)
    obtain ⟨ia, jb, xw, yh, val⟩ := ok.at_ _ memL
    have ia : i < a := ia
    have jb : j < b := jb
    have xw : xx < wi := xw
    have yh : yy < hi := yh
    have val : getM (rs.map (·.2)) j i = E yy xx := val
    refine ⟨qa, _, rfl, .inl (.inl hq'), rfl, _, _, rfl, _, _, rfl, rfl, ?_⟩
    dsimp only [List.set]
    refine ⟨.ref d, rfl, .int (i : Int), rfl, .int (j : Int), rfl, by show 2 ≤ sizeLine; decide, fun c nc => ?_⟩
    have s3 := same_upd (o := .tup [.int (i : Int), .int (j : Int)]) nc
    have hdl : upd G2 c (.tup [.int (i : Int), .int (j : Int)]) d = some (.frz od (.dT (L.map kPl))) := s3 _ _ (sm2 _ _ upd_same)
    have K3 := K2.trans (Keeps.same s3)
    have mt3 := mt.same s3
    have sm3 := sm2.trans s3
    refine ⟨d, .ref ca, rfl, .inr ⟨L.map kPl, _, c, .inr ⟨od, hdl⟩, rfl, upd_same (o := .tup ([Sum.inl (i : Int), Sum.inl (j : Int)].map kV)), (val_pl ok.nd memL).symm⟩, ?_⟩
    generalize upd G2 c (.tup [.int (i : Int), .int (j : Int)]) = G3 at s3 hdl K3 mt3 sm3 ⊢
    refine ⟨ca, _, rfl, .inl (.inl (K3 _ _ (hL _ memL))), rfl, _, _, rfl, _, _, rfl, rfl, ?_⟩
    dsimp only [List.set]
    have jr : j < rs.length := by omega
    have mj := List.getElem_mem jr
    have ym : yy < ms.length := by omega
    have my := List.getElem_mem ym
    have lj : rs[j].2.length = a := lra _ mj
    have ly : ms[yy].2.length = wi := wm _ my
    have hyy : ms[yy]? = some (ms[yy].1, ms[yy].2) := List.getElem?_eq_getElem ym
    refine ⟨.ref tr, rfl, .int (j : Int), rfl, tr, refs rs, _, .ref rs[j].1, rfl, rfl, .inl (.inl (K3 _ _ h3)), atI_nat (by rw [List.getElem?_map, List.getElem?_eq_getElem jr]; rfl), .int (i : Int), rfl, rs[j].1, _, _, _, rfl, rfl, .inl (.inl (K3 _ _ (ce _ mj))), atD (by omega), ?_⟩
    refine ⟨.ref D0, rfl, .int (yy : Int), rfl, D0, refs ms, _, .ref ms[yy].1, rfl, rfl, .inl (.inl mt3.at_), atI_nat (by rw [List.getElem?_map, List.getElem?_eq_getElem ym]; rfl), .int (xx : Int), rfl, ms[yy].1, ms[yy].2.map V.int, _, xx, rfl, rfl, mt3.ro _ my, ?_, ?_⟩
    · unfold ixN
      rw [if_pos (by omega), if_pos (by rw [List.length_map]; omega), Int.toNat_natCast]
    have ncG : G ms[yy].1 = none := fm _ my
    have vv : rs[j].2.getD i 0 = E yy xx := by
      rw [← val]
      unfold getM
      rw [List.getD_eq_getElem?_getD (l := rs.map (·.2)), List.getElem?_map, List.getElem?_eq_getElem jr]
      rfl
    have msn : (ms.set yy (ms[yy].1, ms[yy].2.set xx (E yy xx))).map (·.2) = (ms.map (·.2)).set yy (ms[yy].2.set xx (E yy xx)) := List.map_set
    have hmy : (ms.map (·.2))[yy]? = some ms[yy].2 := by rw [List.getElem?_map, hyy]; rfl
    have subset : ∀ z ∈ ms.set yy (ms[yy].1, ms[yy].2.set xx (E yy xx)), z ∈ ms ∨ z = (ms[yy].1, ms[yy].2.set xx (E yy xx)) := fun z hz => List.mem_or_eq_of_mem_set hz
    rw [vv]
    refine ⟨same_at sm3 ?_, ⟨ms.set yy (ms[yy].1, ms[yy].2.set xx (E yy xx)), mt3.set hyy, by rw [List.length_set]; exact lm, fun z hz => ?_, fun z hz => ?_, fun m e hm he => ?_⟩, _, _, _, _, rfl⟩
    · rw [upd_ne (fun z => by rw [z, hd] at ncG; cases ncG)]
      exact ncG
    · rcases subset z hz with hz | rfl
      · exact fm z hz
      · exact ncG
    · rcases subset z hz with hz | rfl
      · exact wm z hz
      · show (ms[yy].2.set xx (E yy xx)).length = wi
        rw [List.length_set]
        exact ly
    · rw [msn, get_set hmy (by omega)]
      by_cases c1 : e.2.1.2 = yy ∧ e.2.1.1 = xx
      · rw [if_pos c1, c1.1, c1.2]
      · rw [if_neg c1]
        by_cases em : m = r
        · subst em
          rw [hLr] at he
          cases he
          exact absurd ⟨rfl, rfl⟩ c1
        · exact done m e (by omega) he
  · rintro σ G2 ⟨sm2, ⟨ms, mt, lm, fm, wm, done⟩, z9, z11, z12, z13, rfl⟩
    have hdl := sm2 _ _ upd_same
    refine ⟨hdl, ?_⟩
    have sG := same_unlock sm2 hd
    have mt3 := mt.by (o' := .dT (L.map kPl)) hdl (fun xs z => nomatch z)
    have eM : ms.map (·.2) = matE hi wi E := by
      refine mat_ext (by rw [List.length_map]; exact lm) (fun x hx => ?_) fun y x hy hx => ?_
      · obtain ⟨c, hc, rfl⟩ := List.mem_map.mp hx
        exact wm c hc
      · obtain ⟨e, he, e2⟩ := ok.sur y x hy hx
        obtain ⟨m, hm⟩ := List.mem_iff_getElem?.mp he
        have := done m e (by rw [List.length_map]; exact (List.getElem?_eq_some_iff.mp hm).1) hm
        rw [e2] at this
        exact this
    generalize upd G2 d (.dT (L.map kPl)) = G3 at sG mt3 ⊢
    show tSeq (tAsg (tLc (iTup K (tVar 4)) (gName 15) tYes (teLt K) [15]) (gName 14)) _ D _ G3
    refine seqAsg ?_
    refine lc_tabs (q := q) (tt := tt) (ts := ts) (ps := ps) ok.q7 rfl (fun v => rfl) (sG _ _ h2) (fun x hx => (tb x hx).keeps (Keeps.same sG)) lt (fun t cs G R sg tab h => led_one tab (.inl (.inl (sg _ _ (sG _ _ hu)))) p4 pr h) fun D2 us G4 sg nD2 hD2 tu la => ?_
    dsimp only [List.set]
    refine ⟨.int (q : Int), rfl, .ref D2, rfl, D2, _, rfl, .inl ⟨.inl (.inl hD2), fun tw ntw => ?_⟩⟩
    have s5 := same_upd (o := .tup (trefs us)) ntw
    have htw := upd_same (H := G4) (a := tw) (o := .tup (trefs us))
    have mt5 := (mt3.same sg).same s5
    have tu5 : ∀ x ∈ us, TabAt K (upd G4 tw (.tup (trefs us))) x.1 x.2 := fun x hx => (tu x hx).same s5
    have sG5 := sG.trans (sg.trans s5)
    generalize upd G4 tw (.tup (trefs us)) = G5 at htw mt5 tu5 sG5 ⊢
    refine ⟨.int (wi : Int), rfl, ?_⟩
    refine tcons_run (tcb_run ?_)
    refine lc_rows (D := D0) (ms := ms) rfl (fun v => rfl) (fun v => rfl) mt5 (by omega) fun D3 cs G6 s6 hD3 ce6 ec => ?_
    refine ⟨D3, _, rfl, .inl ⟨.inl (.inl hD3), fun tq ntq => ⟨by show 4 ≤ sizeLine; decide, fun t' nt' => ?_⟩⟩⟩
    have s7 := same_upd (o := .tup (refs cs)) ntq
    have s8 := same_upd (o := .tup [.int (q : Int), .ref tw, .int (wi : Int), .ref tq]) nt'
    have s78 := s7.trans s8
    refine hrt _ _ (kk t' (tabs us) _ (sG5.trans (s6.trans s78)) (same_none (sG5.trans (s6.trans s7)) nt') ⟨⟨tw, tq, us, cs, upd_same, s78 _ _ (s6 _ _ htw), s8 _ _ upd_same, fun x hx => ((tu5 x hx).same s6).same s78, Cells.same ce6 s78, rfl, by rw [ec, eM]⟩⟩ la)
theorem ok_lawled {f : Addr} {fd : FuncData} {k : Nat} (F : Fun K "_law_led" "_law_led" sLed f fd) (ml : mg "len" = none) (mtup : mg "tuple" = none) (mr : mg "range" = none) (ms : mg "sorted" = none) : FnOk P w K mg base CX0 (k + 1) f fd ["_law_design_here", "_law_places", "_law_turn"] (spLawLed K) := by
  refine F.ok scLed (fun vs H Q E h => ?_) (fun cdv A outer s H vs Q E hr h => ?_)
  · obtain ⟨t, d, u, q, a, b, wi, hi, ts, rs, L, ps, E, rfl, _⟩ := h
    rfl
  obtain ⟨t, d, u, q, a, b, wi, hi, ts, rs, L, ps, EE, rfl, pl, hd, hL, hu, ok, kk⟩ := h
  have nd := scLed.nd
  refine ⟨_, pss_cons (ps_asg (pv 0) (pg_tup rfl (pgs_cons (pg_name (i := 3) nd rfl (.inl rfl)) (pgs_cons (pg_name (i := 4) nd rfl (.inl rfl)) (pgs_cons (pg_name (i := 5) nd rfl (.inl rfl)) (pgs_cons (pg_name (i := 6) nd rfl (.inl rfl)) pgs_nil))))))
      (pss_cons (ps_asg (pe_ifExp (pt_cmpR (op_eqD hr.units) (pv 2) (pe_tup (pa_cons pe_int (pa_cons pe_int (pa_cons pe_int (pa_cons pe_int pa_nil))))) (nomark _)) (pe_tup (pa_cons (pe_callB call_len_seq (by rfl) ml PySem.boot_len (pa_cons (pv 6) pa_nil)) (pa_cons (pv 5) pa_nil))) (pe_tup (pa_cons (pv 5) (pa_cons (pe_callB call_len_seq (by rfl) ml PySem.boot_len (pa_cons (pv 6) pa_nil)) pa_nil)))) (pg_tup rfl (pgs_cons (pg_name (i := 7) nd rfl (.inr rfl)) (pgs_cons (pg_name (i := 8) nd rfl (.inl rfl)) pgs_nil))))
      (pss_cons (ps_setLc (i := 10) (own := [("_law_j", 9)]) (g := gName 9) (tt := tYes) (te := teZ) rfl nd rfl rfl (sw_true rfl rfl rfl (by decide +kernel)) (pi_range1 (by rfl) mr (pa_cons (pv 8) pa_nil)) (blkOk_by (own := [("_law_j", 9)]) (N := NLed) (sc := defScope sLed) (by decide +kernel)) (fun _ _ _ _ _ => pg_name (i := 9) nd rfl (.inl rfl)) (fun _ _ _ _ _ => pts_nil) (fun _ _ _ _ _ => (pe_op op_rep (pe_lst (pa_cons pe_int pa_nil)) (pv 7))))
      (pss_cons (ps_lock (ps_for PassesOwn.never rfl (pi_keys (pv 1)) (pg_tup rfl (pgs_cons (pg_name (i := 11) nd rfl (.inl rfl)) (pgs_cons (pg_name (i := 9) nd rfl (.inl rfl)) pgs_nil))) (pss_cons (ps_asg (pe_dget (Nat.lt_of_le_of_lt (Nat.add_le_add_left (by decide) _) hr.units) (pv 1) (pe_tup (pa_cons (pv 11) (pa_cons (pv 9) pa_nil))) (fun _ _ => rfl)) (pg_tup rfl (pgs_cons (pg_name (i := 12) nd rfl (.inl rfl)) (pgs_cons (pg_name (i := 13) nd rfl (.inl rfl)) pgs_nil))))
      (pss_one (ps_asg (pe_ix ix_tup (pe_ix ix_tup (pv 6) (pv 9) (fun _ _ => rfl)) (pv 11) (fun _ _ => rfl)) (pg_sub (pe_ix ix_list (pv 10) (pv 13) (fun _ _ => rfl)) (pv 12) set_list))))))
      (pss_cons (ps_setLc (i := 14) (own := [("_law_table_here", 15)]) (g := gName 15) (tt := tYes) (te := teLt K) rfl nd rfl rfl (sw_true rfl rfl rfl (by decide +kernel)) (pi_tup (pv 4)) (blkOk_by (own := [("_law_table_here", 15)]) (N := NLed) (sc := defScope sLed) (by decide +kernel)) (fun _ _ _ _ _ => pg_name (i := 15) nd rfl (.inl rfl)) (fun _ _ _ _ _ => pts_nil) (fun _ _ _ _ _ => (pe_callTy call_tuple_of (by rfl) mtup (by decide +kernel) (pa_cons (pe_callB (cr_sortT (d := 4) (B := 7) (by decide)) (by rfl) ms (by decide +kernel) (pa_cons (pe_lc (own := [("_law_quad", 16)]) (g := gName 16) (tt := tYes) (te := teLq K) rfl nd (pi_tup (pv 15)) (blkOk_by (own := [("_law_quad", 16)]) (N := NLed) (sc := scLt) (by decide +kernel)) (fun _ _ _ _ _ => pg_name (i := 16) nd rfl (.inr rfl)) (fun _ _ _ _ _ => pts_nil) (fun _ _ _ _ _ => (pe_callTy call_tuple_of (by rfl) mtup (by decide +kernel) (pa_cons (pe_lc (own := [("_law_leg", 17)]) (g := gName 17) (tt := tYes) (te := teLl K) rfl nd (pi_tup (pv 2)) (blkOk_by (own := [("_law_leg", 17)]) (N := NLed) (sc := scLq) (by decide +kernel)) (fun _ _ _ _ _ => pg_name (i := 17) nd rfl (.inl rfl)) (fun _ _ _ _ _ => pts_nil) (fun _ _ _ _ _ => (pe_ix ix_tup (pv 16) (pv 17) (fun _ _ => rfl)))) pa_nil)))) pa_nil)) pa_nil))))
      (pss_one (ps_ret (pe_tup (pa_cons (pv 3) (pa_cons (pe_callTy call_tuple_of (by rfl) mtup (by decide +kernel) (pa_cons (pv 14) pa_nil)) (pa_cons (pv 7) (pa_cons (pe_callTy call_tuple_of (by rfl) mtup (by decide +kernel) (pa_cons (pe_lc (own := [("_law_row", 18)]) (g := gName 18) (tt := tYes) (te := teFo K) rfl nd (pi_list (pv 10)) (blkOk_by (own := [("_law_row", 18)]) (N := NLed) (sc := defScope sLed) (by decide +kernel)) (fun _ _ _ _ _ => pg_name (i := 18) nd rfl (.inl rfl)) (fun _ _ _ _ _ => pts_nil) (fun _ _ _ _ _ => (pe_callTy call_tuple_of (by rfl) mtup (by decide +kernel) (pa_cons (pv 18) pa_nil)))) pa_nil)) pa_nil))))))))))), ?_⟩
  obtain ⟨tt, tr, h1, h2, h3⟩ := pl.ex
  have a9 := ok.a9
  have b9 := ok.b9
  refine ⟨.ref t, rfl, t, _, rfl, .inl (.inl h1), rfl, _, _, rfl, _, _, rfl, _, _, rfl, _, _, rfl, rfl, ?_⟩
  have lr : (refs rs).length = b := by rw [List.length_map, pl.lr]
  refine ⟨.ref u, rfl, by show 4 ≤ sizeLine; decide, fun c nc => ?_⟩
  have sc := same_upd (o := .tup [.int 3, .int 0, .int 1, .int 2]) nc
  have hu' := sc _ _ hu
  have go : ∀ {n1 n2 : Nat} {D : Ends} {G : Hp}, n1 = 2 → n2 = 2 → Same H G → (∀ v H', Q v H' → D.rt v H') → tsRest K n1 n2 D [some (.ref t), some (.ref d), some (.ref u), some (.int (q : Int)), some (.ref tt), some (.int (a : Int)), some (.ref tr), some (.int (wi : Int)), some (.int (hi : Int)), none, none, none, none, none, none, none, none, none, none] G := fun e1 e2 sg hrt =>
    led_rest e1 e2 ok (sg _ _ h2) (sg _ _ h3) (fun x hx => (pl.tb x hx).keeps (Keeps.same sg)) (pl.ce.same sg) pl.lt pl.lr pl.la (sg _ _ hd) (hL.keeps (Keeps.same sg)) (sg _ _ hu) hrt fun t' TT H' s' n' pd la => kk t' TT H' (sg.trans s') (same_none sg n') pd la
  rcases ok.way with ⟨rfl, rfl, rfl⟩ | ⟨rfl, rfl, rfl⟩
  · refine ⟨_, _, four_dp hu', four_dp upd_same, rfl, rfl, true, by rw [eqv_T], iteT ?_⟩
    refine ⟨.ref tr, rfl, tr, _, rfl, .inr (.inl (.inl (sc _ _ h3))), .int (hi : Int), rfl, by show 2 ≤ sizeLine; decide, fun T nT => ?_⟩
    have sT := same_upd (o := .tup [.int ((refs rs).length : Int), .int (hi : Int)]) nT
    refine ⟨T, _, rfl, .inl (.inl upd_same), rfl, _, _, rfl, _, _, rfl, rfl, ?_⟩
    rw [lr]
    rw [lr] at sT
    exact go rfl rfl (sc.trans sT) (fun v H' h => h)
  · refine ⟨_, _, four_dp hu', four_dp upd_same, rfl, rfl, false, by rw [eqv_F], iteF ?_⟩
    refine ⟨.int (wi : Int), rfl, .ref tr, rfl, tr, _, rfl, .inr (.inl (.inl (sc _ _ h3))), by show 2 ≤ sizeLine; decide, fun T nT => ?_⟩
    have sT := same_upd (o := .tup [.int (wi : Int), .int ((refs rs).length : Int)]) nT
    refine ⟨T, _, rfl, .inl (.inl upd_same), rfl, _, _, rfl, _, _, rfl, rfl, ?_⟩
    rw [lr]
    rw [lr] at sT
    exact go rfl rfl (sc.trans sT) (fun v H' h => h)
end
end C2

namespace C2
set_option Elab.async false
set_option linter.all false
set_option maxRecDepth 100000
set_option maxHeartbeats 1000000
open PySem PySem.Spec PyProof.Rows L2 HT RT
/-! ### plans as data -/
theorem Plain.mono {ds : List PyData} {dp dp' wt wt' : Nat} (h : Plain ds dp wt) (a : dp ≤ dp') (b : wt ≤ wt') : Plain ds dp' wt' := ⟨h.sh, h.hd, h.ls, Nat.le_trans h.dp a, Nat.le_trans h.wt b, h.cl⟩
theorem small10 {v : Int} (h0 : 0 ≤ v) (h1 : v < 10) : PyData.showable (.int v) = true ∧ PyData.leavesShort 8 (.int v) = true ∧ PyData.weight (.int v) ≤ 4 ∧ PyData.canLay0 (.int v) = true := by
  by_cases h : v < 7
  · obtain ⟨s1, s2, s3, s4⟩ := small7 h0 h
    exact ⟨s1, s2, by omega, s4⟩
  have : v = 7 ∨ v = 8 ∨ v = 9 := by omega
  rcases this with rfl | rfl | rfl <;> (refine ⟨?_, ?_, ?_, ?_⟩ <;> simp only [PyData.showable, PyData.leavesShort, PyData.weight, PyData.shown, PyData.canLay0] <;> decide +kernel)
theorem plain_int {v : Int} (h0 : 0 ≤ v) (h1 : v < 10) : Plain [.int v] 0 5 := by
  obtain ⟨s1, s2, s3, s4⟩ := small10 h0 h1
  refine ⟨?_, ?_, ?_, ?_, ?_, ?_⟩ <;> simp only [PyData.showableAll, PyData.hasDictAll, PyData.leavesShortAll, PyData.depthAll, PyData.weightAll, PyData.canLayAll0, s1, s2, s4, PyData.hasDict, PyData.depth]
  · rfl
  · rfl
  · rfl
  · omega
  · omega
  · rfl
theorem plain_tabs : ∀ {TT : List (List (List Int))}, (∀ L ∈ TT, Plain [dTT L] 2 1200) → Plain (TT.map dTT) 2 (1200 * TT.length)
  | [], _ => Plain.nil 2
  | L :: TT, h => ((h L List.mem_cons_self).cons (plain_tabs fun M hM => h M (List.mem_cons_of_mem _ hM))).mono (Nat.le_refl _) (by rw [List.length_cons]; omega)
def RowsOk (RR : List (List Int)) : Prop := RR.length ≤ 9 ∧ ∀ r ∈ RR, r.length ≤ 9 ∧ ∀ v ∈ r, 0 ≤ v ∧ v < 7
theorem plain_rows : ∀ {RR : List (List Int)}, (∀ r ∈ RR, r.length ≤ 9 ∧ ∀ v ∈ r, 0 ≤ v ∧ v < 7) → Plain (RR.map dT) 1 (37 * RR.length)
  | [], _ => Plain.nil 1
  | r :: RR, h => by
    obtain ⟨l, v⟩ := h r List.mem_cons_self
    exact ((plain_ints r v).tup.cons (plain_rows fun M hM => h M (List.mem_cons_of_mem _ hM))).mono (Nat.le_refl _) (by rw [List.length_cons]; omega)
abbrev dPlan (q w : Nat) (TT : List (List (List Int))) (RR : List (List Int)) : PyData := .tuple [.int (q : Int), .tuple (TT.map dTT), .int (w : Int), .tuple (RR.map dT)]
theorem plain_plan {q w : Nat} {TT : List (List (List Int))} {RR : List (List Int)} (q9 : q ≤ 9) (w9 : w ≤ 9) (lt : TT.length ≤ 3) (ht : ∀ L ∈ TT, Plain [dTT L] 2 1200) (hr : RowsOk RR) : Plain [dPlan q w TT RR] 4 5000 := by
  have l9 := hr.1
  have p1 : Plain [.int (q : Int)] 3 5 := (plain_int (by omega) (by omega)).mono (by omega) (Nat.le_refl _)
  have p2 := (plain_tabs ht).tup
  have p3 : Plain [.int (w : Int)] 3 5 := (plain_int (by omega) (by omega)).mono (by omega) (Nat.le_refl _)
  have p4 : Plain [.tuple (RR.map dT)] 3 (37 * RR.length + 1) := (plain_rows hr.2).tup.mono (by omega) (Nat.le_refl _)
  exact (p1.cons (p2.cons (p3.cons p4))).tup.mono (Nat.le_refl _) (by omega)
theorem dpTabs {K : PySem.W.Frag} {G : Hp} : ∀ ts : List Tb, (∀ x ∈ ts, TabAt K G x.1 x.2) → DpAll K G (trefs ts) ((tabs ts).map dTT)
  | [], _ => .nil
  | x :: r, h => .cons (h x List.mem_cons_self).dp (dpTabs r fun d hd => h d (List.mem_cons_of_mem _ hd))
theorem PD.dp {K : PySem.W.Frag} {G : Hp} {t : Addr} {q w : Nat} {TT : List (List (List Int))} {RR : List (List Int)} (h : PD K G t q w TT RR) : Dp K G (.ref t) (dPlan q w TT RR) := by
  obtain ⟨tt, tr, ts, rs, h1, h2, h3, h4, h5, rfl, rfl⟩ := h.ex
  exact .tup (.inl (.inl h1)) (.cons (.int _) (.cons (.tup (.inl (.inl h2)) (dpTabs ts h4)) (.cons (.int _) (.cons (.tup (.inl (.inl h3)) (dpCells rs fun c hc => .inl (.inl (h5 c hc)))) .nil))))
theorem PD.inR {K : PySem.W.Frag} {G : Hp} {t : Addr} {q w : Nat} {TT : List (List (List Int))} {RR : List (List Int)} (h : PD K G t q w TT RR) : ∀ L ∈ TT, InR L := by
  obtain ⟨tt, tr, ts, rs, h1, h2, h3, h4, h5, rfl, rfl⟩ := h.ex
  intro L hL
  obtain ⟨x, hx, rfl⟩ := List.mem_map.mp hL
  exact (h4 x hx).rg
theorem PD.pl {K : PySem.W.Frag} {G : Hp} {t : Addr} {q w : Nat} {TT : List (List (List Int))} {RR : List (List Int)} (h : PD K G t q w TT RR) (q9 : q ≤ 9) (w9 : w ≤ 9) (lt : TT.length ≤ 3) (hr : RowsOk RR) : Plain [dPlan q w TT RR] 4 5000 := by
  refine plain_plan q9 w9 lt ?_ hr
  obtain ⟨tt, tr, ts, rs, h1, h2, h3, h4, h5, rfl, rfl⟩ := h.ex
  intro L hL
  obtain ⟨x, hx, rfl⟩ := List.mem_map.mp hL
  exact (h4 x hx).pl
theorem PlanAt.pd {K : PySem.W.Frag} {G : Hp} {t : Addr} {q a b : Nat} {ts : List Tb} {rs : List (Addr × List Int)} (h : PlanAt G t q a b ts rs) (q7 : q ≤ 7) : PD K G t q a (tabs ts) (rs.map (·.2)) := by
  obtain ⟨tt, tr, h1, h2, h3⟩ := h.ex
  exact ⟨⟨tt, tr, ts, rs, h1, h2, h3, fun x hx => (h.tb x hx).tab q7, h.ce, rfl, rfl⟩⟩
theorem PlanAt.rows {G : Hp} {t : Addr} {q a b : Nat} {ts : List Tb} {rs : List (Addr × List Int)} (h : PlanAt G t q a b ts rs) (a9 : a ≤ 9) (b9 : b ≤ 9) : RowsOk (rs.map (·.2)) := by
  refine ⟨by rw [List.length_map, h.lr]; exact b9, fun r hr => ?_⟩
  obtain ⟨c, hc, rfl⟩ := List.mem_map.mp hr
  exact ⟨by rw [h.la c hc]; exact a9, h.rg c hc⟩
theorem flip_rows {RR : List (List Int)} (h : RowsOk RR) : RowsOk (RR.map List.reverse) := by
  refine ⟨by rw [List.length_map]; exact h.1, fun r hr => ?_⟩
  obtain ⟨x, hx, rfl⟩ := List.mem_map.mp hr
  exact ⟨by rw [List.length_reverse]; exact (h.2 x hx).1, fun v hv => (h.2 x hx).2 v (List.mem_reverse.mp hv)⟩
theorem q_rows {a : Nat} {RR : List (List Int)} (a9 : a ≤ 9) (h : RowsOk RR) : RowsOk (qRows a RR) := by
  unfold qRows
  refine ⟨by rw [List.length_map, List.length_range]; exact a9, fun r hr => ?_⟩
  obtain ⟨i, _, rfl⟩ := List.mem_map.mp hr
  refine ⟨by rw [List.length_map, List.length_reverse]; exact h.1, fun v hv => ?_⟩
  obtain ⟨x, hx, rfl⟩ := List.mem_map.mp hv
  rw [List.getD_eq_getElem?_getD]
  cases e : x[i]? with
  | none => exact ⟨by decide, by decide⟩
  | some y => exact (h.2 x (List.mem_reverse.mp hx)).2 y (List.mem_of_getElem? e)
theorem q_mat {a : Nat} {RR : List (List Int)} : qRows a RR = matE a RR.length fun y x => getM RR (RR.length - 1 - x) y := by
  refine mat_ext ?_ (fun r hr => ?_) fun y x hy hx => ?_
  · unfold qRows
    rw [List.length_map, List.length_range]
  · unfold qRows at hr
    obtain ⟨i, _, rfl⟩ := List.mem_map.mp hr
    rw [List.length_map, List.length_reverse]
  · unfold getM qRows
    rw [List.getD_eq_getElem?_getD, List.getD_eq_getElem?_getD, List.getElem?_map, List.getElem?_range hy]
    show ((RR.reverse.map fun r => r.getD y 0)[x]?).getD 0 = _
    rw [List.getElem?_map, List.getElem?_reverse hx, List.getD_eq_getElem?_getD (l := RR), List.getElem?_eq_getElem (show RR.length - 1 - x < RR.length by omega)]
    rfl
theorem f_mat {a : Nat} {RR : List (List Int)} (la : ∀ r ∈ RR, r.length = a) : RR.map List.reverse = matE RR.length a fun y x => getM RR y (a - 1 - x) := by
  refine mat_ext (by rw [List.length_map]) (fun r hr => ?_) fun y x hy hx => ?_
  · obtain ⟨i, hi, rfl⟩ := List.mem_map.mp hr
    rw [List.length_reverse]
    exact la i hi
  · unfold getM
    have l := la _ (List.getElem_mem hy)
    rw [List.getD_eq_getElem?_getD, List.getD_eq_getElem?_getD, List.getElem?_map, List.getD_eq_getElem?_getD (l := RR), List.getElem?_eq_getElem hy]
    show (RR[y].reverse[x]?).getD 0 = RR[y].getD (a - 1 - x) 0
    rw [List.getElem?_reverse (by omega), List.getD_eq_getElem?_getD, l]
/-! ### which crossing comes where -/
def qPl (b : Nat) (k : Nat × Nat) : Nat × Nat := (b - 1 - k.2, k.1)
def fPl (a : Nat) (k : Nat × Nat) : Nat × Nat := (a - 1 - k.1, k.2)
def keysA (a r : Nat) : List (Nat × Nat) := (List.range r).flatMap fun j => (List.range a).map fun i => (i, j)
theorem keys_mem {a r : Nat} {k : Nat × Nat} : k ∈ keysA a r ↔ k.1 < a ∧ k.2 < r := by
  unfold keysA
  rw [List.mem_flatMap]
  constructor
  · rintro ⟨j, hj, h⟩
    obtain ⟨i, hi, rfl⟩ := List.mem_map.mp h
    exact ⟨List.mem_range.mp hi, List.mem_range.mp hj⟩
  · rintro ⟨h1, h2⟩
    exact ⟨k.2, List.mem_range.mpr h2, List.mem_map.mpr ⟨k.1, List.mem_range.mpr h1, rfl⟩⟩
theorem keys_snoc (a r : Nat) : keysA a (r + 1) = keysA a r ++ (List.range a).map fun i => (i, r) := by
  unfold keysA
  exact flat_snoc _ r
theorem keys_nodup (a : Nat) : ∀ r, (keysA a r).Nodup
  | 0 => List.nodup_nil
  | r + 1 => by
    rw [keys_snoc]
    refine List.nodup_append.mpr ⟨keys_nodup a r, nodup_map_of List.nodup_range fun x _ y _ e => congrArg (·.1) e, fun x hx y hy e => ?_⟩
    subst e
    obtain ⟨i, _, rfl⟩ := List.mem_map.mp hy
    exact absurd (keys_mem.mp hx).2 (Nat.lt_irrefl _)
theorem okQ {q a b : Nat} {rs : List (Addr × List Int)} {L : List PlE} (q7 : q ≤ 7) (a9 : a ≤ 9) (b9 : b ≤ 9) (lr : rs.length = b) (ek : L.map (·.1) = keysA a b) (ev : ∀ e ∈ L, e.2.1 = qPl b e.1) : LedOk q a b b a pT rs L (fun y x => getM (rs.map (·.2)) ((rs.map (·.2)).length - 1 - x) y) := by
  have ll : (rs.map (·.2)).length = b := by rw [List.length_map, lr]
  refine ⟨q7, a9, b9, .inl ⟨rfl, rfl, rfl⟩, by rw [ek]; exact keys_nodup a b, fun e he => ?_, fun y x hy hx => ?_⟩
  · obtain ⟨h1, h2⟩ := keys_mem.mp (ek ▸ List.mem_map.mpr ⟨e, he, rfl⟩ : e.1 ∈ keysA a b)
    rw [ev e he, ll]
    unfold qPl
    refine ⟨h1, h2, by show b - 1 - e.1.2 < b; omega, h1, ?_⟩
    show _ = getM _ (b - 1 - (b - 1 - e.1.2)) e.1.1
    rw [show b - 1 - (b - 1 - e.1.2) = e.1.2 by omega]
  · have : (y, b - 1 - x) ∈ L.map (·.1) := by
      rw [ek]
      exact keys_mem.mpr ⟨hy, by show b - 1 - x < b; omega⟩
    obtain ⟨e, he, e1⟩ := List.mem_map.mp this
    refine ⟨e, he, ?_⟩
    rw [ev e he, e1]
    unfold qPl
    exact Prod.ext (by show b - 1 - (b - 1 - x) = x; omega) rfl
theorem okF {q a b : Nat} {rs : List (Addr × List Int)} {L : List PlE} (q7 : q ≤ 7) (a9 : a ≤ 9) (b9 : b ≤ 9) (ek : L.map (·.1) = keysA a b) (ev : ∀ e ∈ L, e.2.1 = fPl a e.1) : LedOk q a b a b pF rs L (fun y x => getM (rs.map (·.2)) y (a - 1 - x)) := by
  refine ⟨q7, a9, b9, .inr ⟨rfl, rfl, rfl⟩, by rw [ek]; exact keys_nodup a b, fun e he => ?_, fun y x hy hx => ?_⟩
  · obtain ⟨h1, h2⟩ := keys_mem.mp (ek ▸ List.mem_map.mpr ⟨e, he, rfl⟩ : e.1 ∈ keysA a b)
    rw [ev e he]
    unfold fPl
    refine ⟨h1, h2, by show a - 1 - e.1.1 < a; omega, h2, ?_⟩
    show _ = getM _ e.1.2 (a - 1 - (a - 1 - e.1.1))
    rw [show a - 1 - (a - 1 - e.1.1) = e.1.1 by omega]
  · have : (a - 1 - x, y) ∈ L.map (·.1) := by
      rw [ek]
      exact keys_mem.mpr ⟨by show a - 1 - x < a; omega, hy⟩
    obtain ⟨e, he, e1⟩ := List.mem_map.mp this
    refine ⟨e, he, ?_⟩
    rw [ev e he, e1]
    unfold fPl
    exact Prod.ext (by show a - 1 - (a - 1 - x) = x; omega) rfl
end C2

namespace C2
set_option Elab.async false
set_option linter.all false
set_option maxRecDepth 100000
set_option maxHeartbeats 1000000
open PySem PySem.Spec PyProof.Rows L2 HT RT
/-! ### a call by names alone -/
section
variable {X : Cx} {k : Nat} {f : Addr} {fd : FuncData} {ps ks : List Str} {sp : Sp} {E : XK} {x : Str} {p pos : Pos} {kws : List Keyword} {tk : TA} {g : List Value → List Value → List Value} {gV : List V → List V → List V}
theorem pe_callKW (G : FnOk X.prog X.w X.K X.mg X.base CX0 k f fd ps sp) (room : Room k X.A) (glob : Gl X x) (at_ : X.mg x = some (.ref f)) (kept : PySem.W.keepIn X.K (.ref f) = true) (binds : KBinds X.K fd ps ks g gV) (pass : Passes CX0 X E) (named : PK X kws tk)
    (each : (backToKw pos (keywordEach kws X.env)).all (·.1.isSome) = true := by rfl) (names : (backToKw pos (keywordEach kws X.env)).filterMap (·.1) = ks := by rfl) (plainName : (x == ("__debug__" : Str)) = false := by decide)
    (plain : ((backTo pos (starEach [] X.env)).any (·.1) || (backToKw pos (keywordEach kws X.env)).any (·.1.isNone)) = false := by rfl) : PE X (.Call (.Name x p) [] kws pos) (tCallK sp gV E tNil tk) := by
  constructor
  intro pins s σ H Q I h
  have args := named.run pos pins s σ H _ I h
  refine wpAny_Call_Name_kw (ld_glob I glob at_ (PySem.W.callWith_KW0 (h₀ := X.base) I.ok.mod.kin kept each (thn args ?_) plain) plainName)
  rintro ws s2 ⟨zs, H2, I2, rz, q2⟩
  rw [names]
  exact ⟨I2.kIn, run_fnk (us := []) (vs := []) G room binds pass I2 .nil rz q2⟩
end
/-- one value by name; two as they stand, and one by name -/
def sw1 {α : Type} : List α → List α → List α
  | [], [a] => [a]
  | _, _ => []
def sw21 {α : Type} : List α → List α → List α
  | [a, b], [c] => [a, b, c]
  | _, _ => []
theorem sw1_vals {vs zs : List V} {us ws : List Value} (r : Vals vs us) (rz : Vals zs ws) : Vals (sw1 vs zs) (sw1 us ws) := by
  cases r with
  | cons _ _ => exact .nil
  | nil => cases rz with
    | nil => exact .nil
    | cons r1 r2 => cases r2 with
      | nil => exact .cons r1 .nil
      | cons _ _ => exact .nil
theorem sw21_vals {vs zs : List V} {us ws : List Value} (r : Vals vs us) (rz : Vals zs ws) : Vals (sw21 vs zs) (sw21 us ws) := by
  cases r with
  | nil => exact .nil
  | cons a1 r => cases r with
    | nil => exact .nil
    | cons a2 r => cases r with
      | cons _ _ => exact .nil
      | nil => cases rz with
        | nil => exact .nil
        | cons a3 rz => cases rz with
          | nil => exact .cons a1 (.cons a2 (.cons a3 .nil))
          | cons _ _ => exact .nil
section
variable {P : Program} {w : World} {K : PySem.W.Frag} {mg : Str → Option Value} {base : Heap}
theorem kb_quarter {f : Addr} {fd : FuncData} (F : Fun K "quarter" "quarter" sQuarter f fd) : KBinds K fd ["plan"] ["plan"] sw1 sw1 := by
  obtain ⟨v1, v2, v3, v4, v5, v6, v7, v8, v9, rfl, _, _⟩ := F.ex
  refine ⟨fun s us ws _ hl => ?_, fun r rz => sw1_vals r rz⟩
  match us, ws, hl with
  | [], [a], _ => exact .of_eq rfl
  | [], [], hl => cases hl
  | [], _ :: _ :: _, hl => cases hl
  | _ :: _, _, hl => cases hl
theorem kb_flip {f : Addr} {fd : FuncData} (F : Fun K "flip" "flip" sFlip f fd) : KBinds K fd ["plan"] ["plan"] sw1 sw1 := by
  obtain ⟨v1, v2, v3, v4, v5, v6, v7, v8, v9, rfl, _, _⟩ := F.ex
  refine ⟨fun s us ws _ hl => ?_, fun r rz => sw1_vals r rz⟩
  match us, ws, hl with
  | [], [a], _ => exact .of_eq rfl
  | [], [], hl => cases hl
  | [], _ :: _ :: _, hl => cases hl
  | _ :: _, _, hl => cases hl
theorem kb_qw {f : Addr} {fd : FuncData} (F : Fun K "quarter_wire" "quarter_wire" sQWire f fd) : KBinds K fd ["a", "b", "wire"] ["wire"] sw21 sw21 := by
  obtain ⟨v1, v2, v3, v4, v5, v6, v7, v8, v9, rfl, _, _⟩ := F.ex
  refine ⟨fun s us ws _ hl => ?_, fun r rz => sw21_vals r rz⟩
  match us, ws, hl with
  | [a, b], [c], _ => exact .of_eq rfl
  | [], _, hl => cases hl
  | [_], _, hl => cases hl
  | _ :: _ :: _ :: _, _, hl => cases hl
  | [_, _], [], hl => cases hl
  | [_, _], _ :: _ :: _, hl => cases hl
theorem kb_fw {f : Addr} {fd : FuncData} (F : Fun K "flip_wire" "flip_wire" sFWire f fd) : KBinds K fd ["a", "b", "wire"] ["wire"] sw21 sw21 := by
  obtain ⟨v1, v2, v3, v4, v5, v6, v7, v8, v9, rfl, _, _⟩ := F.ex
  refine ⟨fun s us ws _ hl => ?_, fun r rz => sw21_vals r rz⟩
  match us, ws, hl with
  | [a, b], [c], _ => exact .of_eq rfl
  | [], _, hl => cases hl
  | [_], _, hl => cases hl
  | _ :: _ :: _ :: _, _, hl => cases hl
  | [_, _], [], hl => cases hl
  | [_, _], _ :: _ :: _, hl => cases hl
abbrev NRi : List Str := ["_law_design_here", "_law_q", "_law_tables", "_law_a", "_law_rows", "_law_b", "_law_kept", "_law_turned_so", "_law_flipped_so", "_law_j", "_law_i", "_law_due", "_law_four", "_law_there", "_law_beside", "_law_legs_there", "_law_legs_beside", "_law_every", "_law_one", "_law_leg"]
theorem scRight : FnScope NRi ["_law_design_here"] (defScope sRight) := ⟨rfl, rfl, rfl, by decide +kernel, rfl, by decide +kernel, by decide +kernel⟩
def teQw : TE := tCall spQWire [] E0 (tCons (tVar 3) (tCons (tVar 5) (tCons (tVar 18) tNil)))
def teFw : TE := tCall spFWire [] E0 (tCons (tVar 3) (tCons (tVar 5) (tCons (tVar 18) tNil)))
def teQk : TE := tCallK spQWire sw21 E0 (tCons (tVar 3) (tCons (tVar 5) tNil)) (tCons (tVar 18) tNil)
def teFk : TE := tCallK spFWire sw21 E0 (tCons (tVar 3) (tCons (tVar 5) tNil)) (tCons (tVar 18) tNil)
def teLb (K : PySem.W.Frag) : TE := tOp (rIxL K) (tVar 16) (tVar 19)
/-- [lead(a, b, one) for one in wires] -/
theorem lc_lead {te : TE} {σ : L2.St} {G : Hp} {Q : VK} {kl : Nat} {l : Addr} {bs : List WB} {f : Wi → Wi} (hk : σ[kl]? = some (some (.ref l))) (hw : ∀ v, wipe ((wipe σ [18]).set 18 (some v)) [18] = wipe σ [18]) (hl : G l = some (.lst (brefs bs))) (hb : WBs G bs) (few : bs.length ≤ 3280)
    (hte : ∀ (c : Addr) (x : Wi) (G : Hp) (R : VK), G c = some (.tup (wv x)) → (∀ c' G', Same G G' → G' c' = some (.tup (wv (f x))) → R (.ref c') G') → te ((wipe σ [18]).set 18 (some (.ref c))) G R)
    (k : ∀ D cs G', Same G G' → G D = none → G' D = some (.lst (brefs cs)) → WBs G' cs → cs.map (·.2) = (bs.map (·.2)).map f → Q (.ref D) G') : tLc (iList K (tVar kl)) (gName 18) tYes te [18] σ G Q := by
  refine ⟨_, hk, l, rfl, ⟨_, .inl (.inl hl)⟩, fun D nD => ?_⟩
  have len : (brefs bs).length = bs.length := List.length_map _
  refine lc_list (xs := brefs bs) (fun r G' => Same G G' ∧ ∃ cs : List WB, G' D = some (.lst (brefs cs)) ∧ cs.length = r ∧ WBs G' cs ∧ cs.map (·.2) = ((bs.take r).map (·.2)).map f) ⟨same_upd nD, [], upd_same, rfl, (fun b hb => nomatch hb), rfl⟩ (fun r G' _ h => .inl (.inl (h.1 _ _ hl))) ?_ ?_
  · rintro r x G' hx ⟨sm, cs, hD, lc, hc, ec⟩
    have hr : r < bs.length := by rw [← len]; exact (List.getElem?_eq_some_iff.mp hx).1
    have ebr : bs[r]? = some bs[r] := List.getElem?_eq_getElem hr
    have ex : x = .ref bs[r].1 := by
      rw [List.getElem?_map, ebr] at hx
      exact (Option.some.inj hx).symm
    subst ex
    refine ⟨hw _, ?_⟩
    simp only [tYes, ↓reduceIte]
    refine hte bs[r].1 bs[r].2 G' _ (sm _ _ (hb _ (List.getElem_mem hr))) fun c' G2 s2 h' => ?_
    have hD2 := s2 _ _ hD
    have kp : Keeps G2 (upd G2 D (.lst (brefs cs ++ [.ref c']))) := Keeps.at hD2 (fun xs z => nomatch z)
    refine ⟨_, hD2, Nat.lt_of_lt_of_le (show (brefs cs).length < 100000 by rw [List.length_map]; omega) (by decide), same_at (sm.trans s2) nD, cs ++ [(c', f bs[r].2)], by rw [upd_same, brefs_app]; rfl, by rw [List.length_append, lc]; rfl, fun z hz => ?_, ?_⟩
    · rcases List.mem_append.mp hz with hz | hz
      · exact kp _ _ (s2 _ _ (hc z hz))
      · rw [List.mem_singleton.mp hz]
        exact kp _ _ h'
    · rw [List.map_append, ec, List.take_add_one, ebr, List.map_append, List.map_append]
      rfl
  · rintro G' ⟨sm, cs, hD, lc, hc, ec⟩
    rw [len, List.take_of_length_le (Nat.le_refl _)] at ec
    exact k D cs G' sm nD hD hc ec
/-! wires as data -/
def dW (x : Wi) : PyData := .tuple [.str (wordOf x.1), .int x.2.1, .int x.2.2]
theorem dp_wires {G : Hp} : ∀ (bs : List WB), WBs G bs → DpAll K G (brefs bs) ((bs.map (·.2)).map dW)
  | [], _ => .nil
  | b :: bs, h => .cons (.tup (.inl (.inl (h b List.mem_cons_self))) (.cons (.str _) (.cons (.int _) (.cons (.int _) .nil)))) (dp_wires bs fun x hx => h x (List.mem_cons_of_mem _ hx))
theorem dp_list {G : Hp} {l : Addr} {bs : List WB} (hl : G l = some (.lst (brefs bs))) (hb : WBs G bs) : Dp K G (.ref l) (.list ((bs.map (·.2)).map dW)) := .lst (.inl (.inl hl)) (dp_wires bs hb)
theorem eqv_self : ∀ ws : List Wi, PyData.eqv (.list (ws.map dW)) (.list (ws.map dW)) = true := fun ws => by
  have one : ∀ ws : List Wi, PyData.eqvAll (ws.map dW) (ws.map dW) = true := fun ws => by
    induction ws with
    | nil => simp [PyData.eqvAll]
    | cons x r ih =>
      simp only [List.map_cons, PyData.eqvAll, ih]
      simp [dW, PyData.eqv, PyData.eqvAll]
  simp only [PyData.eqv]
  exact one ws
def spRight (K : PySem.W.Frag) : Sp := fun vs H Q _ => ∃ (t : Addr) (q a b : Nat) (ts : List Tb) (rs : List (Addr × List Int)), vs = [.ref t] ∧ PlanAt H t q a b ts rs ∧ q ≤ 7 ∧ a ≤ 9 ∧ b ≤ 9 ∧ ∀ H', Same H H' → Q (.bl true) H'
end
end C2

namespace C2
set_option Elab.async false
set_option linter.all false
set_option maxRecDepth 100000
set_option maxHeartbeats 1000000
open PySem PySem.Spec PyProof.Rows L2 HT RT
theorem shaped_w (ws : List Wi) : SeqAt.shaped (.list (ws.map dW)) = true := by
  have one : PyData.canLayAll0 (ws.map dW) = true ∧ PyData.depthAll (ws.map dW) ≤ 1 := by
    induction ws with
    | nil => simp [PyData.canLayAll0, PyData.depthAll]
    | cons x r ih =>
      obtain ⟨b, n, p⟩ := x
      have s : PyData.canLay0 (dW (b, n, p)) = true := by
        cases b <;> (simp only [dW, PyData.canLay0, PyData.canLayAll0]; decide +kernel)
      have d : PyData.depth (dW (b, n, p)) = 1 := by simp [dW, PyData.depth, PyData.depthAll]
      simp only [List.map_cons, PyData.canLayAll0, PyData.depthAll, s, d, ih.1]
      refine ⟨rfl, ?_⟩
      have := ih.2
      omega
  have d : (PyData.list (ws.map dW)).depth ≤ 64 := by
    simp only [PyData.depth]
    have := one.2
    omega
  have c : (PyData.list (ws.map dW)).canLay0 = true := by
    simp only [PyData.canLay0]
    exact one.1
  unfold SeqAt.shaped
  rw [c, decide_eq_true d]
  rfl
structure Fill (G : Hp) (d1 d2 : Addr) (a b : Nat) (ks : List (Nat × Nat)) (L1 L2 : List PlE) : Prop where
  ne : d1 ≠ d2
  h1 : G d1 = some (.dT (L1.map kPl))
  h2 : G d2 = some (.dT (L2.map kPl))
  p1 : Plc G L1
  p2 : Plc G L2
  k1 : L1.map (·.1) = ks
  k2 : L2.map (·.1) = ks
  v1 : ∀ e ∈ L1, e.2.1 = qPl b e.1
  v2 : ∀ e ∈ L2, e.2.1 = fPl a e.1
theorem Fill.same {G G' : Hp} {d1 d2 : Addr} {a b : Nat} {ks : List (Nat × Nat)} {L1 L2 : List PlE} (h : Fill G d1 d2 a b ks L1 L2) (s : Same G G') : Fill G' d1 d2 a b ks L1 L2 := ⟨h.ne, s _ _ h.h1, s _ _ h.h2, h.p1.keeps (Keeps.same s), h.p2.keeps (Keeps.same s), h.k1, h.k2, h.v1, h.v2⟩
/-- one more crossing in both -/
theorem Fill.put {G : Hp} {d1 d2 c1 c2 : Addr} {a b i j : Nat} {ks : List (Nat × Nat)} {L1 L2 : List PlE} (h : Fill G d1 d2 a b ks L1 L2) (new : (i, j) ∉ ks) (few : ks.length ≤ 1000) (hc1 : G c1 = some (.tup [.int ((b - 1 - j : Nat) : Int), .int (i : Int)])) (hc2 : G c2 = some (.tup [.int ((a - 1 - i : Nat) : Int), .int (j : Int)])) {k : Addr} (hk : G k = some (.tup [.int (i : Int), .int (j : Int)])) :
    DPut G d1 (.ref k) (.ref c1) (upd G d1 (.dT ((L1 ++ [((i, j), qPl b (i, j), c1)]).map kPl))) ∧ ∀ G2, Same (upd G d1 (.dT ((L1 ++ [((i, j), qPl b (i, j), c1)]).map kPl))) G2 → ∀ k2, G2 k2 = some (.tup [.int (i : Int), .int (j : Int)]) →
      DPut G2 d2 (.ref k2) (.ref c2) (upd G2 d2 (.dT ((L2 ++ [((i, j), fPl a (i, j), c2)]).map kPl))) ∧ Fill (upd G2 d2 (.dT ((L2 ++ [((i, j), fPl a (i, j), c2)]).map kPl))) d1 d2 a b (ks ++ [(i, j)]) (L1 ++ [((i, j), qPl b (i, j), c1)]) (L2 ++ [((i, j), fPl a (i, j), c2)]) := by
  have l1 : L1.length = ks.length := by rw [← h.k1, List.length_map]
  have l2 : L2.length = ks.length := by rw [← h.k2, List.length_map]
  have z1 := put_pl (L := L1) (e := ((i, j), qPl b (i, j), c1)) (by rw [h.k1]; exact new)
  have z2 := put_pl (L := L2) (e := ((i, j), fPl a (i, j), c2)) (by rw [h.k2]; exact new)
  have kp1 : Keeps G (upd G d1 (.dT ((L1 ++ [((i, j), qPl b (i, j), c1)]).map kPl))) := Keeps.at h.h1 (fun xs z => nomatch z)
  refine ⟨?_, fun G2 s2 k2 hk2 => ?_⟩
  · rw [← z1]
    exact DPut.t (k := (kPl ((i, j), qPl b (i, j), c1)).1) h.h1 hk (Nat.lt_of_le_of_lt (show (L1.map kPl).length ≤ 1000 by rw [List.length_map, l1]; exact few) (by decide))
  have h2' : G2 d2 = some (.dT (L2.map kPl)) := s2 _ _ (by rw [upd_ne h.ne.symm]; exact h.h2)
  have kp2 : Keeps G2 (upd G2 d2 (.dT ((L2 ++ [((i, j), fPl a (i, j), c2)]).map kPl))) := Keeps.at h2' (fun xs z => nomatch z)
  have kk := kp1.trans ((Keeps.same s2).trans kp2)
  refine ⟨?_, h.ne, ?_, upd_same, fun e he => ?_, fun e he => ?_, by rw [List.map_append, h.k1]; rfl, by rw [List.map_append, h.k2]; rfl, fun e he => ?_, fun e he => ?_⟩
  · rw [← z2]
    exact DPut.t (k := (kPl ((i, j), fPl a (i, j), c2)).1) h2' hk2 (Nat.lt_of_le_of_lt (show (L2.map kPl).length ≤ 1000 by rw [List.length_map, l2]; exact few) (by decide))
  · rw [upd_ne h.ne]
    exact s2 _ _ upd_same
  · rcases List.mem_append.mp he with he | he
    · exact kk _ _ (h.p1 e he)
    · rw [List.mem_singleton.mp he]
      exact kk _ _ hc1
  · rcases List.mem_append.mp he with he | he
    · exact kk _ _ (h.p2 e he)
    · rw [List.mem_singleton.mp he]
      exact kk _ _ hc2
  · rcases List.mem_append.mp he with he | he
    · exact h.v1 e he
    · rw [List.mem_singleton.mp he]
  · rcases List.mem_append.mp he with he | he
    · exact h.v2 e he
    · rw [List.mem_singleton.mp he]
theorem seqIf_run {r : R2} {ta tb : TE} {t1 rest : TS} {D : Ends} {σ : L2.St} {H : Hp} (h : ta σ H fun x H1 => tb σ H1 fun y H2 => r x y H2 fun v H3 => ∃ k, v = .bl k ∧ if k = true then t1 { D with nx := rest D } σ H3 else rest D σ H3) : tSeq (tIfS (tTest (tOp r ta tb)) t1 tNext) rest D σ H := h
theorem lastIf_run {r : R2} {ta tb : TE} {t1 : TS} {D : Ends} {σ : L2.St} {H : Hp} (h : ta σ H fun x H1 => tb σ H1 fun y H2 => r x y H2 fun v H3 => ∃ k, v = .bl k ∧ if k = true then t1 D σ H3 else D.nx σ H3) : tIfS (tTest (tOp r ta tb)) t1 tNext D σ H := h
theorem op_arg {r : R2} {ta tb : TE} {σ : L2.St} {H : Hp} {Q : VK} (h : ta σ H fun x H1 => tb σ H1 fun y H2 => r x y H2 Q) : tOp r ta tb σ H Q := h
theorem legs_q {a b i j : Nat} (hj : j < b) : (legsW (i : Int) (j : Int)).map (qW b) = [((false, ((b - 1 - j : Nat) : Int), (i : Int)) : Wi), (true, (i : Int), ((b - 1 - j : Nat) : Int) + 1), (false, ((b - 1 - j : Nat) : Int), (i : Int) + 1), (true, (i : Int), ((b - 1 - j : Nat) : Int))] := by
  show [((false, (b : Int) - 1 - j, (i : Int)) : Wi), (true, (i : Int), (b : Int) - j), (false, (b : Int) - 1 - j, (i : Int) + 1), (true, (i : Int), (b : Int) - (j + 1))] = _
  rw [show (b : Int) - 1 - j = ((b - 1 - j : Nat) : Int) by omega, show (b : Int) - j = ((b - 1 - j : Nat) : Int) + 1 by omega, show (b : Int) - (j + 1) = ((b - 1 - j : Nat) : Int) by omega]
theorem legs_f {a i j : Nat} (hi : i < a) : (legsW (i : Int) (j : Int)).map (fW a) = [((true, (j : Int), ((a - 1 - i : Nat) : Int) + 1) : Wi), (false, ((a - 1 - i : Nat) : Int), (j : Int)), (true, (j : Int), ((a - 1 - i : Nat) : Int)), (false, ((a - 1 - i : Nat) : Int), (j : Int) + 1)] := by
  show [((true, (j : Int), (a : Int) - i) : Wi), (false, (a : Int) - 1 - i, (j : Int)), (true, (j : Int), (a : Int) - (i + 1)), (false, (a : Int) - 1 - i, (j : Int) + 1)] = _
  rw [show (a : Int) - 1 - i = ((a - 1 - i : Nat) : Int) by omega, show (a : Int) - i = ((a - 1 - i : Nat) : Int) + 1 by omega, show (a : Int) - (i + 1) = ((a - 1 - i : Nat) : Int) by omega]
theorem four_bs {bs : List WB} {i j : Int} (e : bs.map (·.2) = legsW i j) : ∃ c0 c1 c2 c3, bs = [(c0, true, j, i), (c1, false, i, j), (c2, true, j, i + 1), (c3, false, i, j + 1)] := by
  have l : bs.length = 4 := by have := congrArg List.length e; rw [List.length_map] at this; exact this
  match bs, l with
  | [b0, b1, b2, b3], _ =>
    obtain ⟨c0, x0⟩ := b0
    obtain ⟨c1, x1⟩ := b1
    obtain ⟨c2, x2⟩ := b2
    obtain ⟨c3, x3⟩ := b3
    have e' : [x0, x1, x2, x3] = legsW i j := e
    unfold legsW at e'
    cases e'
    exact ⟨c0, c1, c2, c3, rfl⟩
section
variable {P : Program} {w : World} {K : PySem.W.Frag} {mg : Str → Option Value} {base : Heap}
/-- [four[leg] for leg in (2, 1, 0, 3)] -/
theorem pick4 {σ : L2.St} {G : Hp} {Q : VK} {l x0 x1 x2 x3 : Addr} {y0 y1 y2 y3 : Wi} (h16 : ∀ v : V, ((wipe σ [19]).set 19 (some v))[16]? = some (some (.ref l))) (hw : ∀ v : V, wipe ((wipe σ [19]).set 19 (some v)) [19] = wipe σ [19]) (h19 : ∀ v : V, ((wipe σ [19]).set 19 (some v))[19]? = some (some v)) (hl : G l = some (.lst (brefs [(x0, y0), (x1, y1), (x2, y2), (x3, y3)])))
    (k : ∀ D G', Same G G' → G D = none → G' D = some (.lst [.ref x2, .ref x1, .ref x0, .ref x3]) → Q (.ref D) G') : tLc (iTup K (tTup (tCons (tC (.int 2)) (tCons (tC (.int 1)) (tCons (tC (.int 0)) (tCons (tC (.int 3)) tNil)))))) (gName 19) tYes (teLb K) [19] σ G Q := by
  refine ⟨by show 4 ≤ sizeLine; decide, fun T nT => ⟨T, rfl, ⟨_, .inl (.inl upd_same)⟩, fun D nD => ?_⟩⟩
  have sT := same_upd (o := .tup [.int 2, .int 1, .int 0, .int 3]) nT
  refine lc_tup (xs := [.int 2, .int 1, .int 0, .int 3]) (fun m G' => Same (upd G T (.tup [.int 2, .int 1, .int 0, .int 3])) G' ∧ G' D = some (.lst ([V.ref x2, .ref x1, .ref x0, .ref x3].take m))) ⟨same_upd nD, upd_same⟩ (fun m G' _ h => .inl (.inl (h.1 _ _ upd_same))) ?_ ?_
  · rintro m x G' hx ⟨sm, hD⟩
    have hl' := sm _ _ (sT _ _ hl)
    have go : ∀ (n : Int) (v : V), x = .int n → atI (brefs [(x0, y0), (x1, y1), (x2, y2), (x3, y3)]) n = some v → m < 4 → [V.ref x2, .ref x1, .ref x0, .ref x3].take m ++ [v] = [V.ref x2, .ref x1, .ref x0, .ref x3].take (m + 1) → gName 19 x (wipe σ [19]) G' fun σ2 H2 => wipe σ2 [19] = wipe σ [19] ∧ tYes σ2 H2 fun b H3 => if b = true then teLb K σ2 H3 fun y H4 => ∃ acc, H4 D = some (.lst acc) ∧ acc.length < sizeLine ∧ (Same (upd G T (.tup [.int 2, .int 1, .int 0, .int 3])) (upd H4 D (.lst (acc ++ [y]))) ∧ (upd H4 D (.lst (acc ++ [y]))) D = some (.lst ([V.ref x2, .ref x1, .ref x0, .ref x3].take (m + 1)))) else (Same (upd G T (.tup [.int 2, .int 1, .int 0, .int 3])) H3 ∧ H3 D = some (.lst ([V.ref x2, .ref x1, .ref x0, .ref x3].take (m + 1)))) := fun n v ex ha hm e => by
      subst ex
      refine ⟨hw _, ?_⟩
      simp only [tYes, ↓reduceIte]
      refine ⟨_, h16 _, _, h19 _, l, _, n, v, rfl, rfl, .inl (.inl hl'), ha, _, hD, ?_, same_at sm nD, ?_⟩
      · rw [List.length_take]
        exact Nat.lt_of_le_of_lt (show _ ≤ 4 by omega) (by decide)
      · rw [upd_same, e]
    match m, hx with
    | 0, hx => cases hx; exact go 2 _ rfl rfl (by decide) rfl
    | 1, hx => cases hx; exact go 1 _ rfl rfl (by decide) rfl
    | 2, hx => cases hx; exact go 0 _ rfl rfl (by decide) rfl
    | 3, hx => cases hx; exact go 3 _ rfl rfl (by decide) rfl
    | n + 4, hx => cases hx
  · rintro G' ⟨sm, hD⟩
    exact k D G' (sT.trans sm) (same_none sT nD) hD
theorem ok_right {f fLe fQu fFi fTu fFd fQw fFw fLg fAl : Addr} {fd fdLe fdQu fdFi fdTu fdFd fdQw fdFw fdLg fdAl : FuncData} {k : Nat} (F : Fun K "_law_right" "_law_right" sRight f fd) (FLe : Fun K "_law_led" "_law_led" sLed fLe fdLe) (FQu : Fun K "quarter" "quarter" sQuarter fQu fdQu) (FFi : Fun K "flip" "flip" sFlip fFi fdFi) (FTu : Fun K "turned" "turned" sTurned fTu fdTu) (FFd : Fun K "flipped" "flipped" sFlipped fFd fdFd) (FQw : Fun K "quarter_wire" "quarter_wire" sQWire fQw fdQw) (FFw : Fun K "flip_wire" "flip_wire" sFWire fFw fdFw) (FLg : Fun K "_law_legs" "_law_legs" sLLegs fLg fdLg) (FAl : Fun K "_law_all" "_law_all" sAll fAl fdAl)
    (bLe : Binds K fdLe ["_law_design_here", "_law_places", "_law_turn"] []) (bQu : Binds K fdQu ["plan"] []) (bFi : Binds K fdFi ["plan"] []) (bTu : Binds K fdTu ["table"] []) (bFd : Binds K fdFd ["table"] []) (bQw : Binds K fdQw ["a", "b", "wire"] []) (bFw : Binds K fdFw ["a", "b", "wire"] []) (bLg : Binds K fdLg ["_law_i", "_law_j"] []) (bAl : Binds K fdAl ["_law_a", "_law_b"] [])
    (gLe : mg "_law_led" = some (.ref fLe)) (gQu : mg "quarter" = some (.ref fQu)) (gFi : mg "flip" = some (.ref fFi)) (gTu : mg "turned" = some (.ref fTu)) (gFd : mg "flipped" = some (.ref fFd)) (gQw : mg "quarter_wire" = some (.ref fQw)) (gFw : mg "flip_wire" = some (.ref fFw)) (gLg : mg "_law_legs" = some (.ref fLg)) (gAl : mg "_law_all" = some (.ref fAl))
    (ml : mg "len" = none) (mtup : mg "tuple" = none) (mr : mg "range" = none) (ms : mg "sorted" = none) (mrev : mg "reversed" = none) (mrep : mg "repr" = none) : FnG P w K mg base (k + 3) f fd ["_law_design_here"] (spRight K) := by
  have GLe : FnOk P w K mg base CX0 (k + 1) fLe fdLe ["_law_design_here", "_law_places", "_law_turn"] (spLawLed K) := ok_lawled FLe ml mtup mr ms
  have GQu : FnOk P w K mg base CX0 (k + 2) fQu fdQu ["plan"] (spQuarter K) := ok_quarter FQu FTu bTu gTu ml mtup ms mr mrev
  have GFi : FnOk P w K mg base CX0 (k + 2) fFi fdFi ["plan"] (spFlip K) := ok_flip FFi FFd bFd gFd mtup ms
  have GQw : FnOk P w K mg base CX0 (k + 1) fQw fdQw ["a", "b", "wire"] spQWire := ok_QWire FQw
  have GFw : FnOk P w K mg base CX0 (k + 1) fFw fdFw ["a", "b", "wire"] spFWire := ok_FWire FFw
  have GLg : FnOk P w K mg base CX0 (k + 1) fLg fdLg ["_law_i", "_law_j"] spLLegs := ok_llegs FLg
  have GAl : FnOk P w K mg base CX0 (k + 1) fAl fdAl ["_law_a", "_law_b"] spAll := ok_all FAl mr ms
  have kQu := kb_quarter FQu
  have kFi := kb_flip FFi
  have kQw := kb_qw FQw
  have kFw := kb_fw FFw
  refine okG F scRight (fun vs H Q E h => ?_) (fun cdv A outer s H vs Q E hgd hr h => ?_)
  · obtain ⟨t, q, a, b, ts, rs, rfl, _⟩ := h
    rfl
  obtain ⟨t, q, a, b, ts, rs, rfl, pl, q7, a9, b9, kk⟩ := h
  have nd := scRight.nd
  refine ⟨_, pss_cons (ps_asg (pv 0) (pg_tup rfl (pgs_cons (pg_name (i := 1) nd rfl (.inl rfl)) (pgs_cons (pg_name (i := 2) nd rfl (.inl rfl)) (pgs_cons (pg_name (i := 3) nd rfl (.inr rfl)) (pgs_cons (pg_name (i := 4) nd rfl (.inl rfl)) pgs_nil))))))
      (pss_cons (ps_asg (pe_tup (pa_cons (pe_callB call_len_seq (by rfl) ml PySem.boot_len (pa_cons (pv 4) pa_nil)) (pa_cons (pe_callB (call_reprD hr.units hgd) (by rfl) mrep (by decide +kernel) (pa_cons (pv 0) pa_nil)) pa_nil))) (pg_tup rfl (pgs_cons (pg_name (i := 5) nd rfl (.inr rfl)) (pgs_cons (pg_name (i := 6) nd rfl (.inl rfl)) pgs_nil))))
      (pss_cons (ps_par (i := 7) (j := 8) rfl nd rfl rfl (by decide) rfl rfl (pa_cons pe_dnewT (pa_cons pe_dnewT pa_nil)) rfl)
      (pss_cons (ps_for PassesOwn.never rfl (pi_range1 (by rfl) mr (pa_cons (pv 5) pa_nil)) (pg_name (i := 9) nd rfl (.inl rfl)) (pss_one (ps_for PassesOwn.never rfl (pi_range1 (by rfl) mr (pa_cons (pv 3) pa_nil)) (pg_name (i := 10) nd rfl (.inl rfl)) (pss_one (ps_asg (pe_tup (pa_cons (pe_tup (pa_cons (pe_op op_sub (pe_op op_sub (pv 5) pe_int) (pv 9)) (pa_cons (pv 10) pa_nil))) (pa_cons (pe_tup (pa_cons (pe_op op_sub (pe_op op_sub (pv 3) pe_int) (pv 10)) (pa_cons (pv 9) pa_nil))) pa_nil))) (pg_tup rfl (pgs_cons (pg_sub (pv 7) (pe_tup (pa_cons (pv 10) (pa_cons (pv 9) pa_nil))) (set_dict (Nat.lt_of_le_of_lt (Nat.add_le_add_left (by decide) _) hr.units))) (pgs_cons (pg_sub (pv 8) (pe_tup (pa_cons (pv 10) (pa_cons (pv 9) pa_nil))) (set_dict (Nat.lt_of_le_of_lt (Nat.add_le_add_left (by decide) _) hr.units))) pgs_nil))))))))
      (pss_cons (ps_set (i := 11) nd rfl (.inl rfl) (pe_lst (pa_cons (pe_call GLe (hr.mono (by omega)) (by rfl) gLe FLe.kp bLe .nil pass0 (pa_cons (pv 0) (pa_cons (pv 7) (pa_cons (pe_tup (pa_cons pe_int (pa_cons pe_int (pa_cons pe_int (pa_cons pe_int pa_nil))))) pa_nil)))) (pa_cons (pe_call GLe (hr.mono (by omega)) (by rfl) gLe FLe.kp bLe .nil pass0 (pa_cons (pv 0) (pa_cons (pv 8) (pa_cons (pe_tup (pa_cons pe_int (pa_cons pe_int (pa_cons pe_int (pa_cons pe_int pa_nil))))) pa_nil)))) pa_nil))))
      (pss_cons (ps_if (pt_cmpR op_ne (pe_callB (call_reprD hr.units hgd) (by rfl) mrep (by decide +kernel) (pa_cons (pe_lst (pa_cons (pe_call GQu (hr.mono (by omega)) (by rfl) gQu FQu.kp bQu .nil pass0 (pa_cons (pv 0) pa_nil)) (pa_cons (pe_call GFi (hr.mono (by omega)) (by rfl) gFi FFi.kp bFi .nil pass0 (pa_cons (pv 0) pa_nil)) pa_nil))) pa_nil)) (pe_callB (call_reprD hr.units hgd) (by rfl) mrep (by decide +kernel) (pa_cons (pv 11) pa_nil)) (nomark _)) (pss_one (ps_ret pe_bl)) pss_nil)
      (pss_cons (ps_if (pt_cmpR op_ne (pe_callB (call_reprD hr.units hgd) (by rfl) mrep (by decide +kernel) (pa_cons (pe_lst (pa_cons (pe_callKW GQu (hr.mono (by omega)) (by rfl) gQu FQu.kp kQu pass0 (pk_cons (pv 0) pk_nil)) (pa_cons (pe_callKW GFi (hr.mono (by omega)) (by rfl) gFi FFi.kp kFi pass0 (pk_cons (pv 0) pk_nil)) pa_nil))) pa_nil)) (pe_callB (call_reprD hr.units hgd) (by rfl) mrep (by decide +kernel) (pa_cons (pv 11) pa_nil)) (nomark _)) (pss_one (ps_ret pe_bl)) pss_nil)
      (pss_cons (ps_lock (ps_for PassesOwn.never rfl (pi_keys (pv 7)) (pg_tup rfl (pgs_cons (pg_name (i := 10) nd rfl (.inl rfl)) (pgs_cons (pg_name (i := 9) nd rfl (.inl rfl)) pgs_nil))) (pss_cons (ps_set (i := 12) nd rfl (.inl rfl) (pe_call GLg (hr.mono (by omega)) (by rfl) gLg FLg.kp bLg .nil pass0 (pa_cons (pv 10) (pa_cons (pv 9) pa_nil))))
      (pss_cons (ps_par (i := 13) (j := 14) rfl nd rfl rfl (by decide) rfl rfl (pa_cons (pe_dget (Nat.lt_of_le_of_lt (Nat.add_le_add_left (by decide) _) hr.units) (pv 7) (pe_tup (pa_cons (pv 10) (pa_cons (pv 9) pa_nil))) (fun _ _ => rfl)) (pa_cons (pe_dget (Nat.lt_of_le_of_lt (Nat.add_le_add_left (by decide) _) hr.units) (pv 8) (pe_tup (pa_cons (pv 10) (pa_cons (pv 9) pa_nil))) (fun _ _ => rfl)) pa_nil)) rfl)
      (pss_cons (ps_asg (pe_tup (pa_cons (pe_call GLg (hr.mono (by omega)) (by rfl) gLg FLg.kp bLg .nil pass0 (pa_cons (pe_ix ix_tup (pv 13) pe_int (fun _ _ => rfl)) (pa_cons (pe_ix ix_tup (pv 13) pe_int (fun _ _ => rfl)) pa_nil))) (pa_cons (pe_call GLg (hr.mono (by omega)) (by rfl) gLg FLg.kp bLg .nil pass0 (pa_cons (pe_ix ix_tup (pv 14) pe_int (fun _ _ => rfl)) (pa_cons (pe_ix ix_tup (pv 14) pe_int (fun _ _ => rfl)) pa_nil))) pa_nil))) (pg_tup rfl (pgs_cons (pg_name (i := 15) nd rfl (.inl rfl)) (pgs_cons (pg_name (i := 16) nd rfl (.inr rfl)) pgs_nil))))
      (pss_cons (ps_if (pt_cmpR (op_neD hr.units) (pe_lc (own := [("_law_one", 18)]) (g := gName 18) (tt := tYes) (te := teQw) rfl nd (pi_list (pv 12)) (blkOk_by (own := [("_law_one", 18)]) (N := NRi) (sc := defScope sRight) (by decide +kernel)) (fun _ _ _ _ _ => pg_name (i := 18) nd rfl (.inl rfl)) (fun _ _ _ _ _ => pts_nil) (fun _ _ _ _ _ => (pe_call GQw (hr.mono (by omega)) (by rfl) gQw FQw.kp bQw .nil pass0 (pa_cons (pv 3) (pa_cons (pv 5) (pa_cons (pv 18) pa_nil)))))) (pe_op op_cat (pe_slice sl_list (pv 15) (po_some pe_int) po_none) (pe_slice sl_list (pv 15) po_none (po_some pe_int))) (nomark _)) (pss_one (ps_ret pe_bl)) pss_nil)
      (pss_one (ps_if (pt_cmpR (op_neD hr.units) (pe_lc (own := [("_law_one", 18)]) (g := gName 18) (tt := tYes) (te := teFw) rfl nd (pi_list (pv 12)) (blkOk_by (own := [("_law_one", 18)]) (N := NRi) (sc := defScope sRight) (by decide +kernel)) (fun _ _ _ _ _ => pg_name (i := 18) nd rfl (.inl rfl)) (fun _ _ _ _ _ => pts_nil) (fun _ _ _ _ _ => (pe_call GFw (hr.mono (by omega)) (by rfl) gFw FFw.kp bFw .nil pass0 (pa_cons (pv 3) (pa_cons (pv 5) (pa_cons (pv 18) pa_nil)))))) (pe_lc (own := [("_law_leg", 19)]) (g := gName 19) (tt := tYes) (te := teLb K) rfl nd (pi_tup (pe_tup (pa_cons pe_int (pa_cons pe_int (pa_cons pe_int (pa_cons pe_int pa_nil)))))) (blkOk_by (own := [("_law_leg", 19)]) (N := NRi) (sc := defScope sRight) (by decide +kernel)) (fun _ _ _ _ _ => pg_name (i := 19) nd rfl (.inl rfl)) (fun _ _ _ _ _ => pts_nil) (fun _ _ _ _ _ => (pe_ix ix_list (pv 16) (pv 19) (fun _ _ => rfl)))) (nomark _)) (pss_one (ps_ret pe_bl)) pss_nil))))))))
      (pss_cons (ps_set (i := 17) nd rfl (.inl rfl) (pe_call GAl (hr.mono (by omega)) (by rfl) gAl FAl.kp bAl .nil pass0 (pa_cons (pv 3) (pa_cons (pv 5) pa_nil))))
      (pss_cons (ps_if (pt_cmpR (op_neD hr.units) (pe_callB (cr_sortL (Nat.lt_of_le_of_lt (Nat.add_le_add_left (by decide) _) hr.units)) (by rfl) ms (by decide +kernel) (pa_cons (pe_lc (own := [("_law_one", 18)]) (g := gName 18) (tt := tYes) (te := teQk) rfl nd (pi_list (pv 17)) (blkOk_by (own := [("_law_one", 18)]) (N := NRi) (sc := defScope sRight) (by decide +kernel)) (fun _ _ _ _ _ => pg_name (i := 18) nd rfl (.inl rfl)) (fun _ _ _ _ _ => pts_nil) (fun _ _ _ _ _ => (pe_callK GQw (hr.mono (by omega)) (by rfl) gQw FQw.kp kQw pass0 (pa_cons (pv 3) (pa_cons (pv 5) pa_nil)) (pk_cons (pv 18) pk_nil)))) pa_nil)) (pe_call GAl (hr.mono (by omega)) (by rfl) gAl FAl.kp bAl .nil pass0 (pa_cons (pv 5) (pa_cons (pv 3) pa_nil))) (nomark _)) (pss_one (ps_ret pe_bl)) pss_nil)
      (pss_cons (ps_if (pt_cmpR (op_neD hr.units) (pe_callB (cr_sortL (Nat.lt_of_le_of_lt (Nat.add_le_add_left (by decide) _) hr.units)) (by rfl) ms (by decide +kernel) (pa_cons (pe_lc (own := [("_law_one", 18)]) (g := gName 18) (tt := tYes) (te := teFk) rfl nd (pi_list (pv 17)) (blkOk_by (own := [("_law_one", 18)]) (N := NRi) (sc := defScope sRight) (by decide +kernel)) (fun _ _ _ _ _ => pg_name (i := 18) nd rfl (.inl rfl)) (fun _ _ _ _ _ => pts_nil) (fun _ _ _ _ _ => (pe_callK GFw (hr.mono (by omega)) (by rfl) gFw FFw.kp kFw pass0 (pa_cons (pv 3) (pa_cons (pv 5) pa_nil)) (pk_cons (pv 18) pk_nil)))) pa_nil)) (pv 17) (nomark _)) (pss_one (ps_ret pe_bl)) pss_nil)
      (pss_one (ps_ret (pe_cmpR op_eq (pe_callB (call_reprD hr.units hgd) (by rfl) mrep (by decide +kernel) (pa_cons (pv 0) pa_nil)) (pv 6) (nomark _)))))))))))))), ?_⟩
  obtain ⟨tt, tr, h1, h2, h3⟩ := pl.ex
  have lr : (refs rs).length = b := by rw [List.length_map, pl.lr]
  have pd0 : PD K H t q a (tabs ts) (rs.map (·.2)) := pl.pd q7
  have ltt : (tabs ts).length ≤ 3 := by rw [List.length_map]; exact pl.lt
  have rok := pl.rows a9 b9
  have fine0 := (pd0.pl (by omega) a9 ltt rok).fine (by decide) (by decide)
  refine ⟨.ref t, rfl, t, _, rfl, .inl (.inl h1), rfl, _, _, rfl, _, _, rfl, _, _, rfl, _, _, rfl, rfl, ?_⟩
  refine ⟨.ref tr, rfl, tr, _, rfl, .inr (.inl (.inl h3)), .ref t, rfl, t, _, rfl, pd0.dp, fine0.sh, fine0.hd, fine0.dp, fine0.ln, by show 2 ≤ sizeLine; decide, fun T nT => ?_⟩
  rw [lr]
  generalize etx : (dPlan q a (tabs ts) (rs.map (·.2))).shown = txt
  have sT := same_upd (o := .tup [.int (b : Int), .str txt]) nT
  refine ⟨T, _, rfl, .inl (.inl upd_same), rfl, _, _, rfl, _, _, rfl, rfl, ?_⟩
  generalize upd H T (.tup [.int (b : Int), .str txt]) = H1 at sT ⊢
  refine fun d1 n1 d2 n2 => ⟨_, _, rfl, ?_⟩
  have s12 := (same_upd (o := .dT []) n1).trans (same_upd (o := .dT []) n2)
  have ne12 : d1 ≠ d2 := fun z => by rw [← z, upd_same] at n2; cases n2
  have f0 : Fill (upd (upd H1 d1 (.dT [])) d2 (.dT [])) d1 d2 a b (keysA a 0) [] [] := ⟨ne12, by rw [upd_ne ne12]; exact upd_same, upd_same, (fun e he => nomatch he), (fun e he => nomatch he), rfl, rfl, (fun e he => nomatch he), fun e he => nomatch he⟩
  have nn1 : H1 d1 = none := n1
  have nn2 : H1 d2 = none := same_none (same_upd n1) n2
  generalize upd (upd H1 d1 (.dT [])) d2 (.dT []) = H2 at s12 f0 ⊢
  refine ⟨.int (b : Int), rfl, (b : Int), rfl, by omega, by omega, ?_⟩
  refine for_range (lo := 0) (n := (b : Int).toNat) (fun r σ G => Same H1 G ∧ (∃ L1 L2, Fill G d1 d2 a b (keysA a r) L1 L2) ∧ ∃ z9 z10, σ = [some (.ref t), some (.int (q : Int)), some (.ref tt), some (.int (a : Int)), some (.ref tr), some (.int (b : Int)), some (.str txt), some (.ref d1), some (.ref d2), z9, z10, none, none, none, none, none, none, none, none, none]) ⟨s12, ⟨_, _, f0⟩, none, none, rfl⟩ ?_ ?_
  · rintro j σ G hj ⟨sm, ⟨L1, L2, fl⟩, z9, z10, rfl⟩
    rw [Int.zero_add]
    refine gName_run ?_
    dsimp only [List.set]
    refine ⟨.int (a : Int), rfl, (a : Int), rfl, by omega, by omega, ?_⟩
    refine for_range (lo := 0) (n := (a : Int).toNat) (fun r σ G => Same H1 G ∧ (∃ L1 L2, Fill G d1 d2 a b (keysA a j ++ (List.range r).map fun i => (i, j)) L1 L2) ∧ ∃ z10, σ = [some (.ref t), some (.int (q : Int)), some (.ref tt), some (.int (a : Int)), some (.ref tr), some (.int (b : Int)), some (.str txt), some (.ref d1), some (.ref d2), some (.int (j : Int)), z10, none, none, none, none, none, none, none, none, none]) ⟨sm, ⟨L1, L2, by rw [List.range_zero, List.map_nil, List.append_nil]; exact fl⟩, z10, rfl⟩ ?_ ?_
    · rintro i σ G hi ⟨sm, ⟨L1, L2, fl⟩, z10, rfl⟩
      rw [Int.zero_add]
      refine gName_run ?_
      dsimp only [List.set]
      refine ⟨.int (b : Int), rfl, (b : Int), 1, rfl, rfl, .int (j : Int), rfl, (b : Int) - 1, (j : Int), rfl, rfl, .int (i : Int), rfl, by show 2 ≤ sizeLine; decide, fun c1 m1 => ?_⟩
      refine ⟨.int (a : Int), rfl, (a : Int), 1, rfl, rfl, .int (i : Int), rfl, (a : Int) - 1, (i : Int), rfl, rfl, .int (j : Int), rfl, by show 2 ≤ sizeLine; decide, fun c2 m2 => ?_⟩
      refine ⟨by show 2 ≤ sizeLine; decide, fun c3 m3 => ?_⟩
      have r1 := same_upd (o := .tup [.int ((b : Int) - 1 - (j : Int)), .int (i : Int)]) m1
      have r2 := same_upd (o := .tup [.int ((a : Int) - 1 - (i : Int)), .int (j : Int)]) m2
      have r3 := same_upd (o := .tup [.ref c1, .ref c2]) m3
      have hc1 := (r2.trans r3) _ _ (upd_same (H := G) (a := c1) (o := .tup [.int ((b : Int) - 1 - (j : Int)), .int (i : Int)]))
      have hc2 := r3 _ _ (upd_same (a := c2) (o := .tup [.int ((a : Int) - 1 - (i : Int)), .int (j : Int)]))
      have g3 := fl.same (r1.trans (r2.trans r3))
      have sm3 := sm.trans (r1.trans (r2.trans r3))
      refine ⟨c3, _, rfl, .inl (.inl upd_same), rfl, ?_⟩
      generalize upd _ c3 _ = G3 at hc1 hc2 g3 sm3 ⊢
      rw [show (b : Int) - 1 - (j : Int) = ((b - 1 - j : Nat) : Int) by omega] at hc1
      rw [show (a : Int) - 1 - (i : Int) = ((a - 1 - i : Nat) : Int) by omega] at hc2
      refine ⟨_, _, rfl, .ref d1, rfl, .int (i : Int), rfl, .int (j : Int), rfl, by show 2 ≤ sizeLine; decide, fun k1 mk1 => ?_⟩
      have r4 := same_upd (o := .tup [.int (i : Int), .int (j : Int)]) mk1
      have new : (i, j) ∉ keysA a j ++ (List.range i).map fun i => (i, j) := fun z => by
        rcases List.mem_append.mp z with z | z
        · exact absurd (keys_mem.mp z).2 (Nat.lt_irrefl _)
        · obtain ⟨x, hx, e⟩ := List.mem_map.mp z
          have : x = i := congrArg (·.1) e
          have := List.mem_range.mp hx
          omega
      have few : (keysA a j ++ (List.range i).map fun i => (i, j)).length ≤ 1000 := by
        unfold keysA
        rw [List.length_append, len_flat (c := a) (fun x => by rw [List.length_map, List.length_range]), List.length_map, List.length_range, List.length_range]
        have : j * a ≤ 9 * 9 := Nat.mul_le_mul (by omega) a9
        omega
      obtain ⟨p1, more⟩ := (g3.same r4).put new few (r4 _ _ hc1) (r4 _ _ hc2) upd_same
      refine ⟨d1, _, rfl, p1, _, _, rfl, .ref d2, rfl, .int (i : Int), rfl, .int (j : Int), rfl, by show 2 ≤ sizeLine; decide, fun k2 mk2 => ?_⟩
      have r5 := same_upd (o := .tup [.int (i : Int), .int (j : Int)]) mk2
      obtain ⟨p2, fl2⟩ := more _ r5 k2 upd_same
      have ek : (keysA a j ++ (List.range i).map fun i => (i, j)) ++ [(i, j)] = keysA a j ++ (List.range (i + 1)).map fun i => (i, j) := by
        rw [List.range_succ, List.map_append, ← List.append_assoc]
        rfl
      refine ⟨d2, _, rfl, p2, rfl, ?_⟩
      refine ⟨same_at ((same_at (sm3.trans r4) nn1).trans r5) nn2, ⟨_, _, ek ▸ fl2⟩, _, rfl⟩
    · rintro σ G ⟨sm, ⟨L1, L2, fl⟩, z10, rfl⟩
      rw [Int.toNat_natCast] at fl
      exact ⟨sm, ⟨L1, L2, by rw [keys_snoc]; exact fl⟩, _, _, rfl⟩
  rintro σ G ⟨sm, ⟨L1, L2, fl⟩, z9, z10, rfl⟩
  rw [Int.toNat_natCast] at fl
  have sHG := sT.trans sm
  have plG := pl.keeps (Keeps.same sHG)
  refine ⟨.ref t, rfl, .ref d1, rfl, by show 4 ≤ sizeLine; decide, fun u1 nu1 => ?_⟩
  have su1 := same_upd (o := .tup (pT.map V.int)) nu1
  refine ⟨t, d1, u1, q, a, b, b, a, ts, rs, L1, pT, _, rfl, plG.keeps (Keeps.same su1), su1 _ _ fl.h1, fl.p1.keeps (Keeps.same su1), upd_same, okQ q7 a9 b9 pl.lr fl.k1 fl.v1, fun t1 TT1 G1 s1 m1 pd1 la1 => ?_⟩
  have sG1 := su1.trans s1
  refine ⟨.ref t, rfl, .ref d2, rfl, by show 4 ≤ sizeLine; decide, fun u2 nu2 => ?_⟩
  have su2 := same_upd (o := .tup (pF.map V.int)) nu2
  have sG2 := sG1.trans su2
  refine ⟨t, d2, u2, q, a, b, a, b, ts, rs, L2, pF, _, rfl, plG.keeps (Keeps.same sG2), sG2 _ _ fl.h2, fl.p2.keeps (Keeps.same sG2), upd_same, okF q7 a9 b9 fl.k2 fl.v2, fun t2 TT2 G2 s2 m2 pd2 la2 => ⟨by show 2 ≤ sizeLine; decide, fun due ndue => ?_⟩⟩
  have ll : (rs.map (·.2)).length = b := by rw [List.length_map, pl.lr]
  have eq1 : matE a b (fun y x => getM (rs.map (·.2)) ((rs.map (·.2)).length - 1 - x) y) = qRows a (rs.map (·.2)) := by rw [q_mat, ll]
  have lra : ∀ r ∈ rs.map (·.2), r.length = a := fun r hr => by
    obtain ⟨c, hc, rfl⟩ := List.mem_map.mp hr
    exact pl.la c hc
  have eq2 : matE b a (fun y x => getM (rs.map (·.2)) y (a - 1 - x)) = (rs.map (·.2)).map List.reverse := by rw [f_mat lra, ll]
  rw [eq1] at pd1
  rw [eq2] at pd2
  have s3 := same_upd (o := .lst [.ref t1, .ref t2]) ndue
  have hdue := upd_same (H := G2) (a := due) (o := .lst [.ref t1, .ref t2])
  have pd1' := ((pd1.same su2).same s2).same s3
  have pd2' := pd2.same s3
  have sG3 := sG2.trans (s2.trans s3)
  have ltq : TT1.length ≤ 3 := by rw [la1.len]; exact ltt
  have ltf : TT2.length ≤ 3 := by rw [la2.len]; exact ltt
  have fd := ((pd1'.pl (by omega) b9 ltq (q_rows a9 rok)).cons (pd2'.pl (by omega) a9 ltf (flip_rows rok))).lst.fine (by decide) (by decide)
  refine gName_run ?_
  dsimp only [List.set]
  generalize upd G2 due (.lst [.ref t1, .ref t2]) = G3 at hdue pd1' pd2' sG3 ⊢
  have plG3 := plG.keeps (Keeps.same sG3)
  refine ⟨.ref t, rfl, t, q, a, b, ts, rs, rfl, plG3, q7, a9, b9, fun t3 TT3 G4 s4 m3 pd3 la3 => ?_⟩
  refine ⟨.ref t, rfl, t, q, a, b, ts, rs, rfl, plG3.keeps (Keeps.same s4), q7, a9, b9, fun t4 TT4 G5 s5 m4 pd4 la4 => ⟨by show 2 ≤ sizeLine; decide, fun l nl => ?_⟩⟩
  have s6 := same_upd (o := .lst [.ref t3, .ref t4]) nl
  rw [la3.uniq la1 pd1.inR] at pd3
  rw [la4.uniq la2 pd2.inR] at pd4
  have s46 := s4.trans (s5.trans s6)
  refine ⟨l, _, rfl, .lst (.inl (.inl upd_same)) (.cons ((pd3.same s5).same s6).dp (.cons (pd4.same s6).dp .nil)), fd.sh, fd.hd, fd.dp, fd.ln, ?_⟩
  refine ⟨.ref due, rfl, due, _, rfl, .lst (.inl (.inl (s46 _ _ hdue))) (.cons (pd1'.same s46).dp (.cons (pd2'.same s46).dp .nil)), fd.sh, fd.hd, fd.dp, fd.ln, ?_⟩
  generalize (PyData.list [dPlan q b TT1 (qRows a (rs.map (·.2))), dPlan q a TT2 ((rs.map (·.2)).map List.reverse)]).shown = tx
  refine ⟨rfl, false, by simp, iteF ?_⟩
  have sG6 := sG3.trans s46
  have hdue6 := s46 _ _ hdue
  have pd16 := pd1'.same s46
  have pd26 := pd2'.same s46
  generalize upd G5 l (.lst [.ref t3, .ref t4]) = G6 at sG6 hdue6 pd16 pd26 ⊢
  have plG6 := plG.keeps (Keeps.same sG6)
  refine ⟨.ref t, rfl, t, q, a, b, ts, rs, rfl, plG6, q7, a9, b9, fun t5 TT5 G7 s7 m5 pd5 la5 => ?_⟩
  refine ⟨.ref t, rfl, t, q, a, b, ts, rs, rfl, plG6.keeps (Keeps.same s7), q7, a9, b9, fun t6 TT6 G8 s8 m6 pd6 la6 => ⟨by show 2 ≤ sizeLine; decide, fun l2 nl2 => ?_⟩⟩
  have s9 := same_upd (o := .lst [.ref t5, .ref t6]) nl2
  rw [la5.uniq la1 pd1.inR] at pd5
  rw [la6.uniq la2 pd2.inR] at pd6
  have s79 := s7.trans (s8.trans s9)
  refine ⟨l2, _, rfl, .lst (.inl (.inl upd_same)) (.cons ((pd5.same s8).same s9).dp (.cons (pd6.same s9).dp .nil)), fd.sh, fd.hd, fd.dp, fd.ln, ?_⟩
  refine ⟨.ref due, rfl, due, _, rfl, .lst (.inl (.inl (s79 _ _ hdue6))) (.cons (pd16.same s79).dp (.cons (pd26.same s79).dp .nil)), fd.sh, fd.hd, fd.dp, fd.ln, ?_⟩
  generalize (PyData.list [dPlan q b TT1 (qRows a (rs.map (·.2))), dPlan q a TT2 ((rs.map (·.2)).map List.reverse)]).shown = tx2
  refine ⟨rfl, false, by simp, iteF ?_⟩
  have sG9 := sG6.trans s79
  generalize upd G8 l2 (.lst [.ref t5, .ref t6]) = G9 at sG9 ⊢
  have hd1 := sG9 _ _ fl.h1
  have hd2 := sG9 _ _ fl.h2
  have nd1 : (L1.map (·.1)).Nodup := by rw [fl.k1]; exact keys_nodup a b
  have nd2 : (L2.map (·.1)).Nodup := by rw [fl.k2]; exact keys_nodup a b
  refine ⟨d1, _, hd1, by trivial, fun od => ?_⟩
  refine ⟨.ref d1, rfl, d1, od, rfl, .inr ⟨L1.map kPl, upd_same, ?_⟩⟩
  refine for_it walk_keysT (fun r σ G' => Same (upd G9 d1 (.frz od (.dT (L1.map kPl)))) G' ∧ ∃ z9 z10 z12 z13 z14 z15 z16, σ = [some (.ref t), some (.int (q : Int)), some (.ref tt), some (.int (a : Int)), some (.ref tr), some (.int (b : Int)), some (.str txt), some (.ref d1), some (.ref d2), z9, z10, some (.ref due), z12, z13, z14, z15, z16, none, none, none]) ⟨Same.refl _, _, _, _, _, _, _, _, rfl⟩ (fun r σ G' _ h => h.1 _ _ upd_same) ?_ ?_
  · rintro r x σ _ G' hr ⟨sm', z9, z10, z12, z13, z14, z15, z16, rfl⟩ ⟨rfl, k', v, qa, hk, rfl, hq⟩
    rw [List.length_map] at hr
    have hLr : L1[r]? = some L1[r] := List.getElem?_eq_getElem hr
    have mem1 : L1[r] ∈ L1 := List.getElem_mem hr
    rw [List.getElem?_map, hLr] at hk
    generalize L1[r] = e at hk hLr mem1
    obtain ⟨⟨i, j⟩, pp, c1⟩ := e
    cases hk
    obtain rfl : pp = qPl b (i, j) := fl.v1 _ mem1
    have key2 : (L2.map (·.1))[r]? = some (i, j) := by rw [fl.k2, ← fl.k1, List.getElem?_map, hLr]; rfl
    obtain ⟨e2, he2, ke2⟩ : ∃ e2, L2[r]? = some e2 ∧ e2.1 = (i, j) := by
      rw [List.getElem?_map] at key2
      cases h : L2[r]? with
      | none => rw [h] at key2; cases key2
      | some e2 => rw [h] at key2; exact ⟨e2, rfl, Option.some.inj key2⟩
    have mem2 := List.mem_of_getElem? he2
    obtain ⟨kk2, pp2, c2⟩ := e2
    obtain rfl : kk2 = (i, j) := ke2
    obtain rfl : pp2 = fPl a (i, j) := fl.v2 _ mem2
    have K' : Keeps G9 G' := fun b xs h => sm' _ _ (by
      rw [upd_ne (fun z => by rw [z, hd1] at h; cases h)]
      exact h)
    have hc1 : G' c1 = some (.tup [.int ((b - 1 - j : Nat) : Int), .int (i : Int)]) := K' _ _ (sG9 _ _ (fl.p1 _ mem1))
    have hc2 : G' c2 = some (.tup [.int ((a - 1 - i : Nat) : Int), .int (j : Int)]) := K' _ _ (sG9 _ _ (fl.p2 _ mem2))
    have hdl1 : G' d1 = some (.frz od (.dT (L1.map kPl))) := sm' _ _ upd_same
    have hdl2 : G' d2 = some (.dT (L2.map kPl)) := sm' _ _ (by rw [upd_ne fl.ne.symm]; exact hd2)
    have mk : (i, j) ∈ keysA a b := by rw [← fl.k1]; exact List.mem_map.mpr ⟨_, mem1, rfl⟩
    have ia : i < a := (keys_mem.mp mk).1
    have jb : j < b := (keys_mem.mp mk).2
    have hq' : G' qa = some (.tup [.int (i : Int), .int (j : Int)]) := hq
    refine ⟨qa, _, rfl, .inl (.inl hq'), rfl, _, _, rfl, _, _, rfl, rfl, ?_⟩
    dsimp only [List.set]
    refine ⟨.int (i : Int), rfl, .int (j : Int), rfl, (i : Int), (j : Int), rfl, fun l4 bs4 A1 a1 n4 hl4 e4 hb4 => ?_⟩
    refine gName_run ?_
    dsimp only [List.set]
    refine ⟨.ref d1, rfl, .int (i : Int), rfl, .int (j : Int), rfl, by show 2 ≤ sizeLine; decide, fun k1 mk1 => ?_⟩
    have a2 := same_upd (o := .tup [.int (i : Int), .int (j : Int)]) mk1
    refine ⟨d1, .ref c1, rfl, .inr ⟨L1.map kPl, _, k1, .inr ⟨od, (a1.trans a2) _ _ hdl1⟩, rfl, upd_same (o := .tup ([Sum.inl (i : Int), Sum.inl (j : Int)].map kV)), (val_pl nd1 mem1).symm⟩, ?_⟩
    refine ⟨.ref d2, rfl, .int (i : Int), rfl, .int (j : Int), rfl, by show 2 ≤ sizeLine; decide, fun k2 mk2 => ?_⟩
    have a3 := same_upd (o := .tup [.int (i : Int), .int (j : Int)]) mk2
    have a13 := a1.trans (a2.trans a3)
    refine ⟨d2, .ref c2, rfl, .inr ⟨L2.map kPl, _, k2, .inl (a13 _ _ hdl2), rfl, upd_same (o := .tup ([Sum.inl (i : Int), Sum.inl (j : Int)].map kV)), (val_pl nd2 mem2).symm⟩, _, _, rfl, ?_⟩
    dsimp only [List.set]
    have hl43 := (a2.trans a3) _ _ hl4
    have hb43 := hb4.same (a2.trans a3)
    have hc13 := a13 _ _ hc1
    have hc23 := a13 _ _ hc2
    have sm3 := sm'.trans a13
    generalize upd _ k2 _ = A3 at hl43 hb43 hc13 hc23 sm3 ⊢
    refine ⟨.ref c1, rfl, c1, _, 0, _, rfl, rfl, .inl (.inl hc13), rfl, .ref c1, rfl, c1, _, 1, _, rfl, rfl, .inl (.inl hc13), rfl, _, _, rfl, fun l5 bs5 A4 a4 n5 hl5 e5 hb5 => ?_⟩
    have hc24 := a4 _ _ hc23
    refine ⟨.ref c2, rfl, c2, _, 0, _, rfl, rfl, .inl (.inl hc24), rfl, .ref c2, rfl, c2, _, 1, _, rfl, rfl, .inl (.inl hc24), rfl, _, _, rfl, fun l6 bs6 A5 a5 n6 hl6 e6 hb6 => ⟨by show 2 ≤ sizeLine; decide, fun TT nTT => ?_⟩⟩
    have a6 := same_upd (o := .tup [.ref l5, .ref l6]) nTT
    refine ⟨TT, _, rfl, .inl (.inl upd_same), rfl, _, _, rfl, _, _, rfl, rfl, ?_⟩
    dsimp only [List.set]
    have hl46 := (a4.trans (a5.trans a6)) _ _ hl43
    have hb46 := hb43.same (a4.trans (a5.trans a6))
    have hl56 := (a5.trans a6) _ _ hl5
    have hb56 := hb5.same (a5.trans a6)
    have hl66 := a6 _ _ hl6
    have hb66 := hb6.same a6
    have sm6 := sm3.trans (a4.trans (a5.trans a6))
    generalize upd A5 TT (.tup [.ref l5, .ref l6]) = A6 at hl46 hb46 hl56 hb56 hl66 hb66 sm6 ⊢
    obtain ⟨w0, w1, w2, w3, rfl⟩ := four_bs e5
    obtain ⟨x0, x1, x2, x3, rfl⟩ := four_bs e6
    refine seqIf_run ?_
    refine lc_lead (te := teQw) (kl := 12) (f := qW b) (bs := bs4) rfl (fun v => rfl) hl46 hb46 (by have := congrArg List.length e4; rw [List.length_map] at this; rw [this]; show 4 ≤ 3280; decide) (fun c x G R hc h => ⟨_, rfl, _, rfl, _, rfl, a, b, c, x, rfl, hc, fun c' G' s' _ h' => h c' G' s' h'⟩) fun D1 cs1 A7 a7 nD1 hD1 hcs1 ecs1 => ?_
    have e1f : cs1.map (·.2) = [((false, ((b - 1 - j : Nat) : Int), (i : Int)) : Wi), (true, (i : Int), ((b - 1 - j : Nat) : Int) + 1), (false, ((b - 1 - j : Nat) : Int), (i : Int) + 1), (true, (i : Int), ((b - 1 - j : Nat) : Int))] := by rw [ecs1, e4, legs_q (a := a) jb]
    have hl57 := a7 _ _ hl56
    refine op_arg ?_
    refine ⟨.ref l5, rfl, 1, rfl, l5, _, rfl, .inl (.inl hl57), fun p1 np1 => ?_⟩
    have a8 := same_upd (o := .lst [.ref w1, .ref w2, .ref w3]) np1
    refine ⟨.ref l5, rfl, 1, rfl, l5, _, rfl, .inl (.inl (a8 _ _ hl57)), fun p2 np2 => ?_⟩
    have a9' := same_upd (o := .lst [.ref w0]) np2
    refine ⟨p1, p2, [.ref w1, .ref w2, .ref w3], [.ref w0], rfl, rfl, a9' _ _ upd_same, upd_same, Nat.le_trans (show 4 ≤ 1000 by decide) (by decide), fun p3 np3 => ?_⟩
    have a10 := same_upd (o := .lst [.ref w1, .ref w2, .ref w3, .ref w0]) np3
    have a710 := a8.trans (a9'.trans a10)
    have hb5n : WBs _ [(w1, false, ((b - 1 - j : Nat) : Int), (i : Int)), (w2, true, (i : Int), ((b - 1 - j : Nat) : Int) + 1), (w3, false, ((b - 1 - j : Nat) : Int), (i : Int) + 1), (w0, true, (i : Int), ((b - 1 - j : Nat) : Int))] := WBs.same (G := A7) (fun z hz => (hb56.same a7) z (by
      rcases List.mem_cons.mp hz with rfl | hz
      · exact List.mem_cons_of_mem _ List.mem_cons_self
      rcases List.mem_cons.mp hz with rfl | hz
      · exact List.mem_cons_of_mem _ (List.mem_cons_of_mem _ List.mem_cons_self)
      rcases List.mem_cons.mp hz with rfl | hz
      · exact List.mem_cons_of_mem _ (List.mem_cons_of_mem _ (List.mem_cons_of_mem _ List.mem_cons_self))
      · rw [List.mem_singleton.mp hz]
        exact List.mem_cons_self)) a710
    have hD17 := a710 _ _ hD1
    have sm7 := sm6.trans (a7.trans a710)
    refine ⟨.list ((cs1.map (·.2)).map dW), _, dp_list hD17 (hcs1.same a710), dp_list (bs := [(w1, false, ((b - 1 - j : Nat) : Int), (i : Int)), (w2, true, (i : Int), ((b - 1 - j : Nat) : Int) + 1), (w3, false, ((b - 1 - j : Nat) : Int), (i : Int) + 1), (w0, true, (i : Int), ((b - 1 - j : Nat) : Int))]) upd_same hb5n, shaped_w _, shaped_w _, false, by rw [e1f]; exact congrArg (fun z => V.bl (!z)) (eqv_self _), iteF ?_⟩
    have hl47 := (a7.trans a710) _ _ hl46
    have hb47 := hb46.same (a7.trans a710)
    have hl67 := (a7.trans a710) _ _ hl66
    have hb67 := hb66.same (a7.trans a710)
    refine lastIf_run ?_
    refine lc_lead (te := teFw) (kl := 12) (f := fW a) (bs := bs4) rfl (fun v => rfl) hl47 hb47 (by have := congrArg List.length e4; rw [List.length_map] at this; rw [this]; show 4 ≤ 3280; decide) (fun c x G R hc h => ⟨_, rfl, _, rfl, _, rfl, a, b, c, x, rfl, hc, fun c' G' s' _ h' => h c' G' s' h'⟩) fun D2 cs2 B2 b2 nD2 hD2 hcs2 ecs2 => ?_
    have e2f : cs2.map (·.2) = [((true, (j : Int), ((a - 1 - i : Nat) : Int) + 1) : Wi), (false, ((a - 1 - i : Nat) : Int), (j : Int)), (true, (j : Int), ((a - 1 - i : Nat) : Int)), (false, ((a - 1 - i : Nat) : Int), (j : Int) + 1)] := by rw [ecs2, e4, legs_f ia]
    refine pick4 (fun v => rfl) (fun v => rfl) (fun v => rfl) (b2 _ _ hl67) fun D3 B3 b3 nD3 hD3 => ?_
    have hb6n : WBs B3 [(x2, true, (j : Int), ((a - 1 - i : Nat) : Int) + 1), (x1, false, ((a - 1 - i : Nat) : Int), (j : Int)), (x0, true, (j : Int), ((a - 1 - i : Nat) : Int)), (x3, false, ((a - 1 - i : Nat) : Int), (j : Int) + 1)] := WBs.same (G := B2) (fun z hz => (hb67.same b2) z (by
      rcases List.mem_cons.mp hz with rfl | hz
      · exact List.mem_cons_of_mem _ (List.mem_cons_of_mem _ List.mem_cons_self)
      rcases List.mem_cons.mp hz with rfl | hz
      · exact List.mem_cons_of_mem _ List.mem_cons_self
      rcases List.mem_cons.mp hz with rfl | hz
      · exact List.mem_cons_self
      · rw [List.mem_singleton.mp hz]
        exact List.mem_cons_of_mem _ (List.mem_cons_of_mem _ (List.mem_cons_of_mem _ List.mem_cons_self)))) b3
    refine ⟨.list ((cs2.map (·.2)).map dW), _, dp_list (b3 _ _ hD2) (hcs2.same b3), dp_list (bs := [(x2, true, (j : Int), ((a - 1 - i : Nat) : Int) + 1), (x1, false, ((a - 1 - i : Nat) : Int), (j : Int)), (x0, true, (j : Int), ((a - 1 - i : Nat) : Int)), (x3, false, ((a - 1 - i : Nat) : Int), (j : Int) + 1)]) hD3 hb6n, shaped_w _, shaped_w _, false, by rw [e2f]; exact congrArg (fun z => V.bl (!z)) (eqv_self _), iteF ?_⟩
    exact ⟨sm7.trans (b2.trans b3), _, _, _, _, _, _, _, rfl⟩
  rintro σ G' ⟨sm', z9, z10, z12, z13, z14, z15, z16, rfl⟩
  refine ⟨sm' _ _ upd_same, ?_⟩
  have sU := same_unlock sm' hd1
  generalize upd G' d1 (.dT (L1.map kPl)) = U at sU ⊢
  refine ⟨.int (a : Int), rfl, .int (b : Int), rfl, a, b, rfl, by omega, by omega, fun ev be U1 u1' nev hev hbe ebe => ?_⟩
  refine gName_run ?_
  dsimp only [List.set]
  have mm : ∀ w, w ∈ be.map (·.2) ↔ InW a b w := fun w => by rw [ebe, sortW_mem, all_r]
  have ndb : (be.map (·.2)).Nodup := by rw [ebe]; exact sortW_nodup (all_nodup a b)
  have lbe : be.length ≤ 3280 := by
    have := few_of (us := allW a b) ndb fun x hx => all_w.mpr ((mm x).mp hx)
    have l2 := len_all_le (a := a) (b := b) (by omega) (by omega)
    rw [List.length_map] at this
    omega
  refine seqIf_run (tcb_run ?_)
  refine lc_lead (te := teQk) (kl := 17) (f := qW b) (bs := be) rfl (fun v => rfl) hev hbe lbe (fun c x G R hc h => ⟨_, rfl, _, rfl, _, rfl, a, b, c, x, rfl, hc, fun c' G' s' _ h' => h c' G' s' h'⟩) fun D1 cs1 U2 u2 nD1 hD1 hcs1 ecs1 => ?_
  have lc1 : cs1.length ≤ 3280 := by have := congrArg List.length ecs1; rw [List.length_map, List.length_map, List.length_map] at this; omega
  refine ⟨D1, cs1, rfl, .inl (.inl hD1), hcs1, by omega, fun p np => ?_⟩
  have u3 := same_upd (o := .lst (brefs (cs1.mergeSort leW))) np
  refine ⟨.int (b : Int), rfl, .int (a : Int), rfl, b, a, rfl, by omega, by omega, fun ev2 be2 U4 u4 nev2 hev2 hbe2 ebe2 => ?_⟩
  refine ⟨_, _, dp_list (u4 _ _ upd_same) (WBs.same (fun x hx => hcs1 x ((List.mergeSort_perm cs1 leW).mem_iff.mp hx)) (u3.trans u4)), dp_list hev2 hbe2, shaped_w _, shaped_w _, false, by rw [ebe2, led_q ecs1 ndb mm]; exact congrArg (fun z => V.bl (!z)) (eqv_self _), iteF ?_⟩
  have u14 := u2.trans (u3.trans u4)
  have hev4 := u14 _ _ hev
  have hbe4 := hbe.same u14
  refine seqIf_run (tcb_run ?_)
  refine lc_lead (te := teFk) (kl := 17) (f := fW a) (bs := be) rfl (fun v => rfl) hev4 hbe4 lbe (fun c x G R hc h => ⟨_, rfl, _, rfl, _, rfl, a, b, c, x, rfl, hc, fun c' G' s' _ h' => h c' G' s' h'⟩) fun D5 cs5 U5 u5 nD5 hD5 hcs5 ecs5 => ?_
  have lc5 : cs5.length ≤ 3280 := by have := congrArg List.length ecs5; rw [List.length_map, List.length_map, List.length_map] at this; omega
  refine ⟨D5, cs5, rfl, .inl (.inl hD5), hcs5, by omega, fun p6 np6 => ?_⟩
  have u6 := same_upd (o := .lst (brefs (cs5.mergeSort leW))) np6
  have u56 := u5.trans u6
  refine ⟨.ref ev, rfl, _, _, dp_list upd_same (WBs.same (fun x hx => hcs5 x ((List.mergeSort_perm cs5 leW).mem_iff.mp hx)) u6), dp_list (u56 _ _ hev4) (hbe4.same u56), shaped_w _, shaped_w _, false, by rw [ebe, led_f ecs5 ndb mm]; exact congrArg (fun z => V.bl (!z)) (eqv_self _), iteF ?_⟩
  have sEnd := sHG.trans (sG9.trans (sU.trans (u1'.trans (u14.trans u56))))
  have pdE := pd0.same sEnd
  refine ⟨.ref t, rfl, t, _, rfl, pdE.dp, fine0.sh, fine0.hd, fine0.dp, fine0.ln, ?_⟩
  rw [etx]
  refine ⟨.str txt, rfl, rfl, ?_⟩
  rw [decide_eq_true rfl]
  exact kk _ sEnd
end
end C2

namespace C2
set_option Elab.async false
set_option linter.all false
set_option maxRecDepth 100000
set_option maxHeartbeats 4000000
open PySem PySem.Spec PyProof.Rows L2 HT RT
section
variable {X : Cx} {k : Nat} {f : Addr} {fd : FuncData} {ps : List Str} {sp : Sp}
theorem run_fnG {pins : List (Addr × Obj)} {σ : L2.St} {G : Hp} {s : Shared} {Q : VK} {us : List Value} {vs : List V} (F : FnG X.prog X.w X.K X.mg X.base k f fd ps sp) (hgd : X.A.guards = some []) (hr : Room k X.A) (hb : Binds X.K fd ps [])
    (I : Inv X pins σ G s) (r : Vals vs us) (h : sp vs G Q E0) : wpAny (model X.prog X.w) X.A (call (.ref f) us) (EP X pins σ Q) X.xe s := by
  have ln : us.length = ps.length := by rw [← r.length]; exact F.len _ _ _ _ h
  have hb' := hb s us I.kIn (by simpa using ln)
  simp only [List.append_nil] at hb'
  refine wpAny_call (codeAny_mono (F.run X.A X.stack s G ⟨us, []⟩ us vs Q E0 hgd hr I.env0 hb' r h) fun r s' hq => ?_)
  cases r with
  | error err => exact hq.elim
  | ok fl => cases fl with
    | ret u => exact I.after hq
    | next => exact False.elim hq
    | brk => exact False.elim hq
    | cont => exact False.elim hq
theorem pe_callG {x : Str} {e : Expr} {es : List Expr} {t : TA} {p pos : Pos} (F : FnG X.prog X.w X.K X.mg X.base k f fd ps sp) (hgd : X.A.guards = some []) (hr : Room k X.A) (hg : Gl X x) (hm : X.mg x = some (.ref f)) (hk : PySem.W.keepIn X.K (.ref f) = true) (hb : Binds X.K fd ps []) (ha : PA X (e :: es) t)
    (plainName : (x == ("__debug__" : Str)) = false := by decide)
    (plainArgs : starEach (e :: es) X.env = (false, eval e X.env) :: starEach es X.env := by rfl)
    (noStar : (backTo pos (starEach es X.env)).any (·.1) = false := by rfl) :
    PE X (.Call (.Name x p) (e :: es) [] pos) (fun σ G Q => t σ G fun vs G1 => sp vs G1 Q E0) := by
  refine ⟨fun pins s σ G Q I h => wpAny_Call_Name_kw (ld_glob I hg hm ?_ plainName)⟩
  exact PySem.W.callWith_K (h₀ := X.base) I.ok.mod.kin hk (thn (ha.run pos pins s σ G _ I h) fun us s1 ⟨vs, G1, I1, r, q⟩ => ⟨I1.kIn, run_fnG F hgd hr hb I1 r q⟩) plainArgs noStar
end
abbrev NL : List Str := ["_law_script", "_law_k", "_law_pool", "_law_turn"]
theorem scLaw : FnScope NL ["_law_script"] (defScope sLaw) := ⟨rfl, rfl, rfl, by decide +kernel, rfl, by decide +kernel, by decide +kernel⟩
def spLaw (K : PySem.W.Frag) : Sp := fun vs H Q _ => ∃ (a : Addr) (ns : List Int), vs = [.ref a] ∧ SqL K H a (ns.map V.int) ∧ ns.length ≤ 63 ∧ ∀ H', Q (.bl true) H'
def teRt (K : PySem.W.Frag) : TE := fun σ G Q => tCons (tCall spDesign [] E0 (tCons (tVar 2) (tCons (tC (.int 3)) tNil))) tNil σ G fun vs G1 => spRight K vs G1 Q E0
section
variable {P : Program} {w : World} {K : PySem.W.Frag} {mg : Str → Option Value} {base : Heap}
theorem ok_law {f fDr fT fO fM fTb fPl fS fDe fLg fAl fLe fR fTu fFd fQu fQw fFi fFw : Addr} {fd fdDr fdT fdO fdM fdTb fdPl fdS fdDe fdLg fdAl fdLe fdR fdTu fdFd fdQu fdQw fdFi fdFw : FuncData} (F : Fun K "law" "law" sLaw f fd) (FDr : Fun K "_law_pot" "_law_pot" sDraws fDr fdDr) (FT : Fun K "_law_take" "_law_take" sTake fT fdT) (FO : Fun K "_law_of" "_law_of" sOf fO fdO) (FM : Fun K "_law_mixed" "_law_mixed" sMixed fM fdM) (FTb : Fun K "_law_table" "_law_table" sTable fTb fdTb) (FPl : Fun K "_law_plan" "_law_plan" sPlan fPl fdPl) (FS : Fun K "_law_size" "_law_size" sSize fS fdS) (FDe : Fun K "_law_design" "_law_design" sDesign fDe fdDe) (FLg : Fun K "_law_legs" "_law_legs" sLLegs fLg fdLg) (FAl : Fun K "_law_all" "_law_all" sAll fAl fdAl) (FLe : Fun K "_law_led" "_law_led" sLed fLe fdLe) (FR : Fun K "_law_right" "_law_right" sRight fR fdR) (FTu : Fun K "turned" "turned" sTurned fTu fdTu) (FFd : Fun K "flipped" "flipped" sFlipped fFd fdFd) (FQu : Fun K "quarter" "quarter" sQuarter fQu fdQu) (FQw : Fun K "quarter_wire" "quarter_wire" sQWire fQw fdQw) (FFi : Fun K "flip" "flip" sFlip fFi fdFi) (FFw : Fun K "flip_wire" "flip_wire" sFWire fFw fdFw)
    (bDr : Binds K fdDr ["_law_script", "_law_k"] []) (bT : Binds K fdT ["_law_pool", "_law_many"] []) (bO : Binds K fdO ["_law_pool", "_law_some"] []) (bM : Binds K fdM ["_law_pool", "_law_some"] []) (bTb : Binds K fdTb ["_law_pool", "_law_q"] []) (bPl : Binds K fdPl ["_law_pool", "_law_q", "_law_a", "_law_b", "_law_most"] []) (bS : Binds K fdS ["_law_pool"] []) (bDe : Binds K fdDe ["_law_pool", "_law_most"] []) (bLg : Binds K fdLg ["_law_i", "_law_j"] []) (bAl : Binds K fdAl ["_law_a", "_law_b"] []) (bLe : Binds K fdLe ["_law_design_here", "_law_places", "_law_turn"] []) (bR : Binds K fdR ["_law_design_here"] []) (bTu : Binds K fdTu ["table"] []) (bFd : Binds K fdFd ["table"] []) (bQu : Binds K fdQu ["plan"] []) (bQw : Binds K fdQw ["a", "b", "wire"] []) (bFi : Binds K fdFi ["plan"] []) (bFw : Binds K fdFw ["a", "b", "wire"] [])
    (gDr : mg "_law_pot" = some (.ref fDr)) (gT : mg "_law_take" = some (.ref fT)) (gO : mg "_law_of" = some (.ref fO)) (gM : mg "_law_mixed" = some (.ref fM)) (gTb : mg "_law_table" = some (.ref fTb)) (gPl : mg "_law_plan" = some (.ref fPl)) (gS : mg "_law_size" = some (.ref fS)) (gDe : mg "_law_design" = some (.ref fDe)) (gLg : mg "_law_legs" = some (.ref fLg)) (gAl : mg "_law_all" = some (.ref fAl)) (gLe : mg "_law_led" = some (.ref fLe)) (gR : mg "_law_right" = some (.ref fR)) (gTu : mg "turned" = some (.ref fTu)) (gFd : mg "flipped" = some (.ref fFd)) (gQu : mg "quarter" = some (.ref fQu)) (gQw : mg "quarter_wire" = some (.ref fQw)) (gFi : mg "flip" = some (.ref fFi)) (gFw : mg "flip_wire" = some (.ref fFw))
    (ml : mg "len" = none) (ma : mg "abs" = none) (mlist : mg "list" = none) (mr : mg "range" = none) (mtup : mg "tuple" = none) (ms : mg "sorted" = none) (mz : mg "zip" = none) (mmax : mg "max" = none) (mmin : mg "min" = none) (mrep : mg "repr" = none) (mall : mg "all" = none) (mrev : mg "reversed" = none) :
    FnG P w K mg base 6 f fd ["_law_script"] (spLaw K) := by
  have GDr : FnOk P w K mg base CX0 1 fDr fdDr ["_law_script", "_law_k"] (spDraws K) := ok_draws FDr ml ma
  have GTb : FnOk P w K mg base CX0 3 fTb fdTb ["_law_pool", "_law_q"] spTable := ok_table FTb FT FO FM bT bO bM gT gO gM ml mlist mr mtup ms mz
  have GDe : FnOk P w K mg base CX0 5 fDe fdDe ["_law_pool", "_law_most"] spDesign := ok_design FDe FT FO FS FPl FTb bT bO bS bPl bTb gT gO gS gPl gTb ml mtup mr GTb
  have GR : FnG P w K mg base 5 fR fdR ["_law_design_here"] (spRight K) := ok_right FR FLe FQu FFi FTu FFd FQw FFw FLg FAl bLe bQu bFi bTu bFd bQw bFw bLg bAl gLe gQu gFi gTu gFd gQw gFw gLg gAl ml mtup mr ms mrev mrep
  refine okG F scLaw (fun vs H Q E h => ?_) (fun cdv A outer s H vs Q E hgd hr h => ?_)
  · obtain ⟨a, ns, rfl, _⟩ := h
    rfl
  obtain ⟨a, ns, rfl, hS, hlen, q⟩ := h
  have nd := scLaw.nd
  refine ⟨_, pss_cons (ps_for PassesOwn.never rfl (pi_range1 (by rfl) mr (pa_cons (pe_callB (call_max2 rfl) (by rfl) mmax (by decide +kernel) (pa_cons pe_int (pa_cons (pe_callB (call_min2 rfl) (by rfl) mmin (by decide +kernel) (pa_cons pe_int (pa_cons (pe_callB call_len_seq (by rfl) ml PySem.boot_len (pa_cons (pv 0) pa_nil)) pa_nil))) pa_nil))) pa_nil)) (pg_name (i := 1) nd rfl (.inl rfl)) (pss_cons (ps_set (i := 2) nd rfl (.inr rfl) (pe_call GDr (hr.mono (by omega)) (by rfl) gDr FDr.kp bDr .nil pass0 (pa_cons (pv 0) (pa_cons (pv 1) pa_nil))))
      (pss_one (ps_if (pt_not (pt_val (pe_callB (cr_all rfl) (by rfl) mall (by decide +kernel) (pa_cons (pe_lc (own := [("_law_turn", 3)]) (g := gName 3) (tt := tYes) (te := teRt K) rfl nd (pi_range1 (by rfl) mr (pa_cons pe_int pa_nil)) (blkOk_by (own := [("_law_turn", 3)]) (N := NL) (sc := defScope sLaw) (by decide +kernel)) (fun _ _ _ _ _ => pg_name (i := 3) nd rfl (.inl rfl)) (fun _ _ _ _ _ => pts_nil) (fun _ _ _ _ _ => (pe_callG GR hgd hr (by rfl) gR FR.kp bR (pa_cons (pe_call GDe hr (by rfl) gDe FDe.kp bDe .nil pass0 (pa_cons (pv 2) (pa_cons pe_int pa_nil))) pa_nil)))) pa_nil)))) (pss_one (ps_ret pe_bl)) pss_nil))))
      (pss_one (ps_ret pe_bl)), ?_⟩
  refine ⟨.ref a, rfl, a, _, rfl, .inl hS, 3, _, rfl, 1, _, rfl, _, rfl, ?_, ?_, ?_⟩
  · split <;> split <;> omega
  · rw [List.length_map]
    split <;> split <;> omega
  refine for_range (lo := 0) (n := _) (fun i σ G => SqL K G a (ns.map V.int) ∧ ∃ y1 y2, σ = [some (.ref a), y1, y2, none]) ⟨hS, _, _, rfl⟩ ?_ ?_
  · rintro i σ G hi ⟨hSG, y1, y2, rfl⟩
    have hi3 : i < 3 := by
      rw [List.length_map] at hi
      revert hi
      split <;> split <;> omega
    rw [Int.zero_add]
    refine ⟨.ref a, rfl, .int (i : Int), rfl, a, ns, i, rfl, hSG, by omega, fun H1 p sm1 np hP1 => ?_⟩
    refine gName_run ?_
    dsimp only [List.set]
    refine ⟨3, rfl, by decide, by decide, fun D nD => ?_⟩
    have nDp : D ≠ p := (hP1.ne nD).symm
    refine lc_range (lo := 0) (n := 3) (fun r G' => Fr p H1 G' ∧ PotAt G' p (410 * r) ∧ G' D = some (.lst ((List.replicate r true).map V.bl))) ⟨Fr.new nD, hP1.same (same_upd nD), upd_same⟩ ?_ ?_
    · rintro r G' hr3 ⟨fr, pt, hD⟩
      rw [Int.zero_add]
      refine ⟨rfl, ?_⟩
      simp only [tYes, ↓reduceIte]
      refine ⟨.ref p, rfl, p, 410 * r, rfl, pt, by omega, fun q' a' b' t ts rs G2 _ q7 a9 b9 f2 P2 pl => ⟨t, q', a', b', ts, rs, rfl, pl, q7, a9, b9, fun G3 s3 => ?_⟩⟩
      refine ⟨_, s3 _ _ (f2 _ _ nDp hD), Nat.lt_of_lt_of_le (show ((List.replicate r true).map V.bl).length < 1000 by rw [List.length_map, List.length_replicate]; omega) (by decide), fr_at (fr.trans (f2.trans (Fr.same s3))) nD, ((P2.same s3).upd nDp.symm).mono (by omega), ?_⟩
      rw [upd_same, List.replicate_succ', List.map_append]
      rfl
    · rintro G' ⟨fr, pt, hD⟩
      refine ⟨D, List.replicate 3 true, rfl, .inl (.inl hD), true, rfl, iteF ?_⟩
      exact ⟨freshSeq hSG np ((Fr.same sm1).trans fr), _, _, rfl⟩
  · rintro σ G ⟨hSG, y1, y2, rfl⟩
    exact q G
end
end C2

namespace C2
set_option Elab.async false
set_option linter.all false
set_option maxRecDepth 100000
set_option maxHeartbeats 4000000
open PySem PySem.Spec PyProof.Rows L2
theorem all_mk {l : PySem.W.OpenLaw} {w : World} {K : PySem.W.Frag} {h : Heap} {mg : Str → Option Value} {fa f1 f2 f3 f4 f5 f6 f7 f8 f9 f10 f11 f12 f13 f14 f15 f16 f17 f18 f19 : Addr} (X : K.In h) (G : h.Ns mainGlobals mg) (hfa : mg "law" = some (.ref fa))
    {od1 an1 od2 an2 od3 an3 od4 an4 od5 an5 od6 an6 od7 an7 od8 an8 od9 an9 od10 an10 od11 an11 od12 an12 od13 an13 od14 an14 od15 an15 od16 an16 od17 an17 od18 an18 od19 an19 : Option Addr} {sl1 sl2 sl3 sl4 sl5 sl6 sl7 sl8 sl9 sl10 sl11 sl12 sl13 sl14 sl15 sl16 sl17 sl18 sl19 : Array (Option Value)}
    {oc1 kV1 dc1 pm1 cd1 ct1 oc2 kV2 dc2 pm2 cd2 ct2 oc3 kV3 dc3 pm3 cd3 ct3 oc4 kV4 dc4 pm4 cd4 ct4 oc5 kV5 dc5 pm5 cd5 ct5 oc6 kV6 dc6 pm6 cd6 ct6 oc7 kV7 dc7 pm7 cd7 ct7 oc8 kV8 dc8 pm8 cd8 ct8 oc9 kV9 dc9 pm9 cd9 ct9 oc10 kV10 dc10 pm10 cd10 ct10 oc11 kV11 dc11 pm11 cd11 ct11 oc12 kV12 dc12 pm12 cd12 ct12 oc13 kV13 dc13 pm13 cd13 ct13 oc14 kV14 dc14 pm14 cd14 ct14 oc15 kV15 dc15 pm15 cd15 ct15 oc16 kV16 dc16 pm16 cd16 ct16 oc17 kV17 dc17 pm17 cd17 ct17 oc18 kV18 dc18 pm18 cd18 ct18 oc19 kV19 dc19 pm19 cd19 ct19 : Value}
    (a1 : PySem.W.nsIn K mainGlobals "_law_pot" = some (some (.ref f1))) (l1 : K.lookup f1 = some ⟨oc1, od1, .func (PySem.W.fnOf "_law_pot" "_law_pot" (defArgs sDraws) (defBody sDraws) (defScope sDraws) .none kV1 dc1 pm1 an1 cd1 ct1), sl1⟩) (c1 : PySem.W.codeIn K cd1 "_law_pot" = true) (k1 : PySem.W.keepIn K (.ref f1) = true)
    (a2 : PySem.W.nsIn K mainGlobals "_law_take" = some (some (.ref f2))) (l2 : K.lookup f2 = some ⟨oc2, od2, .func (PySem.W.fnOf "_law_take" "_law_take" (defArgs sTake) (defBody sTake) (defScope sTake) .none kV2 dc2 pm2 an2 cd2 ct2), sl2⟩) (c2 : PySem.W.codeIn K cd2 "_law_take" = true) (k2 : PySem.W.keepIn K (.ref f2) = true)
    (a3 : PySem.W.nsIn K mainGlobals "_law_of" = some (some (.ref f3))) (l3 : K.lookup f3 = some ⟨oc3, od3, .func (PySem.W.fnOf "_law_of" "_law_of" (defArgs sOf) (defBody sOf) (defScope sOf) .none kV3 dc3 pm3 an3 cd3 ct3), sl3⟩) (c3 : PySem.W.codeIn K cd3 "_law_of" = true) (k3 : PySem.W.keepIn K (.ref f3) = true)
    (a4 : PySem.W.nsIn K mainGlobals "_law_mixed" = some (some (.ref f4))) (l4 : K.lookup f4 = some ⟨oc4, od4, .func (PySem.W.fnOf "_law_mixed" "_law_mixed" (defArgs sMixed) (defBody sMixed) (defScope sMixed) .none kV4 dc4 pm4 an4 cd4 ct4), sl4⟩) (c4 : PySem.W.codeIn K cd4 "_law_mixed" = true) (k4 : PySem.W.keepIn K (.ref f4) = true)
    (a5 : PySem.W.nsIn K mainGlobals "_law_table" = some (some (.ref f5))) (l5 : K.lookup f5 = some ⟨oc5, od5, .func (PySem.W.fnOf "_law_table" "_law_table" (defArgs sTable) (defBody sTable) (defScope sTable) .none kV5 dc5 pm5 an5 cd5 ct5), sl5⟩) (c5 : PySem.W.codeIn K cd5 "_law_table" = true) (k5 : PySem.W.keepIn K (.ref f5) = true)
    (a6 : PySem.W.nsIn K mainGlobals "_law_plan" = some (some (.ref f6))) (l6 : K.lookup f6 = some ⟨oc6, od6, .func (PySem.W.fnOf "_law_plan" "_law_plan" (defArgs sPlan) (defBody sPlan) (defScope sPlan) .none kV6 dc6 pm6 an6 cd6 ct6), sl6⟩) (c6 : PySem.W.codeIn K cd6 "_law_plan" = true) (k6 : PySem.W.keepIn K (.ref f6) = true)
    (a7 : PySem.W.nsIn K mainGlobals "_law_size" = some (some (.ref f7))) (l7 : K.lookup f7 = some ⟨oc7, od7, .func (PySem.W.fnOf "_law_size" "_law_size" (defArgs sSize) (defBody sSize) (defScope sSize) .none kV7 dc7 pm7 an7 cd7 ct7), sl7⟩) (c7 : PySem.W.codeIn K cd7 "_law_size" = true) (k7 : PySem.W.keepIn K (.ref f7) = true)
    (a8 : PySem.W.nsIn K mainGlobals "_law_design" = some (some (.ref f8))) (l8 : K.lookup f8 = some ⟨oc8, od8, .func (PySem.W.fnOf "_law_design" "_law_design" (defArgs sDesign) (defBody sDesign) (defScope sDesign) .none kV8 dc8 pm8 an8 cd8 ct8), sl8⟩) (c8 : PySem.W.codeIn K cd8 "_law_design" = true) (k8 : PySem.W.keepIn K (.ref f8) = true)
    (a9 : PySem.W.nsIn K mainGlobals "_law_legs" = some (some (.ref f9))) (l9 : K.lookup f9 = some ⟨oc9, od9, .func (PySem.W.fnOf "_law_legs" "_law_legs" (defArgs sLLegs) (defBody sLLegs) (defScope sLLegs) .none kV9 dc9 pm9 an9 cd9 ct9), sl9⟩) (c9 : PySem.W.codeIn K cd9 "_law_legs" = true) (k9 : PySem.W.keepIn K (.ref f9) = true)
    (a10 : PySem.W.nsIn K mainGlobals "_law_all" = some (some (.ref f10))) (l10 : K.lookup f10 = some ⟨oc10, od10, .func (PySem.W.fnOf "_law_all" "_law_all" (defArgs sAll) (defBody sAll) (defScope sAll) .none kV10 dc10 pm10 an10 cd10 ct10), sl10⟩) (c10 : PySem.W.codeIn K cd10 "_law_all" = true) (k10 : PySem.W.keepIn K (.ref f10) = true)
    (a11 : PySem.W.nsIn K mainGlobals "_law_led" = some (some (.ref f11))) (l11 : K.lookup f11 = some ⟨oc11, od11, .func (PySem.W.fnOf "_law_led" "_law_led" (defArgs sLed) (defBody sLed) (defScope sLed) .none kV11 dc11 pm11 an11 cd11 ct11), sl11⟩) (c11 : PySem.W.codeIn K cd11 "_law_led" = true) (k11 : PySem.W.keepIn K (.ref f11) = true)
    (a12 : PySem.W.nsIn K mainGlobals "_law_right" = some (some (.ref f12))) (l12 : K.lookup f12 = some ⟨oc12, od12, .func (PySem.W.fnOf "_law_right" "_law_right" (defArgs sRight) (defBody sRight) (defScope sRight) .none kV12 dc12 pm12 an12 cd12 ct12), sl12⟩) (c12 : PySem.W.codeIn K cd12 "_law_right" = true) (k12 : PySem.W.keepIn K (.ref f12) = true)
    (a13 : PySem.W.nsIn K mainGlobals "turned" = some (some (.ref f13))) (l13 : K.lookup f13 = some ⟨oc13, od13, .func (PySem.W.fnOf "turned" "turned" (defArgs sTurned) (defBody sTurned) (defScope sTurned) .none kV13 dc13 pm13 an13 cd13 ct13), sl13⟩) (c13 : PySem.W.codeIn K cd13 "turned" = true) (k13 : PySem.W.keepIn K (.ref f13) = true)
    (a14 : PySem.W.nsIn K mainGlobals "flipped" = some (some (.ref f14))) (l14 : K.lookup f14 = some ⟨oc14, od14, .func (PySem.W.fnOf "flipped" "flipped" (defArgs sFlipped) (defBody sFlipped) (defScope sFlipped) .none kV14 dc14 pm14 an14 cd14 ct14), sl14⟩) (c14 : PySem.W.codeIn K cd14 "flipped" = true) (k14 : PySem.W.keepIn K (.ref f14) = true)
    (a15 : PySem.W.nsIn K mainGlobals "quarter" = some (some (.ref f15))) (l15 : K.lookup f15 = some ⟨oc15, od15, .func (PySem.W.fnOf "quarter" "quarter" (defArgs sQuarter) (defBody sQuarter) (defScope sQuarter) .none kV15 dc15 pm15 an15 cd15 ct15), sl15⟩) (c15 : PySem.W.codeIn K cd15 "quarter" = true) (k15 : PySem.W.keepIn K (.ref f15) = true)
    (a16 : PySem.W.nsIn K mainGlobals "quarter_wire" = some (some (.ref f16))) (l16 : K.lookup f16 = some ⟨oc16, od16, .func (PySem.W.fnOf "quarter_wire" "quarter_wire" (defArgs sQWire) (defBody sQWire) (defScope sQWire) .none kV16 dc16 pm16 an16 cd16 ct16), sl16⟩) (c16 : PySem.W.codeIn K cd16 "quarter_wire" = true) (k16 : PySem.W.keepIn K (.ref f16) = true)
    (a17 : PySem.W.nsIn K mainGlobals "flip" = some (some (.ref f17))) (l17 : K.lookup f17 = some ⟨oc17, od17, .func (PySem.W.fnOf "flip" "flip" (defArgs sFlip) (defBody sFlip) (defScope sFlip) .none kV17 dc17 pm17 an17 cd17 ct17), sl17⟩) (c17 : PySem.W.codeIn K cd17 "flip" = true) (k17 : PySem.W.keepIn K (.ref f17) = true)
    (a18 : PySem.W.nsIn K mainGlobals "flip_wire" = some (some (.ref f18))) (l18 : K.lookup f18 = some ⟨oc18, od18, .func (PySem.W.fnOf "flip_wire" "flip_wire" (defArgs sFWire) (defBody sFWire) (defScope sFWire) .none kV18 dc18 pm18 an18 cd18 ct18), sl18⟩) (c18 : PySem.W.codeIn K cd18 "flip_wire" = true) (k18 : PySem.W.keepIn K (.ref f18) = true)
    (a19 : PySem.W.nsIn K mainGlobals "law" = some (some (.ref f19))) (l19 : K.lookup f19 = some ⟨oc19, od19, .func (PySem.W.fnOf "law" "law" (defArgs sLaw) (defBody sLaw) (defScope sLaw) .none kV19 dc19 pm19 an19 cd19 ct19), sl19⟩) (c19 : PySem.W.codeIn K cd19 "law" = true) (k19 : PySem.W.keepIn K (.ref f19) = true)
    (z1 : PySem.W.nsIn K mainGlobals "len" = some none) (z2 : PySem.W.nsIn K mainGlobals "abs" = some none) (z3 : PySem.W.nsIn K mainGlobals "list" = some none) (z4 : PySem.W.nsIn K mainGlobals "range" = some none) (z5 : PySem.W.nsIn K mainGlobals "tuple" = some none) (z6 : PySem.W.nsIn K mainGlobals "sorted" = some none) (z7 : PySem.W.nsIn K mainGlobals "zip" = some none) (z8 : PySem.W.nsIn K mainGlobals "max" = some none) (z9 : PySem.W.nsIn K mainGlobals "min" = some none) (z10 : PySem.W.nsIn K mainGlobals "repr" = some none) (z11 : PySem.W.nsIn K mainGlobals "all" = some none) (z12 : PySem.W.nsIn K mainGlobals "reversed" = some none) :
    ∃ fd : FuncData, (∀ (s : Shared) (v : Value), BindsTo s fd ⟨[v], []⟩ [("_law_script", v)]) ∧ ∀ base : Heap, K.In base → base.Ns mainGlobals mg → FnG l.prog w K mg base 6 fa fd ["_law_script"] (spLaw K) := by
  have e := hfa.symm.trans (PySem.W.mg_of X G a19)
  cases e
  have F1 := fun_mk (st := sDraws) l1 c1 k1
  have F2 := fun_mk (st := sTake) l2 c2 k2
  have F3 := fun_mk (st := sOf) l3 c3 k3
  have F4 := fun_mk (st := sMixed) l4 c4 k4
  have F5 := fun_mk (st := sTable) l5 c5 k5
  have F6 := fun_mk (st := sPlan) l6 c6 k6
  have F7 := fun_mk (st := sSize) l7 c7 k7
  have F8 := fun_mk (st := sDesign) l8 c8 k8
  have F9 := fun_mk (st := sLLegs) l9 c9 k9
  have F10 := fun_mk (st := sAll) l10 c10 k10
  have F11 := fun_mk (st := sLed) l11 c11 k11
  have F12 := fun_mk (st := sRight) l12 c12 k12
  have F13 := fun_mk (st := sTurned) l13 c13 k13
  have F14 := fun_mk (st := sFlipped) l14 c14 k14
  have F15 := fun_mk (st := sQuarter) l15 c15 k15
  have F16 := fun_mk (st := sQWire) l16 c16 k16
  have F17 := fun_mk (st := sFlip) l17 c17 k17
  have F18 := fun_mk (st := sFWire) l18 c18 k18
  have F19 := fun_mk (st := sLaw) l19 c19 k19
  have b1 := F1.binds (ps := ["_law_script", "_law_k"]) fun _ _ _ _ _ _ us hl => match us, hl with | [_, _], _ => rfl
  have b2 := F2.binds (ps := ["_law_pool", "_law_many"]) fun _ _ _ _ _ _ us hl => match us, hl with | [_, _], _ => rfl
  have b3 := F3.binds (ps := ["_law_pool", "_law_some"]) fun _ _ _ _ _ _ us hl => match us, hl with | [_, _], _ => rfl
  have b4 := F4.binds (ps := ["_law_pool", "_law_some"]) fun _ _ _ _ _ _ us hl => match us, hl with | [_, _], _ => rfl
  have b5 := F5.binds (ps := ["_law_pool", "_law_q"]) fun _ _ _ _ _ _ us hl => match us, hl with | [_, _], _ => rfl
  have b6 := F6.binds (ps := ["_law_pool", "_law_q", "_law_a", "_law_b", "_law_most"]) fun _ _ _ _ _ _ us hl => match us, hl with | [_, _, _, _, _], _ => rfl
  have b7 := F7.binds (ps := ["_law_pool"]) fun _ _ _ _ _ _ us hl => match us, hl with | [_], _ => rfl
  have b8 := F8.binds (ps := ["_law_pool", "_law_most"]) fun _ _ _ _ _ _ us hl => match us, hl with | [_, _], _ => rfl
  have b9 := F9.binds (ps := ["_law_i", "_law_j"]) fun _ _ _ _ _ _ us hl => match us, hl with | [_, _], _ => rfl
  have b10 := F10.binds (ps := ["_law_a", "_law_b"]) fun _ _ _ _ _ _ us hl => match us, hl with | [_, _], _ => rfl
  have b11 := F11.binds (ps := ["_law_design_here", "_law_places", "_law_turn"]) fun _ _ _ _ _ _ us hl => match us, hl with | [_, _, _], _ => rfl
  have b12 := F12.binds (ps := ["_law_design_here"]) fun _ _ _ _ _ _ us hl => match us, hl with | [_], _ => rfl
  have b13 := F13.binds (ps := ["table"]) fun _ _ _ _ _ _ us hl => match us, hl with | [_], _ => rfl
  have b14 := F14.binds (ps := ["table"]) fun _ _ _ _ _ _ us hl => match us, hl with | [_], _ => rfl
  have b15 := F15.binds (ps := ["plan"]) fun _ _ _ _ _ _ us hl => match us, hl with | [_], _ => rfl
  have b16 := F16.binds (ps := ["a", "b", "wire"]) fun _ _ _ _ _ _ us hl => match us, hl with | [_, _, _], _ => rfl
  have b17 := F17.binds (ps := ["plan"]) fun _ _ _ _ _ _ us hl => match us, hl with | [_], _ => rfl
  have b18 := F18.binds (ps := ["a", "b", "wire"]) fun _ _ _ _ _ _ us hl => match us, hl with | [_, _, _], _ => rfl
  exact ⟨PySem.W.fnOf "law" "law" (defArgs sLaw) (defBody sLaw) (defScope sLaw) .none kV19 dc19 pm19 an19 cd19 ct19, fun s v => .of_eq rfl, fun base _ _ =>
    ok_law F19 F1 F2 F3 F4 F5 F6 F7 F8 F9 F10 F11 F12 F13 F14 F15 F16 F17 F18 b1 b2 b3 b4 b5 b6 b7 b8 b9 b10 b11 b12 b13 b14 b15 b16 b17 b18 (PySem.W.mg_of X G a1) (PySem.W.mg_of X G a2) (PySem.W.mg_of X G a3) (PySem.W.mg_of X G a4) (PySem.W.mg_of X G a5) (PySem.W.mg_of X G a6) (PySem.W.mg_of X G a7) (PySem.W.mg_of X G a8) (PySem.W.mg_of X G a9) (PySem.W.mg_of X G a10) (PySem.W.mg_of X G a11) (PySem.W.mg_of X G a12) (PySem.W.mg_of X G a13) (PySem.W.mg_of X G a14) (PySem.W.mg_of X G a15) (PySem.W.mg_of X G a16) (PySem.W.mg_of X G a17) (PySem.W.mg_of X G a18) (PySem.W.mg_none_of X G z1) (PySem.W.mg_none_of X G z2) (PySem.W.mg_none_of X G z3) (PySem.W.mg_none_of X G z4) (PySem.W.mg_none_of X G z5) (PySem.W.mg_none_of X G z6) (PySem.W.mg_none_of X G z7) (PySem.W.mg_none_of X G z8) (PySem.W.mg_none_of X G z9) (PySem.W.mg_none_of X G z10) (PySem.W.mg_none_of X G z11) (PySem.W.mg_none_of X G z12)⟩
end C2
open PySem PySem.W PyProof.Rows
set_option maxRecDepth 100000 in
set_option maxHeartbeats 0 in
theorem PySem.Challenge.cw_cornertold_k64_plans_and_wires_turned_holds : PySem.Challenge.rw_cornertold_k64_plans_and_wires_turned.Holds := by
  w_on; o_law; k_head; (case hw => w_witness2)
  k_fill
  refine C2.walkG (l := PySem.Challenge.rw_cornertold_k64_plans_and_wires_turned) (n := 63) (k := 6) (x := "_law_script") (sp := C2.spLaw) rfl (by decide) rfl ⟨rfl, by decide, by decide⟩ (fun w h Y => PySem.W.kIn_of Y) ?F (fun _ _ a ns hl hS => ⟨a, ns, rfl, hS, hl, fun _ => rfl⟩)
  case F =>
    intro w mg fa h KX G hmg
    refine' C2.all_mk KX G hmg ?a1 ?l1 ?c1 ?k1 ?a2 ?l2 ?c2 ?k2 ?a3 ?l3 ?c3 ?k3 ?a4 ?l4 ?c4 ?k4 ?a5 ?l5 ?c5 ?k5 ?a6 ?l6 ?c6 ?k6 ?a7 ?l7 ?c7 ?k7 ?a8 ?l8 ?c8 ?k8 ?a9 ?l9 ?c9 ?k9 ?a10 ?l10 ?c10 ?k10 ?a11 ?l11 ?c11 ?k11 ?a12 ?l12 ?c12 ?k12 ?a13 ?l13 ?c13 ?k13 ?a14 ?l14 ?c14 ?k14 ?a15 ?l15 ?c15 ?k15 ?a16 ?l16 ?c16 ?k16 ?a17 ?l17 ?c17 ?k17 ?a18 ?l18 ?c18 ?k18 ?a19 ?l19 ?c19 ?k19 ?z1 ?z2 ?z3 ?z4 ?z5 ?z6 ?z7 ?z8 ?z9 ?z10 ?z11 ?z12
    (case a1 => k_is); (case l1 => k_is); (case c1 => k_is); (case k1 => k_is); (case a2 => k_is); (case l2 => k_is); (case c2 => k_is); (case k2 => k_is)
    (case a3 => k_is); (case l3 => k_is); (case c3 => k_is); (case k3 => k_is); (case a4 => k_is); (case l4 => k_is); (case c4 => k_is); (case k4 => k_is)
    (case a5 => k_is); (case l5 => k_is); (case c5 => k_is); (case k5 => k_is); (case a6 => k_is); (case l6 => k_is); (case c6 => k_is); (case k6 => k_is)
    (case a7 => k_is); (case l7 => k_is); (case c7 => k_is); (case k7 => k_is); (case a8 => k_is); (case l8 => k_is); (case c8 => k_is); (case k8 => k_is)
    (case a9 => k_is); (case l9 => k_is); (case c9 => k_is); (case k9 => k_is); (case a10 => k_is); (case l10 => k_is); (case c10 => k_is); (case k10 => k_is)
    (case a11 => k_is); (case l11 => k_is); (case c11 => k_is); (case k11 => k_is); (case a12 => k_is); (case l12 => k_is); (case c12 => k_is); (case k12 => k_is)
    (case a13 => k_is); (case l13 => k_is); (case c13 => k_is); (case k13 => k_is); (case a14 => k_is); (case l14 => k_is); (case c14 => k_is); (case k14 => k_is)
    (case a15 => k_is); (case l15 => k_is); (case c15 => k_is); (case k15 => k_is); (case a16 => k_is); (case l16 => k_is); (case c16 => k_is); (case k16 => k_is)
    (case a17 => k_is); (case l17 => k_is); (case c17 => k_is); (case k17 => k_is); (case a18 => k_is); (case l18 => k_is); (case c18 => k_is); (case k18 => k_is)
    (case a19 => k_is); (case l19 => k_is); (case c19 => k_is); (case k19 => k_is); (case z1 => k_is); (case z2 => k_is); (case z3 => k_is); (case z4 => k_is)
    (case z5 => k_is); (case z6 => k_is); (case z7 => k_is); (case z8 => k_is); (case z9 => k_is); (case z10 => k_is); (case z11 => k_is); (case z12 => k_is)
