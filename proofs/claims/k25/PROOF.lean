import PyProof.Rows.All
import Wide.All
import OpenK.AllK
import Wide.FinOn
import HandS.ForMost
import HandS.Wide
import HandS.Conv
import HandS.Walk
import HandS.Zip
import KE.GoesMore
import KE.GoesEnum
import HandS.Style
import HandS.Comp
import HandS.IsInst
import HandS.TupAny
import HandS.Deep
import PyProof.CallFns
import KE.DataFind
import PySem.Challenge.RW_cornertold_k25_mills_of_all_small_picks
set_option Elab.async false
set_option linter.all false
set_option maxRecDepth 100000
namespace C2
set_option Elab.async false
set_option linter.all false
set_option maxRecDepth 100000
set_option maxHeartbeats 4000000
open PySem PySem.Spec PyProof.Rows L2
def topS (i : Nat) : Stmt := PySem.Challenge.pw_cornertold_k25_mills_of_all_small_picks.main.body.getD i (.Pass ⟨0, 0, 0, 0⟩)
abbrev sPWhole : Stmt := topS 1
abbrev sBetween : Stmt := topS 2
abbrev sTupOf : Stmt := topS 3
abbrev sComes : Stmt := topS 5
abbrev sSizeP : Stmt := topS 6
abbrev sIsMill : Stmt := topS 10
abbrev sPairB : Stmt := topS 11
abbrev sMill : Stmt := topS 12
abbrev sMillB : Stmt := topS 13
abbrev sLegB : Stmt := topS 14
abbrev sDraws : Stmt := topS 16
abbrev sTake : Stmt := topS 17
abbrev sOf : Stmt := topS 18
abbrev sLComes : Stmt := topS 19
abbrev sLMill : Stmt := topS 20
abbrev sPairs : Stmt := topS 21
abbrev sMills : Stmt := topS 22
abbrev sPlaces : Stmt := topS 23
abbrev sPicks : Stmt := topS 24
abbrev sRight : Stmt := topS 25
abbrev sLaw : Stmt := topS 26
theorem scDraws : FnScope ["_law_script", "_law_k", "_law_cell", "_law_great"] ["_law_script", "_law_k"] (defScope sDraws) := ⟨rfl, rfl, rfl, by decide +kernel, rfl, by decide +kernel, by decide +kernel⟩
theorem scTake : FnScope ["_law_pot_here", "_law_many", "_law_digit", "_law_turn", "_law_prime", "_law_drawn"] ["_law_pot_here", "_law_many"] (defScope sTake) := ⟨rfl, rfl, rfl, by decide +kernel, rfl, by decide +kernel, by decide +kernel⟩
theorem scOf : FnScope ["_law_pot_here", "_law_some"] ["_law_pot_here", "_law_some"] (defScope sOf) := ⟨rfl, rfl, rfl, by decide +kernel, rfl, by decide +kernel, by decide +kernel⟩

/-- all that was tracked, but what stands at p, is as it was -/
def Fr (p : Addr) (H H' : Hp) : Prop := ∀ b o, b ≠ p → H b = some o → H' b = some o
theorem Fr.refl (p : Addr) (H : Hp) : Fr p H H := fun _ _ _ h => h
theorem Fr.trans {p : Addr} {H H1 H2 : Hp} (a : Fr p H H1) (b : Fr p H1 H2) : Fr p H H2 := fun c o n h => b c o n (a c o n h)
theorem Fr.same {p : Addr} {H H1 : Hp} (a : Same H H1) : Fr p H H1 := fun c o _ h => a c o h
theorem Fr.upd {p : Addr} {H : Hp} {o : HO} : Fr p H (upd H p o) := fun c u n h => by rw [upd_ne n]; exact h
theorem Fr.new {p q : Addr} {H : Hp} {o : HO} (h : H q = none) : Fr p H (L2.upd H q o) := fun c u n e => by rw [upd_ne (ne_of_none e h)]; exact e
theorem Fr.free {p : Addr} {H H' : Hp} (e : Fr p H H') {l : Addr} (n : l ≠ p) (h : H' l = none) : H l = none := by
  cases q : H l with
  | none => rfl
  | some o => rw [e l o n q] at h; cases h
theorem same_upd {H : Hp} {p : Addr} {o : HO} (h : H p = none) : Same H (upd H p o) := fun b x e => by
  rw [upd_ne (ne_of_none e h)]
  exact e
def PotAt (H : Hp) (p : Addr) (n : Nat) : Prop := ∃ g c t : Int, H p = some (.lst [.int g, .int c, .int t]) ∧ 0 ≤ t ∧ t ≤ (n : Int)
section
variable {P : Program} {w : World} {K : PySem.W.Frag} {mg : Str → Option Value} {base : Heap}
/-! ### draws -/
def spDraws (K : PySem.W.Frag) : Sp := fun vs H Q _ => ∃ (a : Addr) (ns : List Int) (k : Nat), vs = [.ref a, .int (k : Int)] ∧ SqL K H a (ns.map V.int) ∧ k ≤ 1000 ∧
  ∀ H' p, Same H H' → H p = none → PotAt H' p 0 → Q (.ref p) H'
theorem pow_ok1 : CPow 10 18 := ⟨by decide, by decide, by decide⟩
theorem pow_ok2 : CPow 10 60 := ⟨by decide, by decide, by decide⟩
theorem wide1 : CMulW ((10 : Int) ^ (60 : Int).toNat) ((10 : Int) ^ (60 : Int).toNat) := wide_mul (a := 200) (b := 200) (by decide +kernel) (by decide +kernel) (by decide) (by decide) (by decide)
theorem wide2 : CMulW ((10 : Int) ^ (60 : Int).toNat * (10 : Int) ^ (60 : Int).toNat) ((10 : Int) ^ (60 : Int).toNat) := wide_mul (a := 400) (b := 200) (by decide +kernel) (by decide +kernel) (by decide) (by decide) (by decide)
theorem wide3 : (0 : Int) < (10 : Int) ^ (60 : Int).toNat * (10 : Int) ^ (60 : Int).toNat * (10 : Int) ^ (60 : Int).toNat := by decide +kernel
theorem fin_draws {H : Hp} {Q : VK} {a : Addr} {k : Nat} (q : ∀ (H' : Hp) (p : Addr), Same H H' → H p = none → PotAt H' p 0 → Q (V.ref p) H') (hk : k ≤ 1000) (cell great : Int) :
    tRet (tLst (tCons (tVar 3) (tCons (tOp (rI (fun x j => 0 < j) fun i j => V.int (i % j)) (tOp (rI0 fun i j => V.int (i + j)) (tOp (rI0 fun i j => V.int (i + j))
      (tOp (rI CMul fun i j => V.int (i * j)) (tOp (rI (fun x j => 0 < j) fun i j => V.int (i % j)) (tVar 2) (tC (V.int 2305843009213693951))) (tC (V.int 1000033)))
      (tOp (rI CMul fun i j => V.int (i * j)) (tC (V.int 7919)) (tVar 1))) (tC (V.int 41))) (tC (V.int 2305843009213693921))) (tCons (tC (V.int 0)) tNil))))
      { nx := fun x H' => Q V.non H', rt := Q } [some (V.ref a), some (V.int (k : Int)), some (V.int cell), some (V.int great)] H := by
  refine ⟨.int great, rfl, .int cell, rfl, cell, 2305843009213693951, rfl, rfl, (by show (0 : Int) < 2305843009213693951; decide), _, 1000033, rfl, rfl, .inr ⟨by decide, by decide⟩, .int (k : Int), rfl, 7919, (k : Int), rfl, rfl, .inl ⟨by decide, by decide⟩, _, _, rfl, rfl, _, 41, rfl, rfl, _, _, rfl, rfl, (by show (0 : Int) < 2305843009213693921; decide), by show 3 ≤ sizeLine; decide, fun p np => ?_⟩
  exact q _ p (same_upd np) np ⟨_, _, _, upd_same, Int.le_refl _, Int.le_refl _⟩
theorem ok_draws {f : Addr} {fd : FuncData} {k : Nat} (F : Fun K "_law_pot" "_law_pot" sDraws f fd) (ml : mg "len" = none) (ma : mg "abs" = none) : FnOk P w K mg base CX0 (k + 1) f fd ["_law_script", "_law_k"] (spDraws K) := by
  refine F.ok scDraws (fun vs H Q E h => ?_) (fun cdv A outer s H vs Q E hr h => ?_)
  · obtain ⟨a, ns, k, rfl, _⟩ := h
    rfl
  · obtain ⟨a, ns, k, rfl, hS, hk, q⟩ := h
    refine ⟨_, pss_cons (ps_set (i := 2) scDraws.nd rfl (.inl rfl) (pe_ifExp (pt_cmpR op_lt (pv 1) (pe_callB call_len_seq (by rfl) ml PySem.boot_len (pa_cons (pv 0) pa_nil)) (nomark _))
          (pe_ix ix_list (pv 0) (pv 1) (fun _ _ => rfl)) (pe_op op_add (pe_op op_mul pe_int (pv 1)) pe_int)))
      (pss_cons (ps_set (i := 3) scDraws.nd rfl (.inl rfl) (pe_ifExp (pt_cmpR op_ge (pe_callB call_abs (by rfl) ma (by decide +kernel) (pa_cons (pv 2) pa_nil)) (pe_op op_pow pe_int pe_int) (nomark _))
          (pe_op op_mod (pe_callB call_abs (by rfl) ma (by decide +kernel) (pa_cons (pv 2) pa_nil)) (pe_op op_mulW (pe_op op_mulW (pe_op op_pow pe_int pe_int) (pe_op op_pow pe_int pe_int)) (pe_op op_pow pe_int pe_int))) pe_int))
      (pss_one (ps_ret (pe_lst (pa_cons (pv 3) (pa_cons (pe_op op_mod (pe_op op_add (pe_op op_add (pe_op op_mul (pe_op op_mod (pv 2) pe_int) pe_int) (pe_op op_mul pe_int (pv 1))) pe_int) pe_int) (pa_cons pe_int pa_nil))))))), ?_⟩
    refine ⟨.int (k : Int), rfl, .ref a, rfl, a, _, rfl, .inl hS, _, _, rfl, rfl, _, rfl, ite2 (fun e => ?_) (fun e => ?_)⟩
    · have e1 : k < ns.length := by
        have := of_decide_eq_true e
        rw [List.length_map] at this
        omega
      refine ⟨.ref a, rfl, .int (k : Int), rfl, a, _, _, .int ns[k], rfl, rfl, hS, atI_nat (by rw [List.getElem?_map, List.getElem?_eq_getElem e1]; rfl), ?_⟩
      generalize ns[k] = cell
      refine ⟨.int cell, rfl, cell, rfl, 10, 18, rfl, rfl, pow_ok1, _, _, rfl, rfl, _, rfl, ite2 (fun e => ?_) (fun e => ?_)⟩
      · refine ⟨.int cell, rfl, cell, rfl, 10, 60, rfl, rfl, pow_ok2, 10, 60, rfl, rfl, pow_ok2, _, _, rfl, rfl, wide1, 10, 60, rfl, rfl, pow_ok2, _, _, rfl, rfl, wide2, _, _, rfl, rfl, wide3, ?_⟩
        exact fin_draws q hk _ _
      · exact fin_draws q hk _ _
    · refine ⟨.int (k : Int), rfl, 5, (k : Int), rfl, rfl, .inl ⟨by decide, by decide⟩, _, 3, rfl, rfl, ?_⟩
      refine ⟨_, rfl, _, rfl, 10, 18, rfl, rfl, pow_ok1, _, _, rfl, rfl, _, rfl, ite2 (fun e => ?_) (fun e => ?_)⟩
      · refine ⟨_, rfl, _, rfl, 10, 60, rfl, rfl, pow_ok2, 10, 60, rfl, rfl, pow_ok2, _, _, rfl, rfl, wide1, 10, 60, rfl, rfl, pow_ok2, _, _, rfl, rfl, wide2, _, _, rfl, rfl, wide3, ?_⟩
        exact fin_draws q hk _ _
      · exact fin_draws q hk _ _
end
end C2

namespace C2
set_option Elab.async false
set_option linter.all false
set_option maxRecDepth 100000
set_option maxHeartbeats 4000000
open PySem PySem.Spec PyProof.Rows L2
section
variable {P : Program} {w : World} {K : PySem.W.Frag} {mg : Str → Option Value} {base : Heap}
def primes : List V := [.int 2147483647, .int 2147483629, .int 2147483587, .int 2147483579, .int 2147483563, .int 2147483549, .int 2147483543]
theorem primes_at {r : Int} (h0 : 0 ≤ r) (h1 : r < 7) : ∃ v : Int, atI primes r = some (.int v) ∧ 0 < v ∧ v < 2147483648 := by
  have : r = 0 ∨ r = 1 ∨ r = 2 ∨ r = 3 ∨ r = 4 ∨ r = 5 ∨ r = 6 := by omega
  rcases this with rfl | rfl | rfl | rfl | rfl | rfl | rfl <;> exact ⟨_, rfl, by decide, by decide⟩
def spTake : Sp := fun vs H Q _ => ∃ (p : Addr) (m : Int) (n : Nat), vs = [.ref p, .int m] ∧ PotAt H p n ∧ n < 1000000 ∧ 0 < m ∧ m < 1073741824 ∧
  ∀ (d : Int) H', Fr p H H' → PotAt H' p (n + 1) → 0 ≤ d → d < m → Q (.int d) H'
theorem ok_take {f : Addr} {fd : FuncData} {k : Nat} (F : Fun K "_law_take" "_law_take" sTake f fd) : FnOk P w K mg base CX0 (k + 1) f fd ["_law_pot_here", "_law_many"] spTake := by
  refine F.ok scTake (fun vs H Q E h => ?_) (fun cdv A outer s H vs Q E hr h => ?_)
  · obtain ⟨a, ns, k, rfl, _⟩ := h
    rfl
  · obtain ⟨p, m, n, rfl, ⟨g, c, t, hp, ht0, ht1⟩, hn, hm0, hm1, q⟩ := h
    refine ⟨_, pss_cons (ps_if (pt_cmpR op_gt (pe_ix ix_list (pv 0) pe_int (fun _ _ => rfl)) pe_int (nomark _))
        (pss_cons (ps_set (i := 2) scTake.nd rfl (.inl rfl) (pe_op op_mod (pe_ix ix_list (pv 0) pe_int (fun _ _ => rfl)) (pv 1)))
          (pss_cons (ps_asg (pe_op op_fdiv (pe_ix ix_list (pv 0) pe_int (fun _ _ => rfl)) (pv 1)) (pg_sub (pv 0) pe_int set_list)) (pss_one (ps_ret (pv 2))))) pss_nil)
      (pss_cons (ps_set (i := 3) scTake.nd rfl (.inl rfl) (pe_op op_add (pe_ix ix_list (pv 0) pe_int (fun _ _ => rfl)) pe_int))
      (pss_cons (ps_asg (pv 3) (pg_sub (pv 0) pe_int set_list))
      (pss_cons (ps_set (i := 4) scTake.nd rfl (.inl rfl) (pe_ix ix_list (pe_lst (pa_cons pe_int (pa_cons pe_int (pa_cons pe_int (pa_cons pe_int (pa_cons pe_int (pa_cons pe_int (pa_cons pe_int pa_nil))))))))
          (pe_op op_mod (pv 3) pe_int) (fun _ _ => rfl)))
      (pss_cons (ps_set (i := 5) scTake.nd rfl (.inl rfl) (pe_op op_add (pe_op op_mod (pe_op op_mod (pe_op op_add (pe_ix ix_list (pv 0) pe_int (fun _ _ => rfl))
          (pe_op op_mul (pe_op op_mul pe_int (pv 3)) (pv 3))) (pe_op op_mul (pv 4) (pv 4))) (pv 4)) pe_int))
      (pss_one (ps_ret (pe_op op_mod (pe_op op_fdiv (pe_op op_mod (pe_op op_mul (pv 5) (pe_op op_add (pe_op op_mod (pv 5) pe_int) (pv 3))) (pv 4)) pe_int) (pv 1)))))))), ?_⟩
    have L0 : SqL K H p [.int g, .int c, .int t] := .inl (.inl hp)
    refine ⟨.ref p, rfl, p, _, 0, .int g, rfl, rfl, L0, rfl, _, _, rfl, rfl, _, rfl, ite2 (fun e => ?_) (fun e => ?_)⟩
    · refine ⟨.ref p, rfl, p, _, 0, .int g, rfl, rfl, L0, rfl, .int m, rfl, _, _, rfl, rfl, hm0, ?_⟩
      refine ⟨.ref p, rfl, p, _, 0, .int g, rfl, rfl, L0, rfl, .int m, rfl, _, _, rfl, rfl, ⟨hm0, hm1⟩, ?_⟩
      refine ⟨.ref p, rfl, p, _, 0, 0, rfl, rfl, hp, rfl, ?_⟩
      refine ⟨_, rfl, q _ _ Fr.upd ⟨_, _, _, upd_same, ht0, by omega⟩ (Int.emod_nonneg _ (by omega)) (Int.emod_lt_of_pos _ hm0)⟩
    · refine ⟨.ref p, rfl, p, _, 2, .int t, rfl, rfl, L0, rfl, _, 1, rfl, rfl, ?_⟩
      refine ⟨.int (t + 1), rfl, .ref p, rfl, p, _, 2, 2, rfl, rfl, hp, rfl, ?_⟩
      have hp2 : (upd H p (.lst (List.set [.int g, .int c, .int t] 2 (.int (t + 1))))) p = some (.lst [.int g, .int c, .int (t + 1)]) := upd_same
      refine ⟨by show 7 ≤ sizeLine; decide, fun o no => ?_⟩
      have npo : p ≠ o := ne_of_none hp2 no
      have hp3 : (upd (upd H p (.lst (List.set [.int g, .int c, .int t] 2 (.int (t + 1))))) o (.lst primes)) p = some (.lst [.int g, .int c, .int (t + 1)]) := by
        rw [upd_ne npo]
        exact hp2
      have fr3 : Fr p H (upd (upd H p (.lst (List.set [.int g, .int c, .int t] 2 (.int (t + 1))))) o (.lst primes)) := Fr.trans Fr.upd (Fr.new no)
      have L3 : SqL K (upd (upd H p (.lst (List.set [.int g, .int c, .int t] 2 (.int (t + 1))))) o (.lst primes)) p [.int g, .int c, .int (t + 1)] := .inl (.inl hp3)
      have LO : SqL K (upd (upd H p (.lst (List.set [.int g, .int c, .int t] 2 (.int (t + 1))))) o (.lst primes)) o primes := .inl (.inl upd_same)
      obtain ⟨v, hv, v0, v1⟩ := primes_at (r := (t + 1) % 7) (Int.emod_nonneg _ (by decide)) (Int.emod_lt_of_pos _ (by decide))
      have b20 : (-(2 ^ 64) : Int) < t + 1 ∧ t + 1 < 2 ^ 64 := ⟨by omega, by omega⟩
      have bv : (-(2 ^ 64) : Int) < v ∧ v < 2 ^ 64 := ⟨by omega, by omega⟩
      refine ⟨.int (t + 1), rfl, _, 7, rfl, rfl, (by show (0 : Int) < 7; decide), o, _, _, _, rfl, rfl, LO, hv, ?_⟩
      refine ⟨.ref p, rfl, p, _, 1, .int c, rfl, rfl, L3, rfl, .int (t + 1), rfl, 69621, _, rfl, rfl, .inr b20, .int (t + 1), rfl, _, _, rfl, rfl, .inr b20, _, _, rfl, rfl,
        .int v, rfl, .int v, rfl, v, v, rfl, rfl, .inl bv, _, _, rfl, rfl, (Int.mul_pos v0 v0), .int v, rfl, _, _, rfl, rfl, v0, _, 1, rfl, rfl, ?_⟩
      have z0 := Int.emod_nonneg ((c + 69621 * (t + 1) * (t + 1)) % (v * v)) (show v ≠ 0 by omega)
      have z1 := Int.emod_lt_of_pos ((c + 69621 * (t + 1) * (t + 1)) % (v * v)) v0
      generalize (c + 69621 * (t + 1) * (t + 1)) % (v * v) % v = z at z0 z1
      have bz : (-(2 ^ 64) : Int) < z + 1 ∧ z + 1 < 2 ^ 64 := ⟨by omega, by omega⟩
      refine ⟨.int (z + 1), rfl, .int (z + 1), rfl, z + 1, 1009, rfl, rfl, (by show (0 : Int) < 1009; decide), .int (t + 1), rfl, _, _, rfl, rfl, _, _, rfl, rfl, .inl bz, .int v, rfl, _, _, rfl, rfl, v0, _, 7, rfl, rfl, ⟨by decide, by decide⟩,
        .int m, rfl, _, _, rfl, rfl, hm0, ?_⟩
      exact q _ _ fr3 ⟨_, _, _, hp3, by omega, by omega⟩ (Int.emod_nonneg _ (by omega)) (Int.emod_lt_of_pos _ hm0)
end
end C2

namespace C2
set_option Elab.async false
set_option linter.all false
set_option maxRecDepth 100000
set_option maxHeartbeats 4000000
open PySem PySem.Spec PyProof.Rows L2
section
variable {P : Program} {w : World} {K : PySem.W.Frag} {mg : Str → Option Value} {base : Heap}
theorem frSeq {p : Addr} {H H' : Hp} {a : Addr} {xs : List V} (e : Fr p H H') (n : a ≠ p) (h : SqL K H a xs) : SqL K H' a xs := by
  rcases h with (h | ⟨o, h⟩) | h
  · exact .inl (.inl (e _ _ n h))
  · exact .inl (.inr ⟨o, e _ _ n h⟩)
  · exact .inr h
def spOf (K : PySem.W.Frag) : Sp := fun vs H Q _ => ∃ (p a : Addr) (xs : List V) (n : Nat), vs = [.ref p, .ref a] ∧ PotAt H p n ∧ n < 1000000 ∧ a ≠ p ∧ SqL K H a xs ∧ 0 < xs.length ∧ xs.length < 1000000 ∧
  ∀ v H', Fr p H H' → PotAt H' p (n + 1) → v ∈ xs → Q v H'
theorem ok_of {f fT : Addr} {fd fdT : FuncData} {k : Nat} (F : Fun K "_law_of" "_law_of" sOf f fd) (FT : Fun K "_law_take" "_law_take" sTake fT fdT) (bT : Binds K fdT ["_law_pot_here", "_law_many"] []) (gT : mg "_law_take" = some (.ref fT)) (ml : mg "len" = none) : FnOk P w K mg base CX0 (k + 2) f fd ["_law_pot_here", "_law_some"] (spOf K) := by
  have GT : FnOk P w K mg base CX0 (k + 1) fT fdT ["_law_pot_here", "_law_many"] spTake := ok_take FT
  refine F.ok scOf (fun vs H Q E h => ?_) (fun cdv A outer s H vs Q E hr h => ?_)
  · obtain ⟨p, a, xs, n, rfl, _⟩ := h
    rfl
  · obtain ⟨p, a, xs, n, rfl, hP, hn, hap, hS, h0, h1, q⟩ := h
    refine ⟨_, pss_one (ps_ret (pe_ix ix_list (pv 1) (pe_call GT hr (by rfl) gT FT.kp bT .nil pass0 (pa_cons (pv 0) (pa_cons (pe_callB call_len_seq (by rfl) ml PySem.boot_len (pa_cons (pv 1) pa_nil)) pa_nil))) (fun _ _ => rfl))), ?_⟩
    refine ⟨.ref a, rfl, .ref p, rfl, .ref a, rfl, a, _, rfl, .inl hS, p, _, n, rfl, hP, hn, by omega, by omega, fun d H1 fr hP1 d0 d1 => ?_⟩
    have hd : d.toNat < xs.length := by omega
    have ed : d = (d.toNat : Int) := by omega
    refine ⟨a, _, d, xs[d.toNat], rfl, rfl, frSeq fr hap hS, at_of ed (List.getElem?_eq_getElem hd), ?_⟩
    exact q _ _ fr hP1 (List.getElem_mem hd)
def rLen (K : PySem.W.Frag) : List V → Hp → VK → Prop := fun xs H Q => ∃ p ys, xs = [.ref p] ∧ (SqL K H p ys ∨ SqT K H p ys) ∧ Q (.int (ys.length : Nat)) H
end
end C2

namespace C2
set_option Elab.async false
set_option linter.all false
set_option maxRecDepth 100000
set_option maxHeartbeats 4000000
open PySem PySem.Spec PyProof.Rows L2
/-! ### zip of a list and a tuple -/
def ItLT (K : PySem.W.Frag) (a b : Addr) : It :=
  ⟨fun j G => ∃ (us vs : List V) (u v : V), SqL K G a us ∧ SqT K G b vs ∧ us[j]? = some u ∧ vs[j]? = some v,
    fun j G r G' => ∃ T u v, r = .ref T ∧ G T = none ∧ G' = upd G T (.tup [u, v]) ∧ (∀ us, SqL K G a us → us[j]? = some u) ∧ ∀ vs, SqT K G b vs → vs[j]? = some v,
    fun j G => ∃ us vs : List V, SqL K G a us ∧ SqT K G b vs ∧ j ≤ us.length ∧ j ≤ vs.length ∧ (j = us.length ∨ j = vs.length)⟩
def tnLT (a b z TI TO i1 i2 : Addr) (j : Nat) (h : Heap) : Prop :=
  IsZip h z TI TO .none ∧ IsTupOf2 h TI (.ref i1) (.ref i2) ∧ (∃ u v, IsTupOf2 h TO u v) ∧ h.IsListIter i1 a j ∧ h.IsTupleIter i2 b j
theorem in5 {c z TI TO i1 i2 : Addr} (h : c ∈ [z, TI, TO, i1, i2]) : c = z ∨ c = TI ∨ c = TO ∨ c = i1 ∨ c = i2 := by simpa using h
theorem turnLT {P : Program} {w : World} {K : PySem.W.Frag} {elts : List Expr} {kk : Nat} {tpos : Pos} {a b z TI TO i1 i2 : Addr} (S : ZipSep2 z TI TO i1 i2 [i1, a] [i2, b]) :
    Turn P w K (.Tuple elts kk tpos) (ItLT K a b) [z, TI, TO, i1, i2] z (tnLT a b z TI TO i1 i2) where
  mem := by simp
  obj := by
    rintro j h ⟨q1, q2, ⟨u, v, q3⟩, ⟨o4, q4, _, d4⟩, ⟨o5, q5, _, d5⟩⟩ c hc
    rcases in5 hc with rfl | rfl | rfl | rfl | rfl
    · exact ⟨_, q1, fun _ e => nomatch e⟩
    · exact ⟨_, q2, fun _ e => nomatch e⟩
    · exact ⟨_, q3, fun _ e => nomatch e⟩
    · exact ⟨o4, q4, fun _ e => by rw [d4] at e; cases e⟩
    · exact ⟨o5, q5, fun _ e => by rw [d5] at e; cases e⟩
  keep := by
    rintro j h h' ⟨q1, q2, ⟨u, v, q3⟩, q4, q5⟩ kp
    exact ⟨kp z (by simp) _ q1, kp TI (by simp) _ q2, ⟨u, v, kp TO (by simp) _ q3⟩, q4.at fun o e => kp i1 (by simp) o e, q5.at fun o e => kp i2 (by simp) o e⟩
  item := by
    intro X hP hw hK hc j pins s σ G E I hf st hg
    subst hP hw hK
    obtain ⟨q1, q2, ⟨u0, v0, q3⟩, q4, q5⟩ := st
    obtain ⟨us, vs, u, v, su, sv, gu, gv⟩ := hg
    obtain ⟨uits, ru, pu, _⟩ := I.list su
    obtain ⟨vits, rv, pv, _⟩ := I.tuple sv
    obtain ⟨uu, huu, ruu⟩ := ru.get gu
    obtain ⟨vv, hvv, rvv⟩ := rv.get gv
    have hd : X.A.handled = none := I.ok.hd hc
    have hzl : z < s.heap.objs.size := Heap.lt_size q1
    have ne1 : a ≠ i1 := fun e => by
      obtain ⟨o4, e4, c4, _⟩ := q4
      obtain ⟨o, oe, oc, _⟩ := pu.isList
      rw [e, e4] at oe
      cases oe
      rw [c4] at oc
      exact absurd oc (by decide)
    have ne2 : b ≠ i2 := fun e => by
      obtain ⟨o4, e4, c4, _⟩ := q5
      obtain ⟨o, oe, oc, _⟩ := pv
      rw [e, e4] at oe
      cases oe
      rw [c4] at oc
      exact absurd oc (by decide)
    have D1 := Draws.list (prog := X.prog) (w := X.w) (A := X.A.in1) hd i1 a ne1 uits.toArray
    have D2 := Draws.tuple (prog := X.prog) (w := X.w) (A := X.A.in1) hd i2 b ne2 vits.toArray
    have l1 : j < uits.toArray.size := by
      have := (List.getElem?_eq_some_iff.mp huu).1
      simpa using this
    have l2 : j < vits.toArray.size := by
      have := (List.getElem?_eq_some_iff.mp hvv).1
      simpa using this
    refine wpAny_pyNext_zipD2_item S D1 D2 q1 q2 q3 ⟨q4, pu.isList⟩ ⟨q5, pv⟩ l1 l2 fun x1 x2 h' tk e1 e2 n1 n3 n4 n5 nT nsz nk => ?_
    have ex1 : x1 = uu := Option.some.inj (e1.symm.trans (by simpa using huu))
    have ex2 : x2 = vv := Option.some.inj (e2.symm.trans (by simpa using hvv))
    subst ex1 ex2
    refine ⟨_, rfl, wpAny_letOwnedTupleGo_zip (s := { s with heap := h', toks := tk }) n1 fun h'' m1 sb => ?_⟩
    have mT : h''.get? s.heap.objs.size = some { cls := .type "tuple", data := .seq #[x1, x2] } := (sb.2 _ (Nat.ne_of_gt hzl)).trans nT
    have new : ObjOk X.prog X.w (upd G s.heap.objs.size (.tup [u, v])) h'' s.heap.objs.size (.tup [u, v]) :=
      ⟨by show 2 ≤ sizeLine; decide, [x1, x2], .cons ruu (.cons rvv .nil), ⟨_, mT, rfl, _, rfl⟩⟩
    have I1 : Inv X pins σ (upd G s.heap.objs.size (.tup [u, v])) { s with heap := h'', toks := tk } :=
      I.turnedNew (t' := tk) (ch := [z, TI, TO, i1, i2]) (fun c o hb q => (sb.2 c (fun e => hb (by simp [e]))).trans
        (nk c o (fun e => hb (by simp [e])) (fun e => hb (by simp [e])) (fun e => hb (by simp [e])) (fun e => hb (by simp [e])) q)) hf (Nat.le_refl _) new
    refine ⟨.ref s.heap.objs.size, _, I1, rfl, ⟨_, u, v, rfl, I.hok.fresh (Nat.le_refl _), rfl, fun l hl => ?_, fun l hl => ?_⟩, ⟨m1, ?_, ⟨x1, x2, ?_⟩, ?_, ?_⟩, fun c hcm => ?_⟩
    · rw [I.list_inj hl su]; exact gu
    · rw [I.tuple_inj hl sv]; exact gv
    · exact (sb.2 _ S.TIz).trans (nk _ _ S.TIz S.TITO S.TIi1 S.TIi2 q2)
    · exact (sb.2 _ S.TOz).trans n3
    · exact n4.1.at fun o e => (sb.2 _ S.zi1.symm).trans e
    · exact n5.1.at fun o e => (sb.2 _ S.zi2.symm).trans e
    · have low : c < s.heap.objs.size := by
        rcases in5 hcm with rfl | rfl | rfl | rfl | rfl
        · exact hzl
        · exact Heap.lt_size q2
        · exact Heap.lt_size q3
        · obtain ⟨_, y, _⟩ := q4; exact Heap.lt_size y
        · obtain ⟨_, y, _⟩ := q5; exact Heap.lt_size y
      rw [upd_ne (Nat.ne_of_lt low)]
      exact (hf c hcm).1
  done := by
    intro X hP hw hK hc j pins s σ G E I hf st hg
    subst hP hw hK
    obtain ⟨q1, q2, ⟨u0, v0, q3⟩, q4, q5⟩ := st
    obtain ⟨us, vs, su, sv, b1, b2, b3⟩ := hg
    obtain ⟨uits, ru, pu, _⟩ := I.list su
    obtain ⟨vits, rv, pv, _⟩ := I.tuple sv
    have hd : X.A.handled = none := I.ok.hd hc
    have ne1 : a ≠ i1 := fun e => by
      obtain ⟨o4, e4, c4, _⟩ := q4
      obtain ⟨o, oe, oc, _⟩ := pu.isList
      rw [e, e4] at oe
      cases oe
      rw [c4] at oc
      exact absurd oc (by decide)
    have ne2 : b ≠ i2 := fun e => by
      obtain ⟨o4, e4, c4, _⟩ := q5
      obtain ⟨o, oe, oc, _⟩ := pv
      rw [e, e4] at oe
      cases oe
      rw [c4] at oc
      exact absurd oc (by decide)
    have D1 := Draws.list (prog := X.prog) (w := X.w) (A := X.A.in1) hd i1 a ne1 uits.toArray
    have D2 := Draws.tuple (prog := X.prog) (w := X.w) (A := X.A.in1) hd i2 b ne2 vits.toArray
    have l1 := ru.length
    have l2 := rv.length
    refine wpAny_pyNext_zipD2_end S D1 D2 q1 q2 q3 ⟨q4, pu.isList⟩ ⟨q5, pv⟩ (by simp; omega) (by simp; omega) (by simp; omega) fun h' tk nk => ⟨rfl, ?_⟩
    exact I.turnedL (t' := tk) (ch := [z, TI, TO, i1, i2]) (fun c o hb q =>
      nk c o (fun e => hb (by simp [e])) (fun e => hb (by simp [e])) (fun e => hb (by simp [e])) (fun e => hb (by simp [e])) q) hf
  self := fun A j s Q E st h => wpAny_pyIter_zip st.1 h
def iZipLT (K : PySem.W.Frag) (ta : TA) : TI := fun σ G R => ta σ G fun vs G1 => ∃ a b us ys, vs = [.ref a, .ref b] ∧ SqL K G1 a us ∧ SqT K G1 b ys ∧ R (ItLT K a b) G1
theorem pi_zipLT {X : Cx} {e e2 : Expr} {ta : TA} {p pos tpos : Pos} {elts : List Expr} {kk : Nat} (hg : Gl X "zip") (hm : X.mg "zip" = none) (ha : PA X [e, e2] ta)
    (plainArgs : starEach [e, e2] X.env = (false, eval e X.env) :: starEach [e2] X.env := by rfl)
    (noStar : (backTo pos (starEach [e2] X.env)).any (·.1) = false := by rfl) :
    PI X (.Tuple elts kk tpos) (.Call (.Name "zip" p) [e, e2] [] pos) (iZipLT X.K ta) := by
  refine ⟨fun pins s σ G R I h => Call_ (ld_blt I hg hm PyProof.Rows.boot_zip (PyProof.Rows.callWith_type1 (thn (ha.run pos pins s σ G _ I h) fun us s1 ⟨vs, G1, I1, r1, q1⟩ => ?_) plainArgs noStar))⟩
  obtain ⟨a, b, xs, ys, rfl, sx, sy, q⟩ := q1
  cases r1 with
  | cons r rr => cases rr with
    | cons r' rr =>
      cases rr
      cases r
      cases r'
      obtain ⟨uits, ru, pu, _⟩ := I1.list sx
      obtain ⟨vits, rv, pv, _⟩ := I1.tuple sy
      obtain ⟨oa, ea, _⟩ := id pu.isList
      obtain ⟨ob, eb, _⟩ := id pv
      have S := zip_sep2 (N := s1.heap.objs.size) (fp1 := [a]) (fp2 := [b]) (fun c hc => by rw [List.mem_singleton.mp hc]; exact Heap.lt_size ea) (fun c hc => by rw [List.mem_singleton.mp hc]; exact Heap.lt_size eb)
      refine zip_begins2 (begins_list a uits.toArray) (begins_tuple b vits.toArray) pu.isList pv fun h' g1 g2 g3 g4 g5 gsz gk => wpAny_pyIter_zip g1 ?_
      refine ⟨s1.heap.objs.size + 4, [s1.heap.objs.size + 4, s1.heap.objs.size + 2, s1.heap.objs.size + 3, s1.heap.objs.size, s1.heap.objs.size + 1], _, _, G1, rfl, I1.kept (t' := s1.toks) gk, turnLT S,
        ⟨g1, g2, ⟨_, _, g3⟩, ⟨_, g4, rfl, rfl⟩, ⟨_, g5, rfl, rfl⟩⟩, fun c hc => ?_, q⟩
      have above : s1.heap.objs.size ≤ c := by
        rcases in5 hc with rfl | rfl | rfl | rfl | rfl
        · exact Nat.le_add_right _ _
        · exact Nat.le_add_right _ _
        · exact Nat.le_add_right _ _
        · exact Nat.le_refl _
        · exact Nat.le_add_right _ _
      exact I1.fpOk above (I1.hok.fresh above)
theorem walkLT {K : PySem.W.Frag} {a b : Addr} {xs ys : List V} {n : Nat} (h1 : xs.length = n) (h2 : ys.length = n) : Walk (ItLT K a b) n (fun G => SqL K G a xs ∧ SqT K G b ys) (YPair (fun i => xs[i]?) (fun i => ys[i]?)) := by
  refine ⟨fun i G hi q => ⟨xs, ys, xs[i]'(by omega), ys[i]'(by omega), q.1, q.2, List.getElem?_eq_getElem _, List.getElem?_eq_getElem _⟩, fun G q => ⟨xs, ys, q.1, q.2, by omega, by omega, by omega⟩, fun i G v G' _ q y => ?_⟩
  obtain ⟨T, u, v, e1, e2, e3, e4, e5⟩ := y
  exact ⟨T, u, v, e1, e2, e3, e4 xs q.1, e5 ys q.2⟩
/-! ### repr of data -/
def rReprD (K : PySem.W.Frag) : List V → Hp → VK → Prop := fun xs G Q => ∃ a d, xs = [.ref a] ∧ Dp K G (.ref a) d ∧ d.showable = true ∧ d.hasDict = false ∧ d.depth ≤ 60 ∧ d.shown.length ≤ sizeLine ∧ Q (.str d.shown) G
theorem call_reprD {X : Cx} (hu : X.A.units + 64 < cLine) (hgd : X.A.guards = some []) : CallR X (.builtin "repr") (rReprD X.K) := by
  intro pins s σ G xs us Q I r h
  obtain ⟨a, d, rfl, hd, s1, s2, s3, s4, q⟩ := h
  obtain ⟨given, rfl, rel⟩ := vals1 r
  obtain ⟨as, rd⟩ := Dp.reads I d _ _ hd rel
  cases rel
  refine repr_of_reads' rd s1 (fun e => by rw [s2] at e; cases e) hgd (by omega) (fun _ _ e => e) (fun h' t tk kp => ?_) s4
  exact ⟨.str d.shown, G, I.kept (t' := tk) kp, ⟨_, rfl⟩, q⟩
end C2

namespace C2
set_option Elab.async false
set_option linter.all false
set_option maxRecDepth 100000
set_option maxHeartbeats 4000000
open PySem PySem.Spec PyProof.Rows L2
/-! ### a def's promise where no repr is under way -/
structure FnG (P : Program) (w : World) (K : PySem.W.Frag) (mg : Str → Option Value) (base : Heap) (k : Nat) (f : Addr) (fd : FuncData) (ps : List Str) (sp : Sp) : Prop where
  len : ∀ vs G Q E, sp vs G Q E → vs.length = ps.length
  run : ∀ (A : Around) (outer : List Env) (s : Shared) (G : Hp) (args : Args) (us : List Value) (vs : List V) (Q : VK) (E : XK), A.guards = some [] → Room k A →
    Env0 P w K mg base A outer s G → BindsTo s fd args (ps.zip us) → Vals vs us → sp vs G Q E → codeAny (model P w) A (.call (.ref f) args) (CR CX0 outer P w G s Q E) s
section
variable {P : Program} {w : World} {K : PySem.W.Frag} {mg : Str → Option Value} {base : Heap}
theorem deeper_guards {A : Around} {env : Env} (h : A.guards = some []) : (A.deeper env).guards = some [] := h
theorem okG {x qual : Str} {st : Stmt} {f : Addr} {fd : FuncData} {N ps : List Str} {k : Nat} {sp : Sp} (F : Fun K x qual st f fd) (S : FnScope N ps (defScope st)) (len : ∀ vs G Q E, sp vs G Q E → vs.length = ps.length)
    (body : ∀ (cdv : Value) (A : Around) (outer : List Env) (s : Shared) (G : Hp) (vs : List V) (Q : VK) (E : XK), A.guards = some [] → Room k (A.deeper (envOfC qual (defScope st) s.heap.objs.size f cdv)) → sp vs G Q E →
      ∃ t, PSs (cxOf CX0 P w K mg base N qual (defScope st) f cdv A outer s G E).nox (defBody st) t ∧ t { nx := fun _ G' => Q .non G', rt := Q } (start N vs) G) : FnG P w K mg base (k + 1) f fd ps sp := by
  obtain ⟨v1, v2, v3, v4, v5, v6, cdv, v7, v8, rfl, lk, hcd⟩ := F.ex
  refine ⟨len, fun A outer s G args us vs Q E hgd hr e0 hb r hsp => ?_⟩
  have ln := len vs G Q E hsp
  have inK : K.In s.heap := e0.mod.kin.keeps fun c y e => (e0.bs c y e).left
  have noL : s.heap.NoLimit := e0.mod.nolimit.keeps fun c y e => (e0.bs c y e).left
  refine codeAny_call_function hr.depth (inK _ _ lk) rfl S.co S.gen rfl (PySem.W.codeRec_of inK hcd) (hb _ _ _ _ ?_)
  refine wpAny_newFunctionEnv_cells S.kind (fun y hy => ?_) fun env he s1 x => ?_
  · rcases S.par y.1 (List.of_mem_zip (a := y.1) (b := y.2) hy).1 with q | q
    · exact Or.inl q
    · exact Or.inr ⟨q, PySem.W.cellsFrom_some _ _ _ (Or.inl q)⟩
  · subst he
    refine ⟨noL.keeps x.toInCall.keep, codeAny_func ?_⟩
    obtain ⟨t, ht, hq⟩ := body cdv A outer s G vs Q E hgd (hr.deeper _) hsp
    have J0 := inv_start (CX := CX0) (E := E) S hr.hd e0 ln r x
    refine wpAny_mono (ht.nox.run [] s1 (start N vs) G _ J0 hq) (fun fl s' hs => ?_) fun _ _ hs => hs
    cases fl with
    | ret u =>
      obtain ⟨v, σ', G', J, rv, q⟩ := hs
      exact ⟨v, G', J.os, J.bare, J.base, J.hok, rv, q⟩
    | next =>
      obtain ⟨σ', G', J, q⟩ := hs
      exact ⟨V.non, G', J.os, J.bare, J.base, J.hok, rfl, q⟩
    | brk =>
      obtain ⟨_, _, _, q⟩ := hs
      exact q.elim
    | cont =>
      obtain ⟨_, _, _, q⟩ := hs
      exact q.elim
/-- what the law's own call leaves: True, and what stood before as it was -/
def Leaves (s₁ : Shared) : Except Value Flow → Shared → Prop := fun r s' => r = .ok (.ret (.bool true)) ∧ OldK s₁.heap s'.heap ∧
  s'.os = s₁.os ∧ AllBare s'.gens
/-- the law's own call -/
theorem law_callG {mb : Str → Option Value} {k : Nat} {fa a : Addr} {fd : FuncData} {x : Str} {sp : Sp} {s₁ : Shared} {vs : List Value} {ns : List Int}
    (inK : K.In s₁.heap) (hns : s₁.heap.Ns mainGlobals mg) (hb : s₁.heap.Ns builtinsNs mb) (hbb : ∀ x : Str, x ≠ "__name__" → mb x = bootBuiltins x) (hlim : s₁.heap.NoLimit) (hg : s₁.gens = #[])
    (hr : Room k callerA) (hl : ns.length ≤ sizeLine) (hi : IntsAre vs ns)
    (ha : s₁.heap.get? a = some { cls := .type "list", data := .seq vs.toArray })
    (F : ∀ base : Heap, K.In base → base.Ns mainGlobals mg → FnG P w K mg base k fa fd [x] sp) (hbind : ∀ (s : Shared) (u : Value), BindsTo s fd ⟨[u], []⟩ [(x, u)])
    (hsp : ∀ G : Hp, SqL K G a (ns.map V.int) → sp [.ref a] G (fun v _ => v = .bl true) fun _ _ _ => False) :
    codeAny (model P w) callerA (.call (.ref fa) ⟨[.ref a], []⟩) (Leaves s₁) s₁ := by
  have main : ∀ G : Hp, Only G → SqL K G a (ns.map V.int) → HOk P w G s₁.heap → (∀ b, G b ≠ none → b = a) → (G a ≠ none → K.lookup a = none) →
      codeAny (model P w) callerA (.call (.ref fa) ⟨[.ref a], []⟩) (Leaves s₁) s₁ := by
    intro G only sq hok one off
    have hid : ∀ {b : Addr} {y : Obj}, s₁.heap.get? b = some y → (G b = none) → (hidT s₁.heap G).get? b = some y := fun e n => hidT_get e n
    have dct : ∀ {b : Addr} {y : Obj} {es : Array DictEntry} {ep : Nat}, s₁.heap.get? b = some y → y.data = .dict es ep → G b = none := by
      intro b y es ep e d
      cases q : G b with
      | none => rfl
      | some u =>
        have z : b = a := one b (by rw [q]; exact Option.some_ne_none u)
        rw [z, ha] at e
        cases e
        exact absurd d (by intro c; cases c)
    have nsp : ∀ {b : Addr} {m : Str → Option Value}, s₁.heap.Ns b m → (hidT s₁.heap G).Ns b m := by
      rintro b m ⟨y, es, ep, e, d, r⟩
      exact ⟨y, es, ep, hid e (dct e d), d, r⟩
    have kb : K.In (hidT s₁.heap G) := by
      intro b y e
      refine hid (inK b y e) ?_
      cases q : G b with
      | none => rfl
      | some u =>
        have z : b = a := one b (by rw [q]; exact Option.some_ne_none u)
        rw [z] at q e
        rw [off (by rw [q]; exact Option.some_ne_none u)] at e
        cases e
    have md : Mod K mg (hidT s₁.heap G) := by
      refine ⟨kb, nsp hns, ⟨mb, nsp hb, hbb⟩, ?_⟩
      obtain ⟨mc, y1, y2⟩ := hlim
      exact ⟨mc, nsp y1, y2⟩
    have e0 : Env0 P w K mg (hidT s₁.heap G) callerA [] s₁ G :=
      ⟨rfl, md, fun b y e => of_hidT e, Nat.le_of_eq (hidT_size _ _), trivial, fun b z => absurd (show b ∈ ([] : List Addr) from z) List.not_mem_nil, hok, .of_eq hg⟩
    refine codeAny_mono ((F _ kb (nsp hns)).run callerA [] s₁ G ⟨[.ref a], []⟩ [.ref a] [.ref a] _ _ rfl hr e0 (hbind s₁ (.ref a)) (.cons rfl .nil) (hsp G sq)) fun r s' h => ?_
    cases r with
    | error e => exact False.elim h
    | ok fl => cases fl with
      | next => exact False.elim h
      | brk => exact False.elim h
      | cont => exact False.elim h
      | ret u =>
        obtain ⟨v, G', os, bare, un, hok', r', (q : v = .bl true)⟩ := h
        subst q
        cases (show u = Value.bool true from r')
        refine ⟨rfl, OldK.of_keep fun b y e => ?_, os, bare⟩
        cases q : G b with
        | none => exact un.keep b y e q (fun z => absurd (show b ∈ ([] : List Addr) from z) List.not_mem_nil) List.not_mem_nil
        | some u => rcases only b with z | ⟨ob, xs, z⟩
                    · rw [q] at z; cases z
                    · have f1 := (hok b _ z).1
                      have f2 := (hok' b _ (un.frzs b ob _ z)).1
                      rw [e] at f1
                      cases f1
                      exact f2
  have rv := vals_ints hi
  have ln := hi.length
  cases hk : K.lookup a with
  | some y =>
    have e := inK a y hk
    rw [ha] at e
    cases e
    exact main (fun _ => none) (fun _ => .inl rfl) (.inr ⟨_, vs.toArray, _, hk, rfl, rfl, rfl, by rw [List.size_toArray, ln]; exact hl, by simpa using rv⟩)
      (fun b u z => by cases (show (none : Option HO) = some u from z)) (fun b z => absurd rfl z) fun z => absurd rfl z
  | none =>
    obtain ⟨G, at_a, not_a⟩ : ∃ G : Hp, (∀ b, b = a → G b = some (.frz { cls := .type "list", data := .seq vs.toArray } (.lst (ns.map V.int)))) ∧ ∀ b, b ≠ a → G b = none :=
      ⟨fun b => if b = a then some (HO.frz { cls := .type "list", data := .seq vs.toArray } (.lst (ns.map V.int))) else none, fun b e => if_pos e, fun b e => if_neg e⟩
    refine main G (fun b => ?_) (.inl (.inr ⟨_, at_a a rfl⟩)) (fun b u z => ?_) (fun b z => ?_) fun _ => hk
    · by_cases c : b = a
      · exact .inr ⟨_, _, at_a b c⟩
      · exact .inl (not_a b c)
    · by_cases c : b = a
      · rw [at_a b c] at z
        cases z
        rw [c]
        refine ⟨ha, ?_, vs, _, rv, ha⟩
        rw [List.length_map]
        exact hl
      · rw [not_a b c] at z
        cases z
    · by_cases c : b = a
      · exact c
      · exact absurd (not_a b c) z
end
theorem walkG {l : PySem.W.OpenLaw} {n k : Nat} {q : Program} {loose : List Str} {XP : (Str → Option Value) → Heap → Prop} {YP : World → Heap → Prop} {d : DefRec} {K : Params → PySem.W.Frag} {sp : PySem.W.Frag → Sp} {x : Str}
    (most : l.most = some n) (short : n ≤ sizeLine) (bare : d.params.defaults = []) (room : Room k callerA)
    (stands : ∀ (w : World) (h : Heap), YP w h → (K w.params).In h)
    (promise : ∀ (w : World) (mg : Str → Option Value) (fa : Addr) (h : Heap), (K w.params).In h → h.Ns mainGlobals mg →
      mg d.name = some (.ref fa) →
      ∃ fd : FuncData, (∀ (s : Shared) (u : Value), BindsTo s fd ⟨[u], []⟩ [(x, u)]) ∧ ∀ base : Heap, (K w.params).In base → base.Ns mainGlobals mg → FnG l.prog w (K w.params) mg base k fa fd [x] (sp (K w.params)))
    (hsp : ∀ (K : PySem.W.Frag) (G : Hp) (a : Addr) (ns : List Int), ns.length ≤ n → SqL K G a (ns.map V.int) → sp K [.ref a] G (fun v _ => v = .bl true) fun _ _ _ => False) :
    PySem.W.WalkO q loose XP YP l.row.toRowW d []
      (fun f vs => PySem.call f vs) := by
  refine Att.attach_call most bare fun w _ s₁ mg mb fa _ _ _ _ a vs ns G Y _ _ _ hmg there nums few gens => ?_
  have inK := stands w _ Y
  obtain ⟨fd, binds, ok⟩ := promise w mg fa _ inK G.T.g hmg
  exact law_callG inK G.T.g G.T.b G.T.builtins G.T.nolimit gens room (Nat.le_trans few short) nums there ok binds fun H hS => hsp _ H a ns few hS
end C2

namespace C2
set_option Elab.async false
set_option linter.all false
set_option maxRecDepth 100000
set_option maxHeartbeats 4000000
open PySem PySem.Spec PyProof.Rows L2
theorem seqAsg {ta : TE} {i : Nat} {t : TS} {D : _} {σ : L2.St} {H : Hp} (h : ta σ H fun x H1 => t D (σ.set i (some x)) H1) : tSeq (tAsg ta (gName i)) t D σ H := h
theorem tcb_run {r : List V → Hp → VK → Prop} {te : TE} {σ : L2.St} {H : Hp} {Q : VK} (h : te σ H fun x H1 => r [x] H1 Q) : tCB r (tCons te tNil) σ H Q := h
theorem gName_run {i : Nat} {v : V} {σ : L2.St} {H : Hp} {Q : L2.St → Hp → Prop} (h : Q (σ.set i (some v)) H) : gName i v σ H Q := h
theorem PotAt.mono {H : Hp} {p : Addr} {n m : Nat} (h : PotAt H p n) (l : n ≤ m) : PotAt H p m := by
  obtain ⟨g, c, t, a, b, d⟩ := h
  exact ⟨g, c, t, a, b, by omega⟩
theorem PotAt.new {H : Hp} {p t : Addr} {n : Nat} {o : HO} (h : PotAt H p n) (nt : H t = none) : PotAt (upd H t o) p n := by
  obtain ⟨g, c, u, hp, r⟩ := h
  exact ⟨g, c, u, by rw [upd_ne (ne_of_none hp nt)]; exact hp, r⟩
theorem PotAt.ne {H : Hp} {p t : Addr} {n : Nat} (h : PotAt H p n) (nt : H t = none) : t ≠ p := by
  obtain ⟨g, c, u, hp, r⟩ := h
  exact fun e => by rw [e, hp] at nt; cases nt
theorem PotAt.same {H H' : Hp} {p : Addr} {n : Nat} (h : PotAt H p n) (s : Same H H') : PotAt H' p n := by
  obtain ⟨g, c, u, hp, r⟩ := h
  exact ⟨g, c, u, s _ _ hp, r⟩
theorem PotAt.at {H : Hp} {p D : Addr} {o : HO} {n : Nat} (h : PotAt H p n) (ne : D ≠ p) : PotAt (upd H D o) p n := by
  obtain ⟨g, c, u, hp, r⟩ := h
  exact ⟨g, c, u, by rw [upd_ne ne.symm]; exact hp, r⟩
def rTupOf (K : PySem.W.Frag) : List V → Hp → VK → Prop := fun xs H Q => ∃ p ys, xs = [.ref p] ∧ ((SqL K H p ys ∧ ∀ l, H l = none → Q (.ref l) (upd H l (.tup ys))) ∨ (SqT K H p ys ∧ Q (.ref p) H))
/-- numbers from nought to m -/
def Upto (m : Nat) (vs : List Int) : Prop := ∀ v ∈ vs, 0 ≤ v ∧ v ≤ (m : Int)
/-- a pick of this size stands there -/
def PickAt (G : Hp) (t : Addr) (a b : Nat) (xs ys : List Int) : Prop := ∃ tx ty, G t = some (.tup [.ref tx, .ref ty]) ∧ G tx = some (.tup (xs.map V.int)) ∧ G ty = some (.tup (ys.map V.int)) ∧ xs.length = b ∧ ys.length = a ∧ Upto a xs ∧ Upto b ys
theorem PickAt.same {G G' : Hp} {t : Addr} {a b : Nat} {xs ys : List Int} (h : PickAt G t a b xs ys) (s : Same G G') : PickAt G' t a b xs ys := by
  obtain ⟨tx, ty, h1, h2, h3, r⟩ := h
  exact ⟨tx, ty, s _ _ h1, s _ _ h2, s _ _ h3, r⟩
abbrev vrefs (cs : List (Addr × List V)) : List V := cs.map fun c => V.ref c.1
def CellsV (G : Hp) (cs : List (Addr × List V)) : Prop := ∀ c ∈ cs, G c.1 = some (.tup c.2)
theorem CellsV.same {G G' : Hp} {cs : List (Addr × List V)} (h : CellsV G cs) (s : Same G G') : CellsV G' cs := fun c hc => s _ _ (h c hc)
def GrowV (xs : List (List V)) (H : Hp) (D : Addr) (G : Hp) : Prop := ∃ cs : List (Addr × List V), Same H G ∧ G D = some (.lst (vrefs cs)) ∧ CellsV G cs ∧ cs.map (·.2) = xs
theorem GrowV.step {xs : List (List V)} {y : List V} {H G G2 : Hp} {D T : Addr} (I : GrowV xs H D G) (lo : xs.length < 100000) (nD : H D = none) (sm2 : Same G G2) (nT : G T = none) (hT : G2 T = some (.tup y)) :
    ∃ acc, G2 D = some (.lst acc) ∧ acc.length < sizeLine ∧ GrowV (xs ++ [y]) H D (upd G2 D (.lst (acc ++ [.ref T]))) := by
  obtain ⟨cs, sm, hD, hcs, e⟩ := I
  have ln : cs.length < 100000 := by
    have e1 : cs.length = (cs.map (·.2)).length := (List.length_map _).symm
    rw [e1, e]
    exact lo
  have hne : T ≠ D := fun z => by rw [z, hD] at nT; cases nT
  refine ⟨vrefs cs, sm2 _ _ hD, ?_, cs ++ [(T, y)], ?_, ?_, ?_, ?_⟩
  · rw [List.length_map]
    exact Nat.lt_of_lt_of_le ln (by decide)
  · intro b o eb
    rw [upd_ne (ne_of_none eb nD)]
    exact sm2 _ _ (sm _ _ eb)
  · rw [upd_same]
    show _ = some (HO.lst (List.map _ (cs ++ [_])))
    rw [List.map_append]
    rfl
  · intro c hc
    rcases List.mem_append.mp hc with hc | hc
    · have hh := hcs c hc
      rw [upd_ne (ne_of hh hD (by intro z; cases z))]
      exact sm2 _ _ hh
    · rw [List.mem_singleton] at hc
      subst hc
      rw [upd_ne hne]
      exact hT
  · rw [List.map_append, e]
    rfl
theorem GrowV.len {xs : List (List V)} {H G : Hp} {D : Addr} (I : GrowV xs H D G) : ∃ ys, G D = some (.lst ys) ∧ ys.length = xs.length := by
  obtain ⟨cs, _, h, _, e⟩ := I
  exact ⟨_, h, by rw [List.length_map, ← e, List.length_map]⟩
theorem GrowV.ext {xs ys : List (List V)} {H G G' : Hp} {D l : Addr} (I : GrowV xs H l G) (J : GrowV ys G D G') (nl : H l = none) :
    ∃ as bs, G' l = some (.lst as) ∧ G' D = some (.lst bs) ∧ as.length = xs.length ∧ bs.length = ys.length ∧ GrowV (xs ++ ys) H l (upd G' l (.lst (as ++ bs))) := by
  obtain ⟨cs, sm, hl, hc, e⟩ := I
  obtain ⟨ds, sm2, hD, hd, e2⟩ := J
  have hl2 := sm2 _ _ hl
  refine ⟨_, _, hl2, hD, by rw [List.length_map, ← e, List.length_map], by rw [List.length_map, ← e2, List.length_map], cs ++ ds, ?_, ?_, ?_, ?_⟩
  · intro b o eb
    rw [upd_ne (ne_of_none eb nl)]
    exact sm2 _ _ (sm _ _ eb)
  · rw [upd_same]
    show _ = some (HO.lst (List.map _ (cs ++ ds)))
    rw [List.map_append]
  · intro c hcc
    rcases List.mem_append.mp hcc with hcc | hcc
    · have hh := sm2 _ _ (hc c hcc)
      rw [upd_ne (ne_of hh hl2 (by intro z; cases z))]
      exact hh
    · have hh := hd c hcc
      rw [upd_ne (ne_of hh hl2 (by intro z; cases z))]
      exact hh
  · rw [List.map_append, e, e2]
theorem getD_at {vs : List Int} {i : Nat} {x : V} (h : (vs.map V.int)[i]? = some x) : i < vs.length ∧ x = .int (vs.getD i 0) := by
  have hi : i < vs.length := by
    have := (List.getElem?_eq_some_iff.mp h).1
    rw [List.length_map] at this
    exact this
  refine ⟨hi, ?_⟩
  rw [List.getElem?_map, List.getElem?_eq_getElem hi] at h
  rw [List.getD_eq_getElem?_getD, List.getElem?_eq_getElem hi]
  exact (Option.some.inj h).symm
theorem atD {vs : List Int} {i : Nat} (hi : i < vs.length) : atI (vs.map V.int) (i : Int) = some (.int (vs.getD i 0)) := by
  refine atI_nat ?_
  rw [List.getElem?_map, List.getElem?_eq_getElem hi, List.getD_eq_getElem?_getD, List.getElem?_eq_getElem hi]
  rfl
/-- a thing: a tuple of these, or none -/
inductive Thg (G : Hp) : V → Option (List V) → Prop where
  | non : Thg G .non none
  | bl (b : Bool) : Thg G (.bl b) none
  | int (i : Int) : Thg G (.int i) none
  | str (x : Str) : Thg G (.str x) none
  | lst {a : Addr} {xs : List V} (e : G a = some (.lst xs)) : Thg G (.ref a) none
  | dK {a : Addr} {kvs : List (Key × V)} (e : G a = some (.dK kvs)) : Thg G (.ref a) none
  | tup {a : Addr} {xs : List V} (e : G a = some (.tup xs)) : Thg G (.ref a) (some xs)
theorem Thg.same {G G' : Hp} {v : V} {o : Option (List V)} (h : Thg G v o) (s : Same G G') : Thg G' v o := by
  cases h with
  | non => exact .non
  | bl b => exact .bl b
  | int i => exact .int i
  | str x => exact .str x
  | lst e => exact .lst (s _ _ e)
  | dK e => exact .dK (s _ _ e)
  | tup e => exact .tup (s _ _ e)
def isIB : V → Bool
  | .int _ => true
  | .bl _ => true
  | _ => false
def isBo : V → Bool
  | .bl _ => true
  | _ => false
def isSt : V → Bool
  | .str _ => true
  | _ => false
def isIn : V → Bool
  | .int _ => true
  | _ => false
theorem isIn_int : ∀ {v : V}, isIn v = true → ∃ i, v = .int i
  | .int i, _ => ⟨i, rfl⟩
theorem isIB_not : ∀ {v : V}, isIB v = true → (!isBo v) = isIn v
  | .int _, _ => rfl
  | .bl _, _ => rfl
theorem isIB_int : ∀ {v : V}, isIB v = true → isBo v = false → ∃ i, v = .int i
  | .int i, _, _ => ⟨i, rfl⟩
theorem isIB_no : ∀ {v : V}, ¬ isIB v = true → isIn v = false
  | .int _, e => absurd rfl e
  | .bl _, _ | .non, _ | .str _, _ | .byt _, _ | .flt _, _ | .ref _, _ | .ty _, _ => rfl
theorem isSt_str : ∀ {v : V}, isSt v = true → ∃ x, v = .str x
  | .str x, _ => ⟨x, rfl⟩
def betw : V → Int → Int → Bool
  | .int i, lo, hi => decide (lo ≤ i ∧ i ≤ hi)
  | _, _, _ => false
theorem betw_no : ∀ {v : V} {lo hi : Int}, isIn v = false → betw v lo hi = false
  | .bl _, _, _, _ | .non, _, _, _ | .str _, _, _, _ | .byt _, _, _, _ | .flt _, _, _, _ | .ref _, _, _, _ | .ty _, _, _, _ => rfl
theorem Thg.some_tup {G : Hp} {v : V} {xs : List V} (h : Thg G v (some xs)) : ∃ a, v = .ref a ∧ G a = some (.tup xs) := by
  cases h with
  | tup e => exact ⟨_, rfl, e⟩
theorem Thg.kit {K : PySem.W.Frag} {G : Hp} {v : V} {o : Option (List V)} (h : Thg G v o) : ∃ n, TyX K G v (.type n) ∧ kitB n "int" = some (isIB v) ∧ kitB n "bool" = some (isBo v) ∧ kitB n "tuple" = some o.isSome ∧ kitB n "str" = some (isSt v) := by
  cases h with
  | non => exact ⟨_, .base .non, by decide +kernel, by decide +kernel, by decide +kernel, by decide +kernel⟩
  | bl b => exact ⟨_, .base (.bl b), (by decide +kernel : kitB "bool" "int" = some true), (by decide +kernel : kitB "bool" "bool" = some true), by decide +kernel, (by decide +kernel : kitB "bool" "str" = some false)⟩
  | int i => exact ⟨_, .base (.int i), (by decide +kernel : kitB "int" "int" = some true), (by decide +kernel : kitB "int" "bool" = some false), by decide +kernel, (by decide +kernel : kitB "int" "str" = some false)⟩
  | str x => exact ⟨_, .base (.str x), (by decide +kernel : kitB "str" "int" = some false), (by decide +kernel : kitB "str" "bool" = some false), by decide +kernel, (by decide +kernel : kitB "str" "str" = some true)⟩
  | lst e => exact ⟨_, .base (.lst e), (by decide +kernel : kitB "list" "int" = some false), (by decide +kernel : kitB "list" "bool" = some false), by decide +kernel, (by decide +kernel : kitB "list" "str" = some false)⟩
  | dK e => exact ⟨_, .base (.dK e), (by decide +kernel : kitB "dict" "int" = some false), (by decide +kernel : kitB "dict" "bool" = some false), by decide +kernel, (by decide +kernel : kitB "dict" "str" = some false)⟩
  | tup e => exact ⟨_, .base (.tup e), (by decide +kernel : kitB "tuple" "int" = some false), (by decide +kernel : kitB "tuple" "bool" = some false), (by decide +kernel : kitB "tuple" "tuple" = some true), (by decide +kernel : kitB "tuple" "str" = some false)⟩
section
variable {P : Program} {w : World} {K : PySem.W.Frag} {mg : Str → Option Value} {base : Heap}
theorem scPWhole : FnScope ["thing"] ["thing"] (defScope sPWhole) := ⟨rfl, rfl, rfl, by decide +kernel, rfl, by decide +kernel, by decide +kernel⟩
theorem scBetween : FnScope ["thing", "least", "most"] ["thing", "least", "most"] (defScope sBetween) := ⟨rfl, rfl, rfl, by decide +kernel, rfl, by decide +kernel, by decide +kernel⟩
theorem scTupOf : FnScope ["thing", "many"] ["thing", "many"] (defScope sTupOf) := ⟨rfl, rfl, rfl, by decide +kernel, rfl, by decide +kernel, by decide +kernel⟩
def spPWhole : Sp := fun vs H Q _ => ∃ v o, vs = [v] ∧ Thg H v o ∧ Q (.bl (isIn v)) H
theorem ok_pwhole {f : Addr} {fd : FuncData} {k : Nat} (F : Fun K "is_whole" "is_whole" sPWhole f fd) (mi : mg "isinstance" = none) (mint : mg "int" = none) (mbool : mg "bool" = none) : FnOk P w K mg base CX0 (k + 1) f fd ["thing"] spPWhole := by
  refine F.ok scPWhole (fun vs H Q E h => ?_) (fun cdv A outer s H vs Q E hr h => ?_)
  · obtain ⟨v, o, rfl, _⟩ := h
    rfl
  · obtain ⟨v, o, rfl, t, q⟩ := h
    obtain ⟨n, ty, k1, k2, _, _⟩ := t.kit (K := K)
    refine ⟨_, pss_one (ps_ret (pe_and (pe_callB call_isi (by rfl) mi (by decide +kernel) (pa_cons (pv 0) (pa_cons (pe_bltn (v := .ty "int") (by rfl) mint (by decide +kernel) rfl) pa_nil))) (pe_one (pe_not (pe_callB call_isi (by rfl) mi (by decide +kernel) (pa_cons (pv 0) (pa_cons (pe_bltn (v := .ty "bool") (by rfl) mbool (by decide +kernel) rfl) pa_nil))))))), ?_⟩
    refine ⟨v, rfl, v, .ty "int", _, _, _, rfl, .ty "int", ty, kit_ty k1, _, rfl, ite2 (fun e => ?_) (fun e => ?_)⟩
    · refine ⟨v, rfl, v, .ty "bool", _, _, _, rfl, .ty "bool", ty, kit_ty k2, _, rfl, ?_⟩
      have z : (!isBo v) = isIn v := isIB_not e
      show Q (V.bl (!isBo v)) H
      rw [z]
      exact q
    · have z : false = isIn v := (isIB_no e).symm
      show Q (V.bl false) H
      rw [z]
      exact q
def spBetween : Sp := fun vs H Q _ => ∃ v o lo hi, vs = [v, .int lo, .int hi] ∧ Thg H v o ∧ Q (.bl (betw v lo hi)) H
theorem ok_between {f fW : Addr} {fd fdW : FuncData} {k : Nat} (F : Fun K "is_between" "is_between" sBetween f fd) (FW : Fun K "is_whole" "is_whole" sPWhole fW fdW) (bW : Binds K fdW ["thing"] []) (gW : mg "is_whole" = some (.ref fW)) (mi : mg "isinstance" = none) (mint : mg "int" = none) (mbool : mg "bool" = none) : FnOk P w K mg base CX0 (k + 2) f fd ["thing", "least", "most"] spBetween := by
  have GW : FnOk P w K mg base CX0 (k + 1) fW fdW ["thing"] spPWhole := ok_pwhole FW mi mint mbool
  refine F.ok scBetween (fun vs H Q E h => ?_) (fun cdv A outer s H vs Q E hr h => ?_)
  · obtain ⟨v, o, lo, hi, rfl, _⟩ := h
    rfl
  · obtain ⟨v, o, lo, hi, rfl, t, q⟩ := h
    refine ⟨_, pss_one (ps_ret (pe_and (pe_call GW hr (by rfl) gW FW.kp bW .nil pass0 (pa_cons (pv 0) pa_nil)) (pe_one (pe_chain op_le op_le (pv 1) (pv 0) (pv 2))))), ?_⟩
    refine ⟨v, rfl, v, o, rfl, t, _, rfl, ite2 (fun e => ?_) (fun e => ?_)⟩
    · obtain ⟨i, rfl⟩ := isIn_int e
      refine ⟨.int lo, rfl, .int i, rfl, lo, i, rfl, rfl, _, rfl, ite2 (fun e1 => ?_) (fun e1 => ?_)⟩
      · refine ⟨.int hi, rfl, i, hi, rfl, rfl, ?_⟩
        have e2 := of_decide_eq_true e1
        have z : decide (i ≤ hi) = betw (.int i) lo hi := by
          show _ = decide (_ ∧ _)
          by_cases y : i ≤ hi <;> simp [y, e2]
        show Q (V.bl (decide (i ≤ hi))) H
        rw [z]
        exact q
      · have e2 : ¬ lo ≤ i := fun y => e1 (decide_eq_true y)
        have z : false = betw (.int i) lo hi := by
          show _ = decide (_ ∧ _)
          rw [decide_eq_false (by omega)]
        show Q (V.bl false) H
        rw [z]
        exact q
    · have z : false = betw v lo hi := (betw_no (Bool.eq_false_iff.mpr e)).symm
      show Q (V.bl false) H
      rw [z]
      exact q
def lenIs (o : Option (List V)) (m : Int) : Bool := match o with
  | some xs => decide ((xs.length : Int) = m)
  | none => false
def spTupOf : Sp := fun vs H Q _ => ∃ v o m, vs = [v, .int m] ∧ Thg H v o ∧ Q (.bl (lenIs o m)) H
theorem ok_tupOf {f : Addr} {fd : FuncData} {k : Nat} (F : Fun K "is_tuple_of" "is_tuple_of" sTupOf f fd) (mi : mg "isinstance" = none) (mtup : mg "tuple" = none) (ml : mg "len" = none) : FnOk P w K mg base CX0 (k + 1) f fd ["thing", "many"] spTupOf := by
  refine F.ok scTupOf (fun vs H Q E h => ?_) (fun cdv A outer s H vs Q E hr h => ?_)
  · obtain ⟨v, o, m, rfl, _⟩ := h
    rfl
  · obtain ⟨v, o, m, rfl, t, q⟩ := h
    obtain ⟨n, ty, _, _, k3, _⟩ := t.kit (K := K)
    refine ⟨_, pss_one (ps_ret (pe_and (pe_callB call_isi (by rfl) mi (by decide +kernel) (pa_cons (pv 0) (pa_cons (pe_bltn (v := .ty "tuple") (by rfl) mtup (by decide +kernel) rfl) pa_nil))) (pe_one (pe_cmpR op_eq (pe_callB call_len_seq (by rfl) ml (by decide +kernel) (pa_cons (pv 0) pa_nil)) (pv 1) (nomark _))))), ?_⟩
    refine ⟨v, rfl, v, .ty "tuple", _, _, _, rfl, .ty "tuple", ty, kit_ty k3, _, rfl, ite2 (fun e => ?_) (fun e => ?_)⟩
    · obtain ⟨xs, rfl⟩ : ∃ xs, o = some xs := by
        cases o with
        | none => cases (show false = true from e)
        | some xs => exact ⟨xs, rfl⟩
      obtain ⟨a, rfl, ea⟩ := t.some_tup
      refine ⟨.ref a, rfl, a, xs, rfl, .inr (.inl (.inl ea)), .int m, rfl, rfl, ?_⟩
      have z : decide (V.int (xs.length : Nat) = V.int m) = lenIs (some xs) m := by
        show _ = decide _
        by_cases y : (xs.length : Int) = m <;> simp [y]
      rw [z]
      exact q
    · have z : false = lenIs o m := by
        cases o with
        | none => rfl
        | some xs => exact absurd rfl e
      show Q (V.bl false) H
      rw [z]
      exact q
abbrev NCo : List Str := ["pick", "i", "j", "xs", "ys"]
theorem scComes : FnScope NCo ["pick", "i", "j"] (defScope sComes) := ⟨rfl, rfl, rfl, by decide +kernel, rfl, by decide +kernel, by decide +kernel⟩
def crI (xs : List Int) (i j : Nat) : Int := if xs.getD j 0 ≤ (i : Int) then 0 else 2
def ccI (ys : List Int) (i j : Nat) : Int := if ys.getD i 0 ≤ (j : Int) then 1 else 3
def spComes : Sp := fun vs H Q _ => ∃ (t : Addr) (a b i j : Nat) (xs ys : List Int), vs = [.ref t, .int (i : Int), .int (j : Int)] ∧ PickAt H t a b xs ys ∧ i < a ∧ j < b ∧
  ∀ H' T, Same H H' → H T = none → H' T = some (.tup [.int (crI xs i j), .int (ccI ys i j)]) → Q (.ref T) H'
theorem ok_comes {f : Addr} {fd : FuncData} {k : Nat} (F : Fun K "comes" "comes" sComes f fd) : FnOk P w K mg base CX0 (k + 1) f fd ["pick", "i", "j"] spComes := by
  refine F.ok scComes (fun vs H Q E h => ?_) (fun cdv A outer s H vs Q E hr h => ?_)
  · obtain ⟨t, a, b, i, j, xs, ys, rfl, _⟩ := h
    rfl
  · obtain ⟨t, a, b, i, j, xs, ys, rfl, ⟨tx, ty, h1, h2, h3, l1, l2, u1, u2⟩, hi, hj, q⟩ := h
    have nd := scComes.nd
    refine ⟨_, pss_cons (ps_asg (pv 0) (pg_tup rfl (pgs_cons (pg_name (i := 3) nd rfl (.inl rfl)) (pgs_cons (pg_name (i := 4) nd rfl (.inl rfl)) pgs_nil))))
      (pss_one (ps_ret (pe_tup (pa_cons (pe_ifExp (pt_cmpR op_le (pe_ix ix_tup (pv 3) (pv 2) (fun _ _ => rfl)) (pv 1) (nomark _)) pe_int pe_int) (pa_cons (pe_ifExp (pt_cmpR op_le (pe_ix ix_tup (pv 4) (pv 1) (fun _ _ => rfl)) (pv 2) (nomark _)) pe_int pe_int) pa_nil))))), ?_⟩
    refine ⟨.ref t, rfl, t, _, rfl, .inl (.inl h1), rfl, _, _, rfl, _, _, rfl, rfl, ?_⟩
    have fin : ∀ T, H T = none → Q (.ref T) (upd H T (.tup [.int (crI xs i j), .int (ccI ys i j)])) := fun T nT => q _ T (same_upd nT) nT upd_same
    unfold crI ccI at fin
    refine ⟨.ref tx, rfl, .int (j : Int), rfl, tx, _, _, _, rfl, rfl, .inl (.inl h2), atD (by omega), .int (i : Int), rfl, _, _, rfl, rfl, _, rfl, ite2 (fun e => ?_) (fun e => ?_)⟩
    · rw [if_pos (of_decide_eq_true e)] at fin
      refine ⟨.ref ty, rfl, .int (i : Int), rfl, ty, _, _, _, rfl, rfl, .inl (.inl h3), atD (by omega), .int (j : Int), rfl, _, _, rfl, rfl, _, rfl, ite2 (fun e => ?_) (fun e => ?_)⟩
      · rw [if_pos (of_decide_eq_true e)] at fin
        exact ⟨by show 2 ≤ sizeLine; decide, fin⟩
      · rw [if_neg (fun z => e (decide_eq_true z))] at fin
        exact ⟨by show 2 ≤ sizeLine; decide, fin⟩
    · rw [if_neg (fun z => e (decide_eq_true z))] at fin
      refine ⟨.ref ty, rfl, .int (i : Int), rfl, ty, _, _, _, rfl, rfl, .inl (.inl h3), atD (by omega), .int (j : Int), rfl, _, _, rfl, rfl, _, rfl, ite2 (fun e => ?_) (fun e => ?_)⟩
      · rw [if_pos (of_decide_eq_true e)] at fin
        exact ⟨by show 2 ≤ sizeLine; decide, fin⟩
      · rw [if_neg (fun z => e (decide_eq_true z))] at fin
        exact ⟨by show 2 ≤ sizeLine; decide, fin⟩
end
end C2

namespace C2
set_option Elab.async false
set_option linter.all false
set_option maxRecDepth 100000
set_option maxHeartbeats 4000000
open PySem PySem.Spec PyProof.Rows L2
/-! ### the program's search, as a function -/
def legO (x i k : Int) : Option Int := if x ≤ i then some 0 else if k < x then some 2 else none
def oV : Option Int → V
  | none => .non
  | some n => .int n
def mbGo (xs : List Int) (i k first second turn : Int) : Nat → Nat → Option Int → Option (List Int)
  | 0, _, _ => none
  | n + 1, row, none => if legO (xs.getD row 0) i k = some first then mbGo xs i k first second turn n (row + 1) (some (row : Int)) else mbGo xs i k first second turn n (row + 1) none
  | n + 1, row, some j => if legO (xs.getD row 0) i k = some second then some [i, k, j, (row : Int), turn] else mbGo xs i k first second turn n (row + 1) (some j)
theorem mbGo_zero (xs : List Int) (i k f s t : Int) (row : Nat) (o : Option Int) : mbGo xs i k f s t 0 row o = none := by cases o <;> rfl
theorem mbGo_none (xs : List Int) (i k f s t : Int) (n row : Nat) : mbGo xs i k f s t (n + 1) row none = if legO (xs.getD row 0) i k = some f then mbGo xs i k f s t n (row + 1) (some (row : Int)) else mbGo xs i k f s t n (row + 1) none := rfl
theorem mbGo_some (xs : List Int) (i k f s t : Int) (n row : Nat) (j : Int) : mbGo xs i k f s t (n + 1) row (some j) = if legO (xs.getD row 0) i k = some s then some [i, k, j, (row : Int), t] else mbGo xs i k f s t n (row + 1) (some j) := rfl
def mbtw (xs ys : List Int) (i k : Nat) : Option (List Int) :=
  if ys.getD k 0 < ys.getD i 0 then mbGo xs i k 0 2 1 (ys.getD i 0 - ys.getD k 0).toNat (ys.getD k 0).toNat none else mbGo xs i k 2 0 (-1) (ys.getD k 0 - ys.getD i 0).toNat (ys.getD i 0).toNat none
def firstS {α : Type} (f : Nat → Option α) : Nat → Option α
  | 0 => none
  | n + 1 => match firstS f n with
    | some x => some x
    | none => f n
theorem firstS_stay {α : Type} {f : Nat → Option α} {n m : Nat} {x : α} (h : firstS f n = some x) (l : n ≤ m) : firstS f m = some x := by
  induction m with
  | zero =>
    have : n = 0 := by omega
    rw [this] at h; exact h
  | succ m ih =>
    by_cases e : n = m + 1
    · rw [e] at h; exact h
    · unfold firstS
      rw [ih (by omega)]
theorem firstS_next {α : Type} {f : Nat → Option α} {n : Nat} (h : firstS f n = none) : firstS f (n + 1) = f n := by
  show (match firstS f n with | some x => some x | none => f n) = f n
  rw [h]
def millRow (xs ys : List Int) (a i : Nat) : Option (List Int) := firstS (fun d => mbtw xs ys i (i + 1 + d)) (a - (i + 1))
def millP (xs ys : List Int) (a : Nat) : Option (List Int) := firstS (millRow xs ys a) a
theorem oV_eq (o : Option Int) (n : Int) : decide (oV o = V.int n) = decide (o = some n) := by
  cases o with
  | none => simp [oV]
  | some m => simp [oV]
theorem upto_at {m : Nat} {vs : List Int} {i : Nat} (h : Upto m vs) (hi : i < vs.length) : 0 ≤ vs.getD i 0 ∧ vs.getD i 0 ≤ (m : Int) := by
  rw [List.getD_eq_getElem?_getD, List.getElem?_eq_getElem hi]
  exact h _ (List.getElem_mem hi)
section
variable {P : Program} {w : World} {K : PySem.W.Frag} {mg : Str → Option Value} {base : Heap}
theorem scSizeP : FnScope ["pick", "xs", "ys"] ["pick"] (defScope sSizeP) := ⟨rfl, rfl, rfl, by decide +kernel, rfl, by decide +kernel, by decide +kernel⟩
def spSizeP : Sp := fun vs H Q _ => ∃ (t : Addr) (a b : Nat) (xs ys : List Int), vs = [.ref t] ∧ PickAt H t a b xs ys ∧ ∀ H' T, Same H H' → H T = none → H' T = some (.tup [.int (a : Int), .int (b : Int)]) → Q (.ref T) H'
theorem ok_sizep {f : Addr} {fd : FuncData} {k : Nat} (F : Fun K "size_of_pick" "size_of_pick" sSizeP f fd) (ml : mg "len" = none) : FnOk P w K mg base CX0 (k + 1) f fd ["pick"] spSizeP := by
  refine F.ok scSizeP (fun vs H Q E h => ?_) (fun cdv A outer s H vs Q E hr h => ?_)
  · obtain ⟨t, a, b, xs, ys, rfl, _⟩ := h
    rfl
  · obtain ⟨t, a, b, xs, ys, rfl, ⟨tx, ty, h1, h2, h3, l1, l2, u1, u2⟩, q⟩ := h
    have nd := scSizeP.nd
    refine ⟨_, pss_cons (ps_asg (pv 0) (pg_tup rfl (pgs_cons (pg_name (i := 1) nd rfl (.inl rfl)) (pgs_cons (pg_name (i := 2) nd rfl (.inl rfl)) pgs_nil))))
      (pss_one (ps_ret (pe_tup (pa_cons (pe_callB call_len_seq (by rfl) ml PySem.boot_len (pa_cons (pv 2) pa_nil)) (pa_cons (pe_callB call_len_seq (by rfl) ml PySem.boot_len (pa_cons (pv 1) pa_nil)) pa_nil))))), ?_⟩
    refine ⟨.ref t, rfl, t, _, rfl, .inl (.inl h1), rfl, _, _, rfl, _, _, rfl, rfl, ?_⟩
    refine ⟨.ref ty, rfl, ty, _, rfl, .inr (.inl (.inl h3)), .ref tx, rfl, tx, _, rfl, .inr (.inl (.inl h2)), by show 2 ≤ sizeLine; decide, fun T nT => ?_⟩
    refine q _ T (same_upd nT) nT ?_
    rw [upd_same, List.length_map, List.length_map, l1, l2]
theorem scLegB : FnScope ["x", "i", "k"] ["x", "i", "k"] (defScope sLegB) := ⟨rfl, rfl, rfl, by decide +kernel, rfl, by decide +kernel, by decide +kernel⟩
def spLegB : Sp := fun vs H Q _ => ∃ x i k : Int, vs = [.int x, .int i, .int k] ∧ Q (oV (legO x i k)) H
theorem ok_legb {f : Addr} {fd : FuncData} {k : Nat} (F : Fun K "leg_to_both" "leg_to_both" sLegB f fd) : FnOk P w K mg base CX0 (k + 1) f fd ["x", "i", "k"] spLegB := by
  refine F.ok scLegB (fun vs H Q E h => ?_) (fun cdv A outer s H vs Q E hr h => ?_)
  · obtain ⟨x, i, k, rfl, _⟩ := h
    rfl
  · obtain ⟨x, i, k, rfl, q⟩ := h
    refine ⟨_, pss_cons (ps_if (pt_cmpR op_le (pv 0) (pv 1) (nomark _)) (pss_one (ps_ret pe_int)) pss_nil)
      (pss_cons (ps_if (pt_cmpR op_gt (pv 0) (pv 2) (nomark _)) (pss_one (ps_ret pe_int)) pss_nil)
      (pss_one (ps_ret pe_non))), ?_⟩
    unfold legO at q
    refine ⟨.int x, rfl, .int i, rfl, _, _, rfl, rfl, _, rfl, ite2 (fun e => ?_) (fun e => ?_)⟩
    · rw [if_pos (of_decide_eq_true e)] at q
      exact q
    · rw [if_neg (fun z => e (decide_eq_true z))] at q
      refine ⟨.int x, rfl, .int k, rfl, _, _, rfl, rfl, _, rfl, ite2 (fun e => ?_) (fun e => ?_)⟩
      · rw [if_pos (of_decide_eq_true e)] at q
        exact q
      · rw [if_neg (fun z => e (decide_eq_true z))] at q
        exact q
abbrev NMb : List Str := ["pick", "i", "k", "xs", "ys", "turn", "first", "second", "j", "row", "leg"]
theorem scMillB : FnScope NMb ["pick", "i", "k"] (defScope sMillB) := ⟨rfl, rfl, rfl, by decide +kernel, rfl, by decide +kernel, by decide +kernel⟩
/-- None, or a new tuple of these numbers -/
def Told (H : Hp) (o : Option (List Int)) (Q : VK) : Prop := (o = none → ∀ H', Same H H' → Q .non H') ∧ ∀ m, o = some m → ∀ H' T, Same H H' → H T = none → H' T = some (.tup (m.map V.int)) → Q (.ref T) H'
def spMillB : Sp := fun vs H Q _ => ∃ (t : Addr) (a b i k : Nat) (xs ys : List Int), vs = [.ref t, .int (i : Int), .int (k : Int)] ∧ PickAt H t a b xs ys ∧ i < a ∧ k < a ∧ b ≤ 40 ∧ Told H (mbtw xs ys i k) Q
theorem ok_millb {f fL : Addr} {fd fdL : FuncData} {k : Nat} (F : Fun K "mill_between" "mill_between" sMillB f fd) (FL : Fun K "leg_to_both" "leg_to_both" sLegB fL fdL) (bL : Binds K fdL ["x", "i", "k"] []) (gL : mg "leg_to_both" = some (.ref fL))
    (mr : mg "range" = none) (mmin : mg "min" = none) (mmax : mg "max" = none) : FnOk P w K mg base CX0 (k + 2) f fd ["pick", "i", "k"] spMillB := by
  have GL : FnOk P w K mg base CX0 (k + 1) fL fdL ["x", "i", "k"] spLegB := ok_legb FL
  refine F.ok scMillB (fun vs H Q E h => ?_) (fun cdv A outer s H vs Q E hr h => ?_)
  · obtain ⟨t, a, b, i, k, xs, ys, rfl, _⟩ := h
    rfl
  · obtain ⟨t, a, b, i, k, xs, ys, rfl, ⟨tx, ty, h1, h2, h3, l1, l2, u1, u2⟩, hi, hk, hb, qn, qs⟩ := h
    have nd := scMillB.nd
    have bi := upto_at u2 (show i < ys.length by omega)
    have bk := upto_at u2 (show k < ys.length by omega)
    refine ⟨_, pss_cons (ps_asg (pv 0) (pg_tup rfl (pgs_cons (pg_name (i := 3) nd rfl (.inl rfl)) (pgs_cons (pg_name (i := 4) nd rfl (.inl rfl)) pgs_nil))))
      (pss_cons (ps_set (i := 5) nd rfl (.inl rfl) (pe_ifExp (pt_cmpR op_lt (pe_ix ix_tup (pv 4) (pv 2) (fun _ _ => rfl)) (pe_ix ix_tup (pv 4) (pv 1) (fun _ _ => rfl)) (nomark _)) pe_int (pe_un un_neg pe_int)))
      (pss_cons (ps_asg (pe_ifExp (pt_cmpR op_eq (pv 5) pe_int (nomark _)) (pe_tup (pa_cons pe_int (pa_cons pe_int pa_nil))) (pe_tup (pa_cons pe_int (pa_cons pe_int pa_nil)))) (pg_tup rfl (pgs_cons (pg_name (i := 6) nd rfl (.inl rfl)) (pgs_cons (pg_name (i := 7) nd rfl (.inl rfl)) pgs_nil))))
      (pss_cons (ps_set (i := 8) nd rfl (.inl rfl) pe_non)
      (pss_cons (ps_for PassesOwn.never rfl (pi_range2 (by rfl) mr (pa_cons (pe_callB (call_min2 rfl) (by rfl) mmin (by decide +kernel) (pa_cons (pe_ix ix_tup (pv 4) (pv 1) (fun _ _ => rfl)) (pa_cons (pe_ix ix_tup (pv 4) (pv 2) (fun _ _ => rfl)) pa_nil))) (pa_cons (pe_callB (call_max2 rfl) (by rfl) mmax (by decide +kernel) (pa_cons (pe_ix ix_tup (pv 4) (pv 1) (fun _ _ => rfl)) (pa_cons (pe_ix ix_tup (pv 4) (pv 2) (fun _ _ => rfl)) pa_nil))) pa_nil))) (pg_name (i := 9) nd rfl (.inl rfl)) (pss_cons (ps_set (i := 10) nd rfl (.inl rfl) (pe_call GL hr (by rfl) gL FL.kp bL .nil pass0 (pa_cons (pe_ix ix_tup (pv 3) (pv 9) (fun _ _ => rfl)) (pa_cons (pv 1) (pa_cons (pv 2) pa_nil)))))
      (pss_one (ps_if (PW.pt (pw_and (pt_cmpR op_isN (pv 8) pe_non (nomark _)) (pw_and1 (pt_cmpR op_eq (pv 10) (pv 6) (nomark _))))) (pss_one (ps_set (i := 8) nd rfl (.inl rfl) (pv 9))) (pss_one (ps_if (PW.pt (pw_and (pt_cmpR op_notN (pv 8) pe_non (nomark _)) (pw_and1 (pt_cmpR op_eq (pv 10) (pv 7) (nomark _))))) (pss_one (ps_ret (pe_tup (pa_cons (pv 1) (pa_cons (pv 2) (pa_cons (pv 8) (pa_cons (pv 9) (pa_cons (pv 5) pa_nil)))))))) pss_nil))))))
      (pss_one (ps_ret pe_non)))))), ?_⟩
    refine ⟨.ref t, rfl, t, _, rfl, .inl (.inl h1), rfl, _, _, rfl, _, _, rfl, rfl, ?_⟩
    unfold mbtw at qn qs
    refine ⟨.ref ty, rfl, .int (k : Int), rfl, ty, _, _, _, rfl, rfl, .inl (.inl h3), atD (by omega), .ref ty, rfl, .int (i : Int), rfl, ty, _, _, _, rfl, rfl, .inl (.inl h3), atD (by omega), _, _, rfl, rfl, _, rfl, ite2 (fun e => ?_) (fun e => ?_)⟩
    · have c := of_decide_eq_true e
      rw [if_pos c] at qn qs
      refine ⟨.int 1, rfl, rfl, _, rfl, ite2 (fun _ => ?_) (fun z => absurd (by decide) z)⟩
      refine ⟨by show 2 ≤ sizeLine; decide, fun T1 n1 => ⟨T1, _, rfl, .inl (.inl upd_same), rfl, _, _, rfl, _, _, rfl, rfl, ?_⟩⟩
      have s1 := same_upd (o := .tup [.int 0, .int 2]) n1
      have h3' := s1 _ _ h3
      have h2' := s1 _ _ h2
      refine ⟨.ref ty, rfl, .int (i : Int), rfl, ty, _, _, _, rfl, rfl, .inl (.inl h3'), atD (by omega), .ref ty, rfl, .int (k : Int), rfl, ty, _, _, _, rfl, rfl, .inl (.inl h3'), atD (by omega), _, _, rfl, .ref ty, rfl, .int (i : Int), rfl, ty, _, _, _, rfl, rfl, .inl (.inl h3'), atD (by omega), .ref ty, rfl, .int (k : Int), rfl, ty, _, _, _, rfl, rfl, .inl (.inl h3'), atD (by omega), _, _, rfl, ?_⟩
      refine ⟨ys.getD k 0, ys.getD i 0, ?_, ⟨by omega, by omega, by omega, by omega⟩, ?_⟩
      · show [V.int (if ys.getD k 0 < ys.getD i 0 then ys.getD k 0 else ys.getD i 0), V.int (if ys.getD k 0 > ys.getD i 0 then ys.getD k 0 else ys.getD i 0)] = _
        rw [if_pos c, if_neg (by omega)]
      refine for_range (lo := ys.getD k 0) (n := (ys.getD i 0 - ys.getD k 0).toNat) (fun r σ G => Same H G ∧ ∃ (o : Option Int) (y9 y10 : Option V), mbGo xs i k 0 2 1 ((ys.getD i 0 - ys.getD k 0).toNat - r) ((ys.getD k 0).toNat + r) o = mbGo xs i k 0 2 1 (ys.getD i 0 - ys.getD k 0).toNat (ys.getD k 0).toNat none ∧
        σ = [some (.ref t), some (.int (i : Int)), some (.int (k : Int)), some (.ref tx), some (.ref ty), some (.int 1), some (.int 0), some (.int 2), some (oV o), y9, y10]) ⟨s1, none, _, _, rfl, rfl⟩ ?_ ?_
      · rintro r σ G hr' ⟨sm, o, y9, y10, go, rfl⟩
        have er : ys.getD k 0 + (r : Int) = (((ys.getD k 0).toNat + r : Nat) : Int) := by omega
        rw [er]
        have en : (ys.getD i 0 - ys.getD k 0).toNat - r = (ys.getD i 0 - ys.getD k 0).toNat - (r + 1) + 1 := by omega
        rw [en] at go
        have rl : (ys.getD k 0).toNat + r < xs.length := by omega
        refine ⟨.ref tx, rfl, .int (((ys.getD k 0).toNat + r : Nat) : Int), rfl, tx, _, _, _, rfl, rfl, .inl (.inl (sm _ _ h2)), atD rl, .int (i : Int), rfl, .int (k : Int), rfl, _, _, _, rfl, ?_⟩
        cases o with
        | none =>
          rw [mbGo_none] at go
          refine ⟨.non, rfl, rfl, _, rfl, ite2 (fun _ => ?_) (fun z => absurd (by rfl) z)⟩
          refine ⟨oV _, rfl, .int 0, rfl, ?_, _, rfl, ?_⟩
          · cases legO (xs.getD ((ys.getD k 0).toNat + r) 0) i k <;> rfl
          rw [oV_eq]
          refine ite2 (fun z => ?_) (fun z => ?_)
          · rw [if_pos (of_decide_eq_true z)] at go
            exact ⟨.int (((ys.getD k 0).toNat + r : Nat) : Int), rfl, sm, some _, _, _, go, rfl⟩
          · rw [if_neg (fun y => z (decide_eq_true y))] at go
            refine ⟨.non, rfl, rfl, _, rfl, ite2 (fun y => absurd y (by decide)) (fun _ => ?_)⟩
            exact ⟨sm, none, _, _, go, rfl⟩
        | some j =>
          rw [mbGo_some] at go
          refine ⟨.int j, rfl, rfl, _, rfl, ite2 (fun y => absurd y (by simp)) (fun _ => ?_)⟩
          refine ⟨.int j, rfl, rfl, _, rfl, ite2 (fun _ => ?_) (fun y => absurd (by rfl) y)⟩
          refine ⟨oV _, rfl, .int 2, rfl, ?_, _, rfl, ?_⟩
          · cases legO (xs.getD ((ys.getD k 0).toNat + r) 0) i k <;> rfl
          rw [oV_eq]
          refine ite2 (fun z => ?_) (fun z => ?_)
          · rw [if_pos (of_decide_eq_true z)] at go
            refine ⟨.int (i : Int), rfl, .int (k : Int), rfl, .int j, rfl, .int (((ys.getD k 0).toNat + r : Nat) : Int), rfl, .int 1, rfl, by show 5 ≤ sizeLine; decide, fun T nT => ?_⟩
            exact qs _ go.symm _ T (sm.trans (same_upd nT)) (sm.free nT) upd_same
          · rw [if_neg (fun y => z (decide_eq_true y))] at go
            exact ⟨sm, some j, _, _, go, rfl⟩
      · rintro σ G ⟨sm, o, y9, y10, go, rfl⟩
        rw [Nat.sub_self, mbGo_zero] at go
        exact qn go.symm G sm
    · have c : ¬ ys.getD k 0 < ys.getD i 0 := fun z => e (decide_eq_true z)
      rw [if_neg c] at qn qs
      refine ⟨1, rfl, ?_⟩
      refine ⟨.int (-1), rfl, rfl, _, rfl, ite2 (fun z => absurd z (by decide)) (fun _ => ?_)⟩
      refine ⟨by show 2 ≤ sizeLine; decide, fun T1 n1 => ⟨T1, _, rfl, .inl (.inl upd_same), rfl, _, _, rfl, _, _, rfl, rfl, ?_⟩⟩
      have s1 := same_upd (o := .tup [.int 2, .int 0]) n1
      have h3' := s1 _ _ h3
      have h2' := s1 _ _ h2
      refine ⟨.ref ty, rfl, .int (i : Int), rfl, ty, _, _, _, rfl, rfl, .inl (.inl h3'), atD (by omega), .ref ty, rfl, .int (k : Int), rfl, ty, _, _, _, rfl, rfl, .inl (.inl h3'), atD (by omega), _, _, rfl, .ref ty, rfl, .int (i : Int), rfl, ty, _, _, _, rfl, rfl, .inl (.inl h3'), atD (by omega), .ref ty, rfl, .int (k : Int), rfl, ty, _, _, _, rfl, rfl, .inl (.inl h3'), atD (by omega), _, _, rfl, ?_⟩
      refine ⟨ys.getD i 0, ys.getD k 0, ?_, ⟨by omega, by omega, by omega, by omega⟩, ?_⟩
      · show [V.int (if ys.getD k 0 < ys.getD i 0 then ys.getD k 0 else ys.getD i 0), V.int (if ys.getD k 0 > ys.getD i 0 then ys.getD k 0 else ys.getD i 0)] = _
        rw [if_neg c]
        by_cases c2 : ys.getD k 0 > ys.getD i 0
        · rw [if_pos c2]
        · rw [if_neg c2, show ys.getD i 0 = ys.getD k 0 by omega]
      refine for_range (lo := ys.getD i 0) (n := (ys.getD k 0 - ys.getD i 0).toNat) (fun r σ G => Same H G ∧ ∃ (o : Option Int) (y9 y10 : Option V), mbGo xs i k 2 0 (-1) ((ys.getD k 0 - ys.getD i 0).toNat - r) ((ys.getD i 0).toNat + r) o = mbGo xs i k 2 0 (-1) (ys.getD k 0 - ys.getD i 0).toNat (ys.getD i 0).toNat none ∧
        σ = [some (.ref t), some (.int (i : Int)), some (.int (k : Int)), some (.ref tx), some (.ref ty), some (.int (-1)), some (.int 2), some (.int 0), some (oV o), y9, y10]) ⟨s1, none, _, _, rfl, rfl⟩ ?_ ?_
      · rintro r σ G hr' ⟨sm, o, y9, y10, go, rfl⟩
        have er : ys.getD i 0 + (r : Int) = (((ys.getD i 0).toNat + r : Nat) : Int) := by omega
        rw [er]
        have en : (ys.getD k 0 - ys.getD i 0).toNat - r = (ys.getD k 0 - ys.getD i 0).toNat - (r + 1) + 1 := by omega
        rw [en] at go
        have rl : (ys.getD i 0).toNat + r < xs.length := by omega
        refine ⟨.ref tx, rfl, .int (((ys.getD i 0).toNat + r : Nat) : Int), rfl, tx, _, _, _, rfl, rfl, .inl (.inl (sm _ _ h2)), atD rl, .int (i : Int), rfl, .int (k : Int), rfl, _, _, _, rfl, ?_⟩
        cases o with
        | none =>
          rw [mbGo_none] at go
          refine ⟨.non, rfl, rfl, _, rfl, ite2 (fun _ => ?_) (fun z => absurd (by rfl) z)⟩
          refine ⟨oV _, rfl, .int 2, rfl, ?_, _, rfl, ?_⟩
          · cases legO (xs.getD ((ys.getD i 0).toNat + r) 0) i k <;> rfl
          rw [oV_eq]
          refine ite2 (fun z => ?_) (fun z => ?_)
          · rw [if_pos (of_decide_eq_true z)] at go
            exact ⟨.int (((ys.getD i 0).toNat + r : Nat) : Int), rfl, sm, some _, _, _, go, rfl⟩
          · rw [if_neg (fun y => z (decide_eq_true y))] at go
            refine ⟨.non, rfl, rfl, _, rfl, ite2 (fun y => absurd y (by decide)) (fun _ => ?_)⟩
            exact ⟨sm, none, _, _, go, rfl⟩
        | some j =>
          rw [mbGo_some] at go
          refine ⟨.int j, rfl, rfl, _, rfl, ite2 (fun y => absurd y (by simp)) (fun _ => ?_)⟩
          refine ⟨.int j, rfl, rfl, _, rfl, ite2 (fun _ => ?_) (fun y => absurd (by rfl) y)⟩
          refine ⟨oV _, rfl, .int 0, rfl, ?_, _, rfl, ?_⟩
          · cases legO (xs.getD ((ys.getD i 0).toNat + r) 0) i k <;> rfl
          rw [oV_eq]
          refine ite2 (fun z => ?_) (fun z => ?_)
          · rw [if_pos (of_decide_eq_true z)] at go
            refine ⟨.int (i : Int), rfl, .int (k : Int), rfl, .int j, rfl, .int (((ys.getD i 0).toNat + r : Nat) : Int), rfl, .int (-1), rfl, by show 5 ≤ sizeLine; decide, fun T nT => ?_⟩
            exact qs _ go.symm _ T (sm.trans (same_upd nT)) (sm.free nT) upd_same
          · rw [if_neg (fun y => z (decide_eq_true y))] at go
            exact ⟨sm, some j, _, _, go, rfl⟩
      · rintro σ G ⟨sm, o, y9, y10, go, rfl⟩
        rw [Nat.sub_self, mbGo_zero] at go
        exact qn go.symm G sm
abbrev NMi : List Str := ["pick", "a", "b", "i", "k", "found"]
theorem scMill : FnScope NMi ["pick"] (defScope sMill) := ⟨rfl, rfl, rfl, by decide +kernel, rfl, by decide +kernel, by decide +kernel⟩
def spMill : Sp := fun vs H Q _ => ∃ (t : Addr) (a b : Nat) (xs ys : List Int), vs = [.ref t] ∧ PickAt H t a b xs ys ∧ a ≤ 40 ∧ b ≤ 40 ∧ Told H (millP xs ys a) Q
theorem ok_mill {f fL fS fB : Addr} {fd fdL fdS fdB : FuncData} {k : Nat} (F : Fun K "mill" "mill" sMill f fd) (FL : Fun K "leg_to_both" "leg_to_both" sLegB fL fdL) (FS : Fun K "size_of_pick" "size_of_pick" sSizeP fS fdS) (FB : Fun K "mill_between" "mill_between" sMillB fB fdB) (bL : Binds K fdL ["x", "i", "k"] []) (bS : Binds K fdS ["pick"] []) (bB : Binds K fdB ["pick", "i", "k"] [])
    (gL : mg "leg_to_both" = some (.ref fL)) (gS : mg "size_of_pick" = some (.ref fS)) (gB : mg "mill_between" = some (.ref fB)) (mr : mg "range" = none) (mmin : mg "min" = none) (mmax : mg "max" = none) (ml : mg "len" = none) : FnOk P w K mg base CX0 (k + 3) f fd ["pick"] spMill := by
  have GS : FnOk P w K mg base CX0 1 fS fdS ["pick"] spSizeP := ok_sizep FS ml
  have GB : FnOk P w K mg base CX0 (k + 2) fB fdB ["pick", "i", "k"] spMillB := ok_millb FB FL bL gL mr mmin mmax
  refine F.ok scMill (fun vs H Q E h => ?_) (fun cdv A outer s H vs Q E hr h => ?_)
  · obtain ⟨t, a, b, xs, ys, rfl, _⟩ := h
    rfl
  · obtain ⟨t, a, b, xs, ys, rfl, pk, ha, hb, qn, qs⟩ := h
    have nd := scMill.nd
    refine ⟨_, pss_cons (ps_asg (pe_call GS (hr.mono (by omega)) (by rfl) gS FS.kp bS .nil pass0 (pa_cons (pv 0) pa_nil)) (pg_tup rfl (pgs_cons (pg_name (i := 1) nd rfl (.inl rfl)) (pgs_cons (pg_name (i := 2) nd rfl (.inl rfl)) pgs_nil))))
      (pss_cons (ps_for PassesOwn.never rfl (pi_range1 (by rfl) mr (pa_cons (pv 1) pa_nil)) (pg_name (i := 3) nd rfl (.inl rfl)) (pss_one (ps_for PassesOwn.never rfl (pi_range2 (by rfl) mr (pa_cons (pe_op op_add (pv 3) pe_int) (pa_cons (pv 1) pa_nil))) (pg_name (i := 4) nd rfl (.inl rfl)) (pss_cons (ps_set (i := 5) nd rfl (.inl rfl) (pe_call GB hr (by rfl) gB FB.kp bB .nil pass0 (pa_cons (pv 0) (pa_cons (pv 3) (pa_cons (pv 4) pa_nil)))))
      (pss_one (ps_if (pt_cmpR op_notN (pv 5) pe_non (nomark _)) (pss_one (ps_ret (pv 5))) pss_nil))))))
      (pss_one (ps_ret pe_non))), ?_⟩
    refine ⟨.ref t, rfl, t, a, b, xs, ys, rfl, pk, fun H1 T s1 nT hT => ?_⟩
    refine ⟨T, _, rfl, .inl (.inl hT), rfl, _, _, rfl, _, _, rfl, rfl, ?_⟩
    refine ⟨.int (a : Int), rfl, (a : Int), rfl, by omega, by omega, ?_⟩
    refine for_range (lo := 0) (n := a) (fun i σ G => Same H G ∧ firstS (millRow xs ys a) i = none ∧ ∃ y3 y4 y5, σ = [some (.ref t), some (.int (a : Int)), some (.int (b : Int)), y3, y4, y5]) ⟨s1, rfl, _, _, _, rfl⟩ ?_ ?_
    · rintro i σ G hi ⟨sm, no, y3, y4, y5, rfl⟩
      rw [Int.zero_add]
      refine ⟨.int (i : Int), rfl, _, 1, rfl, rfl, .int (a : Int), rfl, (i : Int) + 1, (a : Int), rfl, ⟨by omega, by omega, by omega, by omega⟩, ?_⟩
      have en : ((a : Int) - ((i : Int) + 1)).toNat = a - (i + 1) := by omega
      rw [en]
      refine for_range (lo := (i : Int) + 1) (n := a - (i + 1)) (fun d σ G => Same H G ∧ firstS (fun d => mbtw xs ys i (i + 1 + d)) d = none ∧ ∃ y4 y5, σ = [some (.ref t), some (.int (a : Int)), some (.int (b : Int)), some (.int (i : Int)), y4, y5]) ⟨sm, rfl, _, _, rfl⟩ ?_ ?_
      · rintro d σ G hd ⟨sm, nod, y4, y5, rfl⟩
        have ed : (i : Int) + 1 + (d : Int) = ((i + 1 + d : Nat) : Int) := by omega
        rw [ed]
        refine ⟨.ref t, rfl, .int (i : Int), rfl, .int ((i + 1 + d : Nat) : Int), rfl, t, a, b, i, i + 1 + d, xs, ys, rfl, pk.same sm, by omega, by omega, hb, fun en H' s' => ?_, fun m em H' T' s' nT' hT' => ?_⟩
        · refine ⟨.non, rfl, rfl, _, rfl, ite2 (fun z => absurd z (by decide)) (fun _ => ?_)⟩
          exact ⟨sm.trans s', by rw [firstS_next nod]; exact en, _, _, rfl⟩
        · refine ⟨.ref T', rfl, rfl, _, rfl, ite2 (fun _ => ?_) (fun z => absurd (by rfl) z)⟩
          have f1 : firstS (fun d => mbtw xs ys i (i + 1 + d)) (d + 1) = some m := by rw [firstS_next nod]; exact em
          have f2 : millRow xs ys a i = some m := firstS_stay f1 (by omega)
          have f3 : firstS (millRow xs ys a) (i + 1) = some m := by rw [firstS_next no]; exact f2
          exact ⟨.ref T', rfl, qs m (firstS_stay f3 (by omega)) H' T' (sm.trans s') (sm.free nT') hT'⟩
      · rintro σ G ⟨sm, nod, y4, y5, rfl⟩
        exact ⟨sm, by rw [firstS_next no]; exact nod, _, _, _, rfl⟩
    · rintro σ G ⟨sm, no, y3, y4, y5, rfl⟩
      exact qn no G sm
end
end C2

namespace C2
set_option Elab.async false
set_option linter.all false
set_option maxRecDepth 100000
set_option maxHeartbeats 1000000
open PySem PySem.Spec PyProof.Rows L2
abbrev dT (x : List Int) : PyData := .tuple (x.map PyData.int)
abbrev dTT (L : List (List Int)) : PyData := .tuple (L.map dT)
theorem dpAll (K : PySem.W.Frag) (G : Hp) : ∀ x : List Int, DpAll K G (x.map V.int) (x.map PyData.int)
  | [] => .nil
  | v :: r => .cons (.int v) (dpAll K G r)
theorem eqv_ints : ∀ x y : List Int, PyData.eqvAll (x.map PyData.int) (y.map PyData.int) = decide (x = y)
  | [], [] => by simp [PyData.eqvAll]
  | [], b :: s => by simp [PyData.eqvAll]
  | a :: r, [] => by simp [PyData.eqvAll]
  | a :: r, b :: s => by
    simp only [List.map_cons, PyData.eqvAll, PyData.eqv, eqv_ints r s, List.cons.injEq]
    by_cases h : a = b <;> simp [h]
theorem eqvT (x y : List Int) : PyData.eqv (dT x) (dT y) = decide (x = y) := by
  show PyData.eqv (.tuple _) (.tuple _) = _
  simp only [PyData.eqv]
  exact eqv_ints x y
theorem shapedT (ns : List Int) : SeqAt.shaped (dT ns) = true := by
  have c : ∀ xs : List Int, PyData.canLayAll0 (xs.map PyData.int) = true ∧ PyData.depthAll (xs.map PyData.int) = 0 := by
    intro xs
    induction xs with
    | nil => exact ⟨by simp [PyData.canLayAll0], by simp [PyData.depthAll]⟩
    | cons x r ih => exact ⟨by simp [PyData.canLayAll0, PyData.canLay0, ih.1], by simp [PyData.depthAll, PyData.depth, ih.2]⟩
  unfold SeqAt.shaped
  have e1 : PyData.canLay0 (dT ns) = true := by show PyData.canLay0 (.tuple _) = true; simp [PyData.canLay0, (c ns).1]
  have e2 : PyData.depth (dT ns) = 1 := by show PyData.depth (.tuple _) = 1; simp [PyData.depth, (c ns).2]
  rw [e1, e2]
  rfl
/-- whether it is a mill: the eight legs -/
def isMillB (xs ys : List Int) (i k j l : Nat) (turn : Int) : Bool :=
  let rj : Int := if turn = 1 then 0 else 2
  let ck : Int := if turn = 1 then 1 else 3
  let rl : Int := if turn = 1 then 2 else 0
  let ci : Int := if turn = 1 then 3 else 1
  (decide ([crI xs i j, ccI ys i j] = [rj, ci]) && decide ([crI xs k j, ccI ys k j] = [rj, ck])) && (decide ([crI xs i l, ccI ys i l] = [rl, ci]) && decide ([crI xs k l, ccI ys k l] = [rl, ck]))
section
variable {P : Program} {w : World} {K : PySem.W.Frag} {mg : Str → Option Value} {base : Heap}
theorem scPairB : FnScope ["one", "other", "many"] ["one", "other", "many"] (defScope sPairB) := ⟨rfl, rfl, rfl, by decide +kernel, rfl, by decide +kernel, by decide +kernel⟩
def spPairB : Sp := fun vs H Q _ => ∃ i k m : Nat, vs = [.int (i : Int), .int (k : Int), .int (m : Int)] ∧ i < k ∧ k < m ∧ Q (.bl true) H
theorem ok_pairb {f fW fB : Addr} {fd fdW fdB : FuncData} {k : Nat} (F : Fun K "is_pair_below" "is_pair_below" sPairB f fd) (FW : Fun K "is_whole" "is_whole" sPWhole fW fdW) (FB : Fun K "is_between" "is_between" sBetween fB fdB) (bW : Binds K fdW ["thing"] []) (bB : Binds K fdB ["thing", "least", "most"] []) (gW : mg "is_whole" = some (.ref fW)) (gB : mg "is_between" = some (.ref fB))
    (mi : mg "isinstance" = none) (mint : mg "int" = none) (mbool : mg "bool" = none) : FnOk P w K mg base CX0 (k + 3) f fd ["one", "other", "many"] spPairB := by
  have GB : FnOk P w K mg base CX0 (k + 2) fB fdB ["thing", "least", "most"] spBetween := ok_between FB FW bW gW mi mint mbool
  refine F.ok scPairB (fun vs H Q E h => ?_) (fun cdv A outer s H vs Q E hr h => ?_)
  · obtain ⟨i, k, m, rfl, _⟩ := h
    rfl
  · obtain ⟨i, k, m, rfl, hik, hkm, q⟩ := h
    have b1 : betw (.int (i : Int)) 0 ((m : Int) - 1) = true := by
      show decide _ = true
      exact decide_eq_true (by omega)
    have b2 : betw (.int (k : Int)) 0 ((m : Int) - 1) = true := by
      show decide _ = true
      exact decide_eq_true (by omega)
    have b3 : decide ((i : Int) < (k : Int)) = true := decide_eq_true (by omega)
    refine ⟨_, pss_one (ps_ret (pe_and (pe_call GB hr (by rfl) gB FB.kp bB .nil pass0 (pa_cons (pv 0) (pa_cons pe_int (pa_cons (pe_op op_sub (pv 2) pe_int) pa_nil)))) (pe_and (pe_call GB hr (by rfl) gB FB.kp bB .nil pass0 (pa_cons (pv 1) (pa_cons pe_int (pa_cons (pe_op op_sub (pv 2) pe_int) pa_nil)))) (pe_one (pe_cmpR op_lt (pv 0) (pv 1) (nomark _)))))), ?_⟩
    refine ⟨.int (i : Int), rfl, .int (m : Int), rfl, _, 1, rfl, rfl, _, none, 0, _, rfl, .int _, ?_⟩
    rw [b1]
    refine ⟨true, rfl, iteT ?_⟩
    refine ⟨.int (k : Int), rfl, .int (m : Int), rfl, _, 1, rfl, rfl, _, none, 0, _, rfl, .int _, ?_⟩
    rw [b2]
    refine ⟨true, rfl, iteT ⟨.int (i : Int), rfl, .int (k : Int), rfl, _, _, rfl, rfl, ?_⟩⟩
    show Q (V.bl (decide ((i : Int) < (k : Int)))) H
    rw [b3]
    exact q
abbrev NIm : List Str := ["pick", "thing", "i", "k", "j", "l", "turn", "a", "b", "row_j", "column_k", "row_l", "column_i", "lower", "upper"]
theorem scIsMill : FnScope NIm ["pick", "thing"] (defScope sIsMill) := ⟨rfl, rfl, rfl, by decide +kernel, rfl, by decide +kernel, by decide +kernel⟩
def spIsMill : Sp := fun vs H Q _ => ∃ (t th : Addr) (a b i k j l : Nat) (turn : Int) (xs ys : List Int), vs = [.ref t, .ref th] ∧ PickAt H t a b xs ys ∧ H th = some (.tup [.int (i : Int), .int (k : Int), .int (j : Int), .int (l : Int), .int turn]) ∧ i < k ∧ k < a ∧ j < l ∧ l < b ∧ (turn = 1 ∨ turn = -1) ∧
  ∀ H', Same H H' → Q (.bl (isMillB xs ys i k j l turn)) H'
/-- comes(..) == (x, y), with what follows -/
theorem eq2 {G : Hp} {T U : Addr} {u v x y : Int} (hT : G T = some (.tup [.int u, .int v])) (hU : G U = some (.tup [.int x, .int y])) : ∃ d e, Dp K G (.ref T) d ∧ Dp K G (.ref U) e ∧ SeqAt.shaped d = true ∧ SeqAt.shaped e = true ∧ PyData.eqv d e = decide ([u, v] = [x, y]) :=
  ⟨dT [u, v], dT [x, y], .tup (.inl (.inl hT)) (dpAll K G [u, v]), .tup (.inl (.inl hU)) (dpAll K G [x, y]), shapedT _, shapedT _, eqvT _ _⟩
def tTwo (K : PySem.W.Frag) (c1 r l1 c2 : Nat) : TE := tAndV (tOp (rEqD K) (tCall spComes [] E0 (tCons (tVar 0) (tCons (tVar 2) (tCons (tVar r) tNil)))) (tTup (tCons (tVar l1) (tCons (tVar c1) tNil)))) (tOp (rEqD K) (tCall spComes [] E0 (tCons (tVar 0) (tCons (tVar 3) (tCons (tVar r) tNil)))) (tTup (tCons (tVar l1) (tCons (tVar c2) tNil))))
theorem two_ok {σ : L2.St} {G : Hp} {Q : VK} {t : Addr} {a b i k j c1 r l1 c2 : Nat} {u v w : Int} {xs ys : List Int} (h0 : σ[0]? = some (some (.ref t))) (h2 : σ[2]? = some (some (.int (i : Int)))) (h3 : σ[3]? = some (some (.int (k : Int)))) (hr : σ[r]? = some (some (.int (j : Int)))) (hl : σ[l1]? = some (some (.int u))) (hc : σ[c1]? = some (some (.int v))) (hd : σ[c2]? = some (some (.int w)))
    (pk : PickAt G t a b xs ys) (hi : i < a) (hk : k < a) (hj : j < b) (q : ∀ (B : Bool) G', B = (decide ([crI xs i j, ccI ys i j] = [u, v]) && decide ([crI xs k j, ccI ys k j] = [u, w])) → Same G G' → Q (.bl B) G') : tTwo K c1 r l1 c2 σ G Q := by
  refine ⟨.ref t, h0, .int (i : Int), h2, .int (j : Int), hr, t, a, b, i, j, xs, ys, rfl, pk, hi, hj, fun G1 A1 sg1 na1 ha1 => ⟨.int u, hl, .int v, hc, by show 2 ≤ sizeLine; decide, fun B1 nb1 => ?_⟩⟩
  have sb1 := same_upd (o := .tup [.int u, .int v]) nb1
  obtain ⟨d, e, p1, p2, p3, p4, p5⟩ := eq2 (K := K) (sb1 _ _ ha1) (upd_same (H := G1) (a := B1) (o := .tup [.int u, .int v]))
  refine ⟨d, e, p1, p2, p3, p4, ?_⟩
  rw [p5]
  generalize decide ([crI xs i j, ccI ys i j] = [u, v]) = A0 at q
  refine ⟨A0, rfl, ite2 (fun y => ?_) (fun y => ?_)⟩
  · have s2 := sg1.trans sb1
    refine ⟨.ref t, h0, .int (k : Int), h3, .int (j : Int), hr, t, a, b, k, j, xs, ys, rfl, pk.same s2, hk, hj, fun G2 A2 sg2 na2 ha2 => ⟨.int u, hl, .int w, hd, by show 2 ≤ sizeLine; decide, fun B2 nb2 => ?_⟩⟩
    have sb2 := same_upd (o := .tup [.int u, .int w]) nb2
    obtain ⟨d, e, p1, p2, p3, p4, p5⟩ := eq2 (K := K) (sb2 _ _ ha2) (upd_same (H := G2) (a := B2) (o := .tup [.int u, .int w]))
    refine ⟨d, e, p1, p2, p3, p4, ?_⟩
    rw [p5]
    exact q _ _ (by rw [y, Bool.true_and]) (s2.trans (sg2.trans sb2))
  · exact q _ _ (by rw [Bool.eq_false_iff.mpr y, Bool.false_and]) (sg1.trans sb1)
theorem ok_ismill {f fW fB fU fS fP fM cF cB : Addr} {fd fdW fdB fdU fdS fdP fdM : FuncData} {k : Nat} (F : Fun K "is_mill" "is_mill" sIsMill f fd) (FW : Fun K "is_whole" "is_whole" sPWhole fW fdW) (FB : Fun K "is_between" "is_between" sBetween fB fdB) (FU : Fun K "is_tuple_of" "is_tuple_of" sTupOf fU fdU) (FS : Fun K "size_of_pick" "size_of_pick" sSizeP fS fdS) (FP : Fun K "is_pair_below" "is_pair_below" sPairB fP fdP) (FM : Fun K "comes" "comes" sComes fM fdM)
    (bW : Binds K fdW ["thing"] []) (bB : Binds K fdB ["thing", "least", "most"] []) (bU : Binds K fdU ["thing", "many"] []) (bS : Binds K fdS ["pick"] []) (bP : Binds K fdP ["one", "other", "many"] []) (bM : Binds K fdM ["pick", "i", "j"] []) (gW : mg "is_whole" = some (.ref fW)) (gB : mg "is_between" = some (.ref fB)) (gU : mg "is_tuple_of" = some (.ref fU)) (gS : mg "size_of_pick" = some (.ref fS)) (gP : mg "is_pair_below" = some (.ref fP)) (gM : mg "comes" = some (.ref fM))
    (gF : mg "LEGS_FORTH" = some (.ref cF)) (gK : mg "LEGS_BACK" = some (.ref cB)) (hF : ∀ G : Hp, SqT K G cF [.int 0, .int 1, .int 2, .int 3]) (hB : ∀ G : Hp, SqT K G cB [.int 2, .int 3, .int 0, .int 1])
    (mi : mg "isinstance" = none) (mint : mg "int" = none) (mbool : mg "bool" = none) (mtup : mg "tuple" = none) (ml : mg "len" = none) : FnOk P w K mg base CX0 (k + 4) f fd ["pick", "thing"] spIsMill := by
  have GW : FnOk P w K mg base CX0 1 fW fdW ["thing"] spPWhole := ok_pwhole FW mi mint mbool
  have GU : FnOk P w K mg base CX0 1 fU fdU ["thing", "many"] spTupOf := ok_tupOf FU mi mtup ml
  have GS : FnOk P w K mg base CX0 1 fS fdS ["pick"] spSizeP := ok_sizep FS ml
  have GP : FnOk P w K mg base CX0 (k + 3) fP fdP ["one", "other", "many"] spPairB := ok_pairb FP FW FB bW bB gW gB mi mint mbool
  have GM : FnOk P w K mg base CX0 1 fM fdM ["pick", "i", "j"] spComes := ok_comes FM
  refine F.ok scIsMill (fun vs H Q E h => ?_) (fun cdv A outer s H vs Q E hr h => ?_)
  · obtain ⟨t, th, a, b, i, k, j, l, turn, xs, ys, rfl, _⟩ := h
    rfl
  · obtain ⟨t, th, a, b, i, k, j, l, turn, xs, ys, rfl, pk, hth, hik, hka, hjl, hlb, ht, q⟩ := h
    have nd := scIsMill.nd
    refine ⟨_, pss_cons (ps_if (pt_not (pt_val (pe_call GU (hr.mono (by omega)) (by rfl) gU FU.kp bU .nil pass0 (pa_cons (pv 1) (pa_cons pe_int pa_nil))))) (pss_one (ps_ret pe_bl)) pss_nil)
      (pss_cons (ps_asg (pv 1) (pg_tup rfl (pgs_cons (pg_name (i := 2) nd rfl (.inl rfl)) (pgs_cons (pg_name (i := 3) nd rfl (.inl rfl)) (pgs_cons (pg_name (i := 4) nd rfl (.inl rfl)) (pgs_cons (pg_name (i := 5) nd rfl (.inl rfl)) (pgs_cons (pg_name (i := 6) nd rfl (.inl rfl)) pgs_nil)))))))
      (pss_cons (ps_asg (pe_call GS (hr.mono (by omega)) (by rfl) gS FS.kp bS .nil pass0 (pa_cons (pv 0) pa_nil)) (pg_tup rfl (pgs_cons (pg_name (i := 7) nd rfl (.inl rfl)) (pgs_cons (pg_name (i := 8) nd rfl (.inl rfl)) pgs_nil))))
      (pss_cons (ps_if (pt_not (PW.pt (pw_and (pt_val (pe_call GP hr (by rfl) gP FP.kp bP .nil pass0 (pa_cons (pv 2) (pa_cons (pv 3) (pa_cons (pv 7) pa_nil))))) (pw_and (pt_val (pe_call GP hr (by rfl) gP FP.kp bP .nil pass0 (pa_cons (pv 4) (pa_cons (pv 5) (pa_cons (pv 8) pa_nil))))) (pw_and (pt_val (pe_call GW (hr.mono (by omega)) (by rfl) gW FW.kp bW .nil pass0 (pa_cons (pv 6) pa_nil))) (pw_and1 (pt_cmpR op_in_seq (pv 6) (pe_tup (pa_cons pe_int (pa_cons (pe_un un_neg pe_int) pa_nil))) (by rfl)))))))) (pss_one (ps_ret pe_bl)) pss_nil)
      (pss_cons (ps_asg (pe_ifExp (pt_cmpR op_eq (pv 6) pe_int (nomark _)) (pe_glob (v := .ref cF) (by rfl) gF rfl) (pe_glob (v := .ref cB) (by rfl) gK rfl)) (pg_tup rfl (pgs_cons (pg_name (i := 9) nd rfl (.inl rfl)) (pgs_cons (pg_name (i := 10) nd rfl (.inl rfl)) (pgs_cons (pg_name (i := 11) nd rfl (.inl rfl)) (pgs_cons (pg_name (i := 12) nd rfl (.inl rfl)) pgs_nil))))))
      (pss_cons (ps_set (i := 13) nd rfl (.inl rfl) (pe_and (pe_cmpR (op_eqD hr.units) (pe_call GM (hr.mono (by omega)) (by rfl) gM FM.kp bM .nil pass0 (pa_cons (pv 0) (pa_cons (pv 2) (pa_cons (pv 4) pa_nil)))) (pe_tup (pa_cons (pv 9) (pa_cons (pv 12) pa_nil))) (nomark _)) (pe_one (pe_cmpR (op_eqD hr.units) (pe_call GM (hr.mono (by omega)) (by rfl) gM FM.kp bM .nil pass0 (pa_cons (pv 0) (pa_cons (pv 3) (pa_cons (pv 4) pa_nil)))) (pe_tup (pa_cons (pv 9) (pa_cons (pv 10) pa_nil))) (nomark _)))))
      (pss_cons (ps_set (i := 14) nd rfl (.inl rfl) (pe_and (pe_cmpR (op_eqD hr.units) (pe_call GM (hr.mono (by omega)) (by rfl) gM FM.kp bM .nil pass0 (pa_cons (pv 0) (pa_cons (pv 2) (pa_cons (pv 5) pa_nil)))) (pe_tup (pa_cons (pv 11) (pa_cons (pv 12) pa_nil))) (nomark _)) (pe_one (pe_cmpR (op_eqD hr.units) (pe_call GM (hr.mono (by omega)) (by rfl) gM FM.kp bM .nil pass0 (pa_cons (pv 0) (pa_cons (pv 3) (pa_cons (pv 5) pa_nil)))) (pe_tup (pa_cons (pv 11) (pa_cons (pv 10) pa_nil))) (nomark _)))))
      (pss_one (ps_ret (pe_and (pv 13) (pe_one (pv 14))))))))))), ?_⟩
    refine ⟨.ref th, rfl, _, some _, 5, rfl, .tup hth, true, rfl, iteF ?_⟩
    refine ⟨.ref th, rfl, th, _, rfl, .inl (.inl hth), rfl, _, _, rfl, _, _, rfl, _, _, rfl, _, _, rfl, _, _, rfl, rfl, ?_⟩
    refine ⟨.ref t, rfl, t, a, b, xs, ys, rfl, pk, fun H1 T1 s1 n1 h1 => ?_⟩
    refine ⟨T1, _, rfl, .inl (.inl h1), rfl, _, _, rfl, _, _, rfl, rfl, ?_⟩
    refine ⟨.int (i : Int), rfl, .int (k : Int), rfl, .int (a : Int), rfl, i, k, a, rfl, hik, hka, true, rfl, iteT ?_⟩
    refine ⟨.int (j : Int), rfl, .int (l : Int), rfl, .int (b : Int), rfl, j, l, b, rfl, hjl, hlb, true, rfl, iteT ?_⟩
    refine ⟨.int turn, rfl, _, none, rfl, .int _, true, rfl, iteT ?_⟩
    refine ⟨.int turn, rfl, 1, rfl, by show 2 ≤ sizeLine; decide, fun T2 n2 => ⟨T2, _, rfl, .inr (.inl (.inl upd_same)), rfl, rfl, true, ?_, iteF ?_⟩⟩
    · rcases ht with rfl | rfl <;> rfl
    have s2 := same_upd (o := .tup [.int 1, .int (-1)]) n2
    have pk2 := (pk.same s1).same s2
    have s02 := s1.trans s2
    have core : ∀ (G : Hp) (rj ck rl ci : Int), Same H G → ((turn = 1 ∧ rj = 0 ∧ ck = 1 ∧ rl = 2 ∧ ci = 3) ∨ (turn = -1 ∧ rj = 2 ∧ ck = 3 ∧ rl = 0 ∧ ci = 1)) → isMillB xs ys i k j l turn = ((decide ([crI xs i j, ccI ys i j] = [rj, ci]) && decide ([crI xs k j, ccI ys k j] = [rj, ck])) && (decide ([crI xs i l, ccI ys i l] = [rl, ci]) && decide ([crI xs k l, ccI ys k l] = [rl, ck]))) := by
      intro G rj ck rl ci _ h
      rcases h with ⟨rfl, rfl, rfl, rfl, rfl⟩ | ⟨rfl, rfl, rfl, rfl, rfl⟩ <;> rfl
    rcases ht with rfl | rfl
    · have eq := core (upd H1 T2 (.tup [.int 1, .int (-1)])) 0 1 2 3 s02 (.inl ⟨rfl, rfl, rfl, rfl, rfl⟩)
      refine ⟨.int 1, rfl, rfl, _, rfl, ite2 (fun _ => ?_) (fun z => absurd (by decide) z)⟩
      refine ⟨cF, _, rfl, hF _, rfl, _, _, rfl, _, _, rfl, _, _, rfl, _, _, rfl, rfl, ?_⟩
      show tSeq (tAsg (tTwo K 12 4 9 10) (gName 13)) _ _ [some (.ref t), some (.ref th), some (.int (i : Int)), some (.int (k : Int)), some (.int (j : Int)), some (.int (l : Int)), some (.int 1), some (.int (a : Int)), some (.int (b : Int)), some (.int 0), some (.int 1), some (.int 2), some (.int 3), none, none] _
      refine seqAsg (two_ok (i := i) (k := k) (j := j) rfl rfl rfl rfl rfl rfl rfl pk2 (by omega) hka (by omega) fun B1 G3 e3 s3 => ?_)
      show tSeq (tAsg (tTwo K 12 5 11 10) (gName 14)) _ _ [some (.ref t), some (.ref th), some (.int (i : Int)), some (.int (k : Int)), some (.int (j : Int)), some (.int (l : Int)), some (.int 1), some (.int (a : Int)), some (.int (b : Int)), some (.int 0), some (.int 1), some (.int 2), some (.int 3), some (.bl B1), none] _
      refine seqAsg (two_ok (i := i) (k := k) (j := l) rfl rfl rfl rfl rfl rfl rfl (pk2.same s3) (by omega) hka hlb fun B2 G4 e4 s4 => ?_)
      rw [eq, ← e3, ← e4] at q
      refine ⟨.bl B1, rfl, B1, rfl, ite2 (fun y => ?_) (fun y => ?_)⟩
      · rw [y, Bool.true_and] at q
        exact ⟨.bl B2, rfl, q G4 (s02.trans (s3.trans s4))⟩
      · rw [Bool.eq_false_iff.mpr y, Bool.false_and] at q
        exact q G4 (s02.trans (s3.trans s4))
    · have eq := core (upd H1 T2 (.tup [.int 1, .int (-1)])) 2 3 0 1 s02 (.inr ⟨rfl, rfl, rfl, rfl, rfl⟩)
      refine ⟨.int (-1), rfl, rfl, _, rfl, ite2 (fun z => absurd z (by decide)) (fun _ => ?_)⟩
      refine ⟨cB, _, rfl, hB _, rfl, _, _, rfl, _, _, rfl, _, _, rfl, _, _, rfl, rfl, ?_⟩
      show tSeq (tAsg (tTwo K 12 4 9 10) (gName 13)) _ _ [some (.ref t), some (.ref th), some (.int (i : Int)), some (.int (k : Int)), some (.int (j : Int)), some (.int (l : Int)), some (.int (-1)), some (.int (a : Int)), some (.int (b : Int)), some (.int 2), some (.int 3), some (.int 0), some (.int 1), none, none] _
      refine seqAsg (two_ok (i := i) (k := k) (j := j) rfl rfl rfl rfl rfl rfl rfl pk2 (by omega) hka (by omega) fun B1 G3 e3 s3 => ?_)
      show tSeq (tAsg (tTwo K 12 5 11 10) (gName 14)) _ _ [some (.ref t), some (.ref th), some (.int (i : Int)), some (.int (k : Int)), some (.int (j : Int)), some (.int (l : Int)), some (.int (-1)), some (.int (a : Int)), some (.int (b : Int)), some (.int 2), some (.int 3), some (.int 0), some (.int 1), some (.bl B1), none] _
      refine seqAsg (two_ok (i := i) (k := k) (j := l) rfl rfl rfl rfl rfl rfl rfl (pk2.same s3) (by omega) hka hlb fun B2 G4 e4 s4 => ?_)
      rw [eq, ← e3, ← e4] at q
      refine ⟨.bl B1, rfl, B1, rfl, ite2 (fun y => ?_) (fun y => ?_)⟩
      · rw [y, Bool.true_and] at q
        exact ⟨.bl B2, rfl, q G4 (s02.trans (s3.trans s4))⟩
      · rw [Bool.eq_false_iff.mpr y, Bool.false_and] at q
        exact q G4 (s02.trans (s3.trans s4))
end
end C2

namespace C2
set_option Elab.async false
set_option linter.all false
set_option maxRecDepth 100000
set_option maxHeartbeats 1000000
open PySem PySem.Spec PyProof.Rows L2
def pairsN (n : Nat) : List (Nat × Nat) := (List.range n).flatMap fun i => (List.range (n - (i + 1))).map fun d => (i, i + 1 + d)
def pairV (p : Nat × Nat) : List V := [.int (p.1 : Int), .int (p.2 : Int)]
theorem pairsN_mem {n : Nat} {p : Nat × Nat} (h : p ∈ pairsN n) : p.1 < p.2 ∧ p.2 < n := by
  obtain ⟨i, hi, hp⟩ := List.mem_flatMap.mp h
  obtain ⟨d, hd, rfl⟩ := List.mem_map.mp hp
  have := List.mem_range.mp hi
  have := List.mem_range.mp hd
  constructor <;> show _ < _ <;> omega
def turnsOf (xs ys : List Int) (p q : Nat × Nat) : List Int := [(-1 : Int), 1].filter fun t => isMillB xs ys p.1 p.2 q.1 q.2 t
def five (p q : Nat × Nat) (t : Int) : List Int := [(p.1 : Int), (p.2 : Int), (q.1 : Int), (q.2 : Int), t]
def millsRow (xs ys : List Int) (b : Nat) (p : Nat × Nat) : List (List Int) := (pairsN b).flatMap fun q => (turnsOf xs ys p q).map (five p q)
def millsL (xs ys : List Int) (a b : Nat) : List (List Int) := (pairsN a).flatMap (millsRow xs ys b)
def vI (L : List (List Int)) : List (List V) := L.map fun x => x.map V.int
section
variable {P : Program} {w : World} {K : PySem.W.Frag} {mg : Str → Option Value} {base : Heap}
theorem scLComes : FnScope ["_law_pick", "_law_i", "_law_j"] ["_law_pick", "_law_i", "_law_j"] (defScope sLComes) := ⟨rfl, rfl, rfl, by decide +kernel, rfl, by decide +kernel, by decide +kernel⟩
theorem ok_lcomes {f : Addr} {fd : FuncData} {k : Nat} (F : Fun K "_law_comes" "_law_comes" sLComes f fd) : FnOk P w K mg base CX0 (k + 1) f fd ["_law_pick", "_law_i", "_law_j"] spComes := by
  refine F.ok scLComes (fun vs H Q E h => ?_) (fun cdv A outer s H vs Q E hr h => ?_)
  · obtain ⟨t, a, b, i, j, xs, ys, rfl, _⟩ := h
    rfl
  · obtain ⟨t, a, b, i, j, xs, ys, rfl, ⟨tx, ty, h1, h2, h3, l1, l2, u1, u2⟩, hi, hj, q⟩ := h
    refine ⟨_, pss_one (ps_ret (pe_tup (pa_cons (pe_ifExp (pt_cmpR op_le (pe_ix ix_tup (pe_ix ix_tup (pv 0) pe_int (fun _ _ => rfl)) (pv 2) (fun _ _ => rfl)) (pv 1) (nomark _)) pe_int pe_int) (pa_cons (pe_ifExp (pt_cmpR op_le (pe_ix ix_tup (pe_ix ix_tup (pv 0) pe_int (fun _ _ => rfl)) (pv 1) (fun _ _ => rfl)) (pv 2) (nomark _)) pe_int pe_int) pa_nil)))), ?_⟩
    have fin : ∀ T, H T = none → Q (.ref T) (upd H T (.tup [.int (crI xs i j), .int (ccI ys i j)])) := fun T nT => q _ T (same_upd nT) nT upd_same
    unfold crI ccI at fin
    have t1 : SqT K H t [.ref tx, .ref ty] := .inl (.inl h1)
    refine ⟨.ref t, rfl, t, _, 0, .ref tx, rfl, rfl, t1, rfl, .int (j : Int), rfl, tx, _, _, _, rfl, rfl, .inl (.inl h2), atD (by omega), .int (i : Int), rfl, _, _, rfl, rfl, _, rfl, ite2 (fun e => ?_) (fun e => ?_)⟩
    · rw [if_pos (of_decide_eq_true e)] at fin
      refine ⟨.ref t, rfl, t, _, 1, .ref ty, rfl, rfl, t1, rfl, .int (i : Int), rfl, ty, _, _, _, rfl, rfl, .inl (.inl h3), atD (by omega), .int (j : Int), rfl, _, _, rfl, rfl, _, rfl, ite2 (fun e => ?_) (fun e => ?_)⟩
      · rw [if_pos (of_decide_eq_true e)] at fin
        exact ⟨by show 2 ≤ sizeLine; decide, fin⟩
      · rw [if_neg (fun z => e (decide_eq_true z))] at fin
        exact ⟨by show 2 ≤ sizeLine; decide, fin⟩
    · rw [if_neg (fun z => e (decide_eq_true z))] at fin
      refine ⟨.ref t, rfl, t, _, 1, .ref ty, rfl, rfl, t1, rfl, .int (i : Int), rfl, ty, _, _, _, rfl, rfl, .inl (.inl h3), atD (by omega), .int (j : Int), rfl, _, _, rfl, rfl, _, rfl, ite2 (fun e => ?_) (fun e => ?_)⟩
      · rw [if_pos (of_decide_eq_true e)] at fin
        exact ⟨by show 2 ≤ sizeLine; decide, fin⟩
      · rw [if_neg (fun z => e (decide_eq_true z))] at fin
        exact ⟨by show 2 ≤ sizeLine; decide, fin⟩
abbrev NLm : List Str := ["_law_pick", "_law_i", "_law_k", "_law_j", "_law_l", "_law_turn", "_law_low", "_law_right", "_law_high", "_law_left", "_law_c", "_law_r"]
theorem scLMill : FnScope NLm ["_law_pick", "_law_i", "_law_k", "_law_j", "_law_l", "_law_turn"] (defScope sLMill) := ⟨rfl, rfl, rfl, by decide +kernel, rfl, by decide +kernel, by decide +kernel⟩
def tCm (K : PySem.W.Frag) (x y : Nat) (n : Int) (s : Nat) : TE := tOp rEq (tOp (rIxT K) (tCall spComes [] E0 (tCons (tVar 0) (tCons (tVar x) (tCons (tVar y) tNil)))) (tC (V.int n))) (tVar s)
/-- the row's leg, the column's leg -/
def legAt (xs ys : List Int) (i j : Nat) (n : Int) : Int := if n = 0 then crI xs i j else ccI ys i j
theorem cm_ok {σ : L2.St} {G : Hp} {Q : VK} {t : Addr} {a b i j x y s : Nat} {n u : Int} {xs ys : List Int} (h0 : σ[0]? = some (some (.ref t))) (hx : σ[x]? = some (some (.int (i : Int)))) (hy : σ[y]? = some (some (.int (j : Int)))) (hs : σ[s]? = some (some (.int u))) (hn : n = 0 ∨ n = 1)
    (pk : PickAt G t a b xs ys) (hi : i < a) (hj : j < b) (q : ∀ (B : Bool) G', B = decide (legAt xs ys i j n = u) → Same G G' → Q (.bl B) G') : tCm K x y n s σ G Q := by
  refine ⟨.ref t, h0, .int (i : Int), hx, .int (j : Int), hy, t, a, b, i, j, xs, ys, rfl, pk, hi, hj, fun G1 T s1 nT hT => ?_⟩
  have sq : SqT K G1 T [.int (crI xs i j), .int (ccI ys i j)] := .inl (.inl hT)
  rcases hn with rfl | rfl
  · refine ⟨T, _, 0, .int (crI xs i j), rfl, rfl, sq, rfl, .int u, hs, rfl, ?_⟩
    refine q _ _ ?_ s1
    show decide (V.int (crI xs i j) = V.int u) = decide (crI xs i j = u)
    simp
  · refine ⟨T, _, 1, .int (ccI ys i j), rfl, rfl, sq, rfl, .int u, hs, rfl, ?_⟩
    refine q _ _ ?_ s1
    show decide (V.int (ccI ys i j) = V.int u) = decide (ccI ys i j = u)
    simp
theorem and2_ok {ta tb : TE} {σ : L2.St} {G : Hp} {Q : VK} {B1 B2 : Bool} (h1 : ∀ Q' : VK, (∀ (B : Bool) G', B = B1 → Same G G' → Q' (.bl B) G') → ta σ G Q') (h2 : ∀ (G1 : Hp) (Q' : VK), Same G G1 → (∀ (B : Bool) G', B = B2 → Same G1 G' → Q' (.bl B) G') → tb σ G1 Q')
    (q : ∀ (B : Bool) G', B = (B1 && B2) → Same G G' → Q (.bl B) G') : tAndV ta tb σ G Q := by
  refine h1 _ fun B G1 e s1 => ⟨B, rfl, ite2 (fun y => ?_) (fun y => ?_)⟩
  · refine h2 G1 _ s1 fun C G2 e2 s2 => q C G2 ?_ (s1.trans s2)
    rw [← e, ← e2, y, Bool.true_and]
  · refine q false G1 ?_ s1
    rw [← e, Bool.eq_false_iff.mpr y, Bool.false_and]
/-- all(..) over a pair -/
theorem all_pair {te : TE} {σ : L2.St} {G : Hp} {Q : VK} {c d s x y : Nat} {R : Nat → Bool} (hc : σ[c]? = some (some (.int (x : Int)))) (hd : σ[d]? = some (some (.int (y : Int)))) (hw : ∀ v, wipe ((wipe σ [s]).set s (some v)) [s] = wipe σ [s])
    (hte : ∀ (v : Nat) (G1 : Hp) (Q' : VK), (v = x ∨ v = y) → Same G G1 → (∀ (B : Bool) G', B = R v → Same G1 G' → Q' (.bl B) G') → te ((wipe σ [s]).set s (some (.int (v : Int)))) G1 Q')
    (q : ∀ (B : Bool) G', B = (R x && R y) → Same G G' → Q (.bl B) G') : tCB (rAll K) (tCons (tLc (iTup K (tTup (tCons (tVar c) (tCons (tVar d) tNil)))) (gName s) tYes te [s]) tNil) σ G Q := by
  refine ⟨_, hc, _, hd, by show 2 ≤ sizeLine; decide, fun T nT => ⟨T, rfl, ⟨_, .inl (.inl upd_same)⟩, fun D nD => ?_⟩⟩
  have s1 := same_upd (o := .tup [.int (x : Int), .int (y : Int)]) nT
  refine lc_tup (xs := [.int (x : Int), .int (y : Int)]) (fun i G' => Same (upd G T (.tup [.int (x : Int), .int (y : Int)])) G' ∧ G' D = some (.lst ((([R x, R y] : List Bool).take i).map V.bl))) ⟨same_upd nD, upd_same⟩ (fun i G' _ h => .inl (.inl (h.1 _ _ upd_same))) ?_ ?_
  · rintro i v G' hv ⟨sm, hD⟩
    have i2 : i < 2 := (List.getElem?_eq_some_iff.mp hv).1
    obtain ⟨v', ev, hv', er⟩ : ∃ v' : Nat, v = .int (v' : Int) ∧ (v' = x ∨ v' = y) ∧ ([R x, R y] : List Bool).take (i + 1) = ([R x, R y] : List Bool).take i ++ [R v'] := by
      rcases (show i = 0 ∨ i = 1 by omega) with rfl | rfl
      · exact ⟨x, (Option.some.inj hv).symm, .inl rfl, rfl⟩
      · exact ⟨y, (Option.some.inj hv).symm, .inr rfl, rfl⟩
    subst ev
    refine ⟨hw _, ?_⟩
    simp only [tYes, ↓reduceIte]
    refine hte v' G' _ hv' (s1.trans sm) fun B G2 e s2 => ⟨_, s2 _ _ hD, ?_, ?_, ?_⟩
    · rw [List.length_map, List.length_take]
      exact Nat.lt_of_le_of_lt (Nat.min_le_left _ _) (Nat.lt_of_lt_of_le (show i < 1000 by omega) (by decide))
    · intro b' o e'
      rw [upd_ne (ne_of_none e' nD)]
      exact s2 _ _ (sm _ _ e')
    · rw [upd_same, er, List.map_append, e]
      rfl
  · rintro G' ⟨sm, hD⟩
    refine ⟨D, [R x, R y], rfl, .inl (.inl hD), ?_⟩
    refine q _ _ ?_ (s1.trans sm)
    cases R x <;> cases R y <;> rfl
end
end C2

namespace C2
set_option Elab.async false
set_option linter.all false
set_option maxRecDepth 100000
set_option maxHeartbeats 1000000
open PySem PySem.Spec PyProof.Rows L2
theorem lmill_eq (xs ys : List Int) (i k j l : Nat) (turn lo ri hi le : Int) (h : (turn = 1 ∧ lo = 0 ∧ ri = 1 ∧ hi = 2 ∧ le = 3) ∨ (turn = -1 ∧ lo = 2 ∧ ri = 3 ∧ hi = 0 ∧ le = 1)) :
    (((decide (legAt xs ys i j 0 = lo) && decide (legAt xs ys i l 0 = hi)) && (decide (legAt xs ys k j 0 = lo) && decide (legAt xs ys k l 0 = hi))) && ((decide (legAt xs ys k j 1 = ri) && decide (legAt xs ys i j 1 = le)) && (decide (legAt xs ys k l 1 = ri) && decide (legAt xs ys i l 1 = le)))) = isMillB xs ys i k j l turn := by
  have e0 : ∀ u v, legAt xs ys u v 0 = crI xs u v := fun u v => rfl
  have e1 : ∀ u v, legAt xs ys u v 1 = ccI ys u v := fun u v => rfl
  simp only [e0, e1]
  rcases h with ⟨rfl, rfl, rfl, rfl, rfl⟩ | ⟨rfl, rfl, rfl, rfl, rfl⟩
  · unfold isMillB
    rw [Bool.eq_iff_iff]
    simp only [Bool.and_eq_true, decide_eq_true_eq, List.cons.injEq, and_true, if_true]
    constructor
    · rintro ⟨⟨⟨a, b⟩, c, d⟩, ⟨e, f⟩, g, h⟩
      exact ⟨⟨⟨a, f⟩, c, e⟩, ⟨b, h⟩, d, g⟩
    · rintro ⟨⟨⟨a, f⟩, c, e⟩, ⟨b, h⟩, d, g⟩
      exact ⟨⟨⟨a, b⟩, c, d⟩, ⟨e, f⟩, g, h⟩
  · unfold isMillB
    rw [Bool.eq_iff_iff]
    simp only [Bool.and_eq_true, decide_eq_true_eq, List.cons.injEq, and_true, show ¬ (-1 : Int) = 1 by decide, if_false]
    constructor
    · rintro ⟨⟨⟨a, b⟩, c, d⟩, ⟨e, f⟩, g, h⟩
      exact ⟨⟨⟨a, f⟩, c, e⟩, ⟨b, h⟩, d, g⟩
    · rintro ⟨⟨⟨a, f⟩, c, e⟩, ⟨b, h⟩, d, g⟩
      exact ⟨⟨⟨a, b⟩, c, d⟩, ⟨e, f⟩, g, h⟩
section
variable {P : Program} {w : World} {K : PySem.W.Frag} {mg : Str → Option Value} {base : Heap}
def spLMill : Sp := fun vs H Q _ => ∃ (t : Addr) (a b i k j l : Nat) (turn : Int) (xs ys : List Int), vs = [.ref t, .int (i : Int), .int (k : Int), .int (j : Int), .int (l : Int), .int turn] ∧ PickAt H t a b xs ys ∧ i < a ∧ k < a ∧ j < b ∧ l < b ∧ (turn = 1 ∨ turn = -1) ∧
  ∀ (B : Bool) H', B = isMillB xs ys i k j l turn → Same H H' → Q (.bl B) H'
def teA1 (K : PySem.W.Frag) : TE := tAndV (tCm K 10 3 0 6) (tCm K 10 4 0 8)
def teA2 (K : PySem.W.Frag) : TE := tAndV (tCm K 2 11 1 7) (tCm K 1 11 1 9)
def tAllP (K : PySem.W.Frag) (c d s : Nat) (te : TE) : TE := tCB (rAll K) (tCons (tLc (iTup K (tTup (tCons (tVar c) (tCons (tVar d) tNil)))) (gName s) tYes te [s]) tNil)
/-- the two looks -/
theorem looks_ok {D : Ends} {H G : Hp} {t : Addr} {a b i k j l : Nat} {turn lo ri hi le : Int} {xs ys : List Int} {y10 y11 : Option V} (pk : PickAt G t a b xs ys) (hi' : i < a) (hk : k < a) (hj : j < b) (hl : l < b) (sm : Same H G) (h : (turn = 1 ∧ lo = 0 ∧ ri = 1 ∧ hi = 2 ∧ le = 3) ∨ (turn = -1 ∧ lo = 2 ∧ ri = 3 ∧ hi = 0 ∧ le = 1))
    (q : ∀ (B : Bool) H', B = isMillB xs ys i k j l turn → Same H H' → D.rt (.bl B) H') :
    tSeq (tIfS (tNot (tB (tAllP K 1 2 10 (teA1 K)))) (tRet (tC (V.bl false))) tNext) (tRet (tAllP K 3 4 11 (teA2 K))) D [some (.ref t), some (.int (i : Int)), some (.int (k : Int)), some (.int (j : Int)), some (.int (l : Int)), some (.int turn), some (.int lo), some (.int ri), some (.int hi), some (.int le), y10, y11] G := by
  refine all_pair (x := i) (y := k) (R := fun v => decide (legAt xs ys v j 0 = lo) && decide (legAt xs ys v l 0 = hi)) rfl rfl (fun v => rfl) (fun v G1 Q' hv s1 k1 => ?_) fun B G1 eB s1 => ?_
  · have va : v < a := by rcases hv with rfl | rfl <;> assumption
    exact and2_ok (fun Q2 k2 => cm_ok (i := v) (j := j) rfl rfl rfl rfl (.inl rfl) (pk.same s1) va hj k2) (fun G2 Q2 s2 k2 => cm_ok (i := v) (j := l) rfl rfl rfl rfl (.inl rfl) (pk.same (s1.trans s2)) va hl k2) k1
  · have eqv := lmill_eq xs ys i k j l turn lo ri hi le h
    refine ⟨B, rfl, ite2 (fun y => ?_) (fun y => ?_)⟩
    · refine q false G1 ?_ (sm.trans s1)
      have : B = false := by simpa using y
      rw [← eqv, ← eB, this]
      rfl
    · have hB : B = true := by simpa using y
      refine all_pair (x := j) (y := l) (R := fun v => decide (legAt xs ys k v 1 = ri) && decide (legAt xs ys i v 1 = le)) rfl rfl (fun v => rfl) (fun v G2 Q' hv s2 k1 => ?_) fun C G2 eC s2 => ?_
      · have vb : v < b := by rcases hv with rfl | rfl <;> assumption
        exact and2_ok (fun Q2 k2 => cm_ok (i := k) (j := v) rfl rfl rfl rfl (.inr rfl) (pk.same (s1.trans s2)) hk vb k2) (fun G3 Q2 s3 k2 => cm_ok (i := i) (j := v) rfl rfl rfl rfl (.inr rfl) (pk.same (s1.trans (s2.trans s3))) hi' vb k2) k1
      · refine q C G2 ?_ (sm.trans (s1.trans s2))
        rw [← eqv, ← eB, hB, eC]
        rfl
theorem ok_lmill {f fC : Addr} {fd fdC : FuncData} {k : Nat} (F : Fun K "_law_is_mill" "_law_is_mill" sLMill f fd) (FC : Fun K "_law_comes" "_law_comes" sLComes fC fdC) (bC : Binds K fdC ["_law_pick", "_law_i", "_law_j"] []) (gC : mg "_law_comes" = some (.ref fC)) (mint : mg "int" = none) (mall : mg "all" = none) :
    FnOk P w K mg base CX0 (k + 2) f fd ["_law_pick", "_law_i", "_law_k", "_law_j", "_law_l", "_law_turn"] spLMill := by
  have GC : FnOk P w K mg base CX0 (k + 1) fC fdC ["_law_pick", "_law_i", "_law_j"] spComes := ok_lcomes FC
  refine F.ok scLMill (fun vs H Q E h => ?_) (fun cdv A outer s H vs Q E hr h => ?_)
  · obtain ⟨t, a, b, i, k, j, l, turn, xs, ys, rfl, _⟩ := h
    rfl
  · obtain ⟨t, a, b, i, k, j, l, turn, xs, ys, rfl, pk, hi, hk, hj, hl, ht, q⟩ := h
    have nd := scLMill.nd
    refine ⟨_, pss_cons (ps_asg (pe_ix ix_list (pe_lst (pa_cons (pe_tup (pa_cons pe_int (pa_cons pe_int (pa_cons pe_int (pa_cons pe_int pa_nil))))) (pa_cons (pe_tup (pa_cons pe_int (pa_cons pe_int (pa_cons pe_int (pa_cons pe_int pa_nil))))) pa_nil))) (pe_callTy call_int1 (by rfl) mint (by decide +kernel) (pa_cons (pe_cmpR op_eq (pv 5) pe_int (nomark _)) pa_nil)) (fun _ _ => rfl)) (pg_tup rfl (pgs_cons (pg_name (i := 6) nd rfl (.inr rfl)) (pgs_cons (pg_name (i := 7) nd rfl (.inr rfl)) (pgs_cons (pg_name (i := 8) nd rfl (.inr rfl)) (pgs_cons (pg_name (i := 9) nd rfl (.inr rfl)) pgs_nil))))))
      (pss_cons (ps_if (pt_not (pt_val (pe_callB (cr_all rfl) (by rfl) mall (by decide +kernel) (pa_cons (pe_lc (own := [("_law_c", 10)]) (g := gName 10) (tt := tYes) (te := teA1 K) rfl nd (pi_tup (pe_tup (pa_cons (pv 1) (pa_cons (pv 2) pa_nil)))) (blkOk_by (own := [("_law_c", 10)]) (N := NLm) (sc := defScope sLMill) (by decide +kernel)) (fun _ _ _ _ _ => pg_name (i := 10) nd rfl (.inl rfl)) (fun _ _ _ _ _ => pts_nil) (fun _ _ _ _ _ => (pe_and (pe_cmpR op_eq (pe_ix ix_tup (pe_call GC hr (by rfl) gC FC.kp bC .nil pass0 (pa_cons (pv 0) (pa_cons (pv 10) (pa_cons (pv 3) pa_nil)))) pe_int (fun _ _ => rfl)) (pv 6) (nomark _)) (pe_one (pe_cmpR op_eq (pe_ix ix_tup (pe_call GC hr (by rfl) gC FC.kp bC .nil pass0 (pa_cons (pv 0) (pa_cons (pv 10) (pa_cons (pv 4) pa_nil)))) pe_int (fun _ _ => rfl)) (pv 8) (nomark _)))))) pa_nil)))) (pss_one (ps_ret pe_bl)) pss_nil)
      (pss_one (ps_ret (pe_callB (cr_all rfl) (by rfl) mall (by decide +kernel) (pa_cons (pe_lc (own := [("_law_r", 11)]) (g := gName 11) (tt := tYes) (te := teA2 K) rfl nd (pi_tup (pe_tup (pa_cons (pv 3) (pa_cons (pv 4) pa_nil)))) (blkOk_by (own := [("_law_r", 11)]) (N := NLm) (sc := defScope sLMill) (by decide +kernel)) (fun _ _ _ _ _ => pg_name (i := 11) nd rfl (.inl rfl)) (fun _ _ _ _ _ => pts_nil) (fun _ _ _ _ _ => (pe_and (pe_cmpR op_eq (pe_ix ix_tup (pe_call GC hr (by rfl) gC FC.kp bC .nil pass0 (pa_cons (pv 0) (pa_cons (pv 2) (pa_cons (pv 11) pa_nil)))) pe_int (fun _ _ => rfl)) (pv 7) (nomark _)) (pe_one (pe_cmpR op_eq (pe_ix ix_tup (pe_call GC hr (by rfl) gC FC.kp bC .nil pass0 (pa_cons (pv 0) (pa_cons (pv 1) (pa_cons (pv 11) pa_nil)))) pe_int (fun _ _ => rfl)) (pv 9) (nomark _)))))) pa_nil))))), ?_⟩
    refine ⟨by show 4 ≤ sizeLine; decide, fun t1 n1 => ⟨by show 4 ≤ sizeLine; decide, fun t2 n2 => ⟨by show 2 ≤ sizeLine; decide, fun l3 n3 => ?_⟩⟩⟩
    have s1 := same_upd (o := .tup [.int 2, .int 3, .int 0, .int 1]) n1
    have s2 := same_upd (o := .tup [.int 0, .int 1, .int 2, .int 3]) n2
    have s3 := same_upd (o := .lst [.ref t1, .ref t2]) n3
    have sm := s1.trans (s2.trans s3)
    have c1 := s3 _ _ (s2 _ _ (upd_same (H := H) (a := t1) (o := .tup [.int 2, .int 3, .int 0, .int 1])))
    have c2 := s3 _ _ (upd_same (H := upd H t1 (.tup [.int 2, .int 3, .int 0, .int 1])) (a := t2) (o := .tup [.int 0, .int 1, .int 2, .int 3]))
    rcases ht with rfl | rfl
    · refine ⟨.int 1, rfl, rfl, .inr ⟨_, rfl, l3, _, 1, .ref t2, rfl, rfl, .inl (.inl upd_same), rfl, ?_⟩⟩
      refine ⟨t2, _, rfl, .inl (.inl c2), rfl, _, _, rfl, _, _, rfl, _, _, rfl, _, _, rfl, rfl, ?_⟩
      exact looks_ok (H := H) (pk.same sm) hi hk hj hl sm (.inl ⟨rfl, rfl, rfl, rfl, rfl⟩) q
    · refine ⟨.int (-1), rfl, rfl, .inr ⟨_, rfl, l3, _, 0, .ref t1, rfl, rfl, .inl (.inl upd_same), rfl, ?_⟩⟩
      refine ⟨t1, _, rfl, .inl (.inl c1), rfl, _, _, rfl, _, _, rfl, _, _, rfl, _, _, rfl, rfl, ?_⟩
      exact looks_ok (H := H) (pk.same sm) hi hk hj hl sm (.inr ⟨rfl, rfl, rfl, rfl, rfl⟩) q
abbrev NPa : List Str := ["_law_many", "_law_found", "_law_one", "_law_other"]
theorem scPairs : FnScope NPa ["_law_many"] (defScope sPairs) := ⟨rfl, rfl, rfl, by decide +kernel, rfl, by decide +kernel, by decide +kernel⟩
def spPairs : Sp := fun vs H Q _ => ∃ n : Nat, vs = [.int (n : Int)] ∧ n ≤ 40 ∧ ∀ H' D, GrowV ((pairsN n).map pairV) H D H' → H D = none → Q (.ref D) H'
def pairsTo (n i : Nat) : List (List V) := (List.range i).flatMap fun i => (List.range (n - (i + 1))).map fun d => pairV (i, i + 1 + d)
theorem pairsTo_all (n : Nat) : pairsTo n n = (pairsN n).map pairV := by
  unfold pairsTo pairsN
  rw [List.map_flatMap]
  congr 1
  funext i
  rw [List.map_map]
  rfl
theorem pairsTo_succ (n i : Nat) : pairsTo n (i + 1) = pairsTo n i ++ (List.range (n - (i + 1))).map fun d => pairV (i, i + 1 + d) := by
  unfold pairsTo
  rw [List.range_succ, List.flatMap_append]
  simp
theorem pairsTo_len (n : Nat) : ∀ i, (pairsTo n i).length ≤ i * n
  | 0 => by simp [pairsTo]
  | i + 1 => by
    rw [pairsTo_succ, List.length_append, List.length_map, List.length_range, Nat.succ_mul]
    have := pairsTo_len n i
    omega
theorem ok_pairs {f : Addr} {fd : FuncData} {k : Nat} (F : Fun K "_law_pairs" "_law_pairs" sPairs f fd) (mr : mg "range" = none) : FnOk P w K mg base CX0 (k + 1) f fd ["_law_many"] spPairs := by
  refine F.ok scPairs (fun vs H Q E h => ?_) (fun cdv A outer s H vs Q E hr h => ?_)
  · obtain ⟨n, rfl, _⟩ := h
    rfl
  · obtain ⟨n, rfl, hn, q⟩ := h
    have nd := scPairs.nd
    refine ⟨_, pss_cons (ps_set (i := 1) nd rfl (.inl rfl) (pe_lst pa_nil))
      (pss_cons (ps_for PassesOwn.never rfl (pi_range1 (by rfl) mr (pa_cons (pv 0) pa_nil)) (pg_name (i := 2) nd rfl (.inr rfl)) (pss_one (ps_expr (pe_bm PySem.F.plainAttrs_list PySem.F.slot_list_extend PySem.F.type_list_extend mt_extend (pv 1) (pa_cons (pe_lc (own := [("_law_other", 3)]) (g := gName 3) (tt := tYes) (te := tTup (tCons (tVar 2) (tCons (tVar 3) tNil))) rfl nd (pi_range2 (by rfl) mr (pa_cons (pe_op op_add (pv 2) pe_int) (pa_cons (pv 0) pa_nil))) (blkOk_by (own := [("_law_other", 3)]) (N := NPa) (sc := defScope sPairs) (by decide +kernel)) (fun _ _ _ _ _ => pg_name (i := 3) nd rfl (.inl rfl)) (fun _ _ _ _ _ => pts_nil) (fun _ _ _ _ _ => (pe_tup (pa_cons (pv 2) (pa_cons (pv 3) pa_nil))))) pa_nil)))))
      (pss_one (ps_ret (pv 1)))), ?_⟩
    refine ⟨by decide, fun l nl => ?_⟩
    refine ⟨.int (n : Int), rfl, (n : Int), rfl, by omega, by omega, ?_⟩
    refine for_range (lo := 0) (n := n) (fun i σ G => GrowV (pairsTo n i) H l G ∧ ∃ y2 y3, σ = [some (.int (n : Int)), some (.ref l), y2, y3]) ⟨⟨[], same_upd nl, upd_same, fun c hc => (by cases hc), rfl⟩, _, _, rfl⟩ ?_ ?_
    · rintro i σ G hi ⟨gr, y2, y3, rfl⟩
      rw [Int.zero_add]
      obtain ⟨zs, hl, _⟩ := gr.len
      refine ⟨.ref l, rfl, .inl ⟨rfl, _, .inl (.inl hl)⟩, .int (i : Int), rfl, _, 1, rfl, rfl, .int (n : Int), rfl, (i : Int) + 1, (n : Int), rfl, ⟨by omega, by omega, by omega, by omega⟩, fun D nD => ?_⟩
      have en : ((n : Int) - ((i : Int) + 1)).toNat = n - (i + 1) := by omega
      rw [en]
      refine lc_range (lo := (i : Int) + 1) (n := n - (i + 1)) (fun d G' => GrowV ((List.range d).map fun d => pairV (i, i + 1 + d)) G D G') ⟨[], same_upd nD, upd_same, fun c hc => (by cases hc), rfl⟩ ?_ ?_
      · rintro d G' hd J
        have ed : (i : Int) + 1 + (d : Int) = ((i + 1 + d : Nat) : Int) := by omega
        rw [ed]
        refine ⟨rfl, .int (i : Int), rfl, .int ((i + 1 + d : Nat) : Int), rfl, by show 2 ≤ sizeLine; decide, fun T nT => ?_⟩
        have z := J.step (y := pairV (i, i + 1 + d)) (by rw [List.length_map, List.length_range]; omega) nD (same_upd nT) nT upd_same
        rw [List.range_succ, List.map_append]
        exact z
      · rintro G' J
        obtain ⟨as, bs, h1, h2, e1, e2, h3⟩ := gr.ext J nl
        refine ⟨l, D, as, bs, rfl, rfl, h1, h2, ?_, ?_, _, _, rfl⟩
        · rw [e1, e2, List.length_map, List.length_range]
          have z1 := pairsTo_len n i
          have z2 : i * n ≤ 40 * 40 := Nat.mul_le_mul (by omega) hn
          exact Nat.le_trans (show _ ≤ 100000 by omega) (by decide)
        · rw [pairsTo_succ]
          exact h3
    · rintro σ G ⟨gr, y2, y3, rfl⟩
      rw [pairsTo_all] at gr
      exact ⟨.ref l, rfl, q G l gr nl⟩
end
end C2

namespace C2
set_option Elab.async false
set_option linter.all false
set_option maxRecDepth 100000
set_option maxHeartbeats 1000000
open PySem PySem.Spec PyProof.Rows L2
theorem GrowV.same {xs : List (List V)} {H G G' : Hp} {D : Addr} (I : GrowV xs H D G) (s : Same G G') : GrowV xs H D G' := by
  obtain ⟨cs, sm, hD, hc, e⟩ := I
  exact ⟨cs, sm.trans s, s _ _ hD, hc.same s, e⟩
theorem GrowV.sub {xs : List (List V)} {H G : Hp} {D : Addr} (I : GrowV xs H D G) : Same H G := by
  obtain ⟨cs, sm, _⟩ := I
  exact sm
theorem flat_le {α β : Type} {f : α → List β} {c : Nat} : ∀ {L : List α}, (∀ x ∈ L, (f x).length ≤ c) → (L.flatMap f).length ≤ L.length * c
  | [], _ => by simp
  | x :: r, h => by
    rw [List.flatMap_cons, List.length_append, List.length_cons, Nat.succ_mul]
    have h1 := h x List.mem_cons_self
    have h2 := flat_le (f := f) (c := c) (L := r) fun y hy => h y (List.mem_cons_of_mem _ hy)
    omega
theorem pairsN_len {n : Nat} (h : n ≤ 3) : (pairsN n).length ≤ 9 := by
  have e := congrArg List.length (pairsTo_all n)
  rw [List.length_map] at e
  have z := pairsTo_len n n
  have : n * n ≤ 3 * 3 := Nat.mul_le_mul h h
  omega
theorem row_len {xs ys : List Int} {b : Nat} (hb : b ≤ 3) (p : Nat × Nat) : (millsRow xs ys b p).length ≤ 18 := by
  have z := flat_le (L := pairsN b) (f := fun q => (turnsOf xs ys p q).map (five p q)) (c := 2) fun q _ => by
    rw [List.length_map]
    exact List.length_filter_le _ _
  have := pairsN_len hb
  exact Nat.le_trans z (by omega)
theorem cell_at {L : List (List V)} {cs : List (Addr × List V)} {m : Nat} {x : V} (e : cs.map (·.2) = L) (hx : (vrefs cs)[m]? = some x) : ∃ (c : Addr) (y : List V), x = .ref c ∧ L[m]? = some y ∧ (c, y) ∈ cs := by
  have hm : m < cs.length := by
    have := (List.getElem?_eq_some_iff.mp hx).1
    rw [List.length_map] at this
    exact this
  rw [List.getElem?_map, List.getElem?_eq_getElem hm] at hx
  refine ⟨cs[m].1, cs[m].2, (Option.some.inj hx).symm, ?_, List.getElem_mem hm⟩
  rw [← e, List.getElem?_map, List.getElem?_eq_getElem hm]
  rfl
section
variable {P : Program} {w : World} {K : PySem.W.Frag} {mg : Str → Option Value} {base : Heap}
abbrev NMs : List Str := ["_law_pick", "_law_found", "_law_i", "_law_k", "_law_j", "_law_l", "_law_turn"]
theorem scMills : FnScope NMs ["_law_pick"] (defScope sMills) := ⟨rfl, rfl, rfl, by decide +kernel, rfl, by decide +kernel, by decide +kernel⟩
def ttMs : TT := tB (tCall spLMill [] E0 (tCons (tVar 0) (tCons (tVar 2) (tCons (tVar 3) (tCons (tVar 4) (tCons (tVar 5) (tCons (tVar 6) tNil)))))))
def teMs : TE := tTup (tCons (tVar 2) (tCons (tVar 3) (tCons (tVar 4) (tCons (tVar 5) (tCons (tVar 6) tNil)))))
def spMills : Sp := fun vs H Q _ => ∃ (t : Addr) (a b : Nat) (xs ys : List Int), vs = [.ref t] ∧ PickAt H t a b xs ys ∧ a ≤ 3 ∧ b ≤ 3 ∧ ∀ H' D, GrowV (vI (millsL xs ys a b)) H D H' → H D = none → Q (.ref D) H'
theorem ok_mills {f fP fM fC : Addr} {fd fdP fdM fdC : FuncData} {k : Nat} (F : Fun K "_law_mills" "_law_mills" sMills f fd) (FP : Fun K "_law_pairs" "_law_pairs" sPairs fP fdP) (FM : Fun K "_law_is_mill" "_law_is_mill" sLMill fM fdM) (FC : Fun K "_law_comes" "_law_comes" sLComes fC fdC)
    (bP : Binds K fdP ["_law_many"] []) (bM : Binds K fdM ["_law_pick", "_law_i", "_law_k", "_law_j", "_law_l", "_law_turn"] []) (bC : Binds K fdC ["_law_pick", "_law_i", "_law_j"] []) (gP : mg "_law_pairs" = some (.ref fP)) (gM : mg "_law_is_mill" = some (.ref fM)) (gC : mg "_law_comes" = some (.ref fC))
    (mint : mg "int" = none) (mall : mg "all" = none) (mr : mg "range" = none) (ml : mg "len" = none) : FnOk P w K mg base CX0 (k + 3) f fd ["_law_pick"] spMills := by
  have GP : FnOk P w K mg base CX0 1 fP fdP ["_law_many"] spPairs := ok_pairs FP mr
  have GM : FnOk P w K mg base CX0 (k + 2) fM fdM ["_law_pick", "_law_i", "_law_k", "_law_j", "_law_l", "_law_turn"] spLMill := ok_lmill FM FC bC gC mint mall
  refine F.ok scMills (fun vs H Q E h => ?_) (fun cdv A outer s H vs Q E hr h => ?_)
  · obtain ⟨t, a, b, xs, ys, rfl, _⟩ := h
    rfl
  · obtain ⟨t, a, b, xs, ys, rfl, pk, ha, hb, q⟩ := h
    obtain ⟨tx, ty, h1, h2, h3, l1, l2, u1, u2⟩ := id pk
    have nd := scMills.nd
    have t1 : ∀ G, Same H G → SqT K G t [.ref tx, .ref ty] := fun G sm => .inl (.inl (sm _ _ h1))
    refine ⟨_, pss_cons (ps_set (i := 1) nd rfl (.inl rfl) (pe_lst pa_nil))
      (pss_cons (ps_for PassesOwn.never rfl (pi_list (pe_call GP (hr.mono (by omega)) (by rfl) gP FP.kp bP .nil pass0 (pa_cons (pe_callB call_len_seq (by rfl) ml PySem.boot_len (pa_cons (pe_ix ix_tup (pv 0) pe_int (fun _ _ => rfl)) pa_nil)) pa_nil))) (pg_tup rfl (pgs_cons (pg_name (i := 2) nd rfl (.inr rfl)) (pgs_cons (pg_name (i := 3) nd rfl (.inr rfl)) pgs_nil))) (pss_one (ps_for PassesOwn.never rfl (pi_list (pe_call GP (hr.mono (by omega)) (by rfl) gP FP.kp bP .nil pass0 (pa_cons (pe_callB call_len_seq (by rfl) ml PySem.boot_len (pa_cons (pe_ix ix_tup (pv 0) pe_int (fun _ _ => rfl)) pa_nil)) pa_nil))) (pg_tup rfl (pgs_cons (pg_name (i := 4) nd rfl (.inr rfl)) (pgs_cons (pg_name (i := 5) nd rfl (.inr rfl)) pgs_nil))) (pss_one (ps_expr (pe_bm PySem.F.plainAttrs_list PySem.F.slot_list_extend PySem.F.type_list_extend mt_extend (pv 1) (pa_cons (pe_lc (own := [("_law_turn", 6)]) (g := gName 6) (tt := ttMs) (te := teMs) rfl nd (pi_tup (pe_tup (pa_cons (pe_un un_neg pe_int) (pa_cons pe_int pa_nil)))) (blkOk_by (own := [("_law_turn", 6)]) (N := NMs) (sc := defScope sMills) (by decide +kernel)) (fun _ _ _ _ _ => pg_name (i := 6) nd rfl (.inl rfl)) (fun _ _ _ _ _ => pts_one (pt_val (pe_call GM hr (by rfl) gM FM.kp bM .nil pass0 (pa_cons (pv 0) (pa_cons (pv 2) (pa_cons (pv 3) (pa_cons (pv 4) (pa_cons (pv 5) (pa_cons (pv 6) pa_nil))))))))) (fun _ _ _ _ _ => (pe_tup (pa_cons (pv 2) (pa_cons (pv 3) (pa_cons (pv 4) (pa_cons (pv 5) (pa_cons (pv 6) pa_nil)))))))) pa_nil)))))))
      (pss_one (ps_ret (pv 1)))), ?_⟩
    refine ⟨by decide, fun fo nf => ?_⟩
    have sf := same_upd (o := .lst []) nf
    refine ⟨.ref t, rfl, t, _, 1, .ref ty, rfl, rfl, t1 _ sf, rfl, ty, _, rfl, .inr (.inl (.inl (sf _ _ h3))), a, ?_, by omega, fun G1 D1 I1 nD1 => ⟨D1, rfl, ?_⟩⟩
    · rw [List.length_map, l2]
      rfl
    obtain ⟨cs1, sm1, hD1, hc1, e1⟩ := I1
    refine ⟨⟨_, .inl (.inl hD1)⟩, ?_⟩
    have nfD1 : D1 ≠ fo := fun z => by rw [z, upd_same] at nD1; cases nD1
    have lenA := pairsN_len ha
    have lcs1 : cs1.length = (pairsN a).length := by
      have := congrArg List.length e1
      rw [List.length_map, List.length_map] at this
      exact this
    refine for_list (xs := vrefs cs1) (fun m σ G => Fr fo G1 G ∧ GrowV (vI (((pairsN a).take m).flatMap (millsRow xs ys b))) H fo G ∧ ∃ y2 y3 y4 y5 y6, σ = [some (.ref t), some (.ref fo), y2, y3, y4, y5, y6]) ⟨Fr.refl _ _, ⟨[], sf.trans sm1, sm1 _ _ upd_same, fun c hc => (by cases hc), rfl⟩, _, _, _, _, _, rfl⟩ (fun m σ G _ h => .inl (.inl (h.1 _ _ nfD1 hD1))) ?_ ?_
    · rintro m x σ G hx ⟨fr, gr, y2, y3, y4, y5, y6, rfl⟩
      obtain ⟨c, y, rfl, hy, hmem⟩ := cell_at e1 hx
      rw [List.getElem?_map] at hy
      obtain ⟨p, hp, rfl⟩ := Option.map_eq_some_iff.mp hy
      have pm := pairsN_mem (List.mem_of_getElem? hp)
      have hcell := hc1 _ hmem
      have ncf : c ≠ fo := fun z => by
        have w := sm1 _ _ (upd_same (H := H) (a := fo) (o := .lst []))
        have hcell' : G1 c = some (.tup (pairV p)) := hcell
        rw [z, w] at hcell'
        cases hcell'
      have hcG : G c = some (.tup (pairV p)) := fr _ _ ncf hcell
      refine ⟨c, _, rfl, .inl (.inl hcG), rfl, _, _, rfl, _, _, rfl, rfl, ?_⟩
      refine ⟨.ref t, rfl, t, _, 0, .ref tx, rfl, rfl, t1 _ gr.sub, rfl, tx, _, rfl, .inr (.inl (.inl (gr.sub _ _ h2))), b, ?_, by omega, fun G2 D2 I2 nD2 => ⟨D2, rfl, ?_⟩⟩
      · rw [List.length_map, l1]
        rfl
      obtain ⟨cs2, sm2, hD2, hc2, e2⟩ := I2
      refine ⟨⟨_, .inl (.inl hD2)⟩, ?_⟩
      obtain ⟨zs, hfo, _⟩ := gr.len
      have nfD2 : D2 ≠ fo := fun z => by rw [z, hfo] at nD2; cases nD2
      have lcs2 : cs2.length = (pairsN b).length := by
        have := congrArg List.length e2
        rw [List.length_map, List.length_map] at this
        exact this
      have lenB := pairsN_len hb
      have tk : ((pairsN a).take (m + 1)).flatMap (millsRow xs ys b) = ((pairsN a).take m).flatMap (millsRow xs ys b) ++ millsRow xs ys b p := by
        rw [List.take_add_one, hp, List.flatMap_append]
        simp
      refine for_list (xs := vrefs cs2) (fun m' σ G' => Fr fo G2 G' ∧ GrowV (vI (((pairsN a).take m).flatMap (millsRow xs ys b) ++ ((pairsN b).take m').flatMap fun q => (turnsOf xs ys p q).map (five p q))) H fo G' ∧ ∃ y4 y5 y6, σ = [some (.ref t), some (.ref fo), some (.int (p.1 : Int)), some (.int (p.2 : Int)), y4, y5, y6])
        ⟨Fr.refl _ _, by rw [List.take_zero, List.flatMap_nil, List.append_nil]; exact gr.same sm2, _, _, _, rfl⟩ (fun m' σ G' _ h => .inl (.inl (h.1 _ _ nfD2 hD2))) ?_ ?_
      · rintro m' x σ G' hx ⟨fr', gr', y4, y5, y6, rfl⟩
        obtain ⟨c', y, rfl, hy, hmem'⟩ := cell_at e2 hx
        rw [List.getElem?_map] at hy
        obtain ⟨r, hr', rfl⟩ := Option.map_eq_some_iff.mp hy
        have rm := pairsN_mem (List.mem_of_getElem? hr')
        have hcell' := hc2 _ hmem'
        have ncf' : c' ≠ fo := fun z => by
          have w := sm2 _ _ hfo
          have h' : G2 c' = some (.tup (pairV r)) := hcell'
          rw [z, w] at h'
          cases h'
        have hcG' : G' c' = some (.tup (pairV r)) := fr' _ _ ncf' hcell'
        refine ⟨c', _, rfl, .inl (.inl hcG'), rfl, _, _, rfl, _, _, rfl, rfl, ?_⟩
        obtain ⟨zs', hfo', lz'⟩ := gr'.len
        refine ⟨.ref fo, rfl, .inl ⟨rfl, _, .inl (.inl hfo')⟩, 1, rfl, by show 2 ≤ sizeLine; decide, fun T nT => ⟨T, rfl, ⟨_, .inl (.inl upd_same)⟩, fun D3 nD3 => ?_⟩⟩
        have sT := same_upd (o := .tup [.int (-1), .int 1]) nT
        have pkT := pk.same (gr'.sub.trans sT)
        have nfD3 : D3 ≠ fo := fun z => by rw [z, sT _ _ hfo'] at nD3; cases nD3
        refine lc_tup (xs := [.int (-1), .int 1]) (fun i G3 => GrowV (vI ((([(-1 : Int), 1].take i).filter fun t => isMillB xs ys p.1 p.2 r.1 r.2 t).map (five p r))) (upd G' T (.tup [.int (-1), .int 1])) D3 G3) ⟨[], same_upd nD3, upd_same, fun c hc => (by cases hc), rfl⟩ (fun i G3 _ h => .inl (.inl (h.sub _ _ upd_same))) ?_ ?_
        · rintro i v G3 hv J
          have i2 : i < 2 := (List.getElem?_eq_some_iff.mp hv).1
          obtain ⟨v', ev, hv', er⟩ : ∃ v' : Int, v = .int v' ∧ (v' = 1 ∨ v' = -1) ∧ ([(-1 : Int), 1].take (i + 1)) = [(-1 : Int), 1].take i ++ [v'] := by
            rcases (show i = 0 ∨ i = 1 by omega) with rfl | rfl
            · exact ⟨-1, (Option.some.inj hv).symm, .inr rfl, rfl⟩
            · exact ⟨1, (Option.some.inj hv).symm, .inl rfl, rfl⟩
          subst ev
          rw [er, List.filter_append, List.map_append]
          refine ⟨rfl, .ref t, rfl, .int (p.1 : Int), rfl, .int (p.2 : Int), rfl, .int (r.1 : Int), rfl, .int (r.2 : Int), rfl, .int v', rfl, t, a, b, p.1, p.2, r.1, r.2, v', xs, ys, rfl, pkT.same J.sub, by omega, by omega, by omega, by omega, hv', fun B G4 eB s4 => ⟨B, rfl, ite2 (fun y => ?_) (fun y => ?_)⟩⟩
          · refine ⟨.int (p.1 : Int), rfl, .int (p.2 : Int), rfl, .int (r.1 : Int), rfl, .int (r.2 : Int), rfl, .int v', rfl, by show 5 ≤ sizeLine; decide, fun T5 n5 => ?_⟩
            have ef : [v'].filter (fun t => isMillB xs ys p.1 p.2 r.1 r.2 t) = [v'] := by
              rw [List.filter_cons_of_pos (by rw [← eB]; exact y)]
              rfl
            rw [ef]
            have z := (J.same s4).step (y := (five p r v').map V.int) (by
              unfold vI
              rw [List.length_map, List.length_map]
              exact Nat.lt_of_le_of_lt (List.length_filter_le _ _) (by rw [List.length_take]; exact Nat.lt_of_le_of_lt (Nat.min_le_right _ _) (by decide))) nD3 (same_upd (o := .tup ((five p r v').map V.int)) n5) n5 upd_same
            unfold vI at z ⊢
            rw [List.map_append]
            exact z
          · have ef : [v'].filter (fun t => isMillB xs ys p.1 p.2 r.1 r.2 t) = [] := by
              rw [List.filter_cons_of_neg (by rw [← eB]; exact y)]
              rfl
            rw [ef, List.map_nil, List.append_nil]
            exact J.same s4
        · rintro G3 J
          have J' : GrowV (vI ((turnsOf xs ys p r).map (five p r))) (upd G' T (.tup [.int (-1), .int 1])) D3 G3 := J
          obtain ⟨as, bs, k1, k2, ea, eb, k3⟩ := (gr'.same sT).ext J' nf
          refine ⟨fo, D3, as, bs, rfl, rfl, k1, k2, ?_, ?_, ?_, _, _, _, rfl⟩
          · rw [ea, eb]
            unfold vI
            rw [List.length_map, List.length_map, List.length_append, List.length_map]
            have z1 := flat_le (L := (pairsN a).take m) (f := millsRow xs ys b) (c := 18) fun p _ => row_len hb p
            have z2 := flat_le (L := (pairsN b).take m') (f := fun q => (turnsOf xs ys p q).map (five p q)) (c := 2) fun q _ => by
              rw [List.length_map]
              exact List.length_filter_le _ _
            have z3 : (turnsOf xs ys p r).length ≤ 2 := List.length_filter_le _ _
            rw [List.length_take] at z1 z2
            have w1 : min m (pairsN a).length * 18 ≤ 9 * 18 := Nat.mul_le_mul (by omega) (by omega)
            have w2 : min m' (pairsN b).length * 2 ≤ 9 * 2 := Nat.mul_le_mul (by omega) (by omega)
            exact Nat.le_trans (show _ ≤ 1000 by omega) (by decide)
          · intro e o ne he
            rw [upd_ne ne]
            exact J'.sub _ _ (sT _ _ (fr' _ _ ne he))
          · have tk' : ((pairsN b).take (m' + 1)).flatMap (fun q => (turnsOf xs ys p q).map (five p q)) = ((pairsN b).take m').flatMap (fun q => (turnsOf xs ys p q).map (five p q)) ++ (turnsOf xs ys p r).map (five p r) := by
              rw [List.take_add_one, hr', List.flatMap_append]
              simp
            rw [tk', ← List.append_assoc]
            unfold vI at k3 ⊢
            rw [List.map_append]
            exact k3
      · rintro σ G' ⟨fr', gr', y4, y5, y6, rfl⟩
        rw [List.length_map, lcs2, List.take_length] at gr'
        refine ⟨?_, ?_, _, _, _, _, _, rfl⟩
        · intro e o ne he
          exact fr' _ _ ne (sm2 _ _ (fr _ _ ne he))
        · rw [tk]
          exact gr'
    · rintro σ G ⟨fr, gr, y2, y3, y4, y5, y6, rfl⟩
      rw [List.length_map, lcs1, List.take_length] at gr
      exact ⟨.ref fo, rfl, q G fo gr nf⟩
end
end C2

namespace C2
set_option Elab.async false
set_option linter.all false
set_option maxRecDepth 100000
set_option maxHeartbeats 1000000
open PySem PySem.Spec PyProof.Rows L2
def longer (m : Nat) (s : List Int) : List (List Int) := (List.range (m + 1)).map fun o : Nat => s ++ [(o : Int)]
def placesL : Nat → Nat → List (List Int)
  | 0, _ => [[]]
  | n + 1, m => (placesL n m).flatMap (longer m)
theorem longer_len (m : Nat) (s : List Int) : (longer m s).length = m + 1 := by
  unfold longer
  rw [List.length_map, List.length_range]
theorem placesL_le {n m : Nat} (hm : m ≤ 3) : (placesL n m).length ≤ 4 ^ n := by
  induction n with
  | zero => exact Nat.le_refl _
  | succ n ih =>
    have z := flat_le (L := placesL n m) (f := longer m) (c := 4) fun s _ => by rw [longer_len]; omega
    have e : placesL (n + 1) m = (placesL n m).flatMap (longer m) := rfl
    rw [e, Nat.pow_succ]
    exact Nat.le_trans z (Nat.mul_le_mul_right 4 ih)
theorem places64 {n m : Nat} (hn : n ≤ 3) (hm : m ≤ 3) : (placesL n m).length ≤ 64 := Nat.le_trans (placesL_le hm) (Nat.pow_le_pow_right (by decide) hn)
theorem placesL_mem {m : Nat} : ∀ {n : Nat} {s : List Int}, s ∈ placesL n m → s.length = n ∧ Upto m s
  | 0, s, h => by
    rw [List.mem_singleton.mp h]
    exact ⟨rfl, fun v hv => by cases hv⟩
  | n + 1, s, h => by
    obtain ⟨r, hr, hs⟩ := List.mem_flatMap.mp h
    obtain ⟨o, ho, rfl⟩ := List.mem_map.mp hs
    obtain ⟨l, u⟩ := placesL_mem hr
    have := List.mem_range.mp ho
    refine ⟨by rw [List.length_append, l]; rfl, fun v hv => ?_⟩
    rcases List.mem_append.mp hv with h | h
    · exact u v h
    · rw [List.mem_singleton.mp h]
      omega
section
variable {P : Program} {w : World} {K : PySem.W.Frag} {mg : Str → Option Value} {base : Heap}
abbrev NPl : List Str := ["_law_many", "_law_most", "_law_found", "_law_turn", "_law_longer", "_law_some", "_law_one"]
theorem scPlaces : FnScope NPl ["_law_many", "_law_most"] (defScope sPlaces) := ⟨rfl, rfl, rfl, by decide +kernel, rfl, by decide +kernel, by decide +kernel⟩
def tePl (K : PySem.W.Frag) : TE := tOp (rCatA K) (tVar 5) (tTup (tCons (tVar 6) tNil))
def spPlaces : Sp := fun vs H Q _ => ∃ n m : Nat, vs = [.int (n : Int), .int (m : Int)] ∧ n ≤ 3 ∧ m ≤ 3 ∧ ∀ H' D, GrowV (vI (placesL n m)) H D H' → H D = none → Q (.ref D) H'
theorem ok_places {f : Addr} {fd : FuncData} {k : Nat} (F : Fun K "_law_places" "_law_places" sPlaces f fd) (mr : mg "range" = none) : FnOk P w K mg base CX0 (k + 1) f fd ["_law_many", "_law_most"] spPlaces := by
  refine F.ok scPlaces (fun vs H Q E h => ?_) (fun cdv A outer s H vs Q E hr h => ?_)
  · obtain ⟨n, m, rfl, _⟩ := h
    rfl
  · obtain ⟨n, m, rfl, hn, hm, q⟩ := h
    have nd := scPlaces.nd
    refine ⟨_, pss_cons (ps_set (i := 2) nd rfl (.inl rfl) (pe_lst (pa_cons (pe_tup pa_nil) pa_nil)))
      (pss_cons (ps_for PassesOwn.never rfl (pi_range1 (by rfl) mr (pa_cons (pv 0) pa_nil)) (pg_name (i := 3) nd rfl (.inl rfl)) (pss_cons (ps_set (i := 4) nd rfl (.inl rfl) (pe_lst pa_nil))
      (pss_cons (ps_for PassesOwn.never rfl (pi_list (pv 2)) (pg_name (i := 5) nd rfl (.inr rfl)) (pss_one (ps_expr (pe_bm PySem.F.plainAttrs_list PySem.F.slot_list_extend PySem.F.type_list_extend mt_extend (pv 4) (pa_cons (pe_lc (own := [("_law_one", 6)]) (g := gName 6) (tt := tYes) (te := tePl K) rfl nd (pi_range1 (by rfl) mr (pa_cons (pe_op op_add (pv 1) pe_int) pa_nil)) (blkOk_by (own := [("_law_one", 6)]) (N := NPl) (sc := defScope sPlaces) (by decide +kernel)) (fun _ _ _ _ _ => pg_name (i := 6) nd rfl (.inl rfl)) (fun _ _ _ _ _ => pts_nil) (fun _ _ _ _ _ => (pe_op op_catA (pv 5) (pe_tup (pa_cons (pv 6) pa_nil))))) pa_nil)))))
      (pss_one (ps_set (i := 2) nd rfl (.inl rfl) (pv 4))))))
      (pss_one (ps_ret (pv 2)))), ?_⟩
    refine ⟨by decide, fun T nT => ⟨by show 1 ≤ sizeLine; decide, fun l nl => ?_⟩⟩
    have sT := same_upd (o := .tup []) nT
    have sl := same_upd (o := .lst [.ref T]) nl
    refine ⟨.int (n : Int), rfl, (n : Int), rfl, by omega, by omega, ?_⟩
    refine for_range (lo := 0) (n := n) (fun i σ G => ∃ l, GrowV (vI (placesL i m)) H l G ∧ H l = none ∧ ∃ y3 y4 y5 y6, σ = [some (.int (n : Int)), some (.int (m : Int)), some (.ref l), y3, y4, y5, y6]) ⟨l, ⟨[(T, [])], sT.trans sl, upd_same, fun c hc => (by rw [List.mem_singleton.mp hc]; exact sl _ _ upd_same), rfl⟩, sT.free nl, _, _, _, _, rfl⟩ ?_ ?_
    · rintro i σ G hi ⟨l, gr, nl, y3, y4, y5, y6, rfl⟩
      refine ⟨by decide, fun lo nlo => ?_⟩
      have slo := same_upd (o := .lst []) nlo
      obtain ⟨cs, sm, hl, hc, e⟩ := gr
      have nll : l ≠ lo := ne_of_none hl nlo
      have nHlo : H lo = none := sm.free nlo
      have lcs : cs.length = (placesL i m).length := by
        have := congrArg List.length e
        unfold vI at this
        rw [List.length_map, List.length_map] at this
        exact this
      have p64 := places64 (n := i) (by omega) hm
      refine ⟨.ref l, rfl, l, rfl, ⟨_, .inl (.inl (slo _ _ hl))⟩, ?_⟩
      refine for_list (xs := vrefs cs) (fun j σ G' => Fr lo (upd G lo (.lst [])) G' ∧ GrowV (vI (((placesL i m).take j).flatMap (longer m))) H lo G' ∧ ∃ y5 y6, σ = [some (.int (n : Int)), some (.int (m : Int)), some (.ref l), some (.int (0 + (i : Int))), some (.ref lo), y5, y6])
        ⟨Fr.refl _ _, ⟨[], sm.trans slo, upd_same, fun c hc => (by cases hc), rfl⟩, _, _, rfl⟩ (fun j σ G' _ h => .inl (.inl (h.1 _ _ nll (slo _ _ hl)))) ?_ ?_
      · rintro j x σ G' hx ⟨fr, gr', y5, y6, rfl⟩
        obtain ⟨c, y, rfl, hy, hmem⟩ := cell_at e hx
        unfold vI at hy
        rw [List.getElem?_map] at hy
        obtain ⟨so, hso, rfl⟩ := Option.map_eq_some_iff.mp hy
        have hcell : G c = some (.tup (so.map V.int)) := hc _ hmem
        have ncl : c ≠ lo := ne_of_none hcell nlo
        have hcG : G' c = some (.tup (so.map V.int)) := fr _ _ ncl (slo _ _ hcell)
        have lso := (placesL_mem (List.mem_of_getElem? hso)).1
        obtain ⟨zs, hlo', lz⟩ := gr'.len
        refine ⟨.ref lo, rfl, .inl ⟨rfl, _, .inl (.inl hlo')⟩, .int (m : Int), rfl, _, 1, rfl, rfl, ((m + 1 : Nat) : Int), rfl, by omega, by omega, fun D nD => ?_⟩
        have nDl : D ≠ lo := fun z => by rw [z, hlo'] at nD; cases nD
        refine lc_range (lo := 0) (n := m + 1) (fun o G3 => GrowV (vI ((List.range o).map fun o : Nat => so ++ [(o : Int)])) G' D G3) ⟨[], same_upd nD, upd_same, fun c hc => (by cases hc), rfl⟩ ?_ ?_
        · rintro o G3 ho J
          rw [Int.zero_add]
          have hc3 := J.sub _ _ hcG
          refine ⟨rfl, .ref c, rfl, .int (o : Int), rfl, by show 1 ≤ sizeLine; decide, fun T nT => ?_⟩
          have sT := same_upd (o := .tup [.int (o : Int)]) nT
          have fin : ∀ R G4, Same G3 G4 → G3 R = none → G4 R = some (.tup ((so ++ [(o : Int)]).map V.int)) → ∃ acc, G4 D = some (.lst acc) ∧ acc.length < sizeLine ∧ GrowV (vI ((List.range (o + 1)).map fun o : Nat => so ++ [(o : Int)])) G' D (upd G4 D (.lst (acc ++ [.ref R]))) := by
            intro R G4 s4 nR hR
            have z := J.step (y := (so ++ [(o : Int)]).map V.int) (by unfold vI; rw [List.length_map, List.length_map, List.length_range]; omega) nD s4 nR hR
            unfold vI at z ⊢
            rw [List.range_succ, List.map_append, List.map_append]
            exact z
          refine ⟨c, T, so.map V.int, [.int (o : Int)], rfl, rfl, .inl (.inl (sT _ _ hc3)), .inl (.inl upd_same), ?_, fun e0 => ?_, fun _ e0 => absurd e0 (by simp), fun _ _ R nR => ?_⟩
          · rw [List.length_map, lso]
            exact Nat.le_trans (show i + 1 ≤ 100 by omega) (by decide)
          · have es : so = [] := List.map_eq_nil_iff.mp e0
            refine fin T _ sT nT ?_
            rw [upd_same, es]
            rfl
          · refine fin R _ (sT.trans (same_upd nR)) (sT.free nR) ?_
            rw [upd_same, List.map_append]
            rfl
        · rintro G3 J
          have J' : GrowV (vI (longer m so)) G' D G3 := J
          obtain ⟨as, bs, k1, k2, ea, eb, k3⟩ := gr'.ext J' nHlo
          refine ⟨lo, D, as, bs, rfl, rfl, k1, k2, ?_, ?_, ?_, _, _, rfl⟩
          · rw [ea, eb]
            unfold vI
            rw [List.length_map, List.length_map, longer_len]
            have z1 := flat_le (L := (placesL i m).take j) (f := longer m) (c := 4) fun s _ => by rw [longer_len]; omega
            rw [List.length_take] at z1
            have w1 : min j (placesL i m).length * 4 ≤ 64 * 4 := Nat.mul_le_mul (by omega) (by omega)
            exact Nat.le_trans (show _ ≤ 1000 by omega) (by decide)
          · intro e' o' ne he
            rw [upd_ne ne]
            exact J'.sub _ _ (fr _ _ ne he)
          · have tk : ((placesL i m).take (j + 1)).flatMap (longer m) = ((placesL i m).take j).flatMap (longer m) ++ longer m so := by
              rw [List.take_add_one, hso, List.flatMap_append]
              simp
            rw [tk]
            unfold vI at k3 ⊢
            rw [List.map_append]
            exact k3
      · rintro σ G' ⟨fr, gr', y5, y6, rfl⟩
        rw [List.length_map, lcs, List.take_length] at gr'
        exact ⟨.ref lo, rfl, lo, gr', nHlo, _, _, _, _, rfl⟩
    · rintro σ G ⟨l, gr, nl, y3, y4, y5, y6, rfl⟩
      exact ⟨.ref l, rfl, q G l gr nl⟩
end
end C2

namespace C2
set_option Elab.async false
set_option linter.all false
set_option maxRecDepth 100000
set_option maxHeartbeats 1000000
open PySem PySem.Spec PyProof.Rows L2
/-! ### a list of picks -/
abbrev PK := Addr × List Int × List Int
abbrev prefs (ps : List PK) : List V := ps.map fun c => V.ref c.1
def PkCell (G : Hp) (c : PK) : Prop := ∃ tx ty, G c.1 = some (.tup [.ref tx, .ref ty]) ∧ G tx = some (.tup (c.2.1.map V.int)) ∧ G ty = some (.tup (c.2.2.map V.int))
theorem PkCell.same {G G' : Hp} {c : PK} (h : PkCell G c) (s : Same G G') : PkCell G' c := by
  obtain ⟨tx, ty, h1, h2, h3⟩ := h
  exact ⟨tx, ty, s _ _ h1, s _ _ h2, s _ _ h3⟩
theorem PkCell.upd {G : Hp} {c : PK} {D : Addr} {o : HO} {zs : List V} (h : PkCell G c) (hD : G D = some (.lst zs)) : PkCell (L2.upd G D o) c := by
  obtain ⟨tx, ty, h1, h2, h3⟩ := h
  have n : ∀ {e : Addr} {ys : List V}, G e = some (.tup ys) → (L2.upd G D o) e = some (.tup ys) := fun {e ys} he => by
    rw [upd_ne (ne_of he hD (by intro z; cases z))]
    exact he
  exact ⟨tx, ty, n h1, n h2, n h3⟩
def PkI (L : List (List Int × List Int)) (H : Hp) (D : Addr) (G : Hp) : Prop := ∃ ps : List PK, Same H G ∧ G D = some (.lst (prefs ps)) ∧ (∀ c ∈ ps, PkCell G c) ∧ ps.map (·.2) = L
theorem PkI.sub {L : List (List Int × List Int)} {H G : Hp} {D : Addr} (I : PkI L H D G) : Same H G := by
  obtain ⟨_, sm, _⟩ := I
  exact sm
theorem PkI.same {L : List (List Int × List Int)} {H G G' : Hp} {D : Addr} (I : PkI L H D G) (s : Same G G') : PkI L H D G' := by
  obtain ⟨ps, sm, hD, hc, e⟩ := I
  exact ⟨ps, sm.trans s, s _ _ hD, fun c h => (hc c h).same s, e⟩
theorem PkI.len {L : List (List Int × List Int)} {H G : Hp} {D : Addr} (I : PkI L H D G) : ∃ zs, G D = some (.lst zs) ∧ zs.length = L.length := by
  obtain ⟨ps, _, hD, _, e⟩ := I
  exact ⟨_, hD, by rw [List.length_map, ← e, List.length_map]⟩
theorem PkI.step {L : List (List Int × List Int)} {xs ys : List Int} {H G G2 : Hp} {D T tx ty : Addr} (I : PkI L H D G) (lo : L.length < 1000) (nD : H D = none) (s2 : Same G G2) (nT : G T = none) (hT : G2 T = some (.tup [.ref tx, .ref ty])) (hx : G2 tx = some (.tup (xs.map V.int))) (hy : G2 ty = some (.tup (ys.map V.int))) :
    ∃ acc, G2 D = some (.lst acc) ∧ acc.length < sizeLine ∧ PkI (L ++ [(xs, ys)]) H D (upd G2 D (.lst (acc ++ [.ref T]))) := by
  obtain ⟨ps, sm, hD, hc, e⟩ := I
  have hD2 := s2 _ _ hD
  refine ⟨_, hD2, ?_, ps ++ [(T, xs, ys)], ?_, ?_, ?_, ?_⟩
  · rw [List.length_map]
    have e1 : ps.length = L.length := by rw [← e, List.length_map]
    exact Nat.lt_of_lt_of_le (show ps.length < 1000 by omega) (by decide)
  · intro b o eb
    rw [upd_ne (ne_of_none eb nD)]
    exact s2 _ _ (sm _ _ eb)
  · rw [upd_same]
    show _ = some (HO.lst (List.map _ (ps ++ [_])))
    rw [List.map_append]
    rfl
  · intro c h
    rcases List.mem_append.mp h with h | h
    · exact ((hc c h).same s2).upd hD2
    · rw [List.mem_singleton.mp h]
      exact PkCell.upd (c := (T, xs, ys)) ⟨tx, ty, hT, hx, hy⟩ hD2
  · rw [List.map_append, e]
    rfl
theorem PkI.ext {L M : List (List Int × List Int)} {H G G' : Hp} {D l : Addr} (I : PkI L H l G) (J : PkI M G D G') (nl : H l = none) :
    ∃ as bs, G' l = some (.lst as) ∧ G' D = some (.lst bs) ∧ as.length = L.length ∧ bs.length = M.length ∧ PkI (L ++ M) H l (upd G' l (.lst (as ++ bs))) := by
  obtain ⟨ps, sm, hl, hc, e⟩ := I
  obtain ⟨qs, sm2, hD, hd, e2⟩ := J
  have hl2 := sm2 _ _ hl
  refine ⟨_, _, hl2, hD, by rw [List.length_map, ← e, List.length_map], by rw [List.length_map, ← e2, List.length_map], ps ++ qs, ?_, ?_, ?_, ?_⟩
  · intro b o eb
    rw [upd_ne (ne_of_none eb nl)]
    exact sm2 _ _ (sm _ _ eb)
  · rw [upd_same]
    show _ = some (HO.lst (List.map _ (ps ++ qs)))
    rw [List.map_append]
  · intro c h
    rcases List.mem_append.mp h with h | h
    · exact ((hc c h).same sm2).upd hl2
    · exact (hd c h).upd hl2
  · rw [List.map_append, e, e2]
def pairUp (a b : Nat) (xs : List Int) : List (List Int × List Int) := (placesL a b).map fun ys => (xs, ys)
def picksL (a b : Nat) : List (List Int × List Int) := (placesL b a).flatMap (pairUp a b)
theorem picksL_mem {a b : Nat} {p : List Int × List Int} (h : p ∈ picksL a b) : p.1.length = b ∧ p.2.length = a ∧ Upto a p.1 ∧ Upto b p.2 := by
  obtain ⟨xs, hx, hp⟩ := List.mem_flatMap.mp h
  obtain ⟨ys, hy, rfl⟩ := List.mem_map.mp hp
  obtain ⟨l1, u1⟩ := placesL_mem hx
  obtain ⟨l2, u2⟩ := placesL_mem hy
  exact ⟨l1, l2, u1, u2⟩
theorem PkCell.pick {G : Hp} {a b : Nat} {c : PK} (h : PkCell G c) (m : c.2 ∈ picksL a b) : PickAt G c.1 a b c.2.1 c.2.2 := by
  obtain ⟨tx, ty, h1, h2, h3⟩ := h
  obtain ⟨l1, l2, u1, u2⟩ := picksL_mem m
  exact ⟨tx, ty, h1, h2, h3, l1, l2, u1, u2⟩
section
variable {P : Program} {w : World} {K : PySem.W.Frag} {mg : Str → Option Value} {base : Heap}
abbrev NPk : List Str := ["_law_a", "_law_b", "_law_found", "_law_xs", "_law_ys"]
theorem scPicks : FnScope NPk ["_law_a", "_law_b"] (defScope sPicks) := ⟨rfl, rfl, rfl, by decide +kernel, rfl, by decide +kernel, by decide +kernel⟩
def tePk : TE := tTup (tCons (tVar 3) (tCons (tVar 4) tNil))
def spPicks : Sp := fun vs H Q _ => ∃ a b : Nat, vs = [.int (a : Int), .int (b : Int)] ∧ a ≤ 3 ∧ b ≤ 3 ∧ (placesL b a).length * (placesL a b).length ≤ 900 ∧ ∀ H' D, PkI (picksL a b) H D H' → H D = none → Q (.ref D) H'
theorem ok_picks {f fP : Addr} {fd fdP : FuncData} {k : Nat} (F : Fun K "_law_picks" "_law_picks" sPicks f fd) (FP : Fun K "_law_places" "_law_places" sPlaces fP fdP) (bP : Binds K fdP ["_law_many", "_law_most"] []) (gP : mg "_law_places" = some (.ref fP)) (mr : mg "range" = none) : FnOk P w K mg base CX0 (k + 2) f fd ["_law_a", "_law_b"] spPicks := by
  have GP : FnOk P w K mg base CX0 (k + 1) fP fdP ["_law_many", "_law_most"] spPlaces := ok_places FP mr
  refine F.ok scPicks (fun vs H Q E h => ?_) (fun cdv A outer s H vs Q E hr h => ?_)
  · obtain ⟨a, b, rfl, _⟩ := h
    rfl
  · obtain ⟨a, b, rfl, ha, hb, few, q⟩ := h
    have nd := scPicks.nd
    refine ⟨_, pss_cons (ps_set (i := 2) nd rfl (.inl rfl) (pe_lst pa_nil))
      (pss_cons (ps_for PassesOwn.never rfl (pi_list (pe_call GP hr (by rfl) gP FP.kp bP .nil pass0 (pa_cons (pv 1) (pa_cons (pv 0) pa_nil)))) (pg_name (i := 3) nd rfl (.inr rfl)) (pss_one (ps_expr (pe_bm PySem.F.plainAttrs_list PySem.F.slot_list_extend PySem.F.type_list_extend mt_extend (pv 2) (pa_cons (pe_lc (own := [("_law_ys", 4)]) (g := gName 4) (tt := tYes) (te := tePk) rfl nd (pi_list (pe_call GP hr (by rfl) gP FP.kp bP .nil pass0 (pa_cons (pv 0) (pa_cons (pv 1) pa_nil)))) (blkOk_by (own := [("_law_ys", 4)]) (N := NPk) (sc := defScope sPicks) (by decide +kernel)) (fun _ _ _ _ _ => pg_name (i := 4) nd rfl (.inl rfl)) (fun _ _ _ _ _ => pts_nil) (fun _ _ _ _ _ => (pe_tup (pa_cons (pv 3) (pa_cons (pv 4) pa_nil))))) pa_nil)))))
      (pss_one (ps_ret (pv 2)))), ?_⟩
    refine ⟨by decide, fun fo nf => ?_⟩
    have sf := same_upd (o := .lst []) nf
    refine ⟨.int (b : Int), rfl, .int (a : Int), rfl, b, a, rfl, hb, ha, fun G1 D1 I1 nD1 => ⟨D1, rfl, ?_⟩⟩
    obtain ⟨cs1, sm1, hD1, hc1, e1⟩ := I1
    refine ⟨⟨_, .inl (.inl hD1)⟩, ?_⟩
    have nfD1 : D1 ≠ fo := fun z => by rw [z, upd_same] at nD1; cases nD1
    have lcs1 : cs1.length = (placesL b a).length := by
      have := congrArg List.length e1
      unfold vI at this
      rw [List.length_map, List.length_map] at this
      exact this
    refine for_list (xs := vrefs cs1) (fun m σ G => Fr fo G1 G ∧ PkI (((placesL b a).take m).flatMap (pairUp a b)) H fo G ∧ ∃ y3 y4, σ = [some (.int (a : Int)), some (.int (b : Int)), some (.ref fo), y3, y4]) ⟨Fr.refl _ _, ⟨[], sf.trans sm1, sm1 _ _ upd_same, fun c hc => (by cases hc), rfl⟩, _, _, rfl⟩ (fun m σ G _ h => .inl (.inl (h.1 _ _ nfD1 hD1))) ?_ ?_
    · rintro m x σ G hx ⟨fr, gr, y3, y4, rfl⟩
      obtain ⟨c, y, rfl, hy, hmem⟩ := cell_at e1 hx
      unfold vI at hy
      rw [List.getElem?_map] at hy
      obtain ⟨xs, hxs, rfl⟩ := Option.map_eq_some_iff.mp hy
      have hcell : G1 c = some (.tup (xs.map V.int)) := hc1 _ hmem
      have ncf : c ≠ fo := fun z => by
        have w := sm1 _ _ (upd_same (H := H) (a := fo) (o := .lst []))
        rw [z, w] at hcell
        cases hcell
      have hcG := fr _ _ ncf hcell
      have hm : m < (placesL b a).length := (List.getElem?_eq_some_iff.mp hxs).1
      have soFar : (((placesL b a).take m).flatMap (pairUp a b)).length ≤ m * (placesL a b).length := by
        have z := flat_le (L := (placesL b a).take m) (f := pairUp a b) (c := (placesL a b).length) fun s _ => by unfold pairUp; rw [List.length_map]; exact Nat.le_refl _
        rw [List.length_take, Nat.min_eq_left (by omega)] at z
        exact z
      have bound : m * (placesL a b).length + (placesL a b).length ≤ 900 := by
        rw [← Nat.succ_mul]
        exact Nat.le_trans (Nat.mul_le_mul_right _ hm) few
      obtain ⟨zs, hfo, lz⟩ := gr.len
      refine ⟨.ref fo, rfl, .inl ⟨rfl, _, .inl (.inl hfo)⟩, .int (a : Int), rfl, .int (b : Int), rfl, a, b, rfl, ha, hb, fun G2 D2 I2 nD2 => ⟨D2, rfl, ?_⟩⟩
      obtain ⟨cs2, sm2, hD2, hc2, e2⟩ := I2
      have lcs2 : cs2.length = (placesL a b).length := by
        have := congrArg List.length e2
        unfold vI at this
        rw [List.length_map, List.length_map] at this
        exact this
      refine ⟨⟨_, .inl (.inl hD2)⟩, fun D3 nD3 => ?_⟩
      have nf3 : D3 ≠ fo := fun z => by rw [z, sm2 _ _ hfo] at nD3; cases nD3
      refine lc_list (xs := vrefs cs2) (fun m' G' => PkI (((placesL a b).take m').map fun ys => (xs, ys)) G2 D3 G') ⟨[], same_upd nD3, upd_same, fun c hc => (by cases hc), rfl⟩ (fun m' G' _ h => .inl (.inl (h.sub _ _ hD2))) ?_ ?_
      · rintro m' x G' hx' J
        obtain ⟨c', y', rfl, hy', hmem'⟩ := cell_at e2 hx'
        unfold vI at hy'
        rw [List.getElem?_map] at hy'
        obtain ⟨ys, hys, rfl⟩ := Option.map_eq_some_iff.mp hy'
        have hcell' : G2 c' = some (.tup (ys.map V.int)) := hc2 _ hmem'
        refine ⟨rfl, .ref c, rfl, .ref c', rfl, by show 2 ≤ sizeLine; decide, fun T nT => ?_⟩
        have sT := same_upd (o := .tup [.ref c, .ref c']) nT
        have z := J.step (xs := xs) (ys := ys) (by rw [List.length_map, List.length_take]; omega) nD3 sT nT upd_same (sT _ _ (J.sub _ _ (sm2 _ _ hcG))) (sT _ _ (J.sub _ _ hcell'))
        rw [List.take_add_one, hys, List.map_append]
        exact z
      · rintro G' J
        rw [List.length_map, lcs2, List.take_length] at J
        have J' : PkI (pairUp a b xs) G2 D3 G' := J
        obtain ⟨as, bs, k1, k2, ea, eb, k3⟩ := (gr.same sm2).ext J' nf
        refine ⟨fo, D3, as, bs, rfl, rfl, k1, k2, ?_, ?_, ?_, _, _, rfl⟩
        · rw [ea, eb]
          have lp : (pairUp a b xs).length = (placesL a b).length := List.length_map _
          exact Nat.le_trans (show _ ≤ 1000 by omega) (by decide)
        · intro e' o' ne he
          rw [upd_ne ne]
          exact J'.sub _ _ (sm2 _ _ (fr _ _ ne he))
        · have tk : ((placesL b a).take (m + 1)).flatMap (pairUp a b) = ((placesL b a).take m).flatMap (pairUp a b) ++ pairUp a b xs := by
            rw [List.take_add_one, hxs, List.flatMap_append]
            simp
          rw [tk]
          exact k3
    · rintro σ G ⟨fr, gr, y3, y4, rfl⟩
      rw [List.length_map, lcs1, List.take_length] at gr
      exact ⟨.ref fo, rfl, q G fo gr nf⟩
end
/-! ### repr of None, of truths, of data -/
def rReprA (K : PySem.W.Frag) : List V → Hp → VK → Prop := fun xs G Q => ((xs = [.non] ∧ Q (.str "None") G) ∨ ∃ b, xs = [.bl b] ∧ Q (.str (if b then "True" else "False")) G) ∨ rReprD K xs G Q
theorem call_reprA {X : Cx} (hu : X.A.units + 64 < cLine) (hgd : X.A.guards = some []) : CallR X (.builtin "repr") (rReprA X.K) := by
  intro pins s σ G xs us Q I r h
  rcases h with (⟨rfl, q⟩ | ⟨b, rfl, q⟩) | h
  · obtain ⟨u, rfl, rel⟩ := vals1 r
    cases rel
    exact PySem.P.repr_of_none ⟨.str "None", G, I.tok _, ⟨_, rfl⟩, q⟩
  · obtain ⟨u, rfl, rel⟩ := vals1 r
    cases rel
    exact PySem.P.repr_of_bool ⟨.str (if b then "True" else "False"), G, I.tok _, ⟨_, rfl⟩, q⟩
  · exact call_reprD hu hgd pins s σ G xs us Q I r h
end C2

namespace C2
set_option Elab.async false
set_option linter.all false
set_option maxRecDepth 100000
set_option maxHeartbeats 1000000
open PySem PySem.Spec PyProof.Rows L2
structure Plain (ds : List PyData) (dp wt : Nat) : Prop where
  sh : PyData.showableAll ds = true
  hd : PyData.hasDictAll ds = false
  ls : PyData.leavesShortAll 8 ds = true
  dp : PyData.depthAll ds ≤ dp
  wt : PyData.weightAll ds ≤ wt
  cl : PyData.canLayAll0 ds = true
theorem Plain.nil (dp : Nat) : Plain [] dp 0 := ⟨by simp [PyData.showableAll], by simp [PyData.hasDictAll], by simp [PyData.leavesShortAll], by simp [PyData.depthAll], by simp [PyData.weightAll], by simp [PyData.canLayAll0]⟩
theorem Plain.tup {ds : List PyData} {dp wt : Nat} (h : Plain ds dp wt) : Plain [.tuple ds] (dp + 1) (wt + 1) := by
  obtain ⟨i1, i2, i3, i4, i5, i6⟩ := h
  refine ⟨?_, ?_, ?_, ?_, ?_, ?_⟩ <;> simp only [PyData.showableAll, PyData.hasDictAll, PyData.leavesShortAll, PyData.depthAll, PyData.weightAll, PyData.canLayAll0, PyData.showable, PyData.hasDict, PyData.leavesShort, PyData.depth, PyData.weight, PyData.canLay0, i1, i2, i3, i6]
  · rfl
  · rfl
  · rfl
  · omega
  · omega
  · rfl
theorem Plain.lst {ds : List PyData} {dp wt : Nat} (h : Plain ds dp wt) : Plain [.list ds] (dp + 1) (wt + 1) := by
  obtain ⟨i1, i2, i3, i4, i5, i6⟩ := h
  refine ⟨?_, ?_, ?_, ?_, ?_, ?_⟩ <;> simp only [PyData.showableAll, PyData.hasDictAll, PyData.leavesShortAll, PyData.depthAll, PyData.weightAll, PyData.canLayAll0, PyData.showable, PyData.hasDict, PyData.leavesShort, PyData.depth, PyData.weight, PyData.canLay0, i1, i2, i3, i6]
  · rfl
  · rfl
  · rfl
  · omega
  · omega
  · rfl
theorem Plain.cons {d : PyData} {ds : List PyData} {dp wt wt' : Nat} (h : Plain [d] dp wt) (h' : Plain ds dp wt') : Plain (d :: ds) dp (wt + wt') := by
  obtain ⟨i1, i2, i3, i4, i5, i6⟩ := h
  obtain ⟨j1, j2, j3, j4, j5, j6⟩ := h'
  simp only [PyData.showableAll, PyData.hasDictAll, PyData.leavesShortAll, PyData.depthAll, PyData.weightAll, PyData.canLayAll0, Bool.and_true, Bool.or_false] at i1 i2 i3 i4 i5 i6
  refine ⟨?_, ?_, ?_, ?_, ?_, ?_⟩ <;> simp only [PyData.showableAll, PyData.hasDictAll, PyData.leavesShortAll, PyData.depthAll, PyData.weightAll, PyData.canLayAll0, i1, i2, i3, i6, j1, j2, j3, j6]
  · rfl
  · rfl
  · rfl
  · omega
  · omega
  · rfl
/-- what repr and == ask of a thing -/
structure Fine (d : PyData) : Prop where
  sh : d.showable = true
  hd : d.hasDict = false
  dp : d.depth ≤ 60
  ln : d.shown.length ≤ sizeLine
  sp : SeqAt.shaped d = true
theorem Plain.fine {d : PyData} {dp wt : Nat} (h : Plain [d] dp wt) (hd : dp ≤ 60) (hw : wt ≤ 210000) : Fine d := by
  obtain ⟨i1, i2, i3, i4, i5, i6⟩ := h
  simp only [PyData.showableAll, PyData.hasDictAll, PyData.leavesShortAll, PyData.depthAll, PyData.weightAll, PyData.canLayAll0, Bool.and_true, Bool.or_false] at i1 i2 i3 i4 i5 i6
  refine ⟨i1, i2, by omega, ?_, ?_⟩
  · have := PyData.shown_le 8 (by decide) d i3
    have s : 4000000 ≤ sizeLine := by decide
    omega
  · unfold SeqAt.shaped
    rw [i6, decide_eq_true (show d.depth ≤ 64 by omega)]
    rfl
theorem freshSeq {K : PySem.W.Frag} {p a : Addr} {G G' : Hp} {xs : List V} (h : SqL K G a xs) (n : G p = none) (f : Fr p G G') : SqL K G' a xs := by
  rcases h with (h | ⟨o, h⟩) | h
  · exact .inl (.inl (f _ _ (ne_of_none h n) h))
  · exact .inl (.inr ⟨o, f _ _ (ne_of_none h n) h⟩)
  · exact .inr h

def okD (d : PyData) : Bool := PyData.showable d && PyData.leavesShort 8 d && decide (PyData.weight d ≤ 19) && PyData.canLay0 d && !PyData.hasDict d && decide (PyData.depth d ≤ 0)
theorem okD_ints : ((List.range 42).all fun n => okD (.int (n : Int))) = true := by decide +kernel
theorem okD_int {n : Nat} (h : n < 42) : okD (.int (n : Int)) = true := List.all_eq_true.mp okD_ints n (List.mem_range.mpr h)
theorem Plain.one {d : PyData} (h : okD d = true) : Plain [d] 0 20 := by
  unfold okD at h
  simp only [Bool.and_eq_true, decide_eq_true_eq, Bool.not_eq_true'] at h
  obtain ⟨⟨⟨⟨⟨h1, h2⟩, h3⟩, h4⟩, h5⟩, h6⟩ := h
  have h6' : PyData.depth d = 0 := Nat.le_zero.mp h6
  refine ⟨?_, ?_, ?_, ?_, ?_, ?_⟩ <;> simp only [PyData.showableAll, PyData.hasDictAll, PyData.leavesShortAll, PyData.depthAll, PyData.weightAll, PyData.canLayAll0, h1, h2, h4, h5, h6']
  · rfl
  · rfl
  · rfl
  · decide
  · omega
  · rfl
theorem okD_neg : okD (.int (-1)) = true := by decide +kernel
theorem plainIs : ∀ x : List Int, (∀ v ∈ x, okD (.int v) = true) → Plain (x.map PyData.int) 0 (20 * x.length)
  | [], _ => Plain.nil 0
  | v :: r, h => by
    have z := (Plain.one (h v List.mem_cons_self)).cons (plainIs r fun y hy => h y (List.mem_cons_of_mem _ hy))
    have e : PyData.weightAll (List.map PyData.int (v :: r)) ≤ 20 + 20 * r.length := z.wt
    exact ⟨z.sh, z.hd, z.ls, z.dp, by rw [List.length_cons]; omega, z.cl⟩
theorem plainTs : ∀ L : List (List Int), (∀ x ∈ L, x.length = 5 ∧ ∀ v ∈ x, okD (.int v) = true) → Plain (L.map dT) 1 (101 * L.length)
  | [], _ => Plain.nil 1
  | x :: r, h => by
    have hx := h x List.mem_cons_self
    have z := (plainIs x hx.2).tup.cons (plainTs r fun y hy => h y (List.mem_cons_of_mem _ hy))
    have e : PyData.weightAll (List.map dT (x :: r)) ≤ 20 * x.length + 1 + 101 * r.length := z.wt
    exact ⟨z.sh, z.hd, z.ls, z.dp, by rw [List.length_cons, ]; rw [hx.1] at e; omega, z.cl⟩
theorem five_ok {p q : Nat × Nat} {t : Int} (hp : p.1 < p.2 ∧ p.2 < 42) (hq : q.1 < q.2 ∧ q.2 < 42) (ht : t = 1 ∨ t = -1) : (five p q t).length = 5 ∧ ∀ v ∈ five p q t, okD (.int v) = true := by
  refine ⟨rfl, fun v hv => ?_⟩
  simp only [five, List.mem_cons, List.not_mem_nil, or_false] at hv
  rcases hv with rfl | rfl | rfl | rfl | rfl
  · exact okD_int (by omega)
  · exact okD_int (by omega)
  · exact okD_int (by omega)
  · exact okD_int (by omega)
  · rcases ht with rfl | rfl
    · exact okD_int (n := 1) (by decide)
    · exact okD_neg
theorem millsL_mem {xs ys : List Int} {a b : Nat} {x : List Int} (ha : a ≤ 3) (hb : b ≤ 3) (h : x ∈ millsL xs ys a b) : x.length = 5 ∧ ∀ v ∈ x, okD (.int v) = true := by
  obtain ⟨p, hp, h⟩ := List.mem_flatMap.mp h
  obtain ⟨q, hq, h⟩ := List.mem_flatMap.mp h
  obtain ⟨t, ht, rfl⟩ := List.mem_map.mp h
  have pm := pairsN_mem hp
  have qm := pairsN_mem hq
  have t2 := (List.mem_filter.mp ht).1
  simp only [List.mem_cons, List.not_mem_nil, or_false] at t2
  exact five_ok (by omega) (by omega) (by rcases t2 with h | h; exact .inr h; exact .inl h)
theorem mills_len {xs ys : List Int} {a b : Nat} (ha : a ≤ 3) (hb : b ≤ 3) : (millsL xs ys a b).length ≤ 162 := by
  have z := flat_le (L := pairsN a) (f := millsRow xs ys b) (c := 18) fun p _ => row_len hb p
  have := pairsN_len ha
  have w : (pairsN a).length * 18 ≤ 9 * 18 := Nat.mul_le_mul (by omega) (by omega)
  exact Nat.le_trans z w
theorem fineL {xs ys : List Int} {a b : Nat} (ha : a ≤ 3) (hb : b ≤ 3) : Fine (.list ((millsL xs ys a b).map dT)) := by
  have p := (plainTs (millsL xs ys a b) fun x hx => millsL_mem ha hb hx).lst
  have := mills_len (xs := xs) (ys := ys) ha hb
  exact p.fine (by decide) (by omega)
theorem fine5 {x : List Int} (h : x.length = 5 ∧ ∀ v ∈ x, okD (.int v) = true) : Fine (dT x) := by
  have p := (plainIs x h.2).tup
  rw [h.1] at p
  exact p.fine (by decide) (by decide)
theorem fineNil : Fine (.list []) := (Plain.nil 0).lst.fine (by decide) (by decide)
theorem eqv_nil (L : List (List Int)) : PyData.eqv (.list (L.map dT)) (.list []) = L.isEmpty := by
  cases L with
  | nil => simp [PyData.eqv, PyData.eqvAll]
  | cons x r => simp [PyData.eqv, PyData.eqvAll]
theorem any_dT (L : List (List Int)) (x : List Int) : ((L.map dT).any fun z => PyData.eqv z (dT x)) = L.contains x := by
  rw [List.any_map, Bool.eq_iff_iff, List.any_eq_true, List.contains_iff_mem]
  constructor
  · rintro ⟨y, hy, e⟩
    have e' : PyData.eqv (dT y) (dT x) = true := e
    rw [eqvT] at e'
    rw [← of_decide_eq_true e']
    exact hy
  · intro h
    exact ⟨x, h, by show PyData.eqv (dT x) (dT x) = true; rw [eqvT]; exact decide_eq_true rfl⟩
/-- what the law asks of one pick -/
def okPick (a b : Nat) (p : List Int × List Int) : Bool :=
  decide (millP p.1 p.2 a = (millsL p.1 p.2 a b).head?) && ((pairsN a).all fun q => (pairsN b).all fun r => [(-1 : Int), 1].all fun t => isMillB p.1 p.2 q.1 q.2 r.1 r.2 t == (millsL p.1 p.2 a b).contains (five q r t))
theorem dpMills {K : PySem.W.Frag} {G : Hp} : ∀ {L : List (List Int)} {cs : List (Addr × List V)}, cs.map (·.2) = vI L → CellsV G cs → DpAll K G (vrefs cs) (L.map dT)
  | [], [], _, _ => .nil
  | [], _ :: _, e, _ => nomatch e
  | _ :: _, [], e, _ => nomatch e
  | x :: L, c :: cs, e, h => by
    have e' : c.2 :: cs.map (·.2) = x.map V.int :: vI L := e
    obtain ⟨e1, e2⟩ := List.cons.inj e'
    have hc := h c List.mem_cons_self
    rw [e1] at hc
    exact .cons (.tup (.inl (.inl hc)) (dpAll K G x)) (dpMills e2 fun d hd => h d (List.mem_cons_of_mem _ hd))
theorem GrowV.dp {K : PySem.W.Frag} {L : List (List Int)} {H G : Hp} {D : Addr} (I : GrowV (vI L) H D G) : Dp K G (.ref D) (.list (L.map dT)) := by
  obtain ⟨cs, _, hD, hc, e⟩ := I
  exact .lst (.inl (.inl hD)) (dpMills e hc)
end C2

namespace C2
set_option Elab.async false
set_option linter.all false
set_option maxRecDepth 100000
set_option maxHeartbeats 1000000
open PySem PySem.Spec PyProof.Rows L2
theorem all22 : (picksL 2 2).all (okPick 2 2) = true := by decide +kernel
theorem all32 : (picksL 3 2).all (okPick 3 2) = true := by decide +kernel
theorem all23 : (picksL 2 3).all (okPick 2 3) = true := by decide +kernel
theorem cnt22 : ((picksL 2 2).countP fun p => (millP p.1 p.2 2).isNone) = 79 := by decide +kernel
theorem none13 : (picksL 1 3).all (fun p => (millP p.1 p.2 1).isNone) = true := by decide +kernel
theorem none31 : (picksL 3 1).all (fun p => (millP p.1 p.2 3).isNone) = true := by decide +kernel
theorem none02 : (picksL 0 2).all (fun p => (millP p.1 p.2 0).isNone) = true := by decide +kernel
theorem none20 : (picksL 2 0).all (fun p => (millP p.1 p.2 2).isNone) = true := by decide +kernel
theorem none00 : (picksL 0 0).all (fun p => (millP p.1 p.2 0).isNone) = true := by decide +kernel
theorem len22 : (placesL 2 2).length * (placesL 2 2).length ≤ 900 := by decide +kernel
theorem len32 : (placesL 2 3).length * (placesL 3 2).length ≤ 900 := by decide +kernel
theorem len23 : (placesL 3 2).length * (placesL 2 3).length ≤ 900 := by decide +kernel
theorem len13 : (placesL 3 1).length * (placesL 1 3).length ≤ 900 := by decide +kernel
theorem len31 : (placesL 1 3).length * (placesL 3 1).length ≤ 900 := by decide +kernel
theorem len02 : (placesL 2 0).length * (placesL 0 2).length ≤ 900 := by decide +kernel
theorem len20 : (placesL 0 2).length * (placesL 2 0).length ≤ 900 := by decide +kernel
theorem len00 : (placesL 0 0).length * (placesL 0 0).length ≤ 900 := by decide +kernel
end C2

namespace C2
set_option Elab.async false
set_option linter.all false
set_option maxRecDepth 100000
set_option maxHeartbeats 1000000
open PySem PySem.Spec PyProof.Rows L2
section
variable {P : Program} {w : World} {K : PySem.W.Frag} {mg : Str → Option Value} {base : Heap}
abbrev NRi : List Str := ["_law_pick", "_law_found", "_law_i", "_law_k", "_law_j", "_law_l", "_law_turn"]
theorem scRight : FnScope NRi ["_law_pick"] (defScope sRight) := ⟨rfl, rfl, rfl, by decide +kernel, rfl, by decide +kernel, by decide +kernel⟩
def spRight : Sp := fun vs H Q _ => ∃ (t : Addr) (a b : Nat) (xs ys : List Int), vs = [.ref t] ∧ PickAt H t a b xs ys ∧ a ≤ 3 ∧ b ≤ 3 ∧ okPick a b (xs, ys) = true ∧ ∀ H', Same H H' → Q (.bl true) H'
def tMT (K : PySem.W.Frag) : TT := tTest (tOp rNe (tCB (rReprA K) (tCons (tCall spMill [] E0 (tCons (tVar 0) tNil)) tNil)) (tCB (rReprA K) (tCons (tIf (tTest (tOp (rNeD K) (tVar 1) (tLst tNil))) (tOp (rIxL K) (tVar 1) (tC (V.int 0))) (tC V.non)) tNil)))
theorem mt_ok {σ : L2.St} {H G : Hp} {Q : Bool → Hp → Prop} {t D : Addr} {a b : Nat} {xs ys : List Int} (h0 : σ[0]? = some (some (.ref t))) (h1 : σ[1]? = some (some (.ref D))) (pk : PickAt G t a b xs ys) (ha : a ≤ 3) (hb : b ≤ 3) (I : GrowV (vI (millsL xs ys a b)) H D G) (ok : millP xs ys a = (millsL xs ys a b).head?)
    (q : ∀ H', Same G H' → Q false H') : tMT K σ G Q := by
  have fl := fineL (xs := xs) (ys := ys) ha hb
  have mem := fun x (hx : x ∈ millsL xs ys a b) => millsL_mem ha hb hx
  generalize millsL xs ys a b = L at I ok fl mem
  refine ⟨.ref t, h0, t, a, b, xs, ys, rfl, pk, by omega, by omega, fun en H1 s1 => ?_, fun m em H1 T s1 nT hT => ?_⟩
  · have eL : L = [] := by
      rw [en] at ok
      cases L with
      | nil => rfl
      | cons x r => cases ok
    subst eL
    refine .inl (.inl ⟨rfl, ?_⟩)
    refine ⟨.ref D, h1, by decide, fun l nl => ?_⟩
    have s2 := same_upd (o := .lst []) nl
    refine ⟨_, _, ((I.same s1).same s2).dp, .lst (.inl (.inl upd_same)) .nil, fl.sp, fineNil.sp, ?_⟩
    rw [eqv_nil]
    refine ⟨false, rfl, iteF (.inl (.inl ⟨rfl, rfl, ?_⟩))⟩
    exact ⟨false, rfl, q _ (s1.trans s2)⟩
  · obtain ⟨r, eL⟩ : ∃ r, L = m :: r := by
      rw [em] at ok
      cases L with
      | nil => cases ok
      | cons x r => exact ⟨r, by rw [Option.some.inj ok]⟩
    have f5 := fine5 (mem m (by rw [eL]; exact List.mem_cons_self))
    have dd : ∀ (G' : Hp) (T' : Addr), G' T' = some (.tup (m.map V.int)) → Dp K G' (.ref T') (dT m) := fun G' T' h => .tup (.inl (.inl h)) (dpAll K G' m)
    generalize dT m = dm at f5 dd
    refine .inr ⟨T, dm, rfl, dd _ _ hT, f5.sh, f5.hd, f5.dp, f5.ln, ?_⟩
    refine ⟨.ref D, h1, by decide, fun l nl => ?_⟩
    have s2 := same_upd (o := .lst []) nl
    have I2 := (I.same s1).same s2
    refine ⟨_, _, I2.dp, .lst (.inl (.inl upd_same)) .nil, fl.sp, fineNil.sp, ?_⟩
    have en : L.isEmpty = false := by rw [eL]; rfl
    rw [eqv_nil, en]
    refine ⟨true, rfl, iteT ?_⟩
    obtain ⟨cs, _, hD, hc, e⟩ := I2
    have e' : cs.map (·.2) = m.map V.int :: vI r := by rw [e, eL]; rfl
    cases cs with
    | nil => cases e'
    | cons c cs =>
      have ec : c.2 = m.map V.int := (List.cons.inj e').1
      have hcc := hc c List.mem_cons_self
      rw [ec] at hcc
      refine ⟨.ref D, h1, D, _, 0, .ref c.1, rfl, rfl, .inl (.inl hD), atI_nat (j := 0) rfl, .inr ⟨c.1, dm, rfl, dd _ _ hcc, f5.sh, f5.hd, f5.dp, f5.ln, rfl, ?_⟩⟩
      have ef : (!decide (V.str (PyData.shown dm) = V.str (PyData.shown dm))) = false := by rw [decide_eq_true rfl]; rfl
      rw [ef]
      exact ⟨false, rfl, q _ (s1.trans s2)⟩
theorem ok_right {f fMs fPr fLM fC fMi fL fS fB fIm fW fBt fU fPb fM cF cB : Addr} {fd fdMs fdPr fdLM fdC fdMi fdL fdS fdB fdIm fdW fdBt fdU fdPb fdM : FuncData} {k : Nat} (F : Fun K "_law_pick_right" "_law_pick_right" sRight f fd) (FMs : Fun K "_law_mills" "_law_mills" sMills fMs fdMs) (FPr : Fun K "_law_pairs" "_law_pairs" sPairs fPr fdPr) (FLM : Fun K "_law_is_mill" "_law_is_mill" sLMill fLM fdLM) (FC : Fun K "_law_comes" "_law_comes" sLComes fC fdC)
    (FMi : Fun K "mill" "mill" sMill fMi fdMi) (FL : Fun K "leg_to_both" "leg_to_both" sLegB fL fdL) (FS : Fun K "size_of_pick" "size_of_pick" sSizeP fS fdS) (FB : Fun K "mill_between" "mill_between" sMillB fB fdB) (FIm : Fun K "is_mill" "is_mill" sIsMill fIm fdIm) (FW : Fun K "is_whole" "is_whole" sPWhole fW fdW) (FBt : Fun K "is_between" "is_between" sBetween fBt fdBt) (FU : Fun K "is_tuple_of" "is_tuple_of" sTupOf fU fdU) (FPb : Fun K "is_pair_below" "is_pair_below" sPairB fPb fdPb) (FM : Fun K "comes" "comes" sComes fM fdM)
    (bMs : Binds K fdMs ["_law_pick"] []) (bPr : Binds K fdPr ["_law_many"] []) (bLM : Binds K fdLM ["_law_pick", "_law_i", "_law_k", "_law_j", "_law_l", "_law_turn"] []) (bC : Binds K fdC ["_law_pick", "_law_i", "_law_j"] []) (bMi : Binds K fdMi ["pick"] []) (bL : Binds K fdL ["x", "i", "k"] []) (bS : Binds K fdS ["pick"] []) (bB : Binds K fdB ["pick", "i", "k"] []) (bIm : Binds K fdIm ["pick", "thing"] []) (bW : Binds K fdW ["thing"] []) (bBt : Binds K fdBt ["thing", "least", "most"] []) (bU : Binds K fdU ["thing", "many"] []) (bPb : Binds K fdPb ["one", "other", "many"] []) (bM : Binds K fdM ["pick", "i", "j"] [])
    (gMs : mg "_law_mills" = some (.ref fMs)) (gPr : mg "_law_pairs" = some (.ref fPr)) (gLM : mg "_law_is_mill" = some (.ref fLM)) (gC : mg "_law_comes" = some (.ref fC)) (gMi : mg "mill" = some (.ref fMi)) (gL : mg "leg_to_both" = some (.ref fL)) (gS : mg "size_of_pick" = some (.ref fS)) (gB : mg "mill_between" = some (.ref fB)) (gIm : mg "is_mill" = some (.ref fIm)) (gW : mg "is_whole" = some (.ref fW)) (gBt : mg "is_between" = some (.ref fBt)) (gU : mg "is_tuple_of" = some (.ref fU)) (gPb : mg "is_pair_below" = some (.ref fPb)) (gM : mg "comes" = some (.ref fM))
    (gF : mg "LEGS_FORTH" = some (.ref cF)) (gK : mg "LEGS_BACK" = some (.ref cB)) (hF : ∀ G : Hp, SqT K G cF [.int 0, .int 1, .int 2, .int 3]) (hB : ∀ G : Hp, SqT K G cB [.int 2, .int 3, .int 0, .int 1])
    (mi : mg "isinstance" = none) (mint : mg "int" = none) (mbool : mg "bool" = none) (mtup : mg "tuple" = none) (ml : mg "len" = none) (mall : mg "all" = none) (mr : mg "range" = none) (mmin : mg "min" = none) (mmax : mg "max" = none) (mrep : mg "repr" = none) : FnG P w K mg base (k + 5) f fd ["_law_pick"] spRight := by
  have GMs : FnOk P w K mg base CX0 3 fMs fdMs ["_law_pick"] spMills := ok_mills FMs FPr FLM FC bPr bLM bC gPr gLM gC mint mall mr ml
  have GPr : FnOk P w K mg base CX0 1 fPr fdPr ["_law_many"] spPairs := ok_pairs FPr mr
  have GMi : FnOk P w K mg base CX0 3 fMi fdMi ["pick"] spMill := ok_mill FMi FL FS FB bL bS bB gL gS gB mr mmin mmax ml
  have GIm : FnOk P w K mg base CX0 (k + 4) fIm fdIm ["pick", "thing"] spIsMill := ok_ismill FIm FW FBt FU FS FPb FM bW bBt bU bS bPb bM gW gBt gU gS gPb gM gF gK hF hB mi mint mbool mtup ml
  refine okG F scRight (fun vs H Q E h => ?_) (fun cdv A outer s H vs Q E hgd hr h => ?_)
  · obtain ⟨t, a, b, xs, ys, rfl, _⟩ := h
    rfl
  · obtain ⟨t, a, b, xs, ys, rfl, pk, ha, hb, ok, q⟩ := h
    obtain ⟨tx, ty, h1, h2, h3, l1, l2, u1, u2⟩ := id pk
    have nd := scRight.nd
    have u65 : ∀ {A' : Around}, Room (k + 4) A' → A'.units + 65 < cLine := fun r => by have := r.un; omega
    unfold okPick at ok
    rw [Bool.and_eq_true] at ok
    obtain ⟨ok1, ok2⟩ := ok
    have ok1' : millP xs ys a = (millsL xs ys a b).head? := of_decide_eq_true ok1
    have ok3 : ∀ p ∈ pairsN a, ∀ r ∈ pairsN b, ∀ t : Int, t = 1 ∨ t = -1 → isMillB xs ys p.1 p.2 r.1 r.2 t = (millsL xs ys a b).contains (five p r t) := fun p hp r hr t ht => by
      have z := List.all_eq_true.mp (List.all_eq_true.mp (List.all_eq_true.mp ok2 p hp) r hr) t (by rcases ht with rfl | rfl <;> simp)
      exact beq_iff_eq.mp z
    have t1 : ∀ G, Same H G → SqT K G t [.ref tx, .ref ty] := fun G sm => .inl (.inl (sm _ _ h1))
    refine ⟨_, pss_cons (ps_set (i := 1) nd rfl (.inl rfl) (pe_call GMs (hr.mono (by omega)) (by rfl) gMs FMs.kp bMs .nil pass0 (pa_cons (pv 0) pa_nil)))
      (pss_cons (ps_if (pt_cmpR op_ne (pe_callB (call_reprA hr.units hgd) (by rfl) mrep (by decide +kernel) (pa_cons (pe_call GMi (hr.mono (by omega)) (by rfl) gMi FMi.kp bMi .nil pass0 (pa_cons (pv 0) pa_nil)) pa_nil)) (pe_callB (call_reprA hr.units hgd) (by rfl) mrep (by decide +kernel) (pa_cons (pe_ifExp (pt_cmpR (op_neD hr.units) (pv 1) (pe_lst pa_nil) (nomark _)) (pe_ix ix_list (pv 1) pe_int (fun _ _ => rfl)) pe_non) pa_nil)) (nomark _)) (pss_one (ps_ret pe_bl)) pss_nil)
      (pss_cons (ps_for PassesOwn.never rfl (pi_list (pe_call GPr (hr.mono (by omega)) (by rfl) gPr FPr.kp bPr .nil pass0 (pa_cons (pe_callB call_len_seq (by rfl) ml PySem.boot_len (pa_cons (pe_ix ix_tup (pv 0) pe_int (fun _ _ => rfl)) pa_nil)) pa_nil))) (pg_tup rfl (pgs_cons (pg_name (i := 2) nd rfl (.inl rfl)) (pgs_cons (pg_name (i := 3) nd rfl (.inl rfl)) pgs_nil))) (pss_one (ps_for PassesOwn.never rfl (pi_list (pe_call GPr (hr.mono (by omega)) (by rfl) gPr FPr.kp bPr .nil pass0 (pa_cons (pe_callB call_len_seq (by rfl) ml PySem.boot_len (pa_cons (pe_ix ix_tup (pv 0) pe_int (fun _ _ => rfl)) pa_nil)) pa_nil))) (pg_tup rfl (pgs_cons (pg_name (i := 4) nd rfl (.inl rfl)) (pgs_cons (pg_name (i := 5) nd rfl (.inl rfl)) pgs_nil))) (pss_one (ps_for PassesOwn.never rfl (pi_tup (pe_tup (pa_cons (pe_un un_neg pe_int) (pa_cons pe_int pa_nil)))) (pg_name (i := 6) nd rfl (.inl rfl)) (pss_one (ps_if (pt_cmpR op_ne (pe_callB (call_reprA hr.units hgd) (by rfl) mrep (by decide +kernel) (pa_cons (pe_call GIm hr (by rfl) gIm FIm.kp bIm .nil pass0 (pa_cons (pv 0) (pa_cons (pe_tup (pa_cons (pv 2) (pa_cons (pv 3) (pa_cons (pv 4) (pa_cons (pv 5) (pa_cons (pv 6) pa_nil)))))) pa_nil))) pa_nil)) (pe_callB (call_reprA hr.units hgd) (by rfl) mrep (by decide +kernel) (pa_cons (pe_cmpR (op_inD (u65 hr)) (pe_tup (pa_cons (pv 2) (pa_cons (pv 3) (pa_cons (pv 4) (pa_cons (pv 5) (pa_cons (pv 6) pa_nil)))))) (pv 1) (by rfl)) pa_nil)) (nomark _)) (pss_one (ps_ret pe_bl)) pss_nil)))))))
      (pss_one (ps_ret pe_bl)))), ?_⟩
    refine ⟨.ref t, rfl, t, a, b, xs, ys, rfl, pk, ha, hb, fun G1 D1 I1 n1 => ?_⟩
    show tSeq (tIfS (tMT K) (tRet (tC (V.bl false))) tNext) _ _ _ _
    refine mt_ok (a := a) (b := b) (xs := xs) (ys := ys) (H := H) (t := t) (D := D1) rfl rfl (pk.same I1.sub) ha hb I1 ok1' fun G2 s2 => iteF ?_
    have I2 := I1.same s2
    have sm2 : Same H G2 := I2.sub
    refine ⟨.ref t, rfl, t, _, 1, .ref ty, rfl, rfl, t1 _ sm2, rfl, ty, _, rfl, .inr (.inl (.inl (sm2 _ _ h3))), a, ?_, by omega, fun G3 D3 J3 n3 => ⟨D3, rfl, ?_⟩⟩
    · rw [List.length_map, l2]
      rfl
    obtain ⟨cs3, sm3, hD3, hc3, e3⟩ := J3
    refine ⟨⟨_, .inl (.inl hD3)⟩, ?_⟩
    refine for_list (xs := vrefs cs3) (fun m σ G => Same G3 G ∧ ∃ y2 y3 y4 y5 y6, σ = [some (.ref t), some (.ref D1), y2, y3, y4, y5, y6]) ⟨Same.refl _, _, _, _, _, _, rfl⟩ (fun m σ G _ h => .inl (.inl (h.1 _ _ hD3))) ?_ ?_
    · rintro m x σ G hx ⟨sm, y2, y3, y4, y5, y6, rfl⟩
      obtain ⟨c, y, rfl, hy, hmem⟩ := cell_at e3 hx
      rw [List.getElem?_map] at hy
      obtain ⟨p, hp, rfl⟩ := Option.map_eq_some_iff.mp hy
      have hpm := List.mem_of_getElem? hp
      have pm := pairsN_mem hpm
      refine ⟨c, _, rfl, .inl (.inl (sm _ _ (hc3 _ hmem))), rfl, _, _, rfl, _, _, rfl, rfl, ?_⟩
      have smG : Same H G := sm2.trans (sm3.trans sm)
      refine ⟨.ref t, rfl, t, _, 0, .ref tx, rfl, rfl, t1 _ smG, rfl, tx, _, rfl, .inr (.inl (.inl (smG _ _ h2))), b, ?_, by omega, fun G4 D4 J4 n4 => ⟨D4, rfl, ?_⟩⟩
      · rw [List.length_map, l1]
        rfl
      obtain ⟨cs4, sm4, hD4, hc4, e4⟩ := J4
      refine ⟨⟨_, .inl (.inl hD4)⟩, ?_⟩
      refine for_list (xs := vrefs cs4) (fun m' σ G' => Same G4 G' ∧ ∃ y4 y5 y6, σ = [some (.ref t), some (.ref D1), some (.int (p.1 : Int)), some (.int (p.2 : Int)), y4, y5, y6]) ⟨Same.refl _, _, _, _, rfl⟩ (fun m' σ G' _ h => .inl (.inl (h.1 _ _ hD4))) ?_ ?_
      · rintro m' x σ G' hx' ⟨sm', y4, y5, y6, rfl⟩
        obtain ⟨c', y', rfl, hy', hmem'⟩ := cell_at e4 hx'
        rw [List.getElem?_map] at hy'
        obtain ⟨r, hr', rfl⟩ := Option.map_eq_some_iff.mp hy'
        have hrm := List.mem_of_getElem? hr'
        have rm := pairsN_mem hrm
        refine ⟨c', _, rfl, .inl (.inl (sm' _ _ (hc4 _ hmem'))), rfl, _, _, rfl, _, _, rfl, rfl, ?_⟩
        refine ⟨1, rfl, by show 2 ≤ sizeLine; decide, fun T nT => ⟨T, rfl, ⟨_, .inl (.inl upd_same)⟩, ?_⟩⟩
        have sT := same_upd (o := .tup [.int (-1), .int 1]) nT
        refine for_tup (xs := [.int (-1), .int 1]) (fun i σ G5 => Same (upd G' T (.tup [.int (-1), .int 1])) G5 ∧ ∃ y6, σ = [some (.ref t), some (.ref D1), some (.int (p.1 : Int)), some (.int (p.2 : Int)), some (.int (r.1 : Int)), some (.int (r.2 : Int)), y6]) ⟨Same.refl _, _, rfl⟩ (fun i σ G5 _ h => .inl (.inl (h.1 _ _ upd_same))) ?_ ?_
        · rintro i v σ G5 hv ⟨sm5, y6, rfl⟩
          have i2 : i < 2 := (List.getElem?_eq_some_iff.mp hv).1
          obtain ⟨v', ev, hv'⟩ : ∃ v' : Int, v = .int v' ∧ (v' = 1 ∨ v' = -1) := by
            rcases (show i = 0 ∨ i = 1 by omega) with rfl | rfl
            · exact ⟨-1, (Option.some.inj hv).symm, .inr rfl⟩
            · exact ⟨1, (Option.some.inj hv).symm, .inl rfl⟩
          subst ev
          have s25 : Same G2 G5 := sm3.trans (sm.trans (sm4.trans (sm'.trans (sT.trans sm5))))
          refine ⟨.ref t, rfl, .int (p.1 : Int), rfl, .int (p.2 : Int), rfl, .int (r.1 : Int), rfl, .int (r.2 : Int), rfl, .int v', rfl, by show 5 ≤ sizeLine; decide, fun T6 n6 => ?_⟩
          have s6 := same_upd (o := .tup [.int (p.1 : Int), .int (p.2 : Int), .int (r.1 : Int), .int (r.2 : Int), .int v']) n6
          have s26 := s25.trans s6
          refine ⟨t, T6, a, b, p.1, p.2, r.1, r.2, v', xs, ys, rfl, pk.same (sm2.trans s26), upd_same, pm.1, pm.2, rm.1, rm.2, hv', fun G7 s7 => .inl (.inr ⟨_, rfl, ?_⟩)⟩
          refine ⟨.int (p.1 : Int), rfl, .int (p.2 : Int), rfl, .int (r.1 : Int), rfl, .int (r.2 : Int), rfl, .int v', rfl, by show 5 ≤ sizeLine; decide, fun T8 n8 => ⟨.ref D1, rfl, ?_⟩⟩
          have s8 := same_upd (o := .tup ((five p r v').map V.int)) n8
          have fv := fine5 (five_ok (p := p) (q := r) (t := v') (by omega) (by omega) hv')
          have fl := fineL (xs := xs) (ys := ys) ha hb
          have d8 : Dp K (upd G7 T8 (.tup ((five p r v').map V.int))) (.ref T8) (dT (five p r v')) := .tup (.inl (.inl upd_same)) (dpAll K _ _)
          have dL := (I2.same (s26.trans (s7.trans s8))).dp (K := K)
          refine ⟨dT (five p r v'), (millsL xs ys a b).map dT, d8, dL, fv.sp, fl.sp, .inl (.inr ⟨_, rfl, rfl, ?_⟩)⟩
          rw [any_dT, ← ok3 p hpm r hrm v' hv']
          generalize isMillB xs ys p.1 p.2 r.1 r.2 v' = B0
          have ef : (!decide (V.str (if B0 = true then "True" else "False") = V.str (if B0 = true then "True" else "False"))) = false := by rw [decide_eq_true rfl]; rfl
          refine ⟨false, by rw [← ef], iteF ⟨sm5.trans (s6.trans (s7.trans s8)), _, rfl⟩⟩
        · rintro σ G5 ⟨sm5, y6, rfl⟩
          exact ⟨sm'.trans (sT.trans sm5), _, _, _, rfl⟩
      · rintro σ G' ⟨sm', y4, y5, y6, rfl⟩
        exact ⟨sm.trans (sm4.trans sm'), _, _, _, _, _, rfl⟩
    · rintro σ G ⟨sm, y2, y3, y4, y5, y6, rfl⟩
      exact q G (sm2.trans (sm3.trans sm))
end
end C2

namespace C2
set_option Elab.async false
set_option linter.all false
set_option maxRecDepth 100000
set_option maxHeartbeats 1000000
open PySem PySem.Spec PyProof.Rows L2
def rCntD (K : PySem.W.Frag) : V → List V → Hp → VK → Prop := fun x xs H Q => ∃ (p : Addr) (ys : List V) (ds : List PyData) (y : V) (d : PyData), x = .ref p ∧ xs = [y] ∧ SqL K H p ys ∧ DpAll K H ys ds ∧ Dp K H y d ∧
  PyData.plainAll ds = true ∧ d.plain = true ∧ d.depth ≤ 60 ∧ Q (.int ((ds.countP fun z => PyData.eqv z d : Nat) : Int)) H
section
variable {X : Cx}
theorem mt_lcountD (hu : X.A.units + 64 < cLine) : MtR X "list.count" (rCntD X.K) := by
  intro pins s σ H x xs v us Q I rx rxs h
  obtain ⟨p, ys, ds, y, d, rfl, rfl, hs, ha, hd, p1, p2, dp, q⟩ := h
  cases rx
  obtain ⟨u, rfl, ru⟩ := rxs.one
  obtain ⟨its, rv, hl, _⟩ := I.list hs
  obtain ⟨as, r1⟩ := Dp.readsAll I ds ys its ha rv
  obtain ⟨bs, r2⟩ := Dp.reads I d y u hd ru
  have hm : min (PyData.depthAll ds) d.depth ≤ 60 := Nat.le_trans (Nat.min_le_right _ _) dp
  exact SeqAt.count_list_data (vs := its.toArray) hl.isList r1 r2 p1 p2 (by omega) ⟨.int _, H, I.tok _, ⟨_, rfl⟩, q⟩
end
/-! ### calls of defs that call repr -/
section
variable {X : Cx} {k : Nat} {f : Addr} {fd : FuncData} {ps : List Str} {sp : Sp}
theorem run_fnG {pins : List (Addr × Obj)} {σ : L2.St} {G : Hp} {s : Shared} {Q : VK} {us : List Value} {vs : List V} (F : FnG X.prog X.w X.K X.mg X.base k f fd ps sp) (hgd : X.A.guards = some []) (hr : Room k X.A) (hb : Binds X.K fd ps [])
    (I : Inv X pins σ G s) (r : Vals vs us) (h : sp vs G Q E0) : wpAny (model X.prog X.w) X.A (call (.ref f) us) (EP X pins σ Q) X.xe s := by
  have ln : us.length = ps.length := by rw [← r.length]; exact F.len _ _ _ _ h
  have hb' := hb s us I.kIn (by simpa using ln)
  simp only [List.append_nil] at hb'
  refine wpAny_call (codeAny_mono (F.run X.A X.stack s G ⟨us, []⟩ us vs Q E0 hgd hr I.env0 hb' r h) fun r s' hq => ?_)
  cases r with
  | error err => exact hq.elim
  | ok fl => cases fl with
    | ret u => exact I.after hq
    | next => exact False.elim hq
    | brk => exact False.elim hq
    | cont => exact False.elim hq
theorem pe_callG {x : Str} {e : Expr} {es : List Expr} {t : TA} {p pos : Pos} (F : FnG X.prog X.w X.K X.mg X.base k f fd ps sp) (hgd : X.A.guards = some []) (hr : Room k X.A) (hg : Gl X x) (hm : X.mg x = some (.ref f)) (hk : PySem.W.keepIn X.K (.ref f) = true) (hb : Binds X.K fd ps []) (ha : PA X (e :: es) t)
    (plainName : (x == ("__debug__" : Str)) = false := by decide)
    (plainArgs : starEach (e :: es) X.env = (false, eval e X.env) :: starEach es X.env := by rfl)
    (noStar : (backTo pos (starEach es X.env)).any (·.1) = false := by rfl) :
    PE X (.Call (.Name x p) (e :: es) [] pos) (fun σ G Q => t σ G fun vs G1 => sp vs G1 Q E0) := by
  refine ⟨fun pins s σ G Q I h => wpAny_Call_Name_kw (ld_glob I hg hm ?_ plainName)⟩
  exact PySem.W.callWith_K (h₀ := X.base) I.ok.mod.kin hk (thn (ha.run pos pins s σ G _ I h) fun us s1 ⟨vs, G1, I1, r, q⟩ => ⟨I1.kIn, run_fnG F hgd hr hb I1 r q⟩) plainArgs noStar
end
theorem all_rep (n : Nat) : (List.replicate n true).all id = true := by
  rw [List.all_eq_true]
  intro b hb
  exact (List.mem_replicate.mp hb).2
theorem all_step {H G : Hp} {D : Addr} {i : Nat} (sm : Same H G) (nD : H D = none) : Same H (upd G D (.lst ((List.replicate i true).map V.bl ++ [.bl true]))) ∧
    (upd G D (.lst ((List.replicate i true).map V.bl ++ [.bl true]))) D = some (.lst ((List.replicate (i + 1) true).map V.bl)) := by
  refine ⟨fun b o e => ?_, ?_⟩
  · rw [upd_ne (ne_of_none e nD)]
    exact sm _ _ e
  · rw [upd_same, List.replicate_succ', List.map_append]
    rfl
theorem pk_at {L : List (List Int × List Int)} {ps : List PK} {m : Nat} {x : V} (e : ps.map (·.2) = L) (hx : (prefs ps)[m]? = some x) : ∃ c : PK, x = .ref c.1 ∧ c ∈ ps ∧ c.2 ∈ L ∧ L[m]? = some c.2 := by
  have hm : m < ps.length := by
    have := (List.getElem?_eq_some_iff.mp hx).1
    rw [List.length_map] at this
    exact this
  rw [List.getElem?_map, List.getElem?_eq_getElem hm] at hx
  refine ⟨ps[m], (Option.some.inj hx).symm, List.getElem_mem hm, ?_, ?_⟩
  · rw [← e]
    exact List.mem_map.mpr ⟨_, List.getElem_mem hm, rfl⟩
  · rw [← e, List.getElem?_map, List.getElem?_eq_getElem hm]
    rfl
/-- what mill told, as a thing and as data -/
def MT (G : Hp) (v : V) : Option (List Int) → Prop
  | none => v = .non
  | some m => ∃ T, v = .ref T ∧ G T = some (.tup (m.map V.int))
theorem MT.same {G G' : Hp} {v : V} {o : Option (List Int)} (h : MT G v o) (s : Same G G') : MT G' v o := by
  cases o with
  | none => exact h
  | some m =>
    obtain ⟨T, e, hT⟩ := h
    exact ⟨T, e, s _ _ hT⟩
theorem MT.upd {G : Hp} {v : V} {o : Option (List Int)} {D : Addr} {zs : List V} {ob : HO} (h : MT G v o) (hD : G D = some (.lst zs)) : MT (L2.upd G D ob) v o := by
  cases o with
  | none => exact h
  | some m =>
    obtain ⟨T, e, hT⟩ := h
    exact ⟨T, e, by rw [upd_ne (ne_of hT hD (by intro z; cases z))]; exact hT⟩
def dM : Option (List Int) → PyData
  | none => .none
  | some m => dT m
theorem dpMT {K : PySem.W.Frag} {G : Hp} : ∀ {cs : List (V × Option (List Int))}, (∀ c ∈ cs, MT G c.1 c.2) → DpAll K G (cs.map (·.1)) (cs.map fun c => dM c.2)
  | [], _ => .nil
  | (v, none) :: r, h => by
    have e : v = .non := h _ List.mem_cons_self
    subst e
    exact .cons .non (dpMT fun c hc => h c (List.mem_cons_of_mem _ hc))
  | (v, some m) :: r, h => by
    obtain ⟨T, e, hT⟩ := h _ List.mem_cons_self
    have e' : v = .ref T := e
    subst e'
    exact .cons (.tup (.inl (.inl hT)) (dpAll K G m)) (dpMT fun c hc => h c (List.mem_cons_of_mem _ hc))
theorem plain_dT : ∀ x : List Int, PyData.plainAll (x.map PyData.int) = true
  | [] => by simp [PyData.plainAll]
  | v :: r => by simp [PyData.plainAll, PyData.plain, plain_dT r]
theorem plainM : ∀ cs : List (V × Option (List Int)), PyData.plainAll (cs.map fun c => dM c.2) = true
  | [] => by simp [PyData.plainAll]
  | (v, o) :: r => by
    have ih := plainM r
    have e : PyData.plain (dM o) = true := by
      cases o with
      | none => rfl
      | some m =>
        show PyData.plain (.tuple _) = true
        simp [PyData.plain, plain_dT m]
    rw [List.map_cons, PyData.plainAll, e, ih]
    rfl
theorem countM (cs : List (V × Option (List Int))) : ((cs.map fun c => dM c.2).countP fun z => PyData.eqv z .none) = (cs.map (·.2)).countP fun o => o.isNone := by
  rw [List.countP_map, List.countP_map]
  refine congrArg (fun f => List.countP f cs) (funext fun c => ?_)
  obtain ⟨v, o⟩ := c
  cases o with
  | none => simp [dM, PyData.eqv]
  | some m => simp [dM, PyData.eqv]
theorem PkCell.fr {G G' : Hp} {p : Addr} {n : Nat} {c : PK} (h : PkCell G c) (hP : PotAt G p n) (f : Fr p G G') : PkCell G' c := by
  obtain ⟨tx, ty, h1, h2, h3⟩ := h
  obtain ⟨g, cc, u, hp, _⟩ := hP
  have k : ∀ {e : Addr} {ys : List V}, G e = some (.tup ys) → G' e = some (.tup ys) := fun {e ys} he => f _ _ (ne_of he hp (by intro z; cases z)) he
  exact ⟨tx, ty, k h1, k h2, k h3⟩
abbrev NLw : List Str := ["_law_script", "_law_picks_here", "_law_a", "_law_b", "_law_pot_here", "_law_some", "_law_pick", "_law_turn"]
theorem scLaw : FnScope NLw ["_law_script"] (defScope sLaw) := ⟨rfl, rfl, rfl, by decide +kernel, rfl, by decide +kernel, by decide +kernel⟩
def teR : TE := fun σ G Q => (tCons (tVar 6) tNil) σ G fun vs G1 => spRight vs G1 Q E0
def teM : TE := tCall spMill [] E0 (tCons (tVar 6) tNil)
def rIsN0 : R2 := fun x y H Q => y = .non ∧ Q (.bl (decide (x = .non))) H
def teN : TE := tOp rIsN0 teM (tC .non)
def teO (K : PySem.W.Frag) : TE := fun σ G Q => (tCons (tCall (spOf K) [] E0 (tCons (tVar 4) (tCons (tVar 5) tNil))) tNil) σ G fun vs G1 => spRight vs G1 Q E0
def spLaw (K : PySem.W.Frag) : Sp := fun vs H Q _ => ∃ (a : Addr) (ns : List Int), vs = [.ref a] ∧ SqL K H a (ns.map V.int) ∧ ns.length ≤ 63 ∧ ∀ H', Q (.bl true) H'
section
variable {P : Program} {w : World} {K : PySem.W.Frag} {mg : Str → Option Value} {base : Heap}
/-- all([pick_right(p) for p in ps]) -/
theorem allR_ok {σ : L2.St} {H G : Hp} {Q : VK} {a b i : Nat} {D : Addr} (hi : σ[i]? = some (some (.ref D))) (hw : ∀ v, wipe ((wipe σ [6]).set 6 (some v)) [6] = wipe σ [6]) (h6 : ∀ v : V, ((wipe σ [6]).set 6 (some v))[6]? = some (some v)) (ha : a ≤ 3) (hb : b ≤ 3) (I : PkI (picksL a b) H D G) (few : (picksL a b).length < 1000) (ok : (picksL a b).all (okPick a b) = true)
    (q : ∀ G', Same G G' → Q (.bl true) G') : tCB (rAll K) (tCons (tLc (iList K (tVar i)) (gName 6) tYes teR [6]) tNil) σ G Q := by
  obtain ⟨ps, sm, hD, hc, e⟩ := I
  have lps : ps.length < 1000 := by
    have : ps.length = (picksL a b).length := by rw [← e, List.length_map]
    omega
  refine ⟨_, hi, D, rfl, ⟨_, .inl (.inl hD)⟩, fun D2 nD2 => ?_⟩
  refine lc_list (xs := prefs ps) (fun m G' => Same G G' ∧ G' D2 = some (.lst ((List.replicate m true).map V.bl))) ⟨same_upd nD2, upd_same⟩ (fun m G' _ h => .inl (.inl (h.1 _ _ hD))) ?_ ?_
  · rintro m x G' hx ⟨s1, h1⟩
    have hm : m < ps.length := by
      have := (List.getElem?_eq_some_iff.mp hx).1
      rw [List.length_map] at this
      exact this
    obtain ⟨c, rfl, hcm, hcL, _⟩ := pk_at e hx
    refine ⟨hw _, ?_⟩
    simp only [tYes, ↓reduceIte]
    refine ⟨_, h6 _, c.1, a, b, c.2.1, c.2.2, rfl, ((hc c hcm).same s1).pick hcL, ha, hb, List.all_eq_true.mp ok c.2 hcL, fun G2 s2 => ⟨_, s2 _ _ h1, ?_, all_step (s1.trans s2) nD2⟩⟩
    rw [List.length_map, List.length_replicate]
    exact Nat.lt_of_lt_of_le (show m < 1000 by omega) (by decide)
  · rintro G' ⟨s1, h1⟩
    refine ⟨D2, List.replicate (prefs ps).length true, rfl, .inl (.inl h1), ?_⟩
    rw [all_rep]
    exact q G' s1
/-- [mill(p) for p in ps].count(None) -/
theorem cnt_ok {σ : L2.St} {H G : Hp} {Q : VK} {a b i : Nat} {D : Addr} (hi : σ[i]? = some (some (.ref D))) (hw : ∀ v, wipe ((wipe σ [6]).set 6 (some v)) [6] = wipe σ [6]) (h6 : ∀ v : V, ((wipe σ [6]).set 6 (some v))[6]? = some (some v)) (ha : a ≤ 3) (hb : b ≤ 3) (I : PkI (picksL a b) H D G) (few : (picksL a b).length < 1000)
    (q : ∀ G', Same G G' → Q (.int (((picksL a b).countP fun p => (millP p.1 p.2 a).isNone : Nat) : Int)) G') : tBM K "list" (rCntD K) (tLc (iList K (tVar i)) (gName 6) tYes teM [6]) (tCons (tC V.non) tNil) σ G Q := by
  obtain ⟨ps, sm, hD, hc, e⟩ := I
  have lps : ps.length < 1000 := by
    have : ps.length = (picksL a b).length := by rw [← e, List.length_map]
    omega
  refine ⟨_, hi, D, rfl, ⟨_, .inl (.inl hD)⟩, fun D2 nD2 => ?_⟩
  refine lc_list (xs := prefs ps) (fun m G' => Same G G' ∧ ∃ cs : List (V × Option (List Int)), G' D2 = some (.lst (cs.map (·.1))) ∧ (∀ c ∈ cs, MT G' c.1 c.2) ∧ cs.map (·.2) = ((picksL a b).take m).map fun p => millP p.1 p.2 a) ⟨same_upd nD2, [], upd_same, fun c hc => (by cases hc), rfl⟩ (fun m G' _ h => .inl (.inl (h.1 _ _ hD))) ?_ ?_
  · rintro m x G' hx ⟨s1, cs, h1, hmt, ecs⟩
    have hm : m < ps.length := by
      have := (List.getElem?_eq_some_iff.mp hx).1
      rw [List.length_map] at this
      exact this
    obtain ⟨c, rfl, hcm, hcL, hget⟩ := pk_at e hx
    have lcs : cs.length ≤ m := by
      have := congrArg List.length ecs
      rw [List.length_map, List.length_map, List.length_take] at this
      omega
    have fin : ∀ (v : V) (G2 : Hp), Same G' G2 → MT G2 v (millP c.2.1 c.2.2 a) → ∃ acc, G2 D2 = some (.lst acc) ∧ acc.length < sizeLine ∧ (Same G (upd G2 D2 (.lst (acc ++ [v]))) ∧ ∃ cs : List (V × Option (List Int)), (upd G2 D2 (.lst (acc ++ [v]))) D2 = some (.lst (cs.map (·.1))) ∧ (∀ c ∈ cs, MT (upd G2 D2 (.lst (acc ++ [v]))) c.1 c.2) ∧ cs.map (·.2) = ((picksL a b).take (m + 1)).map fun p => millP p.1 p.2 a) := by
      intro v G2 s2 mt
      refine ⟨_, s2 _ _ h1, ?_, ?_, cs ++ [(v, millP c.2.1 c.2.2 a)], ?_, ?_, ?_⟩
      · rw [List.length_map]
        exact Nat.lt_of_lt_of_le (show cs.length < 1000 by omega) (by decide)
      · intro b' o eb
        rw [upd_ne (ne_of_none eb nD2)]
        exact s2 _ _ (s1 _ _ eb)
      · rw [upd_same, List.map_append]
        rfl
      · intro c' hc'
        rcases List.mem_append.mp hc' with h | h
        · exact ((hmt c' h).same s2).upd (s2 _ _ h1)
        · rw [List.mem_singleton.mp h]
          exact mt.upd (s2 _ _ h1)
      · rw [List.map_append, ecs, List.take_add_one, hget, List.map_append]
        rfl
    refine ⟨hw _, ?_⟩
    simp only [tYes, ↓reduceIte]
    refine ⟨_, h6 _, c.1, a, b, c.2.1, c.2.2, rfl, ((hc c hcm).same s1).pick hcL, by omega, by omega, fun en G2 s2 => ?_, fun mm em G2 T s2 nT hT => ?_⟩
    · exact fin .non G2 s2 (by rw [en]; exact rfl)
    · exact fin (.ref T) G2 s2 (by rw [em]; exact ⟨T, rfl, hT⟩)
  · rintro G' ⟨s1, cs, h1, hmt, ecs⟩
    have el : (prefs ps).length = (picksL a b).length := by rw [List.length_map, ← e, List.length_map]
    rw [el, List.take_length] at ecs
    refine ⟨.inl ⟨rfl, _, .inl (.inl h1)⟩, D2, _, cs.map fun c => dM c.2, .non, .none, rfl, rfl, .inl (.inl h1), dpMT hmt, .non, plainM cs, rfl, Nat.zero_le _, ?_⟩
    rw [countM, ecs, List.countP_map]
    exact q G' s1
/-- all([mill(p) is None for p in picks(a, b)]) -/
theorem allN_ok {σ : L2.St} {G : Hp} {Q : VK} {a b : Nat} (h2 : σ[2]? = some (some (.int (a : Int)))) (h3 : σ[3]? = some (some (.int (b : Int)))) (hw : ∀ v, wipe ((wipe σ [6]).set 6 (some v)) [6] = wipe σ [6]) (h6 : ∀ v : V, ((wipe σ [6]).set 6 (some v))[6]? = some (some v)) (ha : a ≤ 3) (hb : b ≤ 3) (few : (placesL b a).length * (placesL a b).length ≤ 900) (lp : (picksL a b).length < 1000) (no : (picksL a b).all (fun p => (millP p.1 p.2 a).isNone) = true)
    (q : ∀ G', Same G G' → Q (.bl true) G') : tCB (rAll K) (tCons (tLc (iList K (tCall spPicks [] E0 (tCons (tVar 2) (tCons (tVar 3) tNil)))) (gName 6) tYes teN [6]) tNil) σ G Q := by
  refine ⟨_, h2, _, h3, a, b, rfl, ha, hb, few, fun G1 D I nD => ⟨D, rfl, ?_⟩⟩
  obtain ⟨ps, sm, hD, hc, e⟩ := I
  have lps : ps.length < 1000 := by
    have : ps.length = (picksL a b).length := by rw [← e, List.length_map]
    omega
  refine ⟨⟨_, .inl (.inl hD)⟩, fun D2 nD2 => ?_⟩
  refine lc_list (xs := prefs ps) (fun m G' => Same G1 G' ∧ G' D2 = some (.lst ((List.replicate m true).map V.bl))) ⟨same_upd nD2, upd_same⟩ (fun m G' _ h => .inl (.inl (h.1 _ _ hD))) ?_ ?_
  · rintro m x G' hx ⟨s1, h1⟩
    have hm : m < ps.length := by
      have := (List.getElem?_eq_some_iff.mp hx).1
      rw [List.length_map] at this
      exact this
    obtain ⟨c, rfl, hcm, hcL, _⟩ := pk_at e hx
    have none := List.all_eq_true.mp no c.2 hcL
    refine ⟨hw _, ?_⟩
    simp only [tYes, ↓reduceIte]
    refine ⟨_, h6 _, c.1, a, b, c.2.1, c.2.2, rfl, ((hc c hcm).same s1).pick hcL, by omega, by omega, fun _ G2 s2 => ⟨rfl, ?_⟩, fun mm em => ?_⟩
    · have ed : decide (V.non = V.non) = true := decide_eq_true rfl
      rw [ed]
      refine ⟨_, s2 _ _ h1, ?_, all_step (s1.trans s2) nD2⟩
      rw [List.length_map, List.length_replicate]
      exact Nat.lt_of_lt_of_le (show m < 1000 by omega) (by decide)
    · rw [em] at none
      cases none
  · rintro G' ⟨s1, h1⟩
    refine ⟨D2, List.replicate (prefs ps).length true, rfl, .inl (.inl h1), ?_⟩
    rw [all_rep]
    exact q G' (sm.trans s1)
/-- all([pick_right(of(pot, some)) for turn in range(60)]) -/
theorem allO_ok {σ : L2.St} {H G : Hp} {Q : VK} {a b n : Nat} {D p : Addr} (h4 : ∀ v : V, ((wipe σ [7]).set 7 (some v))[4]? = some (some (.ref p))) (h5 : ∀ v : V, ((wipe σ [7]).set 7 (some v))[5]? = some (some (.ref D))) (hw : ∀ v, wipe ((wipe σ [7]).set 7 (some v)) [7] = wipe σ [7]) (ha : a ≤ 3) (hb : b ≤ 3) (I : PkI (picksL a b) H D G) (ne : D ≠ p) (pos : 0 < (picksL a b).length) (few : (picksL a b).length < 1000) (ok : (picksL a b).all (okPick a b) = true) (hP : PotAt G p n) (hn : n < 1000)
    (q : ∀ G', Fr p G G' → PotAt G' p (n + 60) → Q (.bl true) G') : tCB (rAll K) (tCons (tLc (iRng1 (tCons (tC (V.int 60)) tNil)) (gName 7) tYes (teO K) [7]) tNil) σ G Q := by
  obtain ⟨ps, sm, hD, hc, e⟩ := I
  have lps : ps.length = (picksL a b).length := by rw [← e, List.length_map]
  refine ⟨60, rfl, by decide, by decide, fun D2 nD2 => ?_⟩
  have nD2p := hP.ne nD2
  refine lc_range (lo := 0) (n := 60) (fun m G' => Fr p G G' ∧ PotAt G' p (n + m) ∧ G' D2 = some (.lst ((List.replicate m true).map V.bl))) ⟨Fr.new nD2, hP.new nD2, upd_same⟩ ?_ ?_
  · rintro m G' hm ⟨f1, P1, h1⟩
    refine ⟨hw _, ?_⟩
    simp only [tYes, ↓reduceIte]
    refine ⟨_, h4 _, _, h5 _, p, D, prefs ps, n + m, rfl, P1, by omega, ne, .inl (.inl (f1 _ _ ne hD)), by rw [List.length_map]; omega, by rw [List.length_map]; omega, fun v G2 f2 P2 hv => ?_⟩
    obtain ⟨c, hcm, rfl⟩ := List.mem_map.mp hv
    have hcL : c.2 ∈ picksL a b := by rw [← e]; exact List.mem_map.mpr ⟨c, hcm, rfl⟩
    refine ⟨c.1, a, b, c.2.1, c.2.2, rfl, ((hc c hcm).fr hP (f1.trans f2)).pick hcL, ha, hb, List.all_eq_true.mp ok c.2 hcL, fun G3 s3 => ⟨_, s3 _ _ (f2 _ _ nD2p h1), ?_, ?_, ?_, ?_⟩⟩
    · rw [List.length_map, List.length_replicate]
      exact Nat.lt_of_lt_of_le (show m < 1000 by omega) (by decide)
    · intro b' o nb eb
      rw [upd_ne (ne_of_none eb nD2)]
      exact s3 _ _ (f2 _ _ nb (f1 _ _ nb eb))
    · exact ((P2.same s3).at nD2p).mono (by omega)
    · rw [upd_same, List.replicate_succ', List.map_append]
      rfl
  · rintro G' ⟨f1, P1, h1⟩
    refine ⟨D2, List.replicate 60 true, rfl, .inl (.inl h1), ?_⟩
    rw [all_rep]
    exact q G' f1 P1
end
end C2

namespace C2
set_option Elab.async false
set_option linter.all false
set_option maxRecDepth 100000
set_option maxHeartbeats 1000000
open PySem PySem.Spec PyProof.Rows L2
theorem lp22 : (picksL 2 2).length < 1000 := by decide +kernel
theorem lp32 : 0 < (picksL 3 2).length ∧ (picksL 3 2).length < 1000 := by decide +kernel
theorem lp23 : 0 < (picksL 2 3).length ∧ (picksL 2 3).length < 1000 := by decide +kernel
theorem lp13 : (picksL 1 3).length < 1000 := by decide +kernel
theorem lp31 : (picksL 3 1).length < 1000 := by decide +kernel
theorem lp02 : (picksL 0 2).length < 1000 := by decide +kernel
theorem lp20 : (picksL 2 0).length < 1000 := by decide +kernel
theorem lp00 : (picksL 0 0).length < 1000 := by decide +kernel
section
variable {P : Program} {w : World} {K : PySem.W.Frag} {mg : Str → Option Value} {base : Heap}
theorem ok_law {f fPo fT fO fPk fPl fR fMs fPr fLM fC fMi fL fS fB fIm fW fBt fU fPb fM cF cB : Addr} {fd fdPo fdT fdO fdPk fdPl fdR fdMs fdPr fdLM fdC fdMi fdL fdS fdB fdIm fdW fdBt fdU fdPb fdM : FuncData} (F : Fun K "law" "law" sLaw f fd) (FPo : Fun K "_law_pot" "_law_pot" sDraws fPo fdPo) (FT : Fun K "_law_take" "_law_take" sTake fT fdT) (FO : Fun K "_law_of" "_law_of" sOf fO fdO) (FPk : Fun K "_law_picks" "_law_picks" sPicks fPk fdPk) (FPl : Fun K "_law_places" "_law_places" sPlaces fPl fdPl) (FR : Fun K "_law_pick_right" "_law_pick_right" sRight fR fdR) (FMs : Fun K "_law_mills" "_law_mills" sMills fMs fdMs) (FPr : Fun K "_law_pairs" "_law_pairs" sPairs fPr fdPr) (FLM : Fun K "_law_is_mill" "_law_is_mill" sLMill fLM fdLM) (FC : Fun K "_law_comes" "_law_comes" sLComes fC fdC) (FMi : Fun K "mill" "mill" sMill fMi fdMi) (FL : Fun K "leg_to_both" "leg_to_both" sLegB fL fdL) (FS : Fun K "size_of_pick" "size_of_pick" sSizeP fS fdS) (FB : Fun K "mill_between" "mill_between" sMillB fB fdB) (FIm : Fun K "is_mill" "is_mill" sIsMill fIm fdIm) (FW : Fun K "is_whole" "is_whole" sPWhole fW fdW) (FBt : Fun K "is_between" "is_between" sBetween fBt fdBt) (FU : Fun K "is_tuple_of" "is_tuple_of" sTupOf fU fdU) (FPb : Fun K "is_pair_below" "is_pair_below" sPairB fPb fdPb) (FM : Fun K "comes" "comes" sComes fM fdM)
    (bPo : Binds K fdPo ["_law_script", "_law_k"] []) (bT : Binds K fdT ["_law_pot_here", "_law_many"] []) (bO : Binds K fdO ["_law_pot_here", "_law_some"] []) (bPk : Binds K fdPk ["_law_a", "_law_b"] []) (bPl : Binds K fdPl ["_law_many", "_law_most"] []) (bR : Binds K fdR ["_law_pick"] []) (bMs : Binds K fdMs ["_law_pick"] []) (bPr : Binds K fdPr ["_law_many"] []) (bLM : Binds K fdLM ["_law_pick", "_law_i", "_law_k", "_law_j", "_law_l", "_law_turn"] []) (bC : Binds K fdC ["_law_pick", "_law_i", "_law_j"] []) (bMi : Binds K fdMi ["pick"] []) (bL : Binds K fdL ["x", "i", "k"] []) (bS : Binds K fdS ["pick"] []) (bB : Binds K fdB ["pick", "i", "k"] []) (bIm : Binds K fdIm ["pick", "thing"] []) (bW : Binds K fdW ["thing"] []) (bBt : Binds K fdBt ["thing", "least", "most"] []) (bU : Binds K fdU ["thing", "many"] []) (bPb : Binds K fdPb ["one", "other", "many"] []) (bM : Binds K fdM ["pick", "i", "j"] [])
    (gPo : mg "_law_pot" = some (.ref fPo)) (gT : mg "_law_take" = some (.ref fT)) (gO : mg "_law_of" = some (.ref fO)) (gPk : mg "_law_picks" = some (.ref fPk)) (gPl : mg "_law_places" = some (.ref fPl)) (gR : mg "_law_pick_right" = some (.ref fR)) (gMs : mg "_law_mills" = some (.ref fMs)) (gPr : mg "_law_pairs" = some (.ref fPr)) (gLM : mg "_law_is_mill" = some (.ref fLM)) (gC : mg "_law_comes" = some (.ref fC)) (gMi : mg "mill" = some (.ref fMi)) (gL : mg "leg_to_both" = some (.ref fL)) (gS : mg "size_of_pick" = some (.ref fS)) (gB : mg "mill_between" = some (.ref fB)) (gIm : mg "is_mill" = some (.ref fIm)) (gW : mg "is_whole" = some (.ref fW)) (gBt : mg "is_between" = some (.ref fBt)) (gU : mg "is_tuple_of" = some (.ref fU)) (gPb : mg "is_pair_below" = some (.ref fPb)) (gM : mg "comes" = some (.ref fM))
    (mi : mg "isinstance" = none) (mint : mg "int" = none) (mbool : mg "bool" = none) (mtup : mg "tuple" = none) (ml : mg "len" = none) (mall : mg "all" = none) (mr : mg "range" = none) (mmin : mg "min" = none) (mmax : mg "max" = none) (mrep : mg "repr" = none) (ma : mg "abs" = none)
    (gF : mg "LEGS_FORTH" = some (.ref cF)) (gK : mg "LEGS_BACK" = some (.ref cB)) (hF : ∀ G : Hp, SqT K G cF [.int 0, .int 1, .int 2, .int 3]) (hB : ∀ G : Hp, SqT K G cB [.int 2, .int 3, .int 0, .int 1]) :
    FnG P w K mg base 6 f fd ["_law_script"] (spLaw K) := by
  have GPo : FnOk P w K mg base CX0 1 fPo fdPo ["_law_script", "_law_k"] (spDraws K) := ok_draws FPo ml ma
  have GO : FnOk P w K mg base CX0 2 fO fdO ["_law_pot_here", "_law_some"] (spOf K) := ok_of FO FT bT gT ml
  have GPk : FnOk P w K mg base CX0 2 fPk fdPk ["_law_a", "_law_b"] spPicks := ok_picks FPk FPl bPl gPl mr
  have GMi : FnOk P w K mg base CX0 3 fMi fdMi ["pick"] spMill := ok_mill FMi FL FS FB bL bS bB gL gS gB mr mmin mmax ml
  have GR : FnG P w K mg base 5 fR fdR ["_law_pick"] spRight := ok_right FR FMs FPr FLM FC FMi FL FS FB FIm FW FBt FU FPb FM bMs bPr bLM bC bMi bL bS bB bIm bW bBt bU bPb bM gMs gPr gLM gC gMi gL gS gB gIm gW gBt gU gPb gM gF gK hF hB mi mint mbool mtup ml mall mr mmin mmax mrep
  refine okG F scLaw (fun vs H Q E h => ?_) (fun cdv A outer s H vs Q E hgd hr h => ?_)
  · obtain ⟨a, ns, rfl, _⟩ := h
    rfl
  · obtain ⟨z, ns, rfl, hS, hlen, q⟩ := h
    have nd := scLaw.nd
    refine ⟨_, pss_cons (ps_set (i := 1) nd rfl (.inl rfl) (pe_call GPk (hr.mono (by decide)) (by rfl) gPk FPk.kp bPk .nil pass0 (pa_cons pe_int (pa_cons pe_int pa_nil))))
      (pss_cons (ps_if (PW.pt (pw_or (pt_not (pt_val (pe_callB (cr_all rfl) (by rfl) mall (by decide +kernel) (pa_cons (pe_lc (own := [("_law_pick", 6)]) (g := gName 6) (tt := tYes) (te := teR) rfl nd (pi_list (pv 1)) (blkOk_by (own := [("_law_pick", 6)]) (N := NLw) (sc := defScope sLaw) (by decide +kernel)) (fun _ _ _ _ _ => pg_name (i := 6) nd rfl (.inl rfl)) (fun _ _ _ _ _ => pts_nil) (fun _ _ _ _ _ => (pe_callG GR hgd hr (by rfl) gR FR.kp bR (pa_cons (pv 6) pa_nil)))) pa_nil)))) (pw_or1 (pt_cmpR op_ne (pe_bm PySem.F.plainAttrs_list PySem.F.slot_list_count PySem.F.type_list_count (mt_lcountD hr.units) (pe_lc (own := [("_law_pick", 6)]) (g := gName 6) (tt := tYes) (te := teM) rfl nd (pi_list (pv 1)) (blkOk_by (own := [("_law_pick", 6)]) (N := NLw) (sc := defScope sLaw) (by decide +kernel)) (fun _ _ _ _ _ => pg_name (i := 6) nd rfl (.inl rfl)) (fun _ _ _ _ _ => pts_nil) (fun _ _ _ _ _ => (pe_call GMi (hr.mono (by decide)) (by rfl) gMi FMi.kp bMi .nil pass0 (pa_cons (pv 6) pa_nil)))) (pa_cons pe_non pa_nil)) pe_int (nomark _))))) (pss_one (ps_ret pe_bl)) pss_nil)
      (pss_cons (ps_for PassesOwn.never rfl (pi_tup (pe_tup (pa_cons (pe_tup (pa_cons pe_int (pa_cons pe_int pa_nil))) (pa_cons (pe_tup (pa_cons pe_int (pa_cons pe_int pa_nil))) (pa_cons (pe_tup (pa_cons pe_int (pa_cons pe_int pa_nil))) (pa_cons (pe_tup (pa_cons pe_int (pa_cons pe_int pa_nil))) (pa_cons (pe_tup (pa_cons pe_int (pa_cons pe_int pa_nil))) pa_nil))))))) (pg_tup rfl (pgs_cons (pg_name (i := 2) nd rfl (.inl rfl)) (pgs_cons (pg_name (i := 3) nd rfl (.inl rfl)) pgs_nil))) (pss_one (ps_if (pt_not (pt_val (pe_callB (cr_all rfl) (by rfl) mall (by decide +kernel) (pa_cons (pe_lc (own := [("_law_pick", 6)]) (g := gName 6) (tt := tYes) (te := teN) rfl nd (pi_list (pe_call GPk (hr.mono (by decide)) (by rfl) gPk FPk.kp bPk .nil pass0 (pa_cons (pv 2) (pa_cons (pv 3) pa_nil)))) (blkOk_by (own := [("_law_pick", 6)]) (N := NLw) (sc := defScope sLaw) (by decide +kernel)) (fun _ _ _ _ _ => pg_name (i := 6) nd rfl (.inl rfl)) (fun _ _ _ _ _ => pts_nil) (fun _ _ _ _ _ => (pe_cmpR op_isN (pe_call GMi (hr.mono (by decide)) (by rfl) gMi FMi.kp bMi .nil pass0 (pa_cons (pv 6) pa_nil)) pe_non (nomark _)))) pa_nil)))) (pss_one (ps_ret pe_bl)) pss_nil)))
      (pss_cons (ps_set (i := 4) nd rfl (.inr rfl) (pe_call GPo (hr.mono (by decide)) (by rfl) gPo FPo.kp bPo .nil pass0 (pa_cons (pv 0) (pa_cons pe_int pa_nil))))
      (pss_cons (ps_for PassesOwn.never rfl (pi_tup (pe_tup (pa_cons (pe_tup (pa_cons pe_int (pa_cons pe_int pa_nil))) (pa_cons (pe_tup (pa_cons pe_int (pa_cons pe_int pa_nil))) pa_nil)))) (pg_tup rfl (pgs_cons (pg_name (i := 2) nd rfl (.inl rfl)) (pgs_cons (pg_name (i := 3) nd rfl (.inl rfl)) pgs_nil))) (pss_cons (ps_set (i := 5) nd rfl (.inr rfl) (pe_call GPk (hr.mono (by decide)) (by rfl) gPk FPk.kp bPk .nil pass0 (pa_cons (pv 2) (pa_cons (pv 3) pa_nil))))
      (pss_one (ps_if (pt_not (pt_val (pe_callB (cr_all rfl) (by rfl) mall (by decide +kernel) (pa_cons (pe_lc (own := [("_law_turn", 7)]) (g := gName 7) (tt := tYes) (te := teO K) rfl nd (pi_range1 (by rfl) mr (pa_cons pe_int pa_nil)) (blkOk_by (own := [("_law_turn", 7)]) (N := NLw) (sc := defScope sLaw) (by decide +kernel)) (fun _ _ _ _ _ => pg_name (i := 7) nd rfl (.inl rfl)) (fun _ _ _ _ _ => pts_nil) (fun _ _ _ _ _ => (pe_callG GR hgd hr (by rfl) gR FR.kp bR (pa_cons (pe_call GO (hr.mono (by decide)) (by rfl) gO FO.kp bO .nil pass0 (pa_cons (pv 4) (pa_cons (pv 5) pa_nil))) pa_nil)))) pa_nil)))) (pss_one (ps_ret pe_bl)) pss_nil))))
      (pss_one (ps_ret pe_bl)))))), ?_⟩
    refine ⟨2, 2, rfl, by decide, by decide, len22, fun G1 D1 I1 nD1 => ?_⟩
    show tSeq (tIfS (tOr (tNot (tB (tCB (rAll K) (tCons (tLc (iList K (tVar 1)) (gName 6) tYes teR [6]) tNil)))) (tTest (tOp rNe (tBM K "list" (rCntD K) (tLc (iList K (tVar 1)) (gName 6) tYes teM [6]) (tCons (tC V.non) tNil)) (tC (V.int 79))))) (tRet (tC (V.bl false))) tNext) _ _ [some (.ref z), some (.ref D1), none, none, none, none, none, none] _
    refine allR_ok (a := 2) (b := 2) (i := 1) (D := D1) rfl (fun v => rfl) (fun v => rfl) (by decide) (by decide) I1 lp22 all22 fun G2 s2 => ⟨true, rfl, iteF ?_⟩
    refine cnt_ok (a := 2) (b := 2) (i := 1) (D := D1) rfl (fun v => rfl) (fun v => rfl) (by decide) (by decide) (I1.same s2) lp22 fun G3 s3 => ?_
    rw [cnt22]
    refine ⟨rfl, false, rfl, iteF ?_⟩
    have sm3 : Same H G3 := I1.sub.trans (s2.trans s3)
    refine ⟨by show 2 ≤ sizeLine; decide, fun t1 n1 => ⟨by show 2 ≤ sizeLine; decide, fun t2 n2 => ⟨by show 2 ≤ sizeLine; decide, fun t3 n3 => ⟨by show 2 ≤ sizeLine; decide, fun t4 n4 => ⟨by show 2 ≤ sizeLine; decide, fun t5 n5 => ⟨by show 5 ≤ sizeLine; decide, fun t6 n6 => ?_⟩⟩⟩⟩⟩⟩
    have e1 := same_upd (o := .tup [.int 1, .int 3]) n1
    have e2 := same_upd (o := .tup [.int 3, .int 1]) n2
    have e3 := same_upd (o := .tup [.int 0, .int 2]) n3
    have e4 := same_upd (o := .tup [.int 2, .int 0]) n4
    have e5 := same_upd (o := .tup [.int 0, .int 0]) n5
    have e6 := same_upd (o := .tup [.ref t1, .ref t2, .ref t3, .ref t4, .ref t5]) n6
    have sm6 : Same H _ := sm3.trans (e1.trans (e2.trans (e3.trans (e4.trans (e5.trans e6)))))
    refine ⟨t6, rfl, ⟨_, .inl (.inl upd_same)⟩, ?_⟩
    refine for_tup (xs := [.ref t1, .ref t2, .ref t3, .ref t4, .ref t5]) (fun i σ G => Same H G ∧ (G t1 = some (.tup [.int 1, .int 3]) ∧ G t2 = some (.tup [.int 3, .int 1]) ∧ G t3 = some (.tup [.int 0, .int 2]) ∧ G t4 = some (.tup [.int 2, .int 0]) ∧ G t5 = some (.tup [.int 0, .int 0])) ∧ G t6 = some (.tup [.ref t1, .ref t2, .ref t3, .ref t4, .ref t5]) ∧ ∃ y1 y2 y3 y4 y5 y6 y7, σ = [some (.ref z), y1, y2, y3, y4, y5, y6, y7])
      ⟨sm6, ⟨e6 _ _ (e5 _ _ (e4 _ _ (e3 _ _ (e2 _ _ upd_same)))), e6 _ _ (e5 _ _ (e4 _ _ (e3 _ _ upd_same))), e6 _ _ (e5 _ _ (e4 _ _ upd_same)), e6 _ _ (e5 _ _ upd_same), e6 _ _ upd_same⟩, upd_same, _, _, _, _, _, _, _, rfl⟩ (fun i σ G _ h => .inl (.inl h.2.2.1)) ?_ ?_
    · rintro i x σ G hx ⟨sm, ⟨g1, g2, g3, g4, g5⟩, g6, y1, y2, y3, y4, y5, y6, y7, rfl⟩
      obtain ⟨c, a, b, rfl, hc, ha, hb, few, lp, no⟩ : ∃ (c : Addr) (a b : Nat), x = .ref c ∧ G c = some (.tup [.int (a : Int), .int (b : Int)]) ∧ a ≤ 3 ∧ b ≤ 3 ∧ (placesL b a).length * (placesL a b).length ≤ 900 ∧ (picksL a b).length < 1000 ∧ (picksL a b).all (fun p => (millP p.1 p.2 a).isNone) = true := by
        have i5 : i < 5 := (List.getElem?_eq_some_iff.mp hx).1
        rcases (show i = 0 ∨ i = 1 ∨ i = 2 ∨ i = 3 ∨ i = 4 by omega) with rfl | rfl | rfl | rfl | rfl
        · exact ⟨t1, 1, 3, (Option.some.inj hx).symm, g1, by decide, by decide, len13, lp13, none13⟩
        · exact ⟨t2, 3, 1, (Option.some.inj hx).symm, g2, by decide, by decide, len31, lp31, none31⟩
        · exact ⟨t3, 0, 2, (Option.some.inj hx).symm, g3, by decide, by decide, len02, lp02, none02⟩
        · exact ⟨t4, 2, 0, (Option.some.inj hx).symm, g4, by decide, by decide, len20, lp20, none20⟩
        · exact ⟨t5, 0, 0, (Option.some.inj hx).symm, g5, by decide, by decide, len00, lp00, none00⟩
      refine ⟨c, _, rfl, .inl (.inl hc), rfl, _, _, rfl, _, _, rfl, rfl, ?_⟩
      show tIfS (tNot (tB (tCB (rAll K) (tCons (tLc (iList K (tCall spPicks [] E0 (tCons (tVar 2) (tCons (tVar 3) tNil)))) (gName 6) tYes teN [6]) tNil)))) (tRet (tC (V.bl false))) tNext _ [some (.ref z), y1, some (.int (a : Int)), some (.int (b : Int)), y4, y5, y6, y7] _
      refine allN_ok (a := a) (b := b) rfl rfl (fun v => rfl) (fun v => rfl) ha hb few lp no fun G5 s5 => ⟨true, rfl, iteF ?_⟩
      exact ⟨sm.trans s5, ⟨s5 _ _ g1, s5 _ _ g2, s5 _ _ g3, s5 _ _ g4, s5 _ _ g5⟩, s5 _ _ g6, _, _, _, _, _, _, _, rfl⟩
    · rintro σ G ⟨sm, _, _, y1, y2, y3, y4, y5, y6, y7, rfl⟩
      refine ⟨.ref z, rfl, z, ns, 0, rfl, sm.seq hS, by decide, fun G6 p s6 np hP => ?_⟩
      refine ⟨by show 2 ≤ sizeLine; decide, fun u1 m1 => ⟨by show 2 ≤ sizeLine; decide, fun u2 m2 => ⟨by show 2 ≤ sizeLine; decide, fun u3 m3 => ?_⟩⟩⟩
      have f1 := same_upd (o := .tup [.int 3, .int 2]) m1
      have f2 := same_upd (o := .tup [.int 2, .int 3]) m2
      have f3 := same_upd (o := .tup [.ref u1, .ref u2]) m3
      have P3 := ((hP.same f1).same f2).same f3
      have w1 := f3 _ _ (f2 _ _ (upd_same (H := G6) (a := u1) (o := .tup [.int 3, .int 2])))
      have w2 := f3 _ _ (upd_same (H := upd G6 u1 (.tup [.int 3, .int 2])) (a := u2) (o := .tup [.int 2, .int 3]))
      have n1p : u1 ≠ p := hP.ne m1
      have n2p : u2 ≠ p := (hP.same f1).ne m2
      have n3p : u3 ≠ p := ((hP.same f1).same f2).ne m3
      refine ⟨u3, rfl, ⟨_, .inl (.inl upd_same)⟩, ?_⟩
      refine for_tup (xs := [.ref u1, .ref u2]) (fun i σ G => PotAt G p (60 * i) ∧ G u1 = some (.tup [.int 3, .int 2]) ∧ G u2 = some (.tup [.int 2, .int 3]) ∧ G u3 = some (.tup [.ref u1, .ref u2]) ∧ ∃ y1 y2 y3 y5 y6 y7, σ = [some (.ref z), y1, y2, y3, some (.ref p), y5, y6, y7])
        ⟨P3, w1, w2, upd_same, _, _, _, _, _, _, rfl⟩ (fun i σ G _ h => .inl (.inl h.2.2.2.1)) ?_ ?_
      · rintro i x σ G hx ⟨PG, g1, g2, g3, y1, y2, y3, y5, y6, y7, rfl⟩
        have i2 : i < 2 := (List.getElem?_eq_some_iff.mp hx).1
        obtain ⟨c, a, b, rfl, hc, ha, hb, few, lp, ok⟩ : ∃ (c : Addr) (a b : Nat), x = .ref c ∧ G c = some (.tup [.int (a : Int), .int (b : Int)]) ∧ a ≤ 3 ∧ b ≤ 3 ∧ (placesL b a).length * (placesL a b).length ≤ 900 ∧ (0 < (picksL a b).length ∧ (picksL a b).length < 1000) ∧ (picksL a b).all (okPick a b) = true := by
          rcases (show i = 0 ∨ i = 1 by omega) with rfl | rfl
          · exact ⟨u1, 3, 2, (Option.some.inj hx).symm, g1, by decide, by decide, len32, lp32, all32⟩
          · exact ⟨u2, 2, 3, (Option.some.inj hx).symm, g2, by decide, by decide, len23, lp23, all23⟩
        refine ⟨c, _, rfl, .inl (.inl hc), rfl, _, _, rfl, _, _, rfl, rfl, ?_⟩
        refine ⟨.int (a : Int), rfl, .int (b : Int), rfl, a, b, rfl, ha, hb, few, fun G8 D8 I8 n8 => ?_⟩
        have P8 := PG.same I8.sub
        show tIfS (tNot (tB (tCB (rAll K) (tCons (tLc (iRng1 (tCons (tC (V.int 60)) tNil)) (gName 7) tYes (teO K) [7]) tNil)))) (tRet (tC (V.bl false))) tNext _ [some (.ref z), y1, some (.int (a : Int)), some (.int (b : Int)), some (.ref p), some (.ref D8), y6, y7] _
        refine allO_ok (a := a) (b := b) (n := 60 * i) (D := D8) (p := p) (fun v => rfl) (fun v => rfl) (fun v => rfl) ha hb I8 (PG.ne n8) lp.1 lp.2 ok P8 (by omega) fun G9 f9 P9 => ⟨true, rfl, iteF ?_⟩
        exact ⟨P9, f9 _ _ n1p (I8.sub _ _ g1), f9 _ _ n2p (I8.sub _ _ g2), f9 _ _ n3p (I8.sub _ _ g3), _, _, _, _, _, _, rfl⟩
      · rintro σ G ⟨_, _, _, _, y1, y2, y3, y5, y6, y7, rfl⟩
        exact q G
end
end C2

namespace C2
set_option Elab.async false
set_option linter.all false
set_option maxRecDepth 100000
set_option maxHeartbeats 4000000
open PySem PySem.Spec PyProof.Rows L2
theorem all_mk {l : PySem.W.OpenLaw} {w : World} {K : PySem.W.Frag} {h : Heap} {mg : Str → Option Value} {fa f1 f2 f3 f4 f5 f6 f7 f8 f9 f10 f11 f12 f13 f14 f15 f16 f17 f18 f19 f20 f21 : Addr} (X : K.In h) (G : h.Ns mainGlobals mg) (hfa : mg "law" = some (.ref fa))
    {od1 an1 od2 an2 od3 an3 od4 an4 od5 an5 od6 an6 od7 an7 od8 an8 od9 an9 od10 an10 od11 an11 od12 an12 od13 an13 od14 an14 od15 an15 od16 an16 od17 an17 od18 an18 od19 an19 od20 an20 od21 an21 : Option Addr} {sl1 sl2 sl3 sl4 sl5 sl6 sl7 sl8 sl9 sl10 sl11 sl12 sl13 sl14 sl15 sl16 sl17 sl18 sl19 sl20 sl21 : Array (Option Value)}
    {oc1 kV1 dc1 pm1 cd1 ct1 oc2 kV2 dc2 pm2 cd2 ct2 oc3 kV3 dc3 pm3 cd3 ct3 oc4 kV4 dc4 pm4 cd4 ct4 oc5 kV5 dc5 pm5 cd5 ct5 oc6 kV6 dc6 pm6 cd6 ct6 oc7 kV7 dc7 pm7 cd7 ct7 oc8 kV8 dc8 pm8 cd8 ct8 oc9 kV9 dc9 pm9 cd9 ct9 oc10 kV10 dc10 pm10 cd10 ct10 oc11 kV11 dc11 pm11 cd11 ct11 oc12 kV12 dc12 pm12 cd12 ct12 oc13 kV13 dc13 pm13 cd13 ct13 oc14 kV14 dc14 pm14 cd14 ct14 oc15 kV15 dc15 pm15 cd15 ct15 oc16 kV16 dc16 pm16 cd16 ct16 oc17 kV17 dc17 pm17 cd17 ct17 oc18 kV18 dc18 pm18 cd18 ct18 oc19 kV19 dc19 pm19 cd19 ct19 oc20 kV20 dc20 pm20 cd20 ct20 oc21 kV21 dc21 pm21 cd21 ct21 : Value}
    (a1 : PySem.W.nsIn K mainGlobals "_law_pot" = some (some (.ref f1))) (l1 : K.lookup f1 = some ⟨oc1, od1, .func (PySem.W.fnOf "_law_pot" "_law_pot" (defArgs sDraws) (defBody sDraws) (defScope sDraws) .none kV1 dc1 pm1 an1 cd1 ct1), sl1⟩) (c1 : PySem.W.codeIn K cd1 "_law_pot" = true) (k1 : PySem.W.keepIn K (.ref f1) = true)
    (a2 : PySem.W.nsIn K mainGlobals "_law_take" = some (some (.ref f2))) (l2 : K.lookup f2 = some ⟨oc2, od2, .func (PySem.W.fnOf "_law_take" "_law_take" (defArgs sTake) (defBody sTake) (defScope sTake) .none kV2 dc2 pm2 an2 cd2 ct2), sl2⟩) (c2 : PySem.W.codeIn K cd2 "_law_take" = true) (k2 : PySem.W.keepIn K (.ref f2) = true)
    (a3 : PySem.W.nsIn K mainGlobals "_law_of" = some (some (.ref f3))) (l3 : K.lookup f3 = some ⟨oc3, od3, .func (PySem.W.fnOf "_law_of" "_law_of" (defArgs sOf) (defBody sOf) (defScope sOf) .none kV3 dc3 pm3 an3 cd3 ct3), sl3⟩) (c3 : PySem.W.codeIn K cd3 "_law_of" = true) (k3 : PySem.W.keepIn K (.ref f3) = true)
    (a4 : PySem.W.nsIn K mainGlobals "_law_picks" = some (some (.ref f4))) (l4 : K.lookup f4 = some ⟨oc4, od4, .func (PySem.W.fnOf "_law_picks" "_law_picks" (defArgs sPicks) (defBody sPicks) (defScope sPicks) .none kV4 dc4 pm4 an4 cd4 ct4), sl4⟩) (c4 : PySem.W.codeIn K cd4 "_law_picks" = true) (k4 : PySem.W.keepIn K (.ref f4) = true)
    (a5 : PySem.W.nsIn K mainGlobals "_law_places" = some (some (.ref f5))) (l5 : K.lookup f5 = some ⟨oc5, od5, .func (PySem.W.fnOf "_law_places" "_law_places" (defArgs sPlaces) (defBody sPlaces) (defScope sPlaces) .none kV5 dc5 pm5 an5 cd5 ct5), sl5⟩) (c5 : PySem.W.codeIn K cd5 "_law_places" = true) (k5 : PySem.W.keepIn K (.ref f5) = true)
    (a6 : PySem.W.nsIn K mainGlobals "_law_pick_right" = some (some (.ref f6))) (l6 : K.lookup f6 = some ⟨oc6, od6, .func (PySem.W.fnOf "_law_pick_right" "_law_pick_right" (defArgs sRight) (defBody sRight) (defScope sRight) .none kV6 dc6 pm6 an6 cd6 ct6), sl6⟩) (c6 : PySem.W.codeIn K cd6 "_law_pick_right" = true) (k6 : PySem.W.keepIn K (.ref f6) = true)
    (a7 : PySem.W.nsIn K mainGlobals "_law_mills" = some (some (.ref f7))) (l7 : K.lookup f7 = some ⟨oc7, od7, .func (PySem.W.fnOf "_law_mills" "_law_mills" (defArgs sMills) (defBody sMills) (defScope sMills) .none kV7 dc7 pm7 an7 cd7 ct7), sl7⟩) (c7 : PySem.W.codeIn K cd7 "_law_mills" = true) (k7 : PySem.W.keepIn K (.ref f7) = true)
    (a8 : PySem.W.nsIn K mainGlobals "_law_pairs" = some (some (.ref f8))) (l8 : K.lookup f8 = some ⟨oc8, od8, .func (PySem.W.fnOf "_law_pairs" "_law_pairs" (defArgs sPairs) (defBody sPairs) (defScope sPairs) .none kV8 dc8 pm8 an8 cd8 ct8), sl8⟩) (c8 : PySem.W.codeIn K cd8 "_law_pairs" = true) (k8 : PySem.W.keepIn K (.ref f8) = true)
    (a9 : PySem.W.nsIn K mainGlobals "_law_is_mill" = some (some (.ref f9))) (l9 : K.lookup f9 = some ⟨oc9, od9, .func (PySem.W.fnOf "_law_is_mill" "_law_is_mill" (defArgs sLMill) (defBody sLMill) (defScope sLMill) .none kV9 dc9 pm9 an9 cd9 ct9), sl9⟩) (c9 : PySem.W.codeIn K cd9 "_law_is_mill" = true) (k9 : PySem.W.keepIn K (.ref f9) = true)
    (a10 : PySem.W.nsIn K mainGlobals "_law_comes" = some (some (.ref f10))) (l10 : K.lookup f10 = some ⟨oc10, od10, .func (PySem.W.fnOf "_law_comes" "_law_comes" (defArgs sLComes) (defBody sLComes) (defScope sLComes) .none kV10 dc10 pm10 an10 cd10 ct10), sl10⟩) (c10 : PySem.W.codeIn K cd10 "_law_comes" = true) (k10 : PySem.W.keepIn K (.ref f10) = true)
    (a11 : PySem.W.nsIn K mainGlobals "mill" = some (some (.ref f11))) (l11 : K.lookup f11 = some ⟨oc11, od11, .func (PySem.W.fnOf "mill" "mill" (defArgs sMill) (defBody sMill) (defScope sMill) .none kV11 dc11 pm11 an11 cd11 ct11), sl11⟩) (c11 : PySem.W.codeIn K cd11 "mill" = true) (k11 : PySem.W.keepIn K (.ref f11) = true)
    (a12 : PySem.W.nsIn K mainGlobals "leg_to_both" = some (some (.ref f12))) (l12 : K.lookup f12 = some ⟨oc12, od12, .func (PySem.W.fnOf "leg_to_both" "leg_to_both" (defArgs sLegB) (defBody sLegB) (defScope sLegB) .none kV12 dc12 pm12 an12 cd12 ct12), sl12⟩) (c12 : PySem.W.codeIn K cd12 "leg_to_both" = true) (k12 : PySem.W.keepIn K (.ref f12) = true)
    (a13 : PySem.W.nsIn K mainGlobals "size_of_pick" = some (some (.ref f13))) (l13 : K.lookup f13 = some ⟨oc13, od13, .func (PySem.W.fnOf "size_of_pick" "size_of_pick" (defArgs sSizeP) (defBody sSizeP) (defScope sSizeP) .none kV13 dc13 pm13 an13 cd13 ct13), sl13⟩) (c13 : PySem.W.codeIn K cd13 "size_of_pick" = true) (k13 : PySem.W.keepIn K (.ref f13) = true)
    (a14 : PySem.W.nsIn K mainGlobals "mill_between" = some (some (.ref f14))) (l14 : K.lookup f14 = some ⟨oc14, od14, .func (PySem.W.fnOf "mill_between" "mill_between" (defArgs sMillB) (defBody sMillB) (defScope sMillB) .none kV14 dc14 pm14 an14 cd14 ct14), sl14⟩) (c14 : PySem.W.codeIn K cd14 "mill_between" = true) (k14 : PySem.W.keepIn K (.ref f14) = true)
    (a15 : PySem.W.nsIn K mainGlobals "is_mill" = some (some (.ref f15))) (l15 : K.lookup f15 = some ⟨oc15, od15, .func (PySem.W.fnOf "is_mill" "is_mill" (defArgs sIsMill) (defBody sIsMill) (defScope sIsMill) .none kV15 dc15 pm15 an15 cd15 ct15), sl15⟩) (c15 : PySem.W.codeIn K cd15 "is_mill" = true) (k15 : PySem.W.keepIn K (.ref f15) = true)
    (a16 : PySem.W.nsIn K mainGlobals "is_whole" = some (some (.ref f16))) (l16 : K.lookup f16 = some ⟨oc16, od16, .func (PySem.W.fnOf "is_whole" "is_whole" (defArgs sPWhole) (defBody sPWhole) (defScope sPWhole) .none kV16 dc16 pm16 an16 cd16 ct16), sl16⟩) (c16 : PySem.W.codeIn K cd16 "is_whole" = true) (k16 : PySem.W.keepIn K (.ref f16) = true)
    (a17 : PySem.W.nsIn K mainGlobals "is_between" = some (some (.ref f17))) (l17 : K.lookup f17 = some ⟨oc17, od17, .func (PySem.W.fnOf "is_between" "is_between" (defArgs sBetween) (defBody sBetween) (defScope sBetween) .none kV17 dc17 pm17 an17 cd17 ct17), sl17⟩) (c17 : PySem.W.codeIn K cd17 "is_between" = true) (k17 : PySem.W.keepIn K (.ref f17) = true)
    (a18 : PySem.W.nsIn K mainGlobals "is_tuple_of" = some (some (.ref f18))) (l18 : K.lookup f18 = some ⟨oc18, od18, .func (PySem.W.fnOf "is_tuple_of" "is_tuple_of" (defArgs sTupOf) (defBody sTupOf) (defScope sTupOf) .none kV18 dc18 pm18 an18 cd18 ct18), sl18⟩) (c18 : PySem.W.codeIn K cd18 "is_tuple_of" = true) (k18 : PySem.W.keepIn K (.ref f18) = true)
    (a19 : PySem.W.nsIn K mainGlobals "is_pair_below" = some (some (.ref f19))) (l19 : K.lookup f19 = some ⟨oc19, od19, .func (PySem.W.fnOf "is_pair_below" "is_pair_below" (defArgs sPairB) (defBody sPairB) (defScope sPairB) .none kV19 dc19 pm19 an19 cd19 ct19), sl19⟩) (c19 : PySem.W.codeIn K cd19 "is_pair_below" = true) (k19 : PySem.W.keepIn K (.ref f19) = true)
    (a20 : PySem.W.nsIn K mainGlobals "comes" = some (some (.ref f20))) (l20 : K.lookup f20 = some ⟨oc20, od20, .func (PySem.W.fnOf "comes" "comes" (defArgs sComes) (defBody sComes) (defScope sComes) .none kV20 dc20 pm20 an20 cd20 ct20), sl20⟩) (c20 : PySem.W.codeIn K cd20 "comes" = true) (k20 : PySem.W.keepIn K (.ref f20) = true)
    (a21 : PySem.W.nsIn K mainGlobals "law" = some (some (.ref f21))) (l21 : K.lookup f21 = some ⟨oc21, od21, .func (PySem.W.fnOf "law" "law" (defArgs sLaw) (defBody sLaw) (defScope sLaw) .none kV21 dc21 pm21 an21 cd21 ct21), sl21⟩) (c21 : PySem.W.codeIn K cd21 "law" = true) (k21 : PySem.W.keepIn K (.ref f21) = true)
    (z1 : PySem.W.nsIn K mainGlobals "isinstance" = some none) (z2 : PySem.W.nsIn K mainGlobals "int" = some none) (z3 : PySem.W.nsIn K mainGlobals "bool" = some none) (z4 : PySem.W.nsIn K mainGlobals "tuple" = some none) (z5 : PySem.W.nsIn K mainGlobals "len" = some none) (z6 : PySem.W.nsIn K mainGlobals "all" = some none) (z7 : PySem.W.nsIn K mainGlobals "range" = some none) (z8 : PySem.W.nsIn K mainGlobals "min" = some none) (z9 : PySem.W.nsIn K mainGlobals "max" = some none) (z10 : PySem.W.nsIn K mainGlobals "repr" = some none) (z11 : PySem.W.nsIn K mainGlobals "abs" = some none)
    {cF : Addr} {ddF : Option Addr} {nF : Nat} {sqF : Array (Option Value)} {xF0 xF1 xF2 xF3 : Nat} (gF : PySem.W.nsIn K mainGlobals "LEGS_FORTH" = some (some (.ref cF))) (uF : K.lookup cF = some ⟨.type "tuple", ddF, .seq #[.int 0 xF0, .int 1 xF1, .int 2 xF2, .int 3 xF3] nF, sqF⟩)
    {cB : Addr} {ddB : Option Addr} {nB : Nat} {sqB : Array (Option Value)} {xB0 xB1 xB2 xB3 : Nat} (gB : PySem.W.nsIn K mainGlobals "LEGS_BACK" = some (some (.ref cB))) (uB : K.lookup cB = some ⟨.type "tuple", ddB, .seq #[.int 2 xB0, .int 3 xB1, .int 0 xB2, .int 1 xB3] nB, sqB⟩) :
    ∃ fd : FuncData, (∀ (s : Shared) (v : Value), BindsTo s fd ⟨[v], []⟩ [("_law_script", v)]) ∧ ∀ base : Heap, K.In base → base.Ns mainGlobals mg → FnG l.prog w K mg base 6 fa fd ["_law_script"] (spLaw K) := by
  have e := hfa.symm.trans (PySem.W.mg_of X G a21)
  cases e
  have F1 := fun_mk (st := sDraws) l1 c1 k1
  have F2 := fun_mk (st := sTake) l2 c2 k2
  have F3 := fun_mk (st := sOf) l3 c3 k3
  have F4 := fun_mk (st := sPicks) l4 c4 k4
  have F5 := fun_mk (st := sPlaces) l5 c5 k5
  have F6 := fun_mk (st := sRight) l6 c6 k6
  have F7 := fun_mk (st := sMills) l7 c7 k7
  have F8 := fun_mk (st := sPairs) l8 c8 k8
  have F9 := fun_mk (st := sLMill) l9 c9 k9
  have F10 := fun_mk (st := sLComes) l10 c10 k10
  have F11 := fun_mk (st := sMill) l11 c11 k11
  have F12 := fun_mk (st := sLegB) l12 c12 k12
  have F13 := fun_mk (st := sSizeP) l13 c13 k13
  have F14 := fun_mk (st := sMillB) l14 c14 k14
  have F15 := fun_mk (st := sIsMill) l15 c15 k15
  have F16 := fun_mk (st := sPWhole) l16 c16 k16
  have F17 := fun_mk (st := sBetween) l17 c17 k17
  have F18 := fun_mk (st := sTupOf) l18 c18 k18
  have F19 := fun_mk (st := sPairB) l19 c19 k19
  have F20 := fun_mk (st := sComes) l20 c20 k20
  have F21 := fun_mk (st := sLaw) l21 c21 k21
  have b1 := F1.binds (ps := ["_law_script", "_law_k"]) fun _ _ _ _ _ _ us hl => match us, hl with | [_, _], _ => rfl
  have b2 := F2.binds (ps := ["_law_pot_here", "_law_many"]) fun _ _ _ _ _ _ us hl => match us, hl with | [_, _], _ => rfl
  have b3 := F3.binds (ps := ["_law_pot_here", "_law_some"]) fun _ _ _ _ _ _ us hl => match us, hl with | [_, _], _ => rfl
  have b4 := F4.binds (ps := ["_law_a", "_law_b"]) fun _ _ _ _ _ _ us hl => match us, hl with | [_, _], _ => rfl
  have b5 := F5.binds (ps := ["_law_many", "_law_most"]) fun _ _ _ _ _ _ us hl => match us, hl with | [_, _], _ => rfl
  have b6 := F6.binds (ps := ["_law_pick"]) fun _ _ _ _ _ _ us hl => match us, hl with | [_], _ => rfl
  have b7 := F7.binds (ps := ["_law_pick"]) fun _ _ _ _ _ _ us hl => match us, hl with | [_], _ => rfl
  have b8 := F8.binds (ps := ["_law_many"]) fun _ _ _ _ _ _ us hl => match us, hl with | [_], _ => rfl
  have b9 := F9.binds (ps := ["_law_pick", "_law_i", "_law_k", "_law_j", "_law_l", "_law_turn"]) fun _ _ _ _ _ _ us hl => match us, hl with | [_, _, _, _, _, _], _ => rfl
  have b10 := F10.binds (ps := ["_law_pick", "_law_i", "_law_j"]) fun _ _ _ _ _ _ us hl => match us, hl with | [_, _, _], _ => rfl
  have b11 := F11.binds (ps := ["pick"]) fun _ _ _ _ _ _ us hl => match us, hl with | [_], _ => rfl
  have b12 := F12.binds (ps := ["x", "i", "k"]) fun _ _ _ _ _ _ us hl => match us, hl with | [_, _, _], _ => rfl
  have b13 := F13.binds (ps := ["pick"]) fun _ _ _ _ _ _ us hl => match us, hl with | [_], _ => rfl
  have b14 := F14.binds (ps := ["pick", "i", "k"]) fun _ _ _ _ _ _ us hl => match us, hl with | [_, _, _], _ => rfl
  have b15 := F15.binds (ps := ["pick", "thing"]) fun _ _ _ _ _ _ us hl => match us, hl with | [_, _], _ => rfl
  have b16 := F16.binds (ps := ["thing"]) fun _ _ _ _ _ _ us hl => match us, hl with | [_], _ => rfl
  have b17 := F17.binds (ps := ["thing", "least", "most"]) fun _ _ _ _ _ _ us hl => match us, hl with | [_, _, _], _ => rfl
  have b18 := F18.binds (ps := ["thing", "many"]) fun _ _ _ _ _ _ us hl => match us, hl with | [_, _], _ => rfl
  have b19 := F19.binds (ps := ["one", "other", "many"]) fun _ _ _ _ _ _ us hl => match us, hl with | [_, _, _], _ => rfl
  have b20 := F20.binds (ps := ["pick", "i", "j"]) fun _ _ _ _ _ _ us hl => match us, hl with | [_, _, _], _ => rfl
  have hF : ∀ H : Hp, SqT K H cF [.int 0, .int 1, .int 2, .int 3] := fun H => .inr ⟨_, _, _, uF, rfl, rfl, by show 4 ≤ sizeLine; decide, .cons ⟨_, rfl⟩ (.cons ⟨_, rfl⟩ (.cons ⟨_, rfl⟩ (.cons ⟨_, rfl⟩ (.nil))))⟩
  have hB : ∀ H : Hp, SqT K H cB [.int 2, .int 3, .int 0, .int 1] := fun H => .inr ⟨_, _, _, uB, rfl, rfl, by show 4 ≤ sizeLine; decide, .cons ⟨_, rfl⟩ (.cons ⟨_, rfl⟩ (.cons ⟨_, rfl⟩ (.cons ⟨_, rfl⟩ (.nil))))⟩
  exact ⟨PySem.W.fnOf "law" "law" (defArgs sLaw) (defBody sLaw) (defScope sLaw) .none kV21 dc21 pm21 an21 cd21 ct21, fun s v => .of_eq rfl, fun base _ _ =>
    ok_law F21 F1 F2 F3 F4 F5 F6 F7 F8 F9 F10 F11 F12 F13 F14 F15 F16 F17 F18 F19 F20 b1 b2 b3 b4 b5 b6 b7 b8 b9 b10 b11 b12 b13 b14 b15 b16 b17 b18 b19 b20 (PySem.W.mg_of X G a1) (PySem.W.mg_of X G a2) (PySem.W.mg_of X G a3) (PySem.W.mg_of X G a4) (PySem.W.mg_of X G a5) (PySem.W.mg_of X G a6) (PySem.W.mg_of X G a7) (PySem.W.mg_of X G a8) (PySem.W.mg_of X G a9) (PySem.W.mg_of X G a10) (PySem.W.mg_of X G a11) (PySem.W.mg_of X G a12) (PySem.W.mg_of X G a13) (PySem.W.mg_of X G a14) (PySem.W.mg_of X G a15) (PySem.W.mg_of X G a16) (PySem.W.mg_of X G a17) (PySem.W.mg_of X G a18) (PySem.W.mg_of X G a19) (PySem.W.mg_of X G a20) (PySem.W.mg_none_of X G z1) (PySem.W.mg_none_of X G z2) (PySem.W.mg_none_of X G z3) (PySem.W.mg_none_of X G z4) (PySem.W.mg_none_of X G z5) (PySem.W.mg_none_of X G z6) (PySem.W.mg_none_of X G z7) (PySem.W.mg_none_of X G z8) (PySem.W.mg_none_of X G z9) (PySem.W.mg_none_of X G z10) (PySem.W.mg_none_of X G z11) (PySem.W.mg_of X G gF) (PySem.W.mg_of X G gB) hF hB⟩
end C2
open PySem PySem.W PyProof.Rows
set_option maxRecDepth 100000 in
set_option maxHeartbeats 0 in
theorem PySem.Challenge.cw_cornertold_k25_mills_of_all_small_picks_holds : PySem.Challenge.rw_cornertold_k25_mills_of_all_small_picks.Holds := by
  w_on; o_law; k_head; (case hw => w_witness2)
  k_fill
  refine C2.walkG (l := PySem.Challenge.rw_cornertold_k25_mills_of_all_small_picks) (n := 63) (k := 6) (x := "_law_script") (sp := C2.spLaw) rfl (by decide) rfl ⟨rfl, by decide, by decide⟩ (fun w h Y => PySem.W.kIn_of Y) ?F (fun _ _ a ns hl hS => ⟨a, ns, rfl, hS, hl, fun _ => rfl⟩)
  case F =>
    intro w mg fa h KX G hmg
    refine' C2.all_mk KX G hmg ?a1 ?l1 ?c1 ?k1 ?a2 ?l2 ?c2 ?k2 ?a3 ?l3 ?c3 ?k3 ?a4 ?l4 ?c4 ?k4 ?a5 ?l5 ?c5 ?k5 ?a6 ?l6 ?c6 ?k6 ?a7 ?l7 ?c7 ?k7 ?a8 ?l8 ?c8 ?k8 ?a9 ?l9 ?c9 ?k9 ?a10 ?l10 ?c10 ?k10 ?a11 ?l11 ?c11 ?k11 ?a12 ?l12 ?c12 ?k12 ?a13 ?l13 ?c13 ?k13 ?a14 ?l14 ?c14 ?k14 ?a15 ?l15 ?c15 ?k15 ?a16 ?l16 ?c16 ?k16 ?a17 ?l17 ?c17 ?k17 ?a18 ?l18 ?c18 ?k18 ?a19 ?l19 ?c19 ?k19 ?a20 ?l20 ?c20 ?k20 ?a21 ?l21 ?c21 ?k21 ?z1 ?z2 ?z3 ?z4 ?z5 ?z6 ?z7 ?z8 ?z9 ?z10 ?z11 ?gF ?uF ?gB ?uB
    (case a1 => k_is); (case l1 => k_is); (case c1 => k_is); (case k1 => k_is); (case a2 => k_is); (case l2 => k_is); (case c2 => k_is); (case k2 => k_is)
    (case a3 => k_is); (case l3 => k_is); (case c3 => k_is); (case k3 => k_is); (case a4 => k_is); (case l4 => k_is); (case c4 => k_is); (case k4 => k_is)
    (case a5 => k_is); (case l5 => k_is); (case c5 => k_is); (case k5 => k_is); (case a6 => k_is); (case l6 => k_is); (case c6 => k_is); (case k6 => k_is)
    (case a7 => k_is); (case l7 => k_is); (case c7 => k_is); (case k7 => k_is); (case a8 => k_is); (case l8 => k_is); (case c8 => k_is); (case k8 => k_is)
    (case a9 => k_is); (case l9 => k_is); (case c9 => k_is); (case k9 => k_is); (case a10 => k_is); (case l10 => k_is); (case c10 => k_is); (case k10 => k_is)
    (case a11 => k_is); (case l11 => k_is); (case c11 => k_is); (case k11 => k_is); (case a12 => k_is); (case l12 => k_is); (case c12 => k_is); (case k12 => k_is)
    (case a13 => k_is); (case l13 => k_is); (case c13 => k_is); (case k13 => k_is); (case a14 => k_is); (case l14 => k_is); (case c14 => k_is); (case k14 => k_is)
    (case a15 => k_is); (case l15 => k_is); (case c15 => k_is); (case k15 => k_is); (case a16 => k_is); (case l16 => k_is); (case c16 => k_is); (case k16 => k_is)
    (case a17 => k_is); (case l17 => k_is); (case c17 => k_is); (case k17 => k_is); (case a18 => k_is); (case l18 => k_is); (case c18 => k_is); (case k18 => k_is)
    (case a19 => k_is); (case l19 => k_is); (case c19 => k_is); (case k19 => k_is); (case a20 => k_is); (case l20 => k_is); (case c20 => k_is); (case k20 => k_is)
    (case a21 => k_is); (case l21 => k_is); (case c21 => k_is); (case k21 => k_is); (case z1 => k_is); (case z2 => k_is); (case z3 => k_is); (case z4 => k_is)
    (case z5 => k_is); (case z6 => k_is); (case z7 => k_is); (case z8 => k_is); (case z9 => k_is); (case z10 => k_is); (case z11 => k_is)
    (case gF => k_is); (case uF => k_is); (case gB => k_is); (case uB => k_is)
