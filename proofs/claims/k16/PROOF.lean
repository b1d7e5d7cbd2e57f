import PyProof.Rows.All
import Wide.All
import OpenK.AllK
import Wide.FinOn
import HandS.ForMost
import HandS.Wide
import HandS.Style
import PyProof.CallFns
import HandS.Deep
import HandS.TupAny
import HandS.DictComp
import HandS.Conv
import HandS.TupLen
import KE.KDictKeyed
import KE.KDictCopyH
import KE.KDictSum
import KE.SortData
import HandS.Dict
import PySem.Challenge.RW_cornertold_k16_told_by_all_small_sets
set_option Elab.async false
set_option linter.all false
set_option maxRecDepth 100000
namespace C2
set_option Elab.async false
set_option linter.all false
set_option maxRecDepth 100000
set_option maxHeartbeats 4000000
open PySem PySem.Spec PyProof.Rows L2
def topS (i : Nat) : Stmt := PySem.Challenge.pw_cornertold_k16_told_by_all_small_sets.main.body.getD i (.Pass ⟨0, 0, 0, 0⟩)
abbrev sLegs : Stmt := topS 1
abbrev sCrossAt : Stmt := topS 2
abbrev sTold : Stmt := topS 4
abbrev sSteps : Stmt := topS 5
abbrev sTellLeg : Stmt := topS 6
abbrev sIsTell : Stmt := topS 7
abbrev sHold : Stmt := topS 8
abbrev sDraws : Stmt := topS 10
abbrev sTake : Stmt := topS 11
abbrev sLLegs : Stmt := topS 12
abbrev sLWires : Stmt := topS 13
abbrev sLTold : Stmt := topS 14
abbrev sSets : Stmt := topS 15
abbrev sLaw : Stmt := topS 16
theorem scDraws : FnScope ["_law_script", "_law_k", "_law_cell", "_law_great"] ["_law_script", "_law_k"] (defScope sDraws) := ⟨rfl, rfl, rfl, by decide +kernel, rfl, by decide +kernel, by decide +kernel⟩
theorem scTake : FnScope ["_law_pot_here", "_law_many", "_law_digit", "_law_turn", "_law_prime", "_law_drawn"] ["_law_pot_here", "_law_many"] (defScope sTake) := ⟨rfl, rfl, rfl, by decide +kernel, rfl, by decide +kernel, by decide +kernel⟩

/-- all that was tracked, but what stands at p, is as it was -/
def Fr (p : Addr) (H H' : Hp) : Prop := ∀ b o, b ≠ p → H b = some o → H' b = some o
theorem Fr.refl (p : Addr) (H : Hp) : Fr p H H := fun _ _ _ h => h
theorem Fr.trans {p : Addr} {H H1 H2 : Hp} (a : Fr p H H1) (b : Fr p H1 H2) : Fr p H H2 := fun c o n h => b c o n (a c o n h)
theorem Fr.same {p : Addr} {H H1 : Hp} (a : Same H H1) : Fr p H H1 := fun c o _ h => a c o h
theorem Fr.upd {p : Addr} {H : Hp} {o : HO} : Fr p H (upd H p o) := fun c u n h => by rw [upd_ne n]; exact h
theorem Fr.new {p q : Addr} {H : Hp} {o : HO} (h : H q = none) : Fr p H (L2.upd H q o) := fun c u n e => by rw [upd_ne (ne_of_none e h)]; exact e
theorem Fr.free {p : Addr} {H H' : Hp} (e : Fr p H H') {l : Addr} (n : l ≠ p) (h : H' l = none) : H l = none := by
  cases q : H l with
  | none => rfl
  | some o => rw [e l o n q] at h; cases h
theorem same_upd {H : Hp} {p : Addr} {o : HO} (h : H p = none) : Same H (upd H p o) := fun b x e => by
  rw [upd_ne (ne_of_none e h)]
  exact e
def PotAt (H : Hp) (p : Addr) (n : Nat) : Prop := ∃ g c t : Int, H p = some (.lst [.int g, .int c, .int t]) ∧ 0 ≤ t ∧ t ≤ (n : Int)
section
variable {P : Program} {w : World} {K : PySem.W.Frag} {mg : Str → Option Value} {base : Heap}
/-! ### draws -/
def spDraws (K : PySem.W.Frag) : Sp := fun vs H Q _ => ∃ (a : Addr) (ns : List Int) (k : Nat), vs = [.ref a, .int (k : Int)] ∧ SqL K H a (ns.map V.int) ∧ k ≤ 1000 ∧
  ∀ H' p, Same H H' → H p = none → PotAt H' p 0 → Q (.ref p) H'
theorem pow_ok1 : CPow 10 18 := ⟨by decide, by decide, by decide⟩
theorem pow_ok2 : CPow 10 60 := ⟨by decide, by decide, by decide⟩
theorem wide1 : CMulW ((10 : Int) ^ (60 : Int).toNat) ((10 : Int) ^ (60 : Int).toNat) := wide_mul (a := 200) (b := 200) (by decide +kernel) (by decide +kernel) (by decide) (by decide) (by decide)
theorem wide2 : CMulW ((10 : Int) ^ (60 : Int).toNat * (10 : Int) ^ (60 : Int).toNat) ((10 : Int) ^ (60 : Int).toNat) := wide_mul (a := 400) (b := 200) (by decide +kernel) (by decide +kernel) (by decide) (by decide) (by decide)
theorem wide3 : (0 : Int) < (10 : Int) ^ (60 : Int).toNat * (10 : Int) ^ (60 : Int).toNat * (10 : Int) ^ (60 : Int).toNat := by decide +kernel
theorem fin_draws {H : Hp} {Q : VK} {a : Addr} {k : Nat} (q : ∀ (H' : Hp) (p : Addr), Same H H' → H p = none → PotAt H' p 0 → Q (V.ref p) H') (hk : k ≤ 1000) (cell great : Int) :
    tRet (tLst (tCons (tVar 3) (tCons (tOp (rI (fun x j => 0 < j) fun i j => V.int (i % j)) (tOp (rI0 fun i j => V.int (i + j)) (tOp (rI0 fun i j => V.int (i + j))
      (tOp (rI CMul fun i j => V.int (i * j)) (tOp (rI (fun x j => 0 < j) fun i j => V.int (i % j)) (tVar 2) (tC (V.int 2305843009213693951))) (tC (V.int 1000033)))
      (tOp (rI CMul fun i j => V.int (i * j)) (tC (V.int 7919)) (tVar 1))) (tC (V.int 41))) (tC (V.int 2305843009213693921))) (tCons (tC (V.int 0)) tNil))))
      { nx := fun x H' => Q V.non H', rt := Q } [some (V.ref a), some (V.int (k : Int)), some (V.int cell), some (V.int great)] H := by
  refine ⟨.int great, rfl, .int cell, rfl, cell, 2305843009213693951, rfl, rfl, (by show (0 : Int) < 2305843009213693951; decide), _, 1000033, rfl, rfl, .inr ⟨by decide, by decide⟩, .int (k : Int), rfl, 7919, (k : Int), rfl, rfl, .inl ⟨by decide, by decide⟩, _, _, rfl, rfl, _, 41, rfl, rfl, _, _, rfl, rfl, (by show (0 : Int) < 2305843009213693921; decide), by show 3 ≤ sizeLine; decide, fun p np => ?_⟩
  exact q _ p (same_upd np) np ⟨_, _, _, upd_same, Int.le_refl _, Int.le_refl _⟩
theorem ok_draws {f : Addr} {fd : FuncData} {k : Nat} (F : Fun K "_law_pot" "_law_pot" sDraws f fd) (ml : mg "len" = none) (ma : mg "abs" = none) : FnOk P w K mg base CX0 (k + 1) f fd ["_law_script", "_law_k"] (spDraws K) := by
  refine F.ok scDraws (fun vs H Q E h => ?_) (fun cdv A outer s H vs Q E hr h => ?_)
  · obtain ⟨a, ns, k, rfl, _⟩ := h
    rfl
  · obtain ⟨a, ns, k, rfl, hS, hk, q⟩ := h
    refine ⟨_, pss_cons (ps_set (i := 2) scDraws.nd rfl (.inl rfl) (pe_ifExp (pt_cmpR op_lt (pv 1) (pe_callB call_len_seq (by rfl) ml PySem.boot_len (pa_cons (pv 0) pa_nil)) (nomark _))
          (pe_ix ix_list (pv 0) (pv 1) (fun _ _ => rfl)) (pe_op op_add (pe_op op_mul pe_int (pv 1)) pe_int)))
      (pss_cons (ps_set (i := 3) scDraws.nd rfl (.inl rfl) (pe_ifExp (pt_cmpR op_ge (pe_callB call_abs (by rfl) ma (by decide +kernel) (pa_cons (pv 2) pa_nil)) (pe_op op_pow pe_int pe_int) (nomark _))
          (pe_op op_mod (pe_callB call_abs (by rfl) ma (by decide +kernel) (pa_cons (pv 2) pa_nil)) (pe_op op_mulW (pe_op op_mulW (pe_op op_pow pe_int pe_int) (pe_op op_pow pe_int pe_int)) (pe_op op_pow pe_int pe_int))) pe_int))
      (pss_one (ps_ret (pe_lst (pa_cons (pv 3) (pa_cons (pe_op op_mod (pe_op op_add (pe_op op_add (pe_op op_mul (pe_op op_mod (pv 2) pe_int) pe_int) (pe_op op_mul pe_int (pv 1))) pe_int) pe_int) (pa_cons pe_int pa_nil))))))), ?_⟩
    refine ⟨.int (k : Int), rfl, .ref a, rfl, a, _, rfl, .inl hS, _, _, rfl, rfl, _, rfl, ite2 (fun e => ?_) (fun e => ?_)⟩
    · have e1 : k < ns.length := by
        have := of_decide_eq_true e
        rw [List.length_map] at this
        omega
      refine ⟨.ref a, rfl, .int (k : Int), rfl, a, _, _, .int ns[k], rfl, rfl, hS, atI_nat (by rw [List.getElem?_map, List.getElem?_eq_getElem e1]; rfl), ?_⟩
      generalize ns[k] = cell
      refine ⟨.int cell, rfl, cell, rfl, 10, 18, rfl, rfl, pow_ok1, _, _, rfl, rfl, _, rfl, ite2 (fun e => ?_) (fun e => ?_)⟩
      · refine ⟨.int cell, rfl, cell, rfl, 10, 60, rfl, rfl, pow_ok2, 10, 60, rfl, rfl, pow_ok2, _, _, rfl, rfl, wide1, 10, 60, rfl, rfl, pow_ok2, _, _, rfl, rfl, wide2, _, _, rfl, rfl, wide3, ?_⟩
        exact fin_draws q hk _ _
      · exact fin_draws q hk _ _
    · refine ⟨.int (k : Int), rfl, 5, (k : Int), rfl, rfl, .inl ⟨by decide, by decide⟩, _, 3, rfl, rfl, ?_⟩
      refine ⟨_, rfl, _, rfl, 10, 18, rfl, rfl, pow_ok1, _, _, rfl, rfl, _, rfl, ite2 (fun e => ?_) (fun e => ?_)⟩
      · refine ⟨_, rfl, _, rfl, 10, 60, rfl, rfl, pow_ok2, 10, 60, rfl, rfl, pow_ok2, _, _, rfl, rfl, wide1, 10, 60, rfl, rfl, pow_ok2, _, _, rfl, rfl, wide2, _, _, rfl, rfl, wide3, ?_⟩
        exact fin_draws q hk _ _
      · exact fin_draws q hk _ _
end
end C2

namespace C2
set_option Elab.async false
set_option linter.all false
set_option maxRecDepth 100000
set_option maxHeartbeats 4000000
open PySem PySem.Spec PyProof.Rows L2
section
variable {P : Program} {w : World} {K : PySem.W.Frag} {mg : Str → Option Value} {base : Heap}
def primes : List V := [.int 2147483647, .int 2147483629, .int 2147483587, .int 2147483579, .int 2147483563, .int 2147483549, .int 2147483543]
theorem primes_at {r : Int} (h0 : 0 ≤ r) (h1 : r < 7) : ∃ v : Int, atI primes r = some (.int v) ∧ 0 < v ∧ v < 2147483648 := by
  have : r = 0 ∨ r = 1 ∨ r = 2 ∨ r = 3 ∨ r = 4 ∨ r = 5 ∨ r = 6 := by omega
  rcases this with rfl | rfl | rfl | rfl | rfl | rfl | rfl <;> exact ⟨_, rfl, by decide, by decide⟩
def spTake : Sp := fun vs H Q _ => ∃ (p : Addr) (m : Int) (n : Nat), vs = [.ref p, .int m] ∧ PotAt H p n ∧ n < 1000000 ∧ 0 < m ∧ m < 1073741824 ∧
  ∀ (d : Int) H', Fr p H H' → PotAt H' p (n + 1) → 0 ≤ d → d < m → Q (.int d) H'
theorem ok_take {f : Addr} {fd : FuncData} {k : Nat} (F : Fun K "_law_take" "_law_take" sTake f fd) : FnOk P w K mg base CX0 (k + 1) f fd ["_law_pot_here", "_law_many"] spTake := by
  refine F.ok scTake (fun vs H Q E h => ?_) (fun cdv A outer s H vs Q E hr h => ?_)
  · obtain ⟨a, ns, k, rfl, _⟩ := h
    rfl
  · obtain ⟨p, m, n, rfl, ⟨g, c, t, hp, ht0, ht1⟩, hn, hm0, hm1, q⟩ := h
    refine ⟨_, pss_cons (ps_if (pt_cmpR op_gt (pe_ix ix_list (pv 0) pe_int (fun _ _ => rfl)) pe_int (nomark _))
        (pss_cons (ps_set (i := 2) scTake.nd rfl (.inl rfl) (pe_op op_mod (pe_ix ix_list (pv 0) pe_int (fun _ _ => rfl)) (pv 1)))
          (pss_cons (ps_asg (pe_op op_fdiv (pe_ix ix_list (pv 0) pe_int (fun _ _ => rfl)) (pv 1)) (pg_sub (pv 0) pe_int set_list)) (pss_one (ps_ret (pv 2))))) pss_nil)
      (pss_cons (ps_set (i := 3) scTake.nd rfl (.inl rfl) (pe_op op_add (pe_ix ix_list (pv 0) pe_int (fun _ _ => rfl)) pe_int))
      (pss_cons (ps_asg (pv 3) (pg_sub (pv 0) pe_int set_list))
      (pss_cons (ps_set (i := 4) scTake.nd rfl (.inl rfl) (pe_ix ix_list (pe_lst (pa_cons pe_int (pa_cons pe_int (pa_cons pe_int (pa_cons pe_int (pa_cons pe_int (pa_cons pe_int (pa_cons pe_int pa_nil))))))))
          (pe_op op_mod (pv 3) pe_int) (fun _ _ => rfl)))
      (pss_cons (ps_set (i := 5) scTake.nd rfl (.inl rfl) (pe_op op_add (pe_op op_mod (pe_op op_mod (pe_op op_add (pe_ix ix_list (pv 0) pe_int (fun _ _ => rfl))
          (pe_op op_mul (pe_op op_mul pe_int (pv 3)) (pv 3))) (pe_op op_mul (pv 4) (pv 4))) (pv 4)) pe_int))
      (pss_one (ps_ret (pe_op op_mod (pe_op op_fdiv (pe_op op_mod (pe_op op_mul (pv 5) (pe_op op_add (pe_op op_mod (pv 5) pe_int) (pv 3))) (pv 4)) pe_int) (pv 1)))))))), ?_⟩
    have L0 : SqL K H p [.int g, .int c, .int t] := .inl (.inl hp)
    refine ⟨.ref p, rfl, p, _, 0, .int g, rfl, rfl, L0, rfl, _, _, rfl, rfl, _, rfl, ite2 (fun e => ?_) (fun e => ?_)⟩
    · refine ⟨.ref p, rfl, p, _, 0, .int g, rfl, rfl, L0, rfl, .int m, rfl, _, _, rfl, rfl, hm0, ?_⟩
      refine ⟨.ref p, rfl, p, _, 0, .int g, rfl, rfl, L0, rfl, .int m, rfl, _, _, rfl, rfl, ⟨hm0, hm1⟩, ?_⟩
      refine ⟨.ref p, rfl, p, _, 0, 0, rfl, rfl, hp, rfl, ?_⟩
      refine ⟨_, rfl, q _ _ Fr.upd ⟨_, _, _, upd_same, ht0, by omega⟩ (Int.emod_nonneg _ (by omega)) (Int.emod_lt_of_pos _ hm0)⟩
    · refine ⟨.ref p, rfl, p, _, 2, .int t, rfl, rfl, L0, rfl, _, 1, rfl, rfl, ?_⟩
      refine ⟨.int (t + 1), rfl, .ref p, rfl, p, _, 2, 2, rfl, rfl, hp, rfl, ?_⟩
      have hp2 : (upd H p (.lst (List.set [.int g, .int c, .int t] 2 (.int (t + 1))))) p = some (.lst [.int g, .int c, .int (t + 1)]) := upd_same
      refine ⟨by show 7 ≤ sizeLine; decide, fun o no => ?_⟩
      have npo : p ≠ o := ne_of_none hp2 no
      have hp3 : (upd (upd H p (.lst (List.set [.int g, .int c, .int t] 2 (.int (t + 1))))) o (.lst primes)) p = some (.lst [.int g, .int c, .int (t + 1)]) := by
        rw [upd_ne npo]
        exact hp2
      have fr3 : Fr p H (upd (upd H p (.lst (List.set [.int g, .int c, .int t] 2 (.int (t + 1))))) o (.lst primes)) := Fr.trans Fr.upd (Fr.new no)
      have L3 : SqL K (upd (upd H p (.lst (List.set [.int g, .int c, .int t] 2 (.int (t + 1))))) o (.lst primes)) p [.int g, .int c, .int (t + 1)] := .inl (.inl hp3)
      have LO : SqL K (upd (upd H p (.lst (List.set [.int g, .int c, .int t] 2 (.int (t + 1))))) o (.lst primes)) o primes := .inl (.inl upd_same)
      obtain ⟨v, hv, v0, v1⟩ := primes_at (r := (t + 1) % 7) (Int.emod_nonneg _ (by decide)) (Int.emod_lt_of_pos _ (by decide))
      have b20 : (-(2 ^ 64) : Int) < t + 1 ∧ t + 1 < 2 ^ 64 := ⟨by omega, by omega⟩
      have bv : (-(2 ^ 64) : Int) < v ∧ v < 2 ^ 64 := ⟨by omega, by omega⟩
      refine ⟨.int (t + 1), rfl, _, 7, rfl, rfl, (by show (0 : Int) < 7; decide), o, _, _, _, rfl, rfl, LO, hv, ?_⟩
      refine ⟨.ref p, rfl, p, _, 1, .int c, rfl, rfl, L3, rfl, .int (t + 1), rfl, 69621, _, rfl, rfl, .inr b20, .int (t + 1), rfl, _, _, rfl, rfl, .inr b20, _, _, rfl, rfl,
        .int v, rfl, .int v, rfl, v, v, rfl, rfl, .inl bv, _, _, rfl, rfl, (Int.mul_pos v0 v0), .int v, rfl, _, _, rfl, rfl, v0, _, 1, rfl, rfl, ?_⟩
      have z0 := Int.emod_nonneg ((c + 69621 * (t + 1) * (t + 1)) % (v * v)) (show v ≠ 0 by omega)
      have z1 := Int.emod_lt_of_pos ((c + 69621 * (t + 1) * (t + 1)) % (v * v)) v0
      generalize (c + 69621 * (t + 1) * (t + 1)) % (v * v) % v = z at z0 z1
      have bz : (-(2 ^ 64) : Int) < z + 1 ∧ z + 1 < 2 ^ 64 := ⟨by omega, by omega⟩
      refine ⟨.int (z + 1), rfl, .int (z + 1), rfl, z + 1, 1009, rfl, rfl, (by show (0 : Int) < 1009; decide), .int (t + 1), rfl, _, _, rfl, rfl, _, _, rfl, rfl, .inl bz, .int v, rfl, _, _, rfl, rfl, v0, _, 7, rfl, rfl, ⟨by decide, by decide⟩,
        .int m, rfl, _, _, rfl, rfl, hm0, ?_⟩
      exact q _ _ fr3 ⟨_, _, _, hp3, by omega, by omega⟩ (Int.emod_nonneg _ (by omega)) (Int.emod_lt_of_pos _ hm0)
end
end C2

namespace C2
set_option Elab.async false
set_option linter.all false
set_option maxRecDepth 100000
set_option maxHeartbeats 4000000
open PySem PySem.Spec PyProof.Rows L2
theorem seqAsg {ta : TE} {i : Nat} {t : TS} {D : _} {σ : L2.St} {H : Hp} (h : ta σ H fun x H1 => t D (σ.set i (some x)) H1) : tSeq (tAsg ta (gName i)) t D σ H := h
theorem tcb_run {r : List V → Hp → VK → Prop} {te : TE} {σ : L2.St} {H : Hp} {Q : VK} (h : te σ H fun x H1 => r [x] H1 Q) : tCB r (tCons te tNil) σ H Q := h
theorem gName_run {i : Nat} {v : V} {σ : L2.St} {H : Hp} {Q : L2.St → Hp → Prop} (h : Q (σ.set i (some v)) H) : gName i v σ H Q := h
theorem PotAt.mono {H : Hp} {p : Addr} {n m : Nat} (h : PotAt H p n) (l : n ≤ m) : PotAt H p m := by
  obtain ⟨g, c, t, a, b, d⟩ := h
  exact ⟨g, c, t, a, b, by omega⟩
theorem PotAt.new {H : Hp} {p t : Addr} {n : Nat} {o : HO} (h : PotAt H p n) (nt : H t = none) : PotAt (upd H t o) p n := by
  obtain ⟨g, c, u, hp, r⟩ := h
  exact ⟨g, c, u, by rw [upd_ne (ne_of_none hp nt)]; exact hp, r⟩
theorem PotAt.ne {H : Hp} {p t : Addr} {n : Nat} (h : PotAt H p n) (nt : H t = none) : t ≠ p := by
  obtain ⟨g, c, u, hp, r⟩ := h
  exact fun e => by rw [e, hp] at nt; cases nt
theorem PotAt.same {H H' : Hp} {p : Addr} {n : Nat} (h : PotAt H p n) (s : Same H H') : PotAt H' p n := by
  obtain ⟨g, c, u, hp, r⟩ := h
  exact ⟨g, c, u, s _ _ hp, r⟩
theorem PotAt.at {H : Hp} {p D : Addr} {o : HO} {n : Nat} (h : PotAt H p n) (ne : D ≠ p) : PotAt (upd H D o) p n := by
  obtain ⟨g, c, u, hp, r⟩ := h
  exact ⟨g, c, u, by rw [upd_ne ne.symm]; exact hp, r⟩
end C2

namespace C2
set_option Elab.async false
set_option linter.all false
set_option maxRecDepth 100000
set_option maxHeartbeats 4000000
open PySem PySem.Spec PyProof.Rows L2
/-! ### a def's promise where no repr is under way -/
structure FnG (P : Program) (w : World) (K : PySem.W.Frag) (mg : Str → Option Value) (base : Heap) (k : Nat) (f : Addr) (fd : FuncData) (ps : List Str) (sp : Sp) : Prop where
  len : ∀ vs G Q E, sp vs G Q E → vs.length = ps.length
  run : ∀ (A : Around) (outer : List Env) (s : Shared) (G : Hp) (args : Args) (us : List Value) (vs : List V) (Q : VK) (E : XK), A.guards = some [] → Room k A →
    Env0 P w K mg base A outer s G → BindsTo s fd args (ps.zip us) → Vals vs us → sp vs G Q E → codeAny (model P w) A (.call (.ref f) args) (CR CX0 outer P w G s Q E) s
section
variable {P : Program} {w : World} {K : PySem.W.Frag} {mg : Str → Option Value} {base : Heap}
theorem deeper_guards {A : Around} {env : Env} (h : A.guards = some []) : (A.deeper env).guards = some [] := h
theorem okG {x qual : Str} {st : Stmt} {f : Addr} {fd : FuncData} {N ps : List Str} {k : Nat} {sp : Sp} (F : Fun K x qual st f fd) (S : FnScope N ps (defScope st)) (len : ∀ vs G Q E, sp vs G Q E → vs.length = ps.length)
    (body : ∀ (cdv : Value) (A : Around) (outer : List Env) (s : Shared) (G : Hp) (vs : List V) (Q : VK) (E : XK), A.guards = some [] → Room k (A.deeper (envOfC qual (defScope st) s.heap.objs.size f cdv)) → sp vs G Q E →
      ∃ t, PSs (cxOf CX0 P w K mg base N qual (defScope st) f cdv A outer s G E).nox (defBody st) t ∧ t { nx := fun _ G' => Q .non G', rt := Q } (start N vs) G) : FnG P w K mg base (k + 1) f fd ps sp := by
  obtain ⟨v1, v2, v3, v4, v5, v6, cdv, v7, v8, rfl, lk, hcd⟩ := F.ex
  refine ⟨len, fun A outer s G args us vs Q E hgd hr e0 hb r hsp => ?_⟩
  have ln := len vs G Q E hsp
  have inK : K.In s.heap := e0.mod.kin.keeps fun c y e => (e0.bs c y e).left
  have noL : s.heap.NoLimit := e0.mod.nolimit.keeps fun c y e => (e0.bs c y e).left
  refine codeAny_call_function hr.depth (inK _ _ lk) rfl S.co S.gen rfl (PySem.W.codeRec_of inK hcd) (hb _ _ _ _ ?_)
  refine wpAny_newFunctionEnv_cells S.kind (fun y hy => ?_) fun env he s1 x => ?_
  · rcases S.par y.1 (List.of_mem_zip (a := y.1) (b := y.2) hy).1 with q | q
    · exact Or.inl q
    · exact Or.inr ⟨q, PySem.W.cellsFrom_some _ _ _ (Or.inl q)⟩
  · subst he
    refine ⟨noL.keeps x.toInCall.keep, codeAny_func ?_⟩
    obtain ⟨t, ht, hq⟩ := body cdv A outer s G vs Q E hgd (hr.deeper _) hsp
    have J0 := inv_start (CX := CX0) (E := E) S hr.hd e0 ln r x
    refine wpAny_mono (ht.nox.run [] s1 (start N vs) G _ J0 hq) (fun fl s' hs => ?_) fun _ _ hs => hs
    cases fl with
    | ret u =>
      obtain ⟨v, σ', G', J, rv, q⟩ := hs
      exact ⟨v, G', J.os, J.bare, J.base, J.hok, rv, q⟩
    | next =>
      obtain ⟨σ', G', J, q⟩ := hs
      exact ⟨V.non, G', J.os, J.bare, J.base, J.hok, rfl, q⟩
    | brk =>
      obtain ⟨_, _, _, q⟩ := hs
      exact q.elim
    | cont =>
      obtain ⟨_, _, _, q⟩ := hs
      exact q.elim
/-- what the law's own call leaves: True, and what stood before as it was -/
def Leaves (s₁ : Shared) : Except Value Flow → Shared → Prop := fun r s' => r = .ok (.ret (.bool true)) ∧ OldK s₁.heap s'.heap ∧
  s'.os = s₁.os ∧ AllBare s'.gens
/-- the law's own call -/
theorem law_callG {mb : Str → Option Value} {k : Nat} {fa a : Addr} {fd : FuncData} {x : Str} {sp : Sp} {s₁ : Shared} {vs : List Value} {ns : List Int}
    (inK : K.In s₁.heap) (hns : s₁.heap.Ns mainGlobals mg) (hb : s₁.heap.Ns builtinsNs mb) (hbb : ∀ x : Str, x ≠ "__name__" → mb x = bootBuiltins x) (hlim : s₁.heap.NoLimit) (hg : s₁.gens = #[])
    (hr : Room k callerA) (hl : ns.length ≤ sizeLine) (hi : IntsAre vs ns)
    (ha : s₁.heap.get? a = some { cls := .type "list", data := .seq vs.toArray })
    (F : ∀ base : Heap, K.In base → base.Ns mainGlobals mg → FnG P w K mg base k fa fd [x] sp) (hbind : ∀ (s : Shared) (u : Value), BindsTo s fd ⟨[u], []⟩ [(x, u)])
    (hsp : ∀ G : Hp, SqL K G a (ns.map V.int) → sp [.ref a] G (fun v _ => v = .bl true) fun _ _ _ => False) :
    codeAny (model P w) callerA (.call (.ref fa) ⟨[.ref a], []⟩) (Leaves s₁) s₁ := by
  have main : ∀ G : Hp, Only G → SqL K G a (ns.map V.int) → HOk P w G s₁.heap → (∀ b, G b ≠ none → b = a) → (G a ≠ none → K.lookup a = none) →
      codeAny (model P w) callerA (.call (.ref fa) ⟨[.ref a], []⟩) (Leaves s₁) s₁ := by
    intro G only sq hok one off
    have hid : ∀ {b : Addr} {y : Obj}, s₁.heap.get? b = some y → (G b = none) → (hidT s₁.heap G).get? b = some y := fun e n => hidT_get e n
    have dct : ∀ {b : Addr} {y : Obj} {es : Array DictEntry} {ep : Nat}, s₁.heap.get? b = some y → y.data = .dict es ep → G b = none := by
      intro b y es ep e d
      cases q : G b with
      | none => rfl
      | some u =>
        have z : b = a := one b (by rw [q]; exact Option.some_ne_none u)
        rw [z, ha] at e
        cases e
        exact absurd d (by intro c; cases c)
    have nsp : ∀ {b : Addr} {m : Str → Option Value}, s₁.heap.Ns b m → (hidT s₁.heap G).Ns b m := by
      rintro b m ⟨y, es, ep, e, d, r⟩
      exact ⟨y, es, ep, hid e (dct e d), d, r⟩
    have kb : K.In (hidT s₁.heap G) := by
      intro b y e
      refine hid (inK b y e) ?_
      cases q : G b with
      | none => rfl
      | some u =>
        have z : b = a := one b (by rw [q]; exact Option.some_ne_none u)
        rw [z] at q e
        rw [off (by rw [q]; exact Option.some_ne_none u)] at e
        cases e
    have md : Mod K mg (hidT s₁.heap G) := by
      refine ⟨kb, nsp hns, ⟨mb, nsp hb, hbb⟩, ?_⟩
      obtain ⟨mc, y1, y2⟩ := hlim
      exact ⟨mc, nsp y1, y2⟩
    have e0 : Env0 P w K mg (hidT s₁.heap G) callerA [] s₁ G :=
      ⟨rfl, md, fun b y e => of_hidT e, Nat.le_of_eq (hidT_size _ _), trivial, fun b z => absurd (show b ∈ ([] : List Addr) from z) List.not_mem_nil, hok, .of_eq hg⟩
    refine codeAny_mono ((F _ kb (nsp hns)).run callerA [] s₁ G ⟨[.ref a], []⟩ [.ref a] [.ref a] _ _ rfl hr e0 (hbind s₁ (.ref a)) (.cons rfl .nil) (hsp G sq)) fun r s' h => ?_
    cases r with
    | error e => exact False.elim h
    | ok fl => cases fl with
      | next => exact False.elim h
      | brk => exact False.elim h
      | cont => exact False.elim h
      | ret u =>
        obtain ⟨v, G', os, bare, un, hok', r', (q : v = .bl true)⟩ := h
        subst q
        cases (show u = Value.bool true from r')
        refine ⟨rfl, OldK.of_keep fun b y e => ?_, os, bare⟩
        cases q : G b with
        | none => exact un.keep b y e q (fun z => absurd (show b ∈ ([] : List Addr) from z) List.not_mem_nil) List.not_mem_nil
        | some u => rcases only b with z | ⟨ob, xs, z⟩
                    · rw [q] at z; cases z
                    · have f1 := (hok b _ z).1
                      have f2 := (hok' b _ (un.frzs b ob _ z)).1
                      rw [e] at f1
                      cases f1
                      exact f2
  have rv := vals_ints hi
  have ln := hi.length
  cases hk : K.lookup a with
  | some y =>
    have e := inK a y hk
    rw [ha] at e
    cases e
    exact main (fun _ => none) (fun _ => .inl rfl) (.inr ⟨_, vs.toArray, _, hk, rfl, rfl, rfl, by rw [List.size_toArray, ln]; exact hl, by simpa using rv⟩)
      (fun b u z => by cases (show (none : Option HO) = some u from z)) (fun b z => absurd rfl z) fun z => absurd rfl z
  | none =>
    obtain ⟨G, at_a, not_a⟩ : ∃ G : Hp, (∀ b, b = a → G b = some (.frz { cls := .type "list", data := .seq vs.toArray } (.lst (ns.map V.int)))) ∧ ∀ b, b ≠ a → G b = none :=
      ⟨fun b => if b = a then some (HO.frz { cls := .type "list", data := .seq vs.toArray } (.lst (ns.map V.int))) else none, fun b e => if_pos e, fun b e => if_neg e⟩
    refine main G (fun b => ?_) (.inl (.inr ⟨_, at_a a rfl⟩)) (fun b u z => ?_) (fun b z => ?_) fun _ => hk
    · by_cases c : b = a
      · exact .inr ⟨_, _, at_a b c⟩
      · exact .inl (not_a b c)
    · by_cases c : b = a
      · rw [at_a b c] at z
        cases z
        rw [c]
        refine ⟨ha, ?_, vs, _, rv, ha⟩
        rw [List.length_map]
        exact hl
      · rw [not_a b c] at z
        cases z
    · by_cases c : b = a
      · exact c
      · exact absurd (not_a b c) z
end
theorem walkG {l : PySem.W.OpenLaw} {n k : Nat} {q : Program} {loose : List Str} {XP : (Str → Option Value) → Heap → Prop} {YP : World → Heap → Prop} {d : DefRec} {K : Params → PySem.W.Frag} {sp : PySem.W.Frag → Sp} {x : Str}
    (most : l.most = some n) (short : n ≤ sizeLine) (bare : d.params.defaults = []) (room : Room k callerA)
    (stands : ∀ (w : World) (h : Heap), YP w h → (K w.params).In h)
    (promise : ∀ (w : World) (mg : Str → Option Value) (fa : Addr) (h : Heap), (K w.params).In h → h.Ns mainGlobals mg →
      mg d.name = some (.ref fa) →
      ∃ fd : FuncData, (∀ (s : Shared) (u : Value), BindsTo s fd ⟨[u], []⟩ [(x, u)]) ∧ ∀ base : Heap, (K w.params).In base → base.Ns mainGlobals mg → FnG l.prog w (K w.params) mg base k fa fd [x] (sp (K w.params)))
    (hsp : ∀ (K : PySem.W.Frag) (G : Hp) (a : Addr) (ns : List Int), ns.length ≤ n → SqL K G a (ns.map V.int) → sp K [.ref a] G (fun v _ => v = .bl true) fun _ _ _ => False) :
    PySem.W.WalkO q loose XP YP l.row.toRowW d []
      (fun f vs => PySem.call f vs) := by
  refine Att.attach_call most bare fun w _ s₁ mg mb fa _ _ _ _ a vs ns G Y _ _ _ hmg there nums few gens => ?_
  have inK := stands w _ Y
  obtain ⟨fd, binds, ok⟩ := promise w mg fa _ inK G.T.g hmg
  exact law_callG inK G.T.g G.T.b G.T.builtins G.T.nolimit gens room (Nat.le_trans few short) nums there ok binds fun H hS => hsp _ H a ns few hS
end C2

namespace C2
set_option Elab.async false
set_option linter.all false
set_option maxRecDepth 100000
set_option maxHeartbeats 1000000
open PySem PySem.Spec PyProof.Rows L2 HT
/-! ### things: data of any kind, dicts of one text too -/
def FrX (E : Addr → Prop) (H H' : Hp) : Prop := ∀ b o, ¬ E b → H b = some o → H' b = some o
theorem FrX.same {E : Addr → Prop} {H H' : Hp} (s : Same H H') : FrX E H H' := fun b o _ h => s b o h
theorem FrX.of {N : Addr → Prop} {p : Addr} {H H' : Hp} (f : Fr p H H') (np : N p) : FrX N H H' := fun b o nb h => f b o (fun z => nb (z ▸ np)) h
mutual
/-- the thing v holds the data d, and no part of it stands in E -/
inductive Dq (E : Addr → Prop) (H : Hp) : V → PyData → Prop
  | non : Dq E H .non .none
  | bl (b : Bool) : Dq E H (.bl b) (.bool b)
  | int (i : Int) : Dq E H (.int i) (.int i)
  | str (x : Str) : Dq E H (.str x) (.str x)
  | lst {a : Addr} {xs : List V} {ds : List PyData} (e : H a = some (.lst xs)) (n : ¬ E a) (y : sysModules ≠ a) (h : DqAll E H xs ds) : Dq E H (.ref a) (.list ds)
  | tup {a : Addr} {xs : List V} {ds : List PyData} (e : H a = some (.tup xs)) (n : ¬ E a) (h : DqAll E H xs ds) : Dq E H (.ref a) (.tuple ds)
  | dic {a : Addr} {kvs : List (Str × V)} {des : List (PyData × PyData)} (e : H a = some (.dK (kvs.map fun kv => (Sum.inr kv.1, kv.2)))) (n : ¬ E a) (h : DqKv E H kvs des) : Dq E H (.ref a) (.dict des)
inductive DqAll (E : Addr → Prop) (H : Hp) : List V → List PyData → Prop
  | nil : DqAll E H [] []
  | cons {v : V} {vs : List V} {d : PyData} {ds : List PyData} (h : Dq E H v d) (t : DqAll E H vs ds) : DqAll E H (v :: vs) (d :: ds)
inductive DqKv (E : Addr → Prop) (H : Hp) : List (Str × V) → List (PyData × PyData) → Prop
  | nil : DqKv E H [] []
  | one {k : Str} {v : V} {d : PyData} (h : Dq E H v d) : DqKv E H [(k, v)] [(.str k, d)]
end
mutual
theorem Dq.fr {E : Addr → Prop} {H H' : Hp} (f : FrX E H H') : ∀ (d : PyData) {v : V}, Dq E H v d → Dq E H' v d
  | .none, _, h => by cases h; exact .non
  | .bool b, _, h => by cases h; exact .bl b
  | .int i, _, h => by cases h; exact .int i
  | .str x, _, h => by cases h; exact .str x
  | .list ds, _, h => by
    cases h with
    | lst e n y t => exact .lst (f _ _ n e) n y (DqAll.fr f ds t)
  | .tuple ds, _, h => by
    cases h with
    | tup e n t => exact .tup (f _ _ n e) n (DqAll.fr f ds t)
  | .dict [], _, h => by
    cases h with
    | dic e n t => cases t; exact .dic (kvs := []) (f _ _ n e) n .nil
  | .dict [(.str k, d)], _, h => by
    cases h with
    | dic e n t =>
      cases t with
      | one h => exact .dic (kvs := [(k, _)]) (f _ _ n e) n (.one (Dq.fr f d h))
  | .dict ((.none, _) :: _), _, h => by cases h with | dic e n t => cases t
  | .dict ((.bool _, _) :: _), _, h => by cases h with | dic e n t => cases t
  | .dict ((.int _, _) :: _), _, h => by cases h with | dic e n t => cases t
  | .dict ((.list _, _) :: _), _, h => by cases h with | dic e n t => cases t
  | .dict ((.tuple _, _) :: _), _, h => by cases h with | dic e n t => cases t
  | .dict ((.dict _, _) :: _), _, h => by cases h with | dic e n t => cases t
  | .dict ((.str _, _) :: _ :: _), _, h => by cases h with | dic e n t => cases t
theorem DqAll.fr {E : Addr → Prop} {H H' : Hp} (f : FrX E H H') : ∀ (ds : List PyData) {vs : List V}, DqAll E H vs ds → DqAll E H' vs ds
  | [], _, h => by cases h; exact .nil
  | d :: ds, _, h => by
    cases h with
    | cons x t => exact .cons (Dq.fr f d x) (DqAll.fr f ds t)
end
end C2

namespace C2
set_option Elab.async false
set_option linter.all false
set_option maxRecDepth 100000
set_option maxHeartbeats 1000000
open PySem PySem.Spec PyProof.Rows L2 HT
theorem DqAll.len {E : Addr → Prop} {H : Hp} : ∀ {ds : List PyData} {vs : List V}, DqAll E H vs ds → vs.length = ds.length
  | [], _, h => by cases h; rfl
  | d :: ds, _, h => by
    cases h with
    | cons x t => rw [List.length_cons, List.length_cons, DqAll.len t]
theorem DqAll.app {E : Addr → Prop} {H : Hp} : ∀ {ds es : List PyData} {vs ws : List V}, DqAll E H vs ds → DqAll E H ws es → DqAll E H (vs ++ ws) (ds ++ es)
  | [], _, _, _, h, t => by cases h; exact t
  | d :: ds, _, _, _, h, t => by
    cases h with
    | cons x y => exact .cons x (DqAll.app y t)
theorem DqAll.nth {E : Addr → Prop} {H : Hp} : ∀ {ds : List PyData} {vs : List V} {v : V}, DqAll E H vs ds → v ∈ vs → ∃ d, d ∈ ds ∧ Dq E H v d
  | [], _, _, h, e => by cases h; cases e
  | d :: ds, _, v, h, e => by
    cases h with
    | cons x y =>
      rcases List.mem_cons.mp e with rfl | e
      · exact ⟨d, List.mem_cons_self, x⟩
      · obtain ⟨d', h1, h2⟩ := DqAll.nth y e
        exact ⟨d', List.mem_cons_of_mem _ h1, h2⟩
theorem DqAll.take {E : Addr → Prop} {H : Hp} : ∀ {ds : List PyData} {vs : List V} (n : Nat), DqAll E H vs ds → DqAll E H (vs.take n) (ds.take n)
  | [], _, n, h => by cases h; simp; exact .nil
  | d :: ds, _, 0, h => .nil
  | d :: ds, _, n + 1, h => by
    cases h with
    | cons x y => exact .cons x (DqAll.take n y)
theorem DqAll.drop {E : Addr → Prop} {H : Hp} : ∀ {ds : List PyData} {vs : List V} (n : Nat), DqAll E H vs ds → DqAll E H (vs.drop n) (ds.drop n)
  | [], _, n, h => by cases h; simp; exact .nil
  | d :: ds, _, 0, h => h
  | d :: ds, _, n + 1, h => by
    cases h with
    | cons x y => exact DqAll.drop n y
theorem DqAll.rev {E : Addr → Prop} {H : Hp} : ∀ {ds : List PyData} {vs : List V}, DqAll E H vs ds → DqAll E H vs.reverse ds.reverse
  | [], _, h => by cases h; exact .nil
  | d :: ds, _, h => by
    cases h with
    | cons x y =>
      have z := (DqAll.rev y).app (DqAll.cons x .nil)
      simpa using z
section
variable {X : Cx} {pins : List (Addr × Obj)} {σ : L2.St} {H : Hp} {s : Shared}
/-- a dict of one text, or of none -/
theorem dic_reads {a : Addr} {kvs : List (Str × V)} (I : Inv X pins σ H s) (e : H a = some (.dK (kvs.map fun kv => (Sum.inr kv.1, kv.2)))) (few : kvs.length ≤ 1) :
    sysModules ≠ a ∧ ∃ o es n, s.heap.get? a = some o ∧ o.cls = .type "dict" ∧ o.data = .dict es n ∧ ((kvs = [] ∧ es.toList = []) ∨ ∃ k v u t en, kvs = [(k, v)] ∧ RelV v u ∧ es.toList = [en] ∧ en.key = .str k t ∧ en.val = u) := by
  obtain ⟨_, ns, vs, kv, o, es, ep, g, xd, dt, _, prs, _⟩ := dk_of I.hok e
  refine ⟨fun z => beq_eq_false_iff_ne.mp ns z.symm, o, es, ep, g, xd.1, dt, ?_⟩
  match kvs, few with
  | [], _ =>
    cases kv
    cases q : es.toList with
    | nil => exact .inl ⟨rfl, rfl⟩
    | cons y ys => rw [q] at prs; cases prs
  | [(k, v)], _ =>
    obtain ⟨u, rfl, ru⟩ : ∃ u, vs = [(Sum.inr k, u)] ∧ RelV v u := by
      cases kv with
      | cons h t =>
        cases t
        rename_i w _
        exact ⟨w.2, by rw [show (Sum.inr k : Key) = w.1 from h.1], h.2⟩
    cases q : es.toList with
    | nil => rw [q] at prs; cases prs
    | cons y ys =>
      rw [q] at prs
      cases prs with
      | cons h1 h2 h3 =>
        cases h3
        have h1' : keyIs (Sum.inr k) y.key = true := h1
        rcases keyIs_shape h1' with ⟨_, _, z, _⟩ | ⟨x, t, z, w⟩
        · cases z
        · cases z
          exact .inr ⟨k, v, u, t, y, rfl, ru, rfl, w, h2⟩
mutual
theorem Dq.reads {E : Addr → Prop} (I : Inv X pins σ H s) : ∀ (d : PyData) {v : V} {u : Value}, Dq E H v d → RelV v u → ∃ as, Reads s.heap u d as ∧ sysModules ∉ as
  | .none, _, _, h, r => by cases h; cases r; exact ⟨[], .none, List.not_mem_nil⟩
  | .bool b, _, _, h, r => by cases h; cases r; exact ⟨[], .bool b, List.not_mem_nil⟩
  | .int i, _, _, h, r => by
    cases h
    obtain ⟨t, rfl⟩ := r
    exact ⟨[], .int i t, List.not_mem_nil⟩
  | .str x, _, _, h, r => by
    cases h
    obtain ⟨t, rfl⟩ := r
    exact ⟨[], .str x t, List.not_mem_nil⟩
  | .list ds, _, _, h, r => by
    cases h with
    | lst e n y t =>
      cases r
      obtain ⟨us, rv, ⟨ob, m, g, c, _, dt⟩, _⟩ := I.list (.inl (.inl e))
      obtain ⟨as, rd, no⟩ := DqAll.reads I ds t rv
      exact ⟨_, .list g c dt rd, fun z => (List.mem_cons.mp z).elim y no⟩
  | .tuple ds, _, _, h, r => by
    cases h with
    | tup e n t =>
      cases r
      obtain ⟨us, rv, ⟨ob, g, c, m, dt⟩, _⟩ := I.tuple (.inl (.inl e))
      obtain ⟨as, rd, no⟩ := DqAll.reads I ds t rv
      exact ⟨_, .tuple g c dt rd, no⟩
  | .dict [], _, _, h, r => by
    cases h with
    | dic e n t =>
      cases t
      cases r
      obtain ⟨ns, o, es, m, g, c, dt, h⟩ := dic_reads (kvs := []) I e (by decide)
      rcases h with ⟨_, e0⟩ | ⟨_, _, _, _, _, z, _⟩
      · refine ⟨_, .dict (kvs := []) (as := []) (bs := []) g c dt (by rw [e0]; exact .nil) (by rw [e0]; exact .nil), fun z => ?_⟩
        simp at z
        exact ns z
      · cases z
  | .dict [(.str k, d)], _, _, h, r => by
    cases h with
    | dic e n t =>
      cases t with
      | one hv =>
        cases r
        obtain ⟨ns, o, es, m, g, c, dt, h⟩ := dic_reads (kvs := [(k, _)]) I e (by show 1 ≤ 1; decide)
        rcases h with ⟨z, _⟩ | ⟨k', v', u', t', en, z, ru, e1, ek, ev⟩
        · cases z
        · cases z
          obtain ⟨as, rd, no⟩ := Dq.reads I d hv ru
          refine ⟨_, .dict (kvs := [(.str k, d)]) (as := [] ++ []) (bs := as ++ []) g c dt (by rw [e1]; show ReadsAll _ [en.key] [PyData.str k] _; rw [ek]; exact .cons (.str k t') .nil) (by rw [e1]; show ReadsAll _ [en.val] [d] _; rw [ev]; exact .cons rd .nil), fun z => ?_⟩
          simp at z
          rcases z with z | z
          · exact ns z
          · exact no z
  | .dict ((.none, _) :: _), _, _, h, _ => by cases h with | dic e n t => cases t
  | .dict ((.bool _, _) :: _), _, _, h, _ => by cases h with | dic e n t => cases t
  | .dict ((.int _, _) :: _), _, _, h, _ => by cases h with | dic e n t => cases t
  | .dict ((.list _, _) :: _), _, _, h, _ => by cases h with | dic e n t => cases t
  | .dict ((.tuple _, _) :: _), _, _, h, _ => by cases h with | dic e n t => cases t
  | .dict ((.dict _, _) :: _), _, _, h, _ => by cases h with | dic e n t => cases t
  | .dict ((.str _, _) :: _ :: _), _, _, h, _ => by cases h with | dic e n t => cases t
theorem DqAll.reads {E : Addr → Prop} (I : Inv X pins σ H s) : ∀ (ds : List PyData) {vs : List V} {us : List Value}, DqAll E H vs ds → Vals vs us → ∃ as, ReadsAll s.heap us ds as ∧ sysModules ∉ as
  | [], _, _, h, r => by cases h; cases r; exact ⟨[], .nil, List.not_mem_nil⟩
  | d :: ds, _, _, h, r => by
    cases h with
    | cons x t =>
      cases r with
      | cons rx rt =>
        obtain ⟨as, a1, a2⟩ := Dq.reads I d x rx
        obtain ⟨bs, b1, b2⟩ := DqAll.reads I ds t rt
        exact ⟨_, .cons a1 b1, fun z => (List.mem_append.mp z).elim a2 b2⟩
end
/-- repr by what it shows -/
def Shows (G : Hp) (v : V) (S : Str) : Prop := ∃ (E : Addr → Prop) (d : PyData), Dq E G v d ∧ d.showable = true ∧ d.depth ≤ 60 ∧ d.shown.length ≤ sizeLine ∧ S = d.shown
def rReprS : List V → Hp → VK → Prop := fun xs G Q => ∃ v S, xs = [v] ∧ Shows G v S ∧ Q (.str S) G
theorem call_reprS (room : X.A.units + 64 < cLine) (hgd : X.A.guards = some []) : CallR X (.builtin "repr") rReprS := by
  intro pins s σ G xs us R I r h
  obtain ⟨v, S, rfl, ⟨E, d, hd, sh, dp, ln, rfl⟩, q⟩ := h
  obtain ⟨u, rfl, rel⟩ := vals1 r
  cases d with
  | none =>
    cases hd
    cases rel
    exact PySem.P.repr_of_none ⟨.str "None", G, I.tok _, ⟨_, rfl⟩, q⟩
  | bool b =>
    cases hd
    cases rel
    refine PySem.P.repr_of_bool ⟨.str (if b then "True" else "False"), G, I.tok _, ⟨_, rfl⟩, ?_⟩
    cases b <;> exact q
  | int i =>
    cases hd
    obtain ⟨t, rfl⟩ := rel
    exact PySem.P.repr_of_int (of_decide_eq_true sh) ⟨.str (toString i), G, I.tok _, ⟨_, rfl⟩, q⟩
  | str x =>
    cases hd
    obtain ⟨t, rfl⟩ := rel
    exact PySem.P.repr_of_str ⟨.str (reprText x), G, I.tok _, ⟨_, rfl⟩, q⟩ ln
  | list ds =>
    obtain ⟨as, rd, no⟩ := Dq.reads I _ hd rel
    cases hd
    cases rel
    exact repr_of_reads' rd sh (fun _ => no) hgd (by omega) (fun _ _ e => e) (fun h' t tk kp => ⟨.str _, G, I.kept (t' := tk) kp, ⟨_, rfl⟩, q⟩) ln
  | tuple ds =>
    obtain ⟨as, rd, no⟩ := Dq.reads I _ hd rel
    cases hd
    cases rel
    exact repr_of_reads' rd sh (fun _ => no) hgd (by omega) (fun _ _ e => e) (fun h' t tk kp => ⟨.str _, G, I.kept (t' := tk) kp, ⟨_, rfl⟩, q⟩) ln
  | dict kvs =>
    obtain ⟨as, rd, no⟩ := Dq.reads I _ hd rel
    cases hd
    cases rel
    exact repr_of_reads' rd sh (fun _ => no) hgd (by omega) (fun _ _ e => e) (fun h' t tk kp => ⟨.str _, G, I.kept (t' := tk) kp, ⟨_, rfl⟩, q⟩) ln
/-! ### new lists are not where sys.modules stands -/
def tLstS (t : TA) : TE := fun σ H Q => t σ H fun xs H1 => xs.length ≤ sizeLine ∧ ∀ p, H1 p = none → sysModules ≠ p → Q (.ref p) (upd H1 p (.lst xs))
theorem pe_lstS {es : List Expr} {t : TA} {pos : Pos} (h : PA X es t) : PE X (.List es pos) (tLstS t) := by
  constructor
  intro pins s0 σ G R I0 hq
  refine wpAny_List_spliced (thn (h.run pos pins s0 σ G _ I0 hq) ?_)
  rintro us s1 ⟨xs, G1, I1, rel, small, q⟩
  have ne : sysModules ≠ s1.heap.objs.size := Nat.ne_of_lt I1.big
  refine ⟨by rw [← rel.length]; exact small, .ref s1.heap.objs.size, upd G1 s1.heap.objs.size (.lst xs), I1.laid (t' := s1.toks) (fun b u e => Heap.get?_push_of_some _ e) (Nat.le_refl _) ⟨small, us, 0, rel, Heap.get?_push_size _ rfl⟩, rfl, q _ (I1.hok.fresh (Nat.le_refl _)) ne⟩
/-- list(t), t a tuple -/
def rListS (K : PySem.W.Frag) : List V → Hp → VK → Prop := fun xs G Q => ∃ p ys, xs = [.ref p] ∧ SqT K G p ys ∧ ∀ l, G l = none → sysModules ≠ l → Q (.ref l) (upd G l (.lst ys))
theorem call_listS : CallR X (.type "list") (rListS X.K) := by
  intro pins s σ G xs us R I r h
  obtain ⟨p, ys, rfl, sq, q⟩ := h
  obtain ⟨u, rfl, rel⟩ := vals1 r
  cases rel
  obtain ⟨its, rv, ⟨o, at_, kind, n, dat⟩, small⟩ := I.tuple sq
  have len := rv.length
  have ne : sysModules ≠ s.heap.objs.size := Nat.ne_of_lt I.big
  refine call_list_seq p (.inr rfl) at_ kind dat (fun h' c' kp e => ?_) (by simp only [List.size_toArray] <;> omega)
  exact ⟨.ref s.heap.objs.size, _, I.laid (t' := s.toks) kp (Nat.le_refl _) (show ObjOk X.prog X.w _ h' _ (.lst ys) from ⟨small, its, c', rv, e⟩), rfl, q _ (I.hok.fresh (Nat.le_refl _)) ne⟩
end
end C2

namespace C2
set_option Elab.async false
set_option linter.all false
set_option maxRecDepth 100000
set_option maxHeartbeats 1000000
open PySem PySem.Spec PyProof.Rows L2 HT
/-! ### small data -/
structure Oq (d : PyData) (dp wt : Nat) : Prop where
  sh : PyData.showable d = true
  ls : PyData.leavesShort 40 d = true
  dp : PyData.depth d ≤ dp
  wt : PyData.weight d ≤ wt
theorem Oq.mono {d : PyData} {dp wt dp' wt' : Nat} (h : Oq d dp wt) (a : dp ≤ dp') (b : wt ≤ wt') : Oq d dp' wt' := ⟨h.sh, h.ls, Nat.le_trans h.dp a, Nat.le_trans h.wt b⟩
theorem Oq.all {dp wt : Nat} : ∀ {ds : List PyData}, (∀ d ∈ ds, Oq d dp wt) → PyData.showableAll ds = true ∧ PyData.leavesShortAll 40 ds = true ∧ PyData.depthAll ds ≤ dp ∧ PyData.weightAll ds ≤ (wt + 1) * ds.length
  | [], _ => ⟨by simp [PyData.showableAll], by simp [PyData.leavesShortAll], by simp [PyData.depthAll], by simp [PyData.weightAll]⟩
  | d :: ds, h => by
    obtain ⟨i1, i3, i4, i5⟩ := Oq.all (ds := ds) fun x hx => h x (List.mem_cons_of_mem _ hx)
    obtain ⟨j1, j3, j4, j5⟩ := h d List.mem_cons_self
    refine ⟨?_, ?_, ?_, ?_⟩ <;> simp only [PyData.showableAll, PyData.leavesShortAll, PyData.depthAll, PyData.weightAll, i1, i3, j1, j3]
    · rfl
    · rfl
    · omega
    · rw [List.length_cons, Nat.mul_succ]; omega
theorem Oq.tup {ds : List PyData} {dp wt n : Nat} (h : ∀ d ∈ ds, Oq d dp wt) (l : ds.length ≤ n) : Oq (.tuple ds) (dp + 1) ((wt + 1) * n) := by
  obtain ⟨i1, i3, i4, i5⟩ := Oq.all h
  have m : (wt + 1) * ds.length ≤ (wt + 1) * n := Nat.mul_le_mul_left _ l
  refine ⟨?_, ?_, ?_, ?_⟩ <;> simp only [PyData.showable, PyData.leavesShort, PyData.depth, PyData.weight, i1, i3]
  · omega
  · omega
theorem Oq.lst {ds : List PyData} {dp wt n : Nat} (h : ∀ d ∈ ds, Oq d dp wt) (l : ds.length ≤ n) : Oq (.list ds) (dp + 1) ((wt + 1) * n) := by
  obtain ⟨i1, i3, i4, i5⟩ := Oq.all h
  have m : (wt + 1) * ds.length ≤ (wt + 1) * n := Nat.mul_le_mul_left _ l
  refine ⟨?_, ?_, ?_, ?_⟩ <;> simp only [PyData.showable, PyData.leavesShort, PyData.depth, PyData.weight, i1, i3]
  · omega
  · omega
theorem Oq.dic {d : PyData} {dp wt : Nat} (h : Oq d dp wt) : Oq (.dict [(.str "a", d)]) (dp + 1) (wt + 3) := by
  obtain ⟨i1, i3, i4, i5⟩ := h
  have s1 : PyData.leavesShort 40 (.str "a") = true := by decide +kernel
  have s2 : PyData.weight (.str "a") = 1 := by decide +kernel
  refine ⟨?_, ?_, ?_, ?_⟩ <;> simp only [PyData.showable, PyData.showableKv, PyData.leavesShort, PyData.leavesShortKv, PyData.depth, PyData.depthKv, PyData.weight, PyData.weightKv, i1, i3]
  · rfl
  · decide +kernel
  · omega
  · have : (Str.ofString "a").cps.size = 1 := by decide +kernel
    omega
theorem Oq.dic0 : Oq (.dict []) 1 0 := ⟨by decide +kernel, by decide +kernel, by decide +kernel, by decide +kernel⟩
def okL (d : PyData) : Bool := PyData.showable d && PyData.leavesShort 40 d && decide (PyData.depth d ≤ 0) && decide (PyData.weight d ≤ 101)
theorem okL.oq {d : PyData} (h : okL d = true) : Oq d 0 101 := by
  unfold okL at h
  simp only [Bool.and_eq_true, decide_eq_true_eq] at h
  exact ⟨h.1.1.1, h.1.1.2, h.1.2, h.2⟩
theorem okL_upto : ((List.range 64).all fun n => okL (.int (n : Int))) = true := by decide +kernel
theorem okL_nat {n : Nat} (h : n < 64) : okL (.int (n : Int)) = true := List.all_eq_true.mp okL_upto n (List.mem_range.mpr h)
theorem oq_int {v : Int} (h0 : 0 ≤ v) (h1 : v < 64) : Oq (.int v) 0 101 := by
  have e := okL_nat (n := v.toNat) (by omega)
  rw [Int.toNat_of_nonneg h0] at e
  exact okL.oq e
theorem oq_less : Oq (.int (-1)) 0 101 := okL.oq (by decide +kernel)
theorem oq_great : Oq (.int ((10 : Int) ^ (30 : Int).toNat)) 0 101 := okL.oq (by decide +kernel)
theorem oq_bl (b : Bool) : Oq (.bool b) 0 101 := okL.oq (by cases b <;> decide +kernel)
theorem oq_non : Oq .none 0 101 := okL.oq (by decide +kernel)
theorem Oq.shows' {E : Addr → Prop} {G : Hp} {v : V} {d : PyData} {dp wt : Nat} (h : Dq E G v d) (o : Oq d dp wt) (hd : dp ≤ 60) (hw : wt ≤ 390000) : Shows G v d.shown := by
  have z := PyData.shown_le 40 (by decide) d o.ls
  have s : 16777216 ≤ sizeLine := by decide
  have w := o.wt
  exact ⟨E, d, h, o.sh, Nat.le_trans o.dp hd, by omega, rfl⟩
end C2

namespace C2
set_option Elab.async false
set_option linter.all false
set_option maxRecDepth 100000
set_option maxHeartbeats 4000000
open PySem PySem.Spec PyProof.Rows L2
/-! ### dict comprehensions whose keys are tuples of numbers and texts -/
theorem dictSet_tup {X : Cx} {pins : List (Addr × Obj)} {σ : L2.St} {G : Hp} {s : Shared} {E : Value → Shared → Prop} {D b : Addr} {kvs : List (List Key × V)} {ky : List Key} {v : V} {r : Value} {Q : Unit → Shared → Prop} (hu : X.A.units + 1 < cLine)
    (I : Inv X pins σ G s) (hD : G D = some (.dT kvs)) (hb : G b = some (.tup (ky.map kV))) (small : kvs.length < sizeLine) (rv : RelV v r) (h : ∀ s', Inv X pins σ (upd G D (.dT (putK kvs ky v))) s' → Q () s') : wpAny (model X.prog X.w) X.A (dictSet D (.ref b) r) Q E s := by
  obtain ⟨z, nsm, xs, rel, dd⟩ := dt_of I.hok hD
  have lx : xs.length ≤ sizeLine := by rw [← Paired.length rel]; exact z
  have lp : (putK kvs ky v).length ≤ sizeLine := by have := length_putK kvs ky v; omega
  refine wpAny_dictSet_heap (hsz := lx) (show X.A.units < cLine by omega) (key_of I.hok hb) dd fun h' dd' same => h _ ?_
  obtain ⟨q, es, ep, hq, a2, a3, a4, _, a5⟩ := dd'
  refine d_write I (by rw [hD]; exact True.intro) same ⟨q, hq⟩ ⟨lp, nsm, _, (rel.put ky hb rv).keeps fun c ys ec => ?_, q, es, ep, hq, a2, a3, a4, a5⟩
  rw [upd_ne (ne_of ec hD (fun z => nomatch z))]
  exact ec
section
variable {X : Cx}
/-- {k: v for ..}: D the new dict, its keys tuples -/
def tDcT (wi : TI) (g : TG) (tt : TT) (tk tv : TE) (vs : List Nat) : TE := fun σ G Q => wi σ G fun J G1 => ∀ D, G1 D = none → ∃ W : Nat → Nat → Hp → Prop, (∃ m, W 0 m (upd G1 D (.dT []))) ∧ ∀ i m G, W i m G →
  (J.stop i G ∧ Q (.ref D) G) ∨ (J.go i G ∧ ∃ Nx : Hp → Prop, (∀ G', Nx G' → ∃ m', m' < m ∧ W (i + 1) m' G') ∧ ∀ x G', J.yld i G x G' → g x (wipe σ vs) G' fun σ2 G2 => wipe σ2 vs = wipe σ vs ∧ tt σ2 G2 fun b G3 =>
    if b = true then tk σ2 G3 fun y G4 => tv σ2 G4 fun z G5 => ∃ kvs ky c, y = .ref c ∧ G5 c = some (.tup (ky.map kV)) ∧ G5 D = some (.dT kvs) ∧ kvs.length < sizeLine ∧ Nx (upd G5 D (.dT (putK kvs ky z))) else Nx G3)
abbrev Blk (X : Cx) (scope : Scope) (J : Cx → Prop) : Prop := ∀ (s : Shared) (G : Hp) (C : Addr) (cl : List (Str × Addr)) (fp : List Addr), J (X.blk s G scope (compEnvC scope cl C X.env) fp)
theorem dcT_core {pins : List (Addr × Obj)} {s : Shared} {σ : L2.St} {G : Hp} {Q : VK} {keyE valE aim iter : Expr} {conds : List Expr} {scope : Scope} {own : List (Str × Nat)} {pos pos' : Pos} {wi : TI} {g : TG} {tt : TT} {tk tv : TE} {use : Option (Value → Sem Unit)} {Qf : Value → Shared → Prop}
    (hu : X.A.units + 1 < cLine) (hc : X.calm = true) (hN : X.N.Nodup) (I : Inv X pins σ G s) (hi : PI X aim iter wi) (ok : BlkOk X.N X.env.scope scope own)
    (hg : Blk X scope fun Y => PG Y aim g) (ht : Blk X scope fun Y => PTs Y conds tt) (hk : Blk X scope fun Y => PE Y keyE tk) (he : Blk X scope fun Y => PE Y valE tv) (hs : ∀ x, foldedSetIterable iter X.env x = pure x) (h : tDcT wi g tt tk tv (own.map (·.2)) σ G Q)
    (out : ∀ D C s' m G', Inv X pins σ G' s' → Q (.ref D) G' → s'.heap.Ns C m → FpOk X pins G' C → compPost (model X.prog X.w) X.A X.xe use Qf (.ref D) C (.ok .next) s') :
    wpAny (model X.prog X.w) X.A (comprehension (.DictComp keyE valE [⟨aim, iter, conds, 0⟩] scope pos) scope X.env pos' newDict false (eval iter X.env) use) Qf X.xe s := by
  have hfr : ∀ y ∈ scope.names, y.2 = .free → ∃ c, X.env.cells.lookup y.1 = some c := fun y hy e => (ok.free y hy e).elim (fun k => I.ok.has _ (.inl k)) fun k => I.ok.has _ (.inr k)
  refine wpAny_comprehension_free (use := use) rfl hs (closure_ok hfr) ok.kind (fun y hy e => by rw [ok.uniq y hy, e]) (thn (hi.run pins s σ G _ I h) fun xv s1 hx => thn hx fun itv s2 h2 => ?_)
  obtain ⟨it, fp, tn, J, G2, rfl, I2, T, st2, f2, q⟩ := h2
  refine wpAny_newObj_type ?_
  refine newEnv_comp ?_
  generalize eD : s2.heap.objs.size = D
  obtain ⟨W, ⟨m0, w0⟩, turn⟩ := q D (I2.hok.fresh (Nat.le_of_eq eD))
  generalize e3 : ({ s2 with heap := s2.heap.push { cls := .type "dict", data := .dict #[] } } : Shared) = s3
  have I3 : Inv X pins σ (upd G2 D (.dT [])) s3 := by
    rw [← e3]
    refine I2.laid (t' := s2.toks) (fun b o e => Heap.get?_push_of_some _ e) (Nat.le_of_eq eD) ?_
    rw [← eD]
    exact dt_empty s2.heap I2.big
  have h3 : s3.heap = s2.heap.push { cls := .type "dict", data := .dict #[] } := by rw [← e3]
  have f3 : ∀ b ∈ fp, FpOk X pins (upd G2 D (.dT [])) b ∧ b < s3.heap.objs.size := by
    intro b hb
    have ⟨_, stands, _⟩ := T.obj _ _ st2 b hb
    have low := Heap.lt_size stands
    refine ⟨⟨?_, (f2 b hb).2⟩, by rw [h3, Heap.size_push]; exact Nat.lt_succ_of_lt low⟩
    rw [upd_ne (by rw [← eD]; exact Nat.ne_of_lt low)]
    exact (f2 b hb).1
  have st3 : tn 0 s3.heap := by
    rw [h3]
    exact T.keep _ _ _ st2 fun _ _ _ there => Heap.get?_push_of_some _ there
  have I4 := block_start (scope := scope) I3 ok hN f3
  have pg := hg s3 (upd G2 D (.dT [])) s3.heap.objs.size (cellsFrom (s3.heap.objs.size + 1) scope.names (cloFrom X.env.cells scope.names [])) fp
  have pt := ht s3 (upd G2 D (.dT [])) s3.heap.objs.size (cellsFrom (s3.heap.objs.size + 1) scope.names (cloFrom X.env.cells scope.names [])) fp
  have pk := hk s3 (upd G2 D (.dT [])) s3.heap.objs.size (cellsFrom (s3.heap.objs.size + 1) scope.names (cloFrom X.env.cells scope.names [])) fp
  have pe := he s3 (upd G2 D (.dT [])) s3.heap.objs.size (cellsFrom (s3.heap.objs.size + 1) scope.names (cloFrom X.env.cells scope.names [])) fp
  show codeAny _ _ (.compStart (.DictComp keyE valE [⟨aim, iter, conds, 0⟩] scope pos) 0 (.ref it) (.ref D) (compEnvC scope (cellsFrom (s3.heap.objs.size + 1) scope.names (cloFrom X.env.cells scope.names [])) s3.heap.objs.size X.env)) (compPost (model X.prog X.w) X.A X.xe use Qf (.ref D) s3.heap.objs.size) { s3 with heap := pushCells (s3.heap.push { cls := .type "dict", data := .dict #[] }) scope.names }
  have nfp : ∀ b ∈ fp, (upd G2 D (.dT [])) b = none := fun b hb => (f3 b hb).1.1
  generalize ece : compEnvC scope (cellsFrom (s3.heap.objs.size + 1) scope.names (cloFrom X.env.cells scope.names [])) s3.heap.objs.size X.env = ce at I4 pg pt pk pe ⊢
  have cL : ce.locals = s3.heap.objs.size := by subst ece; rfl
  generalize eG3 : upd G2 D (.dT []) = G3 at I3 I4 pg pt pk pe w0 nfp f3
  generalize e4 : ({ s3 with heap := pushCells (s3.heap.push { cls := .type "dict", data := .dict #[] }) scope.names } : Shared) = s4 at I4 ⊢
  have st4 : tn 0 s4.heap := T.keep _ _ _ st3 fun b _ o e => by rw [← e4]; exact pushCells_keeps _ _ _ _ (Heap.get?_push_of_some _ e)
  have stat : ∀ {σ' : L2.St} {G' : Hp} {s' : Shared}, Inv (X.blk s3 G3 scope ce fp) [] σ' G' s' → (∀ b ∈ fp, G' b = none) → ∀ b ∈ fp, FpOk (X.blk s3 G3 scope ce fp) [] G' b := by
    intro σ' G' s' I' hn b hb
    exact ⟨hn b hb, (I'.ok.exf b hb).1, I'.ok.exfs b hb, Or.inl hb, fun x c e => (I'.ok.exf b hb).2 x c e, fun p hp => absurd (show p ∈ ([] : List (Addr × Obj)) ++ [] from hp) (by simp)⟩
  have loop : codeAny (model X.prog X.w) X.A (.compLoop (.DictComp keyE valE [⟨aim, iter, conds, 0⟩] scope pos) 0 (.ref it) (.ref D) ce) (compPost (model X.prog X.w) X.A X.xe use Qf (.ref D) s3.heap.objs.size) s4 := by
    refine compLoop_anyD (fun n s' => ∃ i G', Inv (X.blk s3 G3 scope ce fp) [] (wipe σ (own.map (·.2))) G' s' ∧ tn i s'.heap ∧ (∀ b ∈ fp, G' b = none) ∧ W i n G') ?_ m0 ⟨0, G3, I4, st4, nfp, w0⟩
    rintro n s5 ⟨i, G5, I5, st5, n5, w5⟩
    rcases turn i n G5 w5 with ⟨stop, qq⟩ | ⟨go, Nx, hNx, step⟩
    · refine thnF (T.done (X.blk s3 G3 scope ce fp) rfl rfl rfl hc i [] s5 _ G5 (fun _ _ => False) I5 (stat I5 n5) st5 stop) fun r s6 ⟨hr, I6⟩ => ?_
      subst hr
      have I7 : Inv X pins σ G5 s6 := I3.call' (ch := fp) I6.os I6.base I6.hok I6.bare fun b hb => ⟨(f3 b hb).1.2.2.2.1, (f3 b hb).1.2.1, (f3 b hb).1.2.2.2.2.1, (f3 b hb).1.2.2.2.2.2⟩
      have nC : G5 s3.heap.objs.size = none := by
        have z : G5 ce.locals = none := I6.free
        rw [cL] at z
        exact z
      obtain ⟨m, hn, _⟩ := I6.loc
      replace hn : s6.heap.Ns ce.locals m := hn
      rw [cL] at hn
      exact out D s3.heap.objs.size s6 m G5 I7 qq hn (I3.fpOk (Nat.le_refl _) nC)
    · refine thnF (T.item (X.blk s3 G3 scope ce fp) rfl rfl rfl hc i [] s5 _ G5 (fun _ _ => False) I5 (stat I5 n5) st5 go) fun r s6 ⟨u, hr, h6⟩ => ?_
      subst hr
      refine thnF h6 fun _ s7 ⟨x, G7, I7, r7, y7, st7, n7⟩ => ?_
      refine thnF (pg.run _ s7 _ G7 x u _ (I7.pinned (stat I7 n7) (T.obj _ _ st7)) r7 (step x G7 y7)) fun _ s8 ⟨σ8, G8, I8, hw8, q8⟩ => ?_
      refine thnF (pt.run _ s8 σ8 G8 _ I8 q8) fun b s9 ⟨G9, I9, q9⟩ => ?_
      have fin : ∀ {s' : Shared} {G' : Hp}, Inv (X.blk s3 G3 scope ce fp) ([] ++ pinsAt fp s7.heap) σ8 G' s' → Nx G' → ∃ m, m < n ∧ ∃ i G', Inv (X.blk s3 G3 scope ce fp) [] (wipe σ (own.map (·.2))) G' s' ∧ tn i s'.heap ∧ (∀ b ∈ fp, G' b = none) ∧ W i m G' := by
        intro s' G' I' nx
        obtain ⟨m', hm, w'⟩ := hNx G' nx
        have pin' : ∀ b ∈ fp, ∀ o, s7.heap.get? b = some o → s'.heap.get? b = some o ∧ G' b = none := by
          intro b hb o e
          have z := I'.pin (b, o) (List.mem_append_right _ (List.mem_append_right _ (mem_pinsAt hb e)))
          exact ⟨z.1, z.2.1⟩
        have long : (wipe σ (own.map (·.2))).length = σ8.length := (congrArg List.length hw8).symm.trans (wipe_length _ _)
        refine ⟨m', hm, i + 1, G', (I'.unpinned (pins := [])).weak long (fun j v e => ?_), T.keep _ _ _ st7 fun b hb o e => (pin' b hb o e).1, fun b hb => ?_, w'⟩
        · rw [← hw8] at e
          exact (wipe_some e).1
        · have ⟨_, stands, _⟩ := T.obj _ _ st7 b hb
          exact (pin' b hb _ stands).2
      cases b with
      | false =>
        rw [if_neg (fun z => nomatch z)] at q9
        exact fin I9 q9
      | true =>
        simp only [if_true] at q9 ⊢
        refine thnF (pk.run _ s9 σ8 G9 _ I9 q9) fun z s10 ⟨yk, G10, I10, r10, q10⟩ => ?_
        refine thnF (pe.run _ s10 σ8 G10 _ I10 q10) fun z2 s11 ⟨yv, G11, I11, r11, kvs, ky, c, ec, hc11, hD11, hz11, nx⟩ => ?_
        subst ec
        cases r10
        exact dictSet_tup (X := X.blk s3 G3 scope ce fp) hu I11 hD11 hc11 hz11 r11 fun s12 I12 => fin I12 nx
  refine codeAny_compStart_dict loop ?_
  exact T.self X.A 0 _ _ _ st4 loop
theorem pe_dcT {keyE valE aim iter : Expr} {conds : List Expr} {scope : Scope} {own : List (Str × Nat)} {pos : Pos} {wi : TI} {g : TG} {tt : TT} {tk tv : TE} (hu : X.A.units + 1 < cLine) (hc : X.calm = true) (hN : X.N.Nodup) (hi : PI X aim iter wi) (ok : BlkOk X.N X.env.scope scope own)
    (hg : Blk X scope fun Y => PG Y aim g) (ht : Blk X scope fun Y => PTs Y conds tt) (hk : Blk X scope fun Y => PE Y keyE tk) (he : Blk X scope fun Y => PE Y valE tv) (hs : ∀ x, foldedSetIterable iter X.env x = pure x := by intro _; rfl) :
    PE X (.DictComp keyE valE [⟨aim, iter, conds, 0⟩] scope pos) (tDcT wi g tt tk tv (own.map (·.2))) := by
  refine ⟨fun pins s σ G Q I h => ?_⟩
  rw [arm_eval_DictComp]
  refine dcT_core hu hc hN I hi ok hg ht hk he hs h fun D C s' m G' I' q hn f => ⟨m, hn, fun h'' sb => ?_⟩
  exact ⟨.ref D, G', I'.turned (t' := s'.toks) (fun b o hb e => (sb.2 b hb).trans e) f.1 f.2.1 f.2.2.2.1 f.2.2.2.2.1 f.2.2.2.2.2, rfl, q⟩

/-- name = {..}, the name a local -/
theorem swd_true {keyE valE : Expr} {gs : List Comprehension} {scope : Scope} {pos py : Pos} {y : Str} {l : Nat} {env : Env} (hk : env.scope.kind = .function) (hy : env.scope.names.lookup y = some .local) (hl : (py.line == pos.line) = true)
    (ha : (scope.names.any fun (n, k) => n == y && (k == .local || k == .cell)) = false) : swapsWith (.DictComp keyE valE gs scope pos) (some (.Name y py)) l env = pure true := by
  have own : env.kindOf y = some .local := hy
  have blk : env.blockKind = .function := by unfold Env.blockKind; rw [hk]; rfl
  unfold swapsWith
  simp only [blk, own, ha, Expr.pos, hl]
  rfl
theorem ps_setDcT {i : Nat} {y : Str} {py : Pos} {keyE valE aim iter : Expr} {conds : List Expr} {scope : Scope} {own : List (Str × Nat)} {pos spos : Pos} {wi : TI} {g : TG} {tt : TT} {tk tv : TE} (hu : X.A.units + 1 < cLine) (hc : X.calm = true) (hN : X.N.Nodup) (hy : X.N[i]? = some y) (hyl : X.env.scope.names.lookup y = some .local)
    (hsw : swapsWith (.DictComp keyE valE [⟨aim, iter, conds, 0⟩] scope pos) (some (.Name y py)) spos.line X.env = pure true) (hi : PI X aim iter wi) (ok : BlkOk X.N X.env.scope scope own)
    (hg : Blk X scope fun Y => PG Y aim g) (ht : Blk X scope fun Y => PTs Y conds tt) (hk : Blk X scope fun Y => PE Y keyE tk) (he : Blk X scope fun Y => PE Y valE tv) (hs : ∀ x, foldedSetIterable iter X.env x = pure x := by intro _; rfl) :
    PS X (.Assign [.Name y py] (.DictComp keyE valE [⟨aim, iter, conds, 0⟩] scope pos) spos) (tAsg (tDcT wi g tt tk tv (own.map (·.2))) (gName i)) := by
  constructor
  intro pins s σ G D I h
  rw [exec_Assign_Name_used _ _ _ _ hsw]; refine wpAny_bind (wpAny_standAt (wpAny_bind ?_))
  have h : tDcT wi g tt tk tv (own.map (·.2)) σ G (fun x H1 => gName i x σ H1 D.nx) := h
  refine wpAny_bind (thn (dcT_core (Qf := fun _ s' => SP X pins D .next s') (use := some (assign (.Name y py) X.env)) hu hc hN I hi ok hg ht hk he hs h fun d C s' m G' I' q hn f => ?_) fun _ s' hq => wpAny_pure (wpAny_pure hq))
  show wpAny _ _ (assign (.Name y py) X.env (.ref d)) _ _ _
  refine wpAny_assign_Name (store_ok2 (v := V.ref d) I' hN hy (.inl hyl) rfl (fun s2 I2 ⟨a, sb, ha⟩ => ?_) (.inr hyl))
  have off : C ≠ a := ha.elim (fun z => z ▸ f.2.1) fun z e => f.2.2.2.2.1 y a z e.symm
  exact ⟨m, hn.sameBut sb off, fun h3 sb3 => ⟨_, G', I2.turned (t' := s2.toks) (fun b o hb e => (sb3.2 b hb).trans e) f.1 f.2.1 f.2.2.2.1 f.2.2.2.2.1 f.2.2.2.2.2, q⟩⟩
/-- the reading over a tuple -/
theorem dcT_tup {K : PySem.W.Frag} {a : Addr} {xs : List V} {g : TG} {tt : TT} {tk tv : TE} {vs : List Nat} {σ : L2.St} {G1 : Hp} {D : Addr} {Qd : Hp → Prop} (Pv : Nat → Hp → Prop) (start : Pv 0 (upd G1 D (.dT []))) (still : ∀ i G, i ≤ xs.length → Pv i G → SqT K G a xs)
    (turn : ∀ i x G, xs[i]? = some x → Pv i G → g x (wipe σ vs) G fun σ2 G2 => wipe σ2 vs = wipe σ vs ∧ tt σ2 G2 fun b G3 =>
      if b = true then tk σ2 G3 fun y G4 => tv σ2 G4 fun z G5 => ∃ kvs ky c, y = .ref c ∧ G5 c = some (.tup (ky.map kV)) ∧ G5 D = some (.dT kvs) ∧ kvs.length < sizeLine ∧ Pv (i + 1) (upd G5 D (.dT (putK kvs ky z))) else Pv (i + 1) G3) (after : ∀ G, Pv xs.length G → Qd G) :
    ∃ W : Nat → Nat → Hp → Prop, (∃ m, W 0 m (upd G1 D (.dT []))) ∧ ∀ i m G, W i m G →
      ((Itt K a).stop i G ∧ Qd G) ∨ ((Itt K a).go i G ∧ ∃ Nx : Hp → Prop, (∀ G', Nx G' → ∃ m', m' < m ∧ W (i + 1) m' G') ∧ ∀ x G', (Itt K a).yld i G x G' → g x (wipe σ vs) G' fun σ2 G2 => wipe σ2 vs = wipe σ vs ∧ tt σ2 G2 fun b G3 =>
        if b = true then tk σ2 G3 fun y G4 => tv σ2 G4 fun z G5 => ∃ kvs ky c, y = .ref c ∧ G5 c = some (.tup (ky.map kV)) ∧ G5 D = some (.dT kvs) ∧ kvs.length < sizeLine ∧ Nx (upd G5 D (.dT (putK kvs ky z))) else Nx G3) := by
  refine ⟨fun i m G => m + i = xs.length ∧ Pv i G, ⟨xs.length, rfl, start⟩, fun i m G ⟨em, p⟩ => ?_⟩
  have sq := still i G (by omega) p
  cases m with
  | zero =>
    obtain rfl : i = xs.length := by omega
    exact .inl ⟨⟨xs, sq, Nat.le_refl _⟩, after G p⟩
  | succ m =>
    have lt : i < xs.length := by omega
    refine .inr ⟨⟨xs, xs[i], sq, List.getElem?_eq_getElem lt⟩, Pv (i + 1), fun G' p' => ⟨m, Nat.lt_succ_self _, by omega, p'⟩, ?_⟩
    rintro x G' ⟨rfl, y⟩
    exact turn i x _ (y xs sq) p
end
/-! ### dicts whose keys are tuples: dict(pairs), update, sorted -/
def mergeT (kvs more : List (List Key × V)) : List (List Key × V) := more.foldl (fun acc kv => putK acc kv.1 kv.2) kvs
theorem length_mergeT : ∀ (more kvs : List (List Key × V)), (mergeT kvs more).length ≤ kvs.length + more.length
  | [], kvs => Nat.le_refl _
  | p :: more, kvs => by
    have h1 := length_mergeT more (putK kvs p.1 p.2)
    have h2 := length_putK kvs p.1 p.2
    show (mergeT (putK kvs p.1 p.2) more).length ≤ _
    rw [List.length_cons]
    omega
theorem KT_merge {H : Hp} : ∀ {more : List (List Key × V)} {ys : List (List Key × Addr × Value)} {kvs : List (List Key × V)} {xs : List (List Key × Addr × Value)}, KT H more ys → KT H kvs xs → KT H (mergeT kvs more) (storedAllH xs ys)
  | _, _, _, _, .nil, r => r
  | _, _, _, _, .cons (a := p) (b := q) h t, r => by
    have e : p.1 = q.1 := h.1
    show KT H (mergeT (putK _ p.1 p.2) _) (storedAllH (storedH _ q.1 q.2.1 q.2.2) _)
    rw [← e]
    exact KT_merge t (r.put p.1 h.2.1 h.2.2)
section
variable {X : Cx}
/-- d.update(e), both with tuples as keys -/
def rUpdT : V → List V → Hp → VK → Prop := fun x xs H Q => ∃ (d e : Addr) (kvs more : List (List Key × V)), x = .ref d ∧ xs = [.ref e] ∧ d ≠ e ∧ H d = some (.dT kvs) ∧ H e = some (.dT more) ∧ kvs ≠ [] ∧ kvs.length + more.length ≤ sizeLine ∧ Q .non (upd H d (.dT (mergeT kvs more)))
theorem mt_updT (hu : X.A.units + 64 < cLine) : MtR X "dict.update" rUpdT := by
  rintro pins s σ H x xs v us Q I rx rs ⟨d, e, kvs, more, rfl, rfl, de, hd, he, ne, sz, q⟩
  cases rx
  obtain ⟨u, rfl, ru⟩ := rs.one
  cases ru
  obtain ⟨z1, n1, ks, r1, d1⟩ := dt_of I.hok hd
  obtain ⟨z2, n2, ls, r2, d2⟩ := dt_of I.hok he
  have l1 := Paired.length r1
  have l2 := Paired.length r2
  refine call_update_dictH (knd := tupleKind (mixKind X.prog X.w)) (show X.A.units + 1 < cLine by omega) de n2 d1 d2 (.inl fun z => ne ?_) (by omega) fun h' dd' _ same => ?_
  · rw [z] at l1
    exact List.eq_nil_of_length_eq_zero l1
  · obtain ⟨o, es, ep, hq, a2, a3, a4, _, a5⟩ := dd'
    have len : (mergeT kvs more).length ≤ sizeLine := Nat.le_trans (length_mergeT more kvs) sz
    exact ⟨.non, upd H d (.dT (mergeT kvs more)), d_write I (by rw [hd]; exact True.intro) same ⟨o, hq⟩ ⟨len, n1, _, (KT_merge r2 r1).keeps (fun c ys ec => by rw [upd_ne (ne_of ec hd (fun z => nomatch z))]; exact ec), o, es, ep, hq, a2, a3, a4, a5⟩, rfl, q⟩
/-- pairs of a tuple and a value, as they stand in a list -/
abbrev PrT (H : Hp) (ps : List (Addr × Addr)) (kvs : List (List Key × V)) : Prop := Paired (fun p kv => H p.1 = some (.tup [.ref p.2, kv.2]) ∧ H p.2 = some (.tup (kv.1.map kV))) ps kvs
theorem prT_of {pins : List (Addr × Obj)} {σ : L2.St} {H : Hp} {s : Shared} (I : Inv X pins σ H s) : ∀ {ps : List (Addr × Addr)} {kvs : List (List Key × V)}, PrT H ps kvs →
    ∃ xs : List (List Key × Addr × Value), KT H kvs xs ∧ xs.length = ps.length ∧ ∀ (j : Nat) (x : List Key × Addr × Value), xs[j]? = some x → ∃ p, ps[j]? = some p ∧ x.2.1 = p.2 ∧ s.heap.IsTuple p.1 #[.ref p.2, x.2.2]
  | _, _, .nil => ⟨[], .nil, rfl, fun j x e => by simp at e⟩
  | _, _, .cons (a := p) (b := kv) h t => by
    obtain ⟨xs, r, hl, hp⟩ := prT_of I t
    obtain ⟨its, rv, ht, _⟩ := I.tuple (.inl (.inl h.1))
    cases rv with
    | cons r1 rv =>
    cases rv with
    | cons r2 rv =>
    cases rv
    cases r1
    rename_i u
    obtain ⟨o, g, c, m, dt⟩ := ht
    refine ⟨(kv.1, p.2, u) :: xs, .cons ⟨rfl, h.2, r2⟩ r, by rw [List.length_cons, List.length_cons, hl], fun j x e => ?_⟩
    cases j with
    | zero =>
      cases (Option.some.inj e : (kv.1, p.2, u) = x)
      exact ⟨p, rfl, rfl, ⟨o, g, c, m, dt⟩⟩
    | succ j =>
      obtain ⟨p', e1, e2, e3⟩ := hp j x (by simpa using e)
      exact ⟨p', by simpa using e1, e2, e3⟩
/-- dict(xs), xs a list of pairs whose first is a tuple -/
def rDictT : List V → Hp → VK → Prop := fun xs H Q => ∃ (a : Addr) (ps : List (Addr × Addr)) (kvs : List (List Key × V)), xs = [.ref a] ∧ H a = some (.lst (ps.map fun p => V.ref p.1)) ∧ PrT H ps kvs ∧ ∀ d, H d = none → Q (.ref d) (upd H d (.dT (mergeT [] kvs)))
theorem call_dictT (hcalm : X.calm = true) (hu : X.A.units + 64 < cLine) : CallR X (.type "dict") rDictT := by
  rintro pins s σ H xs us Q I r ⟨a, ps, kvs, rfl, ha, pr, q⟩
  obtain ⟨u, rfl, rx⟩ := vals1 r
  cases rx
  obtain ⟨small, its, n, rv, hob⟩ := (show ObjOk X.prog X.w H s.heap a (.lst (ps.map fun p => V.ref p.1)) from I.hok a _ ha)
  have ei : its = (ps.map (·.1)).map Value.ref := refs_at (ps := ps.map (·.1)) (by rw [List.map_map]; exact rv)
  subst ei
  obtain ⟨ks, rel, lk, hp⟩ := prT_of I pr
  rw [List.length_map] at small
  have pv : ∀ (j : Nat) (k v : Value), (ks.map fun x => (Value.ref x.2.1, x.2.2))[j]? = some (k, v) → ∃ x p, ks[j]? = some x ∧ ps[j]? = some p ∧ k = .ref p.2 ∧ v = x.2.2 ∧ x.2.1 = p.2 ∧ s.heap.IsTuple p.1 #[.ref p.2, x.2.2] := fun j k v e => by
    rw [List.getElem?_map] at e
    cases ex : ks[j]? with
    | none => rw [ex] at e; cases e
    | some x =>
      rw [ex] at e
      cases e
      obtain ⟨p, e1, e2, e3⟩ := hp j x ex
      exact ⟨x, p, rfl, e1, by rw [e2], rfl, e2, e3⟩
  refine call_dict_pairsH (knd := tupleKind (mixKind X.prog X.w)) (ps := ks) (PairArg.list a ((ps.map (·.1)).map Value.ref).toArray (fun j => (ps.getD j (0, 0)).1) (ks.map fun x => (Value.ref x.2.1, x.2.2))) (I.ok.hd hcalm) (show X.A.units + 1 + 1 < cLine by omega) ⟨⟨_, n, hob, rfl, rfl, rfl⟩, ?_, fun j k v e => ?_⟩ ⟨by rw [List.length_map], fun i key v e => ?_⟩ (fun h' keep x hx => ?_) (by rw [List.length_map]; omega) fun h' tk dd' keep => ?_
  · rw [List.size_toArray, List.length_map, List.length_map, List.length_map, lk]
  · obtain ⟨x, p, e1, e2, rfl, rfl, e3, e4⟩ := pv j k v e
    have eg : ps.getD j (0, 0) = p := by rw [List.getD_eq_getElem?_getD, e2]; rfl
    refine ⟨?_, ?_⟩
    · show _ = some (Value.ref (ps.getD j (0, 0)).1)
      rw [eg]
      simp [e2]
    · show PairAt s.heap (ps.getD j (0, 0)).1 _ _
      rw [eg]
      exact .inl e4
  · obtain ⟨x, p, e1, e2, rfl, rfl, e3, e4⟩ := pv i key v e
    exact ⟨x.1, p.2, by rw [e1, ← e3], rfl⟩
  · have all : ∀ {l : List (List Key × V)} {m : List (List Key × Addr × Value)}, KT H l m → ∀ x ∈ m, (tupleKind (mixKind X.prog X.w)).is s.heap x.1 x.2.1 := by
      intro l m t
      induction t with
      | nil => intro x hx; exact nomatch hx
      | @cons p q ps' qs' hq t ih =>
        intro x hx
        rcases List.mem_cons.mp hx with rfl | hx
        · exact key_of I.hok (by rw [← hq.1]; exact hq.2.1)
        · exact ih x hx
    exact tupleKind_stays.stays (fun b o vs m e _ => keep b o (Nat.ne_of_lt (Heap.lt_size e)) (fun z => nomatch z) e) (all rel x hx)
  · obtain ⟨o, es, ep, hq, a2, a3, a4, _, a5⟩ := dd'
    have nm : (s.heap.objs.size == sysModules) = false := beq_eq_false_iff_ne.mpr (Nat.ne_of_gt I.big)
    have len : (mergeT [] kvs).length ≤ sizeLine := by
      have h1 := length_mergeT kvs []
      have h2 := Paired.length rel
      rw [List.length_nil] at h1
      omega
    have nw := I.hok.fresh (Nat.le_refl s.heap.objs.size)
    refine ⟨.ref s.heap.objs.size, upd H s.heap.objs.size (.dT (mergeT [] kvs)), I.laid (t' := tk) (fun b o e => keep b o (fun z => nomatch z) e) (Nat.le_refl _) ⟨len, nm, _, (KT_merge rel .nil).keeps (fun c ys ec => by rw [upd_ne (ne_of_none ec nw)]; exact ec), o, es, ep, hq, a2, a3, a4, a5⟩, rfl, q _ nw⟩
end
end C2

namespace C2
set_option Elab.async false
set_option linter.all false
set_option maxRecDepth 100000
set_option maxHeartbeats 4000000
open PySem PySem.Spec PyProof.Rows L2
/-! ### wires, sorted -/
abbrev WB := Addr × Bool × Int × Int
def wordOf (r : Bool) : Str := if r then "row" else "column"
def wv (b : Bool × Int × Int) : List V := [.str (wordOf b.1), .int b.2.1, .int b.2.2]
def encW (b : WB) : PyData := .tuple [.str (wordOf b.2.1), .int b.2.2.1, .int b.2.2.2]
/-- less, as tuples rise -/
def ltW (x y : WB) : Prop := (x.2.1 = false ∧ y.2.1 = true) ∨ (x.2.1 = y.2.1 ∧ (x.2.2.1 < y.2.2.1 ∨ (x.2.2.1 = y.2.2.1 ∧ x.2.2.2 < y.2.2.2)))
instance (x y : WB) : Decidable (ltW x y) := by unfold ltW; infer_instance
theorem word_eqv : ∀ r r' : Bool, PyData.eqv (.str (wordOf r)) (.str (wordOf r')) = decide (r = r') := by decide +kernel
theorem word_lt : ∀ r r' : Bool, PySem.W.dataLt (.str (wordOf r)) (.str (wordOf r')) = decide (r = false ∧ r' = true) := by decide +kernel
theorem dataLt_w (x y : WB) : PySem.W.dataLt (encW x) (encW y) = decide (ltW x y) := by
  obtain ⟨a, r, i, j⟩ := x
  obtain ⟨a', r', i', j'⟩ := y
  unfold encW
  rw [PySem.W.dataLt_tuple, PySem.W.dataLt_cons (by simp [PySem.W.alike]), PySem.W.dataLt_cons (by simp [PySem.W.alike]), PySem.W.dataLt_cons (by simp [PySem.W.alike]), word_eqv, word_lt, PySem.W.dataLt_int, PySem.W.dataLt_int]
  have e : PyProof.Rows.lexLt itemOrd (PySem.W.keyToksAll []) (PySem.W.keyToksAll []) = false := lex_irrefl _
  rw [e]
  unfold ltW
  simp only [PyData.eqv]
  by_cases hr : r = r'
  · subst hr
    by_cases hi : i = i'
    · subst hi
      by_cases hj : j = j'
      · subst hj
        cases r <;> simp
      · cases r <;> simp [hj]
    · cases r <;> simp [hi]
  · cases r <;> cases r' <;> simp at hr ⊢
def leW (x y : WB) : Bool := !decide (ltW y x)
theorem dataLe_w : PySem.W.dataLe false encW = leW := by
  rw [PySem.W.dataLe_eq]
  funext x y
  show (!PySem.W.dataLt (encW y) (encW x)) = _
  rw [dataLt_w]
  rfl
def bI (b : Bool) : Int := if b then 1 else 0
theorem ltW_iff (x y : WB) : ltW x y ↔ (bI x.2.1 < bI y.2.1 ∨ (bI x.2.1 = bI y.2.1 ∧ (x.2.2.1 < y.2.2.1 ∨ (x.2.2.1 = y.2.2.1 ∧ x.2.2.2 < y.2.2.2)))) := by
  obtain ⟨a, r, i, j⟩ := x
  obtain ⟨a', r', i', j'⟩ := y
  unfold ltW bI
  cases r <;> cases r' <;> simp
theorem leW_trans (x y z : WB) (h1 : leW x y = true) (h2 : leW y z = true) : leW x z = true := by
  unfold leW at *
  simp only [Bool.not_eq_true', decide_eq_false_iff_not, ltW_iff] at *
  omega
theorem leW_total (x y : WB) : (leW x y || leW y x) = true := by
  unfold leW
  by_cases h : ltW y x
  · have : ¬ ltW x y := by
      rw [ltW_iff] at h ⊢
      omega
    simp [h, this]
  · simp [h]
theorem ltW_le {x y : WB} (h : ltW x y) : leW x y = true := by
  unfold leW
  have : ¬ ltW y x := by
    rw [ltW_iff] at h ⊢
    omega
  simp [this]
abbrev brefs (bs : List WB) : List V := bs.map fun b => V.ref b.1
section
variable {X : Cx}
theorem each_refs : ∀ {bs : List WB} {us : List Value}, Vals (brefs bs) us → PySem.W.EachIs (fun v (b : WB) => v = Value.ref b.1) us bs
  | [], _, r => by
    cases r
    exact .nil
  | b :: bs, _, r => by
    cases r with
    | cons r1 r2 =>
      cases r1
      exact .cons rfl (each_refs r2)
theorem refs_each : ∀ {bs : List WB} {us : List Value}, PySem.W.EachIs (fun v (b : WB) => v = Value.ref b.1) us bs → Vals (brefs bs) us
  | _, _, .nil => .nil
  | _, _, .cons e r => by
    subst e
    exact .cons rfl (refs_each r)
theorem wire_reads {pins : List (Addr × Obj)} {σ : L2.St} {H : Hp} {s : Shared} (I : Inv X pins σ H s) (b : WB) (h : H b.1 = some (.tup (wv b.2))) {u : Value} (r : RelV (.ref b.1) u) : Reads s.heap u (encW b) [] := by
  cases r
  obtain ⟨us, rv, ⟨ob, g, c, m, dt⟩, _⟩ := I.tuple (.inl (.inl h))
  cases rv with
  | cons r1 rv =>
  cases rv with
  | cons r2 rv =>
  cases rv with
  | cons r3 rv =>
  cases rv
  obtain ⟨t1, rfl⟩ := r1
  obtain ⟨t2, rfl⟩ := r2
  obtain ⟨t3, rfl⟩ := r3
  exact (show Reads _ _ _ ([] ++ ([] ++ ([] ++ []))) from .tuple g c dt (.cons (.str _ _) (.cons (.int _ _) (.cons (.int _ _) .nil))))
theorem each_reads {pins : List (Addr × Obj)} {σ : L2.St} {H : Hp} {s : Shared} (I : Inv X pins σ H s) : ∀ {bs : List WB} {us : List Value}, Vals (brefs bs) us → (∀ b ∈ bs, H b.1 = some (.tup (wv b.2))) → PySem.W.EachIs (fun v b => Reads s.heap v (encW b) []) us bs
  | [], _, r, _ => by
    cases r
    exact .nil
  | b :: bs, _, r, h => by
    cases r with
    | cons r1 r2 => exact .cons (wire_reads I b (h b List.mem_cons_self) r1) (each_reads I r2 fun c hc => h c (List.mem_cons_of_mem _ hc))

theorem alike_w (bs : List WB) : PySem.W.AllAlike (bs.map encW) := PySem.W.AllAlike.of fun x y => by
  unfold encW
  simp [PySem.W.alike, PySem.W.alikeAll]
theorem sortable_w (bs : List WB) : PySem.W.Sortable (bs.map encW) := PySem.W.Sortable.tuples fun x => ⟨_, _, rfl⟩
theorem depth_w (x : WB) : PyData.depth (encW x) = 1 := by unfold encW; simp [PyData.depth, PyData.depthAll]
/-- sorted(l), l a list of wires -/
def rSortL (K : PySem.W.Frag) : List V → Hp → VK → Prop := fun vs H Q => ∃ (a : Addr) (bs : List WB), vs = [V.ref a] ∧ SqL K H a (brefs bs) ∧ (∀ b ∈ bs, H b.1 = some (.tup (wv b.2))) ∧ bs.length ≤ 100000 ∧
  ∀ p, H p = none → Q (.ref p) (upd H p (.lst (brefs (bs.mergeSort leW))))
theorem cr_sortL (hu : X.A.units + 64 < cLine) : CallR X (.builtin "sorted") (rSortL X.K) := by
  rintro pins s σ H vs us Q I r ⟨a, bs, rfl, hs, hb, hl, q⟩
  obtain ⟨its, rv, at_, _⟩ := I.list hs
  rw [Vals.ref1 r]
  have big : (100000 : Nat) ≤ sizeLine := by decide
  refine PySem.W.sorted_data (enc := encW) (vs := its) at_.isList (each_refs rv) ((each_reads I rv hb).mono fun _ _ x => ⟨_, x⟩) (alike_w bs) (sortable_w bs) (by omega) (fun x _ => by rw [depth_w]; omega) fun out lo ho => ?_
  rw [dataLe_w] at ho
  obtain ⟨ep, there⟩ := PyProof.Rows.sortedAll_at s.heap its out.toArray
  have lts : (brefs (bs.mergeSort leW)).length ≤ sizeLine := by
    rw [List.length_map, (List.mergeSort_perm bs leW).length_eq]
    omega
  refine ⟨.ref _, upd H (s.heap.objs.size + 1) (.lst (brefs (bs.mergeSort leW))), I.laid (t' := s.toks) (fun _ _ => PyProof.Rows.sortedAll_old) (Nat.le_succ _) ⟨lts, out.toArray.toList, ep, ?_, there⟩, rfl, q _ (I.hok.fresh (Nat.le_succ _))⟩
  simpa using refs_each ho
abbrev Wi := Bool × Int × Int
def kW (w : Wi) : List Key × V := ([.inr (wordOf w.1), .inl w.2.1, .inl w.2.2], .bl true)
theorem kW_v (w : Wi) : (kW w).1.map kV = wv w := rfl
/-- the keys of a dict of wires, where they stand -/
theorem keys_w {H : Hp} : ∀ {ws : List Wi} {as : List Addr}, IsKeys H (ws.map kW) as → ∃ bs : List WB, as = bs.map (·.1) ∧ bs.map (·.2) = ws ∧ ∀ b ∈ bs, H b.1 = some (.tup (wv b.2))
  | [], _, h => by
    cases h
    exact ⟨[], rfl, rfl, fun b hb => nomatch hb⟩
  | w :: ws, _, h => by
    cases h with
    | cons h1 h2 =>
      rename_i a as
      obtain ⟨bs, rfl, e2, h3⟩ := keys_w (ws := ws) h2
      refine ⟨(a, w) :: bs, rfl, by rw [List.map_cons, e2], fun b hb => ?_⟩
      rcases List.mem_cons.mp hb with rfl | hb
      · exact h1
      · exact h3 b hb
/-- list(d), d a dict of wires -/
def rListDW : List V → Hp → VK → Prop := fun xs H Q => ∃ d ws, xs = [V.ref d] ∧ H d = some (.dT (ws.map kW)) ∧ ∀ p (bs : List WB), H p = none → bs.map (·.2) = ws → (∀ b ∈ bs, H b.1 = some (.tup (wv b.2))) → Q (.ref p) (upd H p (.lst (brefs bs)))
theorem call_listDW (hc : X.calm = true) : CallR X (.type "list") rListDW := by
  rintro pins s σ H xs us Q I r ⟨d, ws, rfl, hd, q⟩
  refine call_list_dT hc pins s σ H _ us Q I r ⟨d, _, rfl, .inl hd, fun p as np ik => ?_⟩
  obtain ⟨bs, rfl, e2, h3⟩ := keys_w ik
  rw [List.map_map]
  exact q p bs np e2 h3
/-- sorted(d), d a dict of wires -/
def rSortDW : List V → Hp → VK → Prop := fun xs H Q => ∃ d ws, xs = [V.ref d] ∧ H d = some (.dT (ws.map kW)) ∧ ws.length ≤ 100000 ∧ ∀ p (bs : List WB), H p = none → bs.map (·.2) = ws → (∀ b ∈ bs, H b.1 = some (.tup (wv b.2))) → Q (.ref p) (upd H p (.lst (brefs (bs.mergeSort leW))))
theorem cr_sortDW (hc : X.calm = true) (hu : X.A.units + 64 < cLine) : CallR X (.builtin "sorted") rSortDW := by
  rintro pins s σ H xs us Q I r ⟨d, ws, rfl, hd, lw, q⟩
  obtain ⟨u, rfl, rx⟩ := vals1 r
  cases rx
  obtain ⟨z, hs, ks, pr, o, es, ep, ho, hx, hdt, he, hn⟩ := (show ObjOk X.prog X.w H s.heap d (.dT (ws.map kW)) from I.hok d _ hd)
  have l1 : es.size = ks.length := size_of_entries he
  have l2 : (ws.map kW).length = ks.length := Paired.length pr
  rw [List.length_map] at l2
  have big : (100000 : Nat) ≤ sizeLine := by decide
  obtain ⟨bs, eb, ew, hb⟩ := keys_w (isKeys_of pr)
  have lb : bs.length = ws.length := by rw [← ew, List.length_map]
  have door := fun h => Calls.call_function_entry (prog := X.prog) (w := X.w) (A := X.A) (E := X.xe) (s := s) (Q := EP X pins σ Q) PyProof.Rows.kind_sorted PyProof.Rows.plain_sorted PyProof.Rows.entry_sorted (PyProof.Rows.args_sorted1 (.ref d)) h
  refine door ?_
  unfold Builtin.«sorted»
  refine wpAny_bind (m := checkCount _ _ _ _) (wpAny_pure ?_)
  refine wpAny_bind (PySem.W.kdu_collect (A := X.A.in1) (kdl_raw hs hx hdt) (I.ok.hd hc) ho (by omega) fun h' tk acc keep items => ?_)
  have ea : acc.toList = bs.map fun b => Value.ref b.1 := by
    have hl : acc.toList.length = ks.length := by rw [Array.length_toList, items.1]; exact l1
    have eb' : (bs.map fun b => Value.ref b.1) = ks.map fun x => Value.ref x.2.1 := by
      have := congrArg (List.map Value.ref) eb
      rw [List.map_map, List.map_map] at this
      exact this.symm
    rw [eb']
    refine List.ext_getElem? fun j => ?_
    by_cases lt : j < ks.length
    · obtain ⟨en, hen, hv⟩ := items.2 j acc.toList[j] (by rw [← Array.getElem?_toList]; exact List.getElem?_eq_getElem (by omega))
      have at_ := entry_at he j
      rw [hen, List.getElem?_eq_getElem lt] at at_
      have e2 : en = entryOfKey (tupleKind (mixKind X.prog X.w)) ks[j] := Option.some.inj at_
      rw [List.getElem?_eq_getElem (by omega), List.getElem?_map, List.getElem?_eq_getElem lt, hv, e2]
      rfl
    · rw [List.getElem?_eq_none (by omega), List.getElem?_eq_none (by rw [List.length_map]; omega)]
  have I1 : Inv X pins σ H { s with heap := h', toks := tk } := I.kept keep
  rw [ea]
  refine wpAny_bind (wpAny_newList ?_ (by rw [List.length_map]; omega))
  have rv : Vals (brefs bs) (bs.map fun b => Value.ref b.1) := by
    have := vals_refs (bs.map (·.1))
    rw [List.map_map, List.map_map] at this
    exact this
  have hoL : (h'.push (seqObj "list" (bs.map fun b => Value.ref b.1).toArray 0)).get? h'.objs.size = some (seqObj "list" (bs.map fun b => Value.ref b.1).toArray 0) := Heap.get?_push_size _ rfl
  show wpAny _ _ _ _ _ { s with heap := h'.push (seqObj "list" (bs.map fun b => Value.ref b.1).toArray 0), toks := tk }
  have I2 : Inv X pins σ H { s with heap := h'.push (seqObj "list" (bs.map fun b => Value.ref b.1).toArray 0), toks := tk } := I.kept fun b u e => Heap.get?_push_of_some _ (keep b u e)
  have er := each_reads I2 rv hb
  refine wpAny_bind (wpAny_holding (PySem.W.list_sort_data (enc := encW) (s := { s with heap := h'.push (seqObj "list" (bs.map fun b => Value.ref b.1).toArray 0), toks := tk }) hoL (each_refs rv) (er.mono fun _ _ x => ⟨_, x, List.not_mem_nil⟩) (alike_w bs) (sortable_w bs) (by omega) (fun x _ => by rw [depth_w]; show X.A.units + 1 + 1 + 1 < cLine; omega) fun out lo hout => ?_))
  rw [dataLe_w] at hout
  obtain ⟨e', there⟩ := PyProof.Rows.sortedHeap_at (vs := bs.map fun b => Value.ref b.1) (out := out.toArray) hoL
  have lts : (brefs (bs.mergeSort leW)).length ≤ sizeLine := by
    rw [List.length_map, (List.mergeSort_perm bs leW).length_eq]
    omega
  refine wpAny_pure ⟨_, rfl, .ref h'.objs.size, upd H h'.objs.size (.lst (brefs (bs.mergeSort leW))), I1.laid (t' := tk) (fun b u e => ?_) (Nat.le_refl _) ⟨lts, out.toArray.toList, e', ?_, there⟩, rfl, q _ bs (I1.hok.fresh (Nat.le_refl _)) ew hb⟩
  · have low : b < h'.objs.size := Heap.lt_size e
    rw [PyProof.Rows.sortedHeap_old (Nat.ne_of_lt low) (by rw [Heap.size_push]; exact Nat.lt_succ_of_lt low)]
    exact Heap.get?_push_of_some _ e
  · simpa using refs_each hout
end
end C2

namespace C2
set_option Elab.async false
set_option linter.all false
set_option maxRecDepth 100000
set_option maxHeartbeats 1000000
open PySem PySem.Spec PyProof.Rows L2
/-! ### what is told: mathematics -/
def legsW (i j : Int) : List Wi := [(true, j, i), (false, i, j), (true, j, i + 1), (false, i, j + 1)]
def legW (i j : Int) (l : Nat) : Wi := (legsW i j).getD l (true, 0, 0)
def InC (a b i j : Int) : Prop := (0 ≤ i ∧ i < a) ∧ 0 ≤ j ∧ j < b
def InW (a b : Int) (w : Wi) : Prop := (w.1 = true ∧ (0 ≤ w.2.1 ∧ w.2.1 < b) ∧ 0 ≤ w.2.2 ∧ w.2.2 ≤ a) ∨ (w.1 = false ∧ (0 ≤ w.2.1 ∧ w.2.1 < a) ∧ 0 ≤ w.2.2 ∧ w.2.2 ≤ b)
inductive Told (a b : Int) (K : Wi → Prop) : Wi → Prop
  | known {w : Wi} (h : K w) : Told a b K w
  | step {i j : Int} {l : Nat} {w : Wi} (c : InC a b i j) (hl : l < 4) (h1 : Told a b K (legW i j l)) (h2 : Told a b K (legW i j ((l + 1) % 4))) (hw : w ∈ legsW i j) : Told a b K w
def Tells (S : List Wi) (i j : Int) : Prop := ∃ l, l < 4 ∧ legW i j l ∈ S ∧ legW i j ((l + 1) % 4) ∈ S
def Full (S : List Wi) (i j : Int) : Prop := ∀ w ∈ legsW i j, w ∈ S
def Shut (a b : Int) (S : List Wi) : Prop := ∀ i j, InC a b i j → Tells S i j → Full S i j
theorem legW_mem {i j : Int} {l : Nat} (h : l < 4) : legW i j l ∈ legsW i j := by
  unfold legW
  match l, h with
  | 0, _ => exact .head _
  | 1, _ => exact .tail _ (.head _)
  | 2, _ => exact .tail _ (.tail _ (.head _))
  | 3, _ => exact .tail _ (.tail _ (.tail _ (.head _)))
theorem told_least {a b : Int} {K : Wi → Prop} {S : List Wi} (h : Shut a b S) (k : ∀ w, K w → w ∈ S) {w : Wi} (t : Told a b K w) : w ∈ S := by
  induction t with
  | known h => exact k _ h
  | step c hl _ _ hw i1 i2 => exact h _ _ c ⟨_, hl, i1, i2⟩ _ hw
theorem legs_in {a b i j : Int} (c : InC a b i j) {w : Wi} (h : w ∈ legsW i j) : InW a b w := by
  obtain ⟨⟨c1, c2⟩, c3, c4⟩ := c
  unfold legsW at h
  rcases List.mem_cons.mp h with rfl | h
  · exact .inl ⟨rfl, ⟨c3, c4⟩, c1, by show i ≤ a; omega⟩
  rcases List.mem_cons.mp h with rfl | h
  · exact .inr ⟨rfl, ⟨c1, c2⟩, c3, by show j ≤ b; omega⟩
  rcases List.mem_cons.mp h with rfl | h
  · exact .inl ⟨rfl, ⟨c3, c4⟩, by show 0 ≤ i + 1; omega, by show i + 1 ≤ a; omega⟩
  · rw [List.mem_singleton.mp h]
    exact .inr ⟨rfl, ⟨c1, c2⟩, by show 0 ≤ j + 1; omega, by show j + 1 ≤ b; omega⟩
/-! rows of unlike wires -/
def addW (ws : List Wi) (w : Wi) : List Wi := if w ∈ ws then ws else ws ++ [w]
def addL (ws us : List Wi) : List Wi := us.foldl addW ws
theorem mem_addW {ws : List Wi} {w x : Wi} : x ∈ addW ws w ↔ x ∈ ws ∨ x = w := by
  unfold addW
  split
  · rename_i h
    exact ⟨.inl, fun z => z.elim id fun e => e ▸ h⟩
  · rw [List.mem_append, List.mem_singleton]
theorem mem_addL {x : Wi} : ∀ {us ws : List Wi}, x ∈ addL ws us ↔ x ∈ ws ∨ x ∈ us
  | [], ws => by simp [addL]
  | u :: us, ws => by
    show x ∈ addL (addW ws u) us ↔ _
    rw [mem_addL, mem_addW, List.mem_cons, or_assoc]
theorem nodup_addW {ws : List Wi} {w : Wi} (h : ws.Nodup) : (addW ws w).Nodup := by
  unfold addW
  split
  · exact h
  · rename_i n
    rw [List.nodup_append]
    exact ⟨h, List.nodup_cons.mpr ⟨List.not_mem_nil, List.nodup_nil⟩, fun x hx y hy e => n (by rw [← List.mem_singleton.mp hy, ← e]; exact hx)⟩
theorem nodup_addL : ∀ {us ws : List Wi}, ws.Nodup → (addL ws us).Nodup
  | [], ws, h => h
  | u :: us, ws, h => nodup_addL (us := us) (nodup_addW h)
theorem len_addW (ws : List Wi) (w : Wi) : ws.length ≤ (addW ws w).length ∧ (addW ws w).length ≤ ws.length + 1 := by
  unfold addW
  split
  · omega
  · rw [List.length_append, List.length_singleton]; omega
theorem len_addL : ∀ (us ws : List Wi), ws.length ≤ (addL ws us).length ∧ (addL ws us).length ≤ ws.length + us.length
  | [], ws => ⟨Nat.le_refl _, Nat.le_refl _⟩
  | u :: us, ws => by
    have h1 := len_addL us (addW ws u)
    have h2 := len_addW ws u
    show ws.length ≤ (addL (addW ws u) us).length ∧ (addL (addW ws u) us).length ≤ ws.length + (us.length + 1)
    omega
/-- the new ones of a row -/
theorem len_new : ∀ {us ws : List Wi}, us.Nodup → (addL ws us).length = ws.length + (us.filter fun u => decide (u ∉ ws)).length
  | [], ws, _ => rfl
  | u :: us, ws, h => by
    obtain ⟨h1, h2⟩ := List.nodup_cons.mp h
    have ih := len_new (ws := addW ws u) h2
    have same : (us.filter fun x => decide (x ∉ addW ws u)) = us.filter fun x => decide (x ∉ ws) := by
      refine List.filter_congr fun x hx => ?_
      have ne : x ≠ u := fun e => h1 (e ▸ hx)
      simp only [mem_addW, ne, or_false]
    rw [same] at ih
    show (addL (addW ws u) us).length = _
    rw [ih, List.filter_cons]
    by_cases m : u ∈ ws
    · have e : addW ws u = ws := if_pos m
      rw [e, if_neg (by simp [m])]
    · have e : addW ws u = ws ++ [u] := if_neg m
      rw [e, if_pos (by simp [m]), List.length_append, List.length_singleton, List.length_cons]
      omega
theorem legs_nodup (i j : Int) : (legsW i j).Nodup := by
  unfold legsW
  simp only [List.nodup_cons, List.mem_cons, Prod.mk.injEq, List.not_mem_nil, List.nodup_nil]
  simp
  omega
theorem kW_inj {w w' : Wi} (h : (kW w).1 = (kW w').1) : w = w' := by
  obtain ⟨r, n, p⟩ := w
  obtain ⟨r', n', p'⟩ := w'
  unfold kW at h
  simp only [List.cons.injEq, Sum.inr.injEq, Sum.inl.injEq] at h
  obtain ⟨h1, h2, h3, _⟩ := h
  have e : r = r' := by
    revert h1
    cases r <;> cases r' <;> decide +kernel
  rw [e, h2, h3]
theorem any_w {w : Wi} : ∀ {ws : List Wi}, ((ws.map kW).any fun kv => decide (kv.1 = (kW w).1)) = decide (w ∈ ws)
  | [] => by simp
  | u :: us => by
    rw [List.map_cons, List.any_cons, any_w]
    by_cases e : u = w
    · subst e; simp
    · have ne : (kW u).1 ≠ (kW w).1 := fun z => e (kW_inj z)
      have ne' : w ≠ u := fun z => e z.symm
      simp [ne, ne']
theorem put_w (ws : List Wi) (w : Wi) : putK (ws.map kW) (kW w).1 (.bl true) = (addW ws w).map kW := by
  unfold putK addW
  rw [any_w]
  by_cases m : w ∈ ws
  · rw [if_pos (decide_eq_true m), if_pos m, List.map_map]
    refine List.map_congr_left fun u _ => ?_
    show (if (kW u).1 = _ then _ else _) = kW u
    split <;> rfl
  · rw [if_neg (by simp [m]), if_neg m, List.map_append]
    rfl
theorem merge_w : ∀ (us ws : List Wi), mergeT (ws.map kW) (us.map kW) = (addL ws us).map kW
  | [], ws => rfl
  | u :: us, ws => by
    show mergeT (putK (ws.map kW) (kW u).1 (.bl true)) (us.map kW) = (addL (addW ws u) us).map kW
    rw [put_w]
    exact merge_w us _
theorem val_w (ws : List Wi) (w : Wi) : (valV (ws.map kW) (kW w).1).isSome = decide (w ∈ ws) := by
  rw [← valV_any, any_w]
/-! all wires -/
def colW (i : Nat) (b : Nat) : List Wi := (List.range (b + 1)).map fun (y : Nat) => (false, (i : Int), (y : Int))
def rowW (j : Nat) (a : Nat) : List Wi := (List.range (a + 1)).map fun (x : Nat) => (true, (j : Int), (x : Int))
def allW (a b : Nat) : List Wi := (List.range a).flatMap (fun i => colW i b) ++ (List.range b).flatMap (fun j => rowW j a)
theorem all_w {a b : Nat} {w : Wi} : w ∈ allW a b ↔ InW a b w := by
  unfold allW colW rowW InW
  rw [List.mem_append, List.mem_flatMap, List.mem_flatMap]
  constructor
  · rintro (⟨i, hi, h⟩ | ⟨j, hj, h⟩)
    · obtain ⟨y, hy, rfl⟩ := List.mem_map.mp h
      have := List.mem_range.mp hi
      have := List.mem_range.mp hy
      exact .inr ⟨rfl, ⟨by show (0 : Int) ≤ (i : Int); omega, by show (i : Int) < a; omega⟩, by show (0 : Int) ≤ (y : Int); omega, by show (y : Int) ≤ b; omega⟩
    · obtain ⟨y, hy, rfl⟩ := List.mem_map.mp h
      have := List.mem_range.mp hj
      have := List.mem_range.mp hy
      exact .inl ⟨rfl, ⟨by show (0 : Int) ≤ (j : Int); omega, by show (j : Int) < b; omega⟩, by show (0 : Int) ≤ (y : Int); omega, by show (y : Int) ≤ a; omega⟩
  · obtain ⟨r, n, p⟩ := w
    rintro (⟨rfl, ⟨h1, h2⟩, h3, h4⟩ | ⟨rfl, ⟨h1, h2⟩, h3, h4⟩)
    · have h1 : 0 ≤ n := h1
      have h2 : n < b := h2
      have h3 : 0 ≤ p := h3
      have h4 : p ≤ a := h4
      refine .inr ⟨n.toNat, List.mem_range.mpr (by omega), List.mem_map.mpr ⟨p.toNat, List.mem_range.mpr (by omega), ?_⟩⟩
      rw [Int.toNat_of_nonneg h1, Int.toNat_of_nonneg h3]
    · have h1 : 0 ≤ n := h1
      have h2 : n < a := h2
      have h3 : 0 ≤ p := h3
      have h4 : p ≤ b := h4
      refine .inl ⟨n.toNat, List.mem_range.mpr (by omega), List.mem_map.mpr ⟨p.toNat, List.mem_range.mpr (by omega), ?_⟩⟩
      rw [Int.toNat_of_nonneg h1, Int.toNat_of_nonneg h3]
theorem len_flat {α β : Type} {f : α → List β} {c : Nat} (h : ∀ x, (f x).length = c) : ∀ l : List α, (l.flatMap f).length = l.length * c
  | [] => by simp
  | x :: l => by rw [List.flatMap_cons, List.length_append, h, len_flat h l, List.length_cons, Nat.succ_mul, Nat.add_comm]
theorem len_all (a b : Nat) : (allW a b).length = a * (b + 1) + b * (a + 1) := by
  unfold allW
  rw [List.length_append, len_flat (c := b + 1) (fun i => by unfold colW; rw [List.length_map, List.length_range]), len_flat (c := a + 1) (fun i => by unfold rowW; rw [List.length_map, List.length_range]), List.length_range, List.length_range]
theorem len_all_le {a b : Nat} (ha : a ≤ 40) (hb : b ≤ 40) : (allW a b).length ≤ 3280 := by
  rw [len_all]
  have h1 : a * (b + 1) ≤ 40 * 41 := Nat.mul_le_mul ha (by omega)
  have h2 : b * (a + 1) ≤ 40 * 41 := Nat.mul_le_mul hb (by omega)
  omega
theorem few_of : ∀ {ws us : List Wi}, ws.Nodup → (∀ x ∈ ws, x ∈ us) → ws.length ≤ us.length
  | [], us, _, _ => Nat.zero_le _
  | w :: ws, us, h, s => by
    obtain ⟨h1, h2⟩ := List.nodup_cons.mp h
    have m := s w List.mem_cons_self
    have := few_of (us := us.erase w) h2 fun x hx => (List.mem_erase_of_ne (fun (e : x = w) => h1 (e ▸ hx))).mpr (s x (List.mem_cons_of_mem _ hx))
    rw [List.length_erase_of_mem m] at this
    have pos : 0 < us.length := List.length_pos_of_mem m
    rw [List.length_cons]
    omega
theorem count_nodup {x : Wi} : ∀ {l : List Wi}, l.Nodup → l.count x = if x ∈ l then 1 else 0
  | [], _ => by simp
  | y :: l, h => by
    obtain ⟨h1, h2⟩ := List.nodup_cons.mp h
    rw [List.count_cons, count_nodup h2]
    by_cases e : y = x
    · subst e; simp [h1]
    · have e' : x ≠ y := fun z => e z.symm
      simp [e, e']
theorem perm_of {ws us : List Wi} (hw : ws.Nodup) (hu : us.Nodup) (h : ∀ x, x ∈ ws ↔ x ∈ us) : ws.Perm us := List.perm_iff_count.mpr fun x => by
  rw [count_nodup hw, count_nodup hu]
  simp only [h x]
/-- sorted, two rows of the same wires are one row -/
theorem sort_one {bs cs : List WB} (nb : (bs.map (·.2)).Nodup) (nc : (cs.map (·.2)).Nodup) (h : ∀ x, x ∈ bs.map (·.2) ↔ x ∈ cs.map (·.2)) : (bs.mergeSort leW).map (·.2) = (cs.mergeSort leW).map (·.2) := by
  let le : Wi → Wi → Bool := fun x y => leW (0, x) (0, y)
  have inj : ∀ x y : Wi, le x y = true → le y x = true → x = y := fun x y h1 h2 => by
    obtain ⟨r, n, p⟩ := x
    obtain ⟨r', n', p'⟩ := y
    have h1' : leW (0, r, n, p) (0, r', n', p') = true := h1
    have h2' : leW (0, r', n', p') (0, r, n, p) = true := h2
    unfold leW at h1' h2'
    simp only [Bool.not_eq_true', decide_eq_false_iff_not, ltW_iff] at h1' h2'
    have e1 : bI r = bI r' := by omega
    have e2 : n = n' := by omega
    have e3 : p = p' := by omega
    have e0 : r = r' := by
      revert e1
      cases r <;> cases r' <;> decide
    rw [e0, e2, e3]
  have srt : ∀ ds : List WB, ((ds.mergeSort leW).map (·.2)).Pairwise fun x y => le x y = true := fun ds => by
    rw [List.pairwise_map]
    exact (List.pairwise_mergeSort leW_trans leW_total ds).imp fun h => h
  have pm : ∀ ds : List WB, ((ds.mergeSort leW).map (·.2)).Perm (ds.map (·.2)) := fun ds => (List.mergeSort_perm ds leW).map _
  exact List.Perm.eq_of_pairwise (fun x y _ _ h1 h2 => inj x y h1 h2) (srt bs) (srt cs) ((pm bs).trans ((perm_of nb nc h).trans (pm cs).symm))
/-! the worklist -/
def crossW (a b : Int) (w : Wi) : List (Int × Int) := if w.1 = true then ([w.2.2 - 1, w.2.2].filter fun i => decide (0 ≤ i ∧ i < a)).map fun i => (i, w.2.1) else ([w.2.2 - 1, w.2.2].filter fun j => decide (0 ≤ j ∧ j < b)).map fun j => (w.2.1, j)
theorem cross_has {a b i j : Int} (c : InC a b i j) {w : Wi} (h : w ∈ legsW i j) : (i, j) ∈ crossW a b w := by
  obtain ⟨⟨c1, c2⟩, c3, c4⟩ := c
  unfold legsW at h
  have f : ∀ {k n m : Int}, 0 ≤ k → k < m → k = n - 1 ∨ k = n → k ∈ [n - 1, n].filter fun i => decide (0 ≤ i ∧ i < m) := fun h0 h1 e => List.mem_filter.mpr ⟨by simpa using e, decide_eq_true ⟨h0, h1⟩⟩
  rcases List.mem_cons.mp h with rfl | h
  · exact List.mem_map.mpr ⟨i, f c1 c2 (.inr rfl), rfl⟩
  rcases List.mem_cons.mp h with rfl | h
  · exact List.mem_map.mpr ⟨j, f c3 c4 (.inr rfl), rfl⟩
  rcases List.mem_cons.mp h with rfl | h
  · exact List.mem_map.mpr ⟨i, f c1 c2 (.inl (by show i = i + 1 - 1; omega)), rfl⟩
  · rw [List.mem_singleton.mp h]
    exact List.mem_map.mpr ⟨j, f c3 c4 (.inl (by show j = j + 1 - 1; omega)), rfl⟩
theorem cross_in {a b : Int} {w : Wi} (hw : InW a b w) {c : Int × Int} (h : c ∈ crossW a b w) : InC a b c.1 c.2 := by
  unfold crossW at h
  rcases hw with ⟨e, h1, _⟩ | ⟨e, h1, _⟩
  · rw [if_pos e] at h
    obtain ⟨i, hi, rfl⟩ := List.mem_map.mp h
    exact ⟨of_decide_eq_true (List.mem_filter.mp hi).2, h1⟩
  · rw [if_neg (by rw [e]; decide)] at h
    obtain ⟨i, hi, rfl⟩ := List.mem_map.mp h
    exact ⟨h1, of_decide_eq_true (List.mem_filter.mp hi).2⟩
def WInv (a b : Int) (ws wt : List Wi) (todo : List (Int × Int)) : Prop := ∀ i j, InC a b i j → Full ws i j ∨ ¬ Tells ws i j ∨ (∃ w ∈ wt, w ∈ legsW i j) ∨ (i, j) ∈ todo
theorem winv_start {a b : Int} {ws wt : List Wi} (h : ∀ w ∈ ws, w ∈ wt) : WInv a b ws wt [] := fun i j c => by
  by_cases t : Tells ws i j
  · obtain ⟨l, hl, m, _⟩ := t
    exact .inr (.inr (.inl ⟨_, h _ m, legW_mem hl⟩))
  · exact .inr (.inl t)
theorem winv_pop {a b : Int} {ws wt : List Wi} {w : Wi} (h : WInv a b ws (wt ++ [w]) []) : WInv a b ws wt (crossW a b w) := fun i j c => by
  rcases h i j c with h | h | ⟨x, hx, hl⟩ | h
  · exact .inl h
  · exact .inr (.inl h)
  · rcases List.mem_append.mp hx with hx | hx
    · exact .inr (.inr (.inl ⟨x, hx, hl⟩))
    · rw [List.mem_singleton.mp hx] at hl
      exact .inr (.inr (.inr (cross_has c hl)))
  · exact nomatch h
theorem winv_skip {a b : Int} {ws wt : List Wi} {i j : Int} {todo : List (Int × Int)} (h : WInv a b ws wt ((i, j) :: todo)) (n : ¬ Tells ws i j ∨ Full ws i j) : WInv a b ws wt todo := fun k l c => by
  rcases h k l c with h | h | h | h
  · exact .inl h
  · exact .inr (.inl h)
  · exact .inr (.inr (.inl h))
  · rcases List.mem_cons.mp h with e | h
    · cases e
      exact n.elim (fun n => .inr (.inl n)) .inl
    · exact .inr (.inr (.inr h))
theorem winv_hold {a b : Int} {ws wt : List Wi} {i j : Int} {todo : List (Int × Int)} (h : WInv a b ws wt ((i, j) :: todo)) : WInv a b (addL ws (legsW i j)) (wt ++ (legsW i j).filter fun u => decide (u ∉ ws)) todo := fun k l c => by
  by_cases e : (k, l) = (i, j)
  · cases e
    exact .inl fun w hw => mem_addL.mpr (.inr hw)
  by_cases fresh : ∃ w ∈ legsW k l, w ∈ addL ws (legsW i j) ∧ w ∉ ws
  · obtain ⟨w, hw, h1, h2⟩ := fresh
    refine .inr (.inr (.inl ⟨w, List.mem_append_right _ (List.mem_filter.mpr ⟨(mem_addL.mp h1).resolve_left h2, decide_eq_true h2⟩), hw⟩))
  have old : ∀ w ∈ legsW k l, w ∈ addL ws (legsW i j) → w ∈ ws := fun w hw h1 => by
    by_cases m : w ∈ ws
    · exact m
    · exact absurd ⟨w, hw, h1, m⟩ fresh
  rcases h k l c with h | h | ⟨w, hw, hl⟩ | h
  · exact .inl fun w hw => mem_addL.mpr (.inl (h w hw))
  · refine .inr (.inl fun ⟨m, hm, t1, t2⟩ => h ⟨m, hm, old _ (legW_mem hm) t1, old _ (legW_mem (Nat.mod_lt _ (by decide))) t2⟩)
  · exact .inr (.inr (.inl ⟨w, List.mem_append_left _ hw, hl⟩))
  · rcases List.mem_cons.mp h with z | h
    · exact absurd z e
    · exact .inr (.inr (.inr h))
theorem winv_end {a b : Int} {ws : List Wi} (h : WInv a b ws [] []) : Shut a b ws := fun i j c t => by
  rcases h i j c with h | h | ⟨w, hw, _⟩ | h
  · exact h
  · exact absurd t h
  · exact nomatch hw
  · exact nomatch h
/-- a row of steps -/
inductive Run (a b : Int) (K : List Wi) : List (Int × Int × Int) → List Wi → Prop
  | nil : Run a b K [] K
  | snoc {ts : List (Int × Int × Int)} {ws : List Wi} {i j : Int} {l : Nat} (h : Run a b K ts ws) (c : InC a b i j) (hl : l < 4) (h1 : legW i j l ∈ ws) (h2 : legW i j ((l + 1) % 4) ∈ ws) (h3 : ∃ w ∈ legsW i j, w ∉ ws) : Run a b K (ts ++ [(i, j, (l : Int))]) (addL ws (legsW i j))
theorem Run.sound {a b : Int} {K : List Wi} {ts : List (Int × Int × Int)} {ws : List Wi} (h : Run a b K ts ws) : ∀ w ∈ ws, Told a b (· ∈ K) w := by
  induction h with
  | nil => exact fun w hw => .known hw
  | snoc _ c hl h1 h2 _ ih => exact fun w hw => (mem_addL.mp hw).elim (ih w) fun m => .step c hl (ih _ h1) (ih _ h2) m
theorem Run.has {a b : Int} {K : List Wi} {ts : List (Int × Int × Int)} {ws : List Wi} (h : Run a b K ts ws) : ∀ w ∈ K, w ∈ ws := by
  induction h with
  | nil => exact fun w hw => hw
  | snoc _ c hl h1 h2 _ ih => exact fun w hw => mem_addL.mpr (.inl (ih w hw))
theorem Run.fold {a b : Int} {K : List Wi} {ts : List (Int × Int × Int)} {ws : List Wi} (h : Run a b K ts ws) : ws = ts.foldl (fun acc t => addL acc (legsW t.1 t.2.1)) K := by
  induction h with
  | nil => rfl
  | snoc _ c hl h1 h2 _ ih => rw [List.foldl_append, ← ih]; rfl
theorem Run.inW {a b : Int} {K : List Wi} {ts : List (Int × Int × Int)} {ws : List Wi} (h : Run a b K ts ws) (k : ∀ w ∈ K, InW a b w) : ∀ w ∈ ws, InW a b w := by
  induction h with
  | nil => exact k
  | snoc _ c hl h1 h2 _ ih => exact fun w hw => (mem_addL.mp hw).elim (ih w) (legs_in c)
theorem Run.inC {a b : Int} {K : List Wi} {ts : List (Int × Int × Int)} {ws : List Wi} (h : Run a b K ts ws) : ∀ t ∈ ts, InC a b t.1 t.2.1 := by
  induction h with
  | nil => exact fun t ht => nomatch ht
  | snoc _ c hl h1 h2 _ ih => exact fun t ht => (List.mem_append.mp ht).elim (ih t) fun m => by rw [List.mem_singleton.mp m]; exact c
theorem Run.nodup {a b : Int} {K : List Wi} {ts : List (Int × Int × Int)} {ws : List Wi} (h : Run a b K ts ws) (k : K.Nodup) : ws.Nodup := by
  induction h with
  | nil => exact k
  | snoc _ c hl h1 h2 _ ih => exact nodup_addL ih
end C2

namespace C2
set_option Elab.async false
set_option linter.all false
set_option maxRecDepth 100000
set_option maxHeartbeats 1000000
open PySem PySem.Spec PyProof.Rows L2 HT
theorem same_none {G G' : Hp} {l : Addr} (s : Same G G') (n : G' l = none) : G l = none := by
  cases e : G l with
  | none => rfl
  | some o => rw [s _ _ e] at n; cases n
def WBs (G : Hp) (bs : List WB) : Prop := ∀ b ∈ bs, G b.1 = some (.tup (wv b.2))
theorem WBs.same {G G' : Hp} {bs : List WB} (h : WBs G bs) (s : Same G G') : WBs G' bs := fun b hb => s _ _ (h b hb)
theorem WBs.at_ {G : Hp} {bs : List WB} {ws : List Wi} {n : Nat} {w : Wi} (h : WBs G bs) (e : bs.map (·.2) = ws) (hn : ws[n]? = some w) : ∃ c, (brefs bs)[n]? = some (.ref c) ∧ G c = some (.tup (wv w)) := by
  rw [← e, List.getElem?_map] at hn
  cases hb : bs[n]? with
  | none => rw [hb] at hn; cases hn
  | some b =>
    rw [hb] at hn
    cases hn
    exact ⟨b.1, by rw [List.getElem?_map, hb]; rfl, h b (List.mem_of_getElem? hb)⟩
/-- tuples stay where only lists and dicts change -/
def Keeps (G G' : Hp) : Prop := ∀ b xs, G b = some (.tup xs) → G' b = some (.tup xs)
theorem Keeps.same {G G' : Hp} (s : Same G G') : Keeps G G' := fun b xs h => s _ _ h
theorem Keeps.trans {G G' G'' : Hp} (a : Keeps G G') (b : Keeps G' G'') : Keeps G G'' := fun c xs h => b _ _ (a _ _ h)
theorem Keeps.at {G : Hp} {d : Addr} {o o' : HO} (e : G d = some o) (nt : ∀ xs, o ≠ .tup xs) : Keeps G (upd G d o') := fun b xs h => by
  rw [upd_ne (fun z => by rw [z, e] at h; cases h; exact nt _ rfl)]
  exact h
theorem WBs.keeps {G G' : Hp} {bs : List WB} (h : WBs G bs) (s : Keeps G G') : WBs G' bs := fun b hb => s _ _ (h b hb)
def PrAt (G : Hp) (v : V) (p : Int × Int) : Prop := ∃ c, v = .ref c ∧ G c = some (.tup [.int p.1, .int p.2])
inductive Prs (G : Hp) : List V → List (Int × Int) → Prop
  | nil : Prs G [] []
  | cons {v : V} {vs : List V} {p : Int × Int} {ps : List (Int × Int)} (h : PrAt G v p) (t : Prs G vs ps) : Prs G (v :: vs) (p :: ps)
theorem Prs.keeps {G G' : Hp} (s : Keeps G G') : ∀ {vs : List V} {ps : List (Int × Int)}, Prs G vs ps → Prs G' vs ps
  | _, _, .nil => .nil
  | _, _, .cons ⟨c, e, z⟩ t => .cons ⟨c, e, s _ _ z⟩ (Prs.keeps s t)
theorem Prs.len {G : Hp} : ∀ {vs : List V} {ps : List (Int × Int)}, Prs G vs ps → vs.length = ps.length
  | _, _, .nil => rfl
  | _, _, .cons _ t => by rw [List.length_cons, List.length_cons, Prs.len t]
theorem Prs.app {G : Hp} : ∀ {vs us : List V} {ps qs : List (Int × Int)}, Prs G vs ps → Prs G us qs → Prs G (vs ++ us) (ps ++ qs)
  | _, _, _, _, .nil, u => u
  | _, _, _, _, .cons h t, u => .cons h (Prs.app t u)
theorem Prs.at_ {G : Hp} : ∀ {vs : List V} {ps : List (Int × Int)} {m : Nat} {v : V}, Prs G vs ps → vs[m]? = some v → ∃ p, ps[m]? = some p ∧ PrAt G v p
  | _, _, 0, _, .cons h t, e => by cases e; exact ⟨_, rfl, h⟩
  | _, _, m + 1, _, .cons h t, e => by
    obtain ⟨p, a, b⟩ := Prs.at_ (m := m) t (by simpa using e)
    exact ⟨p, by simpa using a, b⟩
theorem legs_at {i j : Int} {l : Nat} (h : l < 4) : (legsW i j)[l]? = some (legW i j l) := by
  unfold legW legsW
  match l, h with
  | 0, _ => rfl
  | 1, _ => rfl
  | 2, _ => rfl
  | 3, _ => rfl
theorem in_w {G : Hp} {d c : Addr} {ws : List Wi} {w : Wi} (hd : G d = some (.dT (ws.map kW))) (hc : G c = some (.tup (wv w))) : ∃ o, DGet G d (.ref c) o ∧ o.isSome = decide (w ∈ ws) := ⟨_, DGet.t (k := (kW w).1) hd hc, val_w ws w⟩
theorem put_at {G : Hp} {d c : Addr} {ws : List Wi} {w : Wi} (hd : G d = some (.dT (ws.map kW))) (hc : G c = some (.tup (wv w))) (few : ws.length ≤ 100000) : DPut G d (.ref c) (.bl true) (upd G d (.dT ((addW ws w).map kW))) := by
  have z := DPut.t (k := (kW w).1) (v := .bl true) hd hc (by rw [List.length_map]; exact Nat.lt_of_le_of_lt few (by decide))
  rw [put_w] at z
  exact z
theorem fr_at {p l : Addr} {H G : Hp} {o : HO} (h : Fr p H G) (n : H l = none) : Fr p H (upd G l o) := fun b x nb e => by
  rw [upd_ne (ne_of_none e n)]
  exact h b x nb e
section
variable {P : Program} {w : World} {K : PySem.W.Frag} {mg : Str → Option Value} {base : Heap}
theorem scLegs : FnScope ["i", "j"] ["i", "j"] (defScope sLegs) := ⟨rfl, rfl, rfl, by decide +kernel, rfl, by decide +kernel, by decide +kernel⟩
def spLegs : Sp := fun vs H Q _ => ∃ (i j : Int), vs = [.int i, .int j] ∧ ∀ (T : Addr) (bs : List WB) H', Same H H' → H T = none → H' T = some (.tup (brefs bs)) → bs.map (·.2) = legsW i j → WBs H' bs → Q (.ref T) H'
theorem four_wires {G : Hp} {c0 c1 c2 c3 : Addr} {i j : Int} (h0 : G c0 = some (.tup (wv (true, j, i)))) (h1 : G c1 = some (.tup (wv (false, i, j)))) (h2 : G c2 = some (.tup (wv (true, j, i + 1)))) (h3 : G c3 = some (.tup (wv (false, i, j + 1)))) : WBs G [(c0, true, j, i), (c1, false, i, j), (c2, true, j, i + 1), (c3, false, i, j + 1)] := fun b hb => by
  rcases List.mem_cons.mp hb with rfl | hb
  · exact h0
  rcases List.mem_cons.mp hb with rfl | hb
  · exact h1
  rcases List.mem_cons.mp hb with rfl | hb
  · exact h2
  · rw [List.mem_singleton.mp hb]
    exact h3
theorem ok_legs {f : Addr} {fd : FuncData} {k : Nat} (F : Fun K "legs" "legs" sLegs f fd) : FnOk P w K mg base CX0 (k + 1) f fd ["i", "j"] spLegs := by
  refine F.ok scLegs (fun vs H Q E h => ?_) (fun cdv A outer s H vs Q E hr h => ?_)
  · obtain ⟨i, j, rfl, _⟩ := h
    rfl
  · obtain ⟨i, j, rfl, q⟩ := h
    have nd := scLegs.nd
    refine ⟨_, pss_one (ps_ret (pe_tup (pa_cons (pe_tup (pa_cons pe_str (pa_cons (pv 1) (pa_cons (pv 0) pa_nil)))) (pa_cons (pe_tup (pa_cons pe_str (pa_cons (pv 0) (pa_cons (pv 1) pa_nil)))) (pa_cons (pe_tup (pa_cons pe_str (pa_cons (pv 1) (pa_cons (pe_op op_add (pv 0) pe_int) pa_nil)))) (pa_cons (pe_tup (pa_cons pe_str (pa_cons (pv 0) (pa_cons (pe_op op_add (pv 1) pe_int) pa_nil)))) pa_nil)))))), ?_⟩
    refine ⟨.int j, rfl, .int i, rfl, by show 3 ≤ sizeLine; decide, fun a1 m1 => ?_⟩
    refine ⟨.int i, rfl, .int j, rfl, by show 3 ≤ sizeLine; decide, fun a2 m2 => ?_⟩
    refine ⟨.int j, rfl, .int i, rfl, i, 1, rfl, rfl, by show 3 ≤ sizeLine; decide, fun a3 m3 => ?_⟩
    refine ⟨.int i, rfl, .int j, rfl, j, 1, rfl, rfl, by show 3 ≤ sizeLine; decide, fun a4 m4 => ?_⟩
    refine ⟨by show 4 ≤ sizeLine; decide, fun a5 m5 => ?_⟩
    have r1 := same_upd (o := .tup (wv (true, j, i))) m1
    have r2 := same_upd (o := .tup (wv (false, i, j))) m2
    have r3 := same_upd (o := .tup (wv (true, j, i + 1))) m3
    have r4 := same_upd (o := .tup (wv (false, i, j + 1))) m4
    have r5 := same_upd (o := .tup [.ref a1, .ref a2, .ref a3, .ref a4]) m5
    have n0 : H a5 = none := same_none (r1.trans (r2.trans (r3.trans r4))) m5
    exact q a5 [(a1, true, j, i), (a2, false, i, j), (a3, true, j, i + 1), (a4, false, i, j + 1)] _ (r1.trans (r2.trans (r3.trans (r4.trans r5)))) n0 upd_same rfl (four_wires ((r2.trans (r3.trans (r4.trans r5))) _ _ upd_same) ((r3.trans (r4.trans r5)) _ _ upd_same) ((r4.trans r5) _ _ upd_same) (r5 _ _ upd_same))
theorem scLLegs : FnScope ["_law_i", "_law_j"] ["_law_i", "_law_j"] (defScope sLLegs) := ⟨rfl, rfl, rfl, by decide +kernel, rfl, by decide +kernel, by decide +kernel⟩
def spLLegs : Sp := fun vs H Q _ => ∃ (i j : Int), vs = [.int i, .int j] ∧ ∀ (T : Addr) (bs : List WB) H', Same H H' → H T = none → H' T = some (.lst (brefs bs)) → bs.map (·.2) = legsW i j → WBs H' bs → Q (.ref T) H'
theorem ok_llegs {f : Addr} {fd : FuncData} {k : Nat} (F : Fun K "_law_legs" "_law_legs" sLLegs f fd) : FnOk P w K mg base CX0 (k + 1) f fd ["_law_i", "_law_j"] spLLegs := by
  refine F.ok scLLegs (fun vs H Q E h => ?_) (fun cdv A outer s H vs Q E hr h => ?_)
  · obtain ⟨i, j, rfl, _⟩ := h
    rfl
  · obtain ⟨i, j, rfl, q⟩ := h
    have nd := scLLegs.nd
    refine ⟨_, pss_one (ps_ret (pe_lst (pa_cons (pe_tup (pa_cons pe_str (pa_cons (pv 1) (pa_cons (pv 0) pa_nil)))) (pa_cons (pe_tup (pa_cons pe_str (pa_cons (pv 0) (pa_cons (pv 1) pa_nil)))) (pa_cons (pe_tup (pa_cons pe_str (pa_cons (pv 1) (pa_cons (pe_op op_add (pv 0) pe_int) pa_nil)))) (pa_cons (pe_tup (pa_cons pe_str (pa_cons (pv 0) (pa_cons (pe_op op_add (pv 1) pe_int) pa_nil)))) pa_nil)))))), ?_⟩
    refine ⟨.int j, rfl, .int i, rfl, by show 3 ≤ sizeLine; decide, fun a1 m1 => ?_⟩
    refine ⟨.int i, rfl, .int j, rfl, by show 3 ≤ sizeLine; decide, fun a2 m2 => ?_⟩
    refine ⟨.int j, rfl, .int i, rfl, i, 1, rfl, rfl, by show 3 ≤ sizeLine; decide, fun a3 m3 => ?_⟩
    refine ⟨.int i, rfl, .int j, rfl, j, 1, rfl, rfl, by show 3 ≤ sizeLine; decide, fun a4 m4 => ?_⟩
    refine ⟨by show 4 ≤ sizeLine; decide, fun a5 m5 => ?_⟩
    have r1 := same_upd (o := .tup (wv (true, j, i))) m1
    have r2 := same_upd (o := .tup (wv (false, i, j))) m2
    have r3 := same_upd (o := .tup (wv (true, j, i + 1))) m3
    have r4 := same_upd (o := .tup (wv (false, i, j + 1))) m4
    have r5 := same_upd (o := .lst [.ref a1, .ref a2, .ref a3, .ref a4]) m5
    have n0 : H a5 = none := same_none (r1.trans (r2.trans (r3.trans r4))) m5
    exact q a5 [(a1, true, j, i), (a2, false, i, j), (a3, true, j, i + 1), (a4, false, i, j + 1)] _ (r1.trans (r2.trans (r3.trans (r4.trans r5)))) n0 upd_same rfl (four_wires ((r2.trans (r3.trans (r4.trans r5))) _ _ upd_same) ((r3.trans (r4.trans r5)) _ _ upd_same) ((r4.trans r5) _ _ upd_same) (r5 _ _ upd_same))
theorem scHold : FnScope ["held", "i", "j", "place"] ["held", "i", "j"] (defScope sHold) := ⟨rfl, rfl, rfl, by decide +kernel, rfl, by decide +kernel, by decide +kernel⟩
def spHold : Sp := fun vs H Q _ => ∃ (d : Addr) (i j : Int) (ws : List Wi), vs = [.ref d, .int i, .int j] ∧ H d = some (.dT (ws.map kW)) ∧ ws.length ≤ 9000 ∧ ∀ H', Fr d H H' → H' d = some (.dT ((addL ws (legsW i j)).map kW)) → Q .non H'
theorem ok_hold {f fL : Addr} {fd fdL : FuncData} {k : Nat} (F : Fun K "hold" "hold" sHold f fd) (FL : Fun K "legs" "legs" sLegs fL fdL) (bL : Binds K fdL ["i", "j"] []) (gL : mg "legs" = some (.ref fL)) : FnOk P w K mg base CX0 (k + 2) f fd ["held", "i", "j"] spHold := by
  have GL : FnOk P w K mg base CX0 (k + 1) fL fdL ["i", "j"] spLegs := ok_legs FL
  refine F.ok scHold (fun vs H Q E h => ?_) (fun cdv A outer s H vs Q E hr h => ?_)
  · obtain ⟨d, i, j, ws, rfl, _⟩ := h
    rfl
  · obtain ⟨d, i, j, ws, rfl, hd, few, q⟩ := h
    have nd := scHold.nd
    refine ⟨_, pss_one (ps_for PassesOwn.never rfl (pi_tup (pe_call GL hr (by rfl) gL FL.kp bL .nil pass0 (pa_cons (pv 1) (pa_cons (pv 2) pa_nil)))) (pg_name (i := 3) nd rfl (.inl rfl)) (pss_one (ps_dput (Nat.lt_of_le_of_lt (Nat.add_le_add_left (by decide) _) hr.units) (pv 0) (pv 3) pe_bl (by rfl)))), ?_⟩
    refine ⟨.int i, rfl, .int j, rfl, i, j, rfl, fun T bs H1 s1 nT hT eb hb => ⟨T, rfl, ⟨_, .inl (.inl hT)⟩, ?_⟩⟩
    have nTd : T ≠ d := fun z => by rw [z, hd] at nT; cases nT
    have lb : (brefs bs).length = 4 := by
      have := congrArg List.length eb
      rw [List.length_map] at this
      rw [List.length_map, this]
      rfl
    refine for_tup (xs := brefs bs) (fun r σ G => Fr d H1 G ∧ G d = some (.dT ((addL ws ((legsW i j).take r)).map kW)) ∧ ∃ y, σ = [some (.ref d), some (.int i), some (.int j), y]) ⟨Fr.refl _ _, s1 _ _ hd, _, rfl⟩ (fun r σ G _ h => .inl (.inl (h.1 _ _ nTd hT))) ?_ ?_
    · rintro r x σ G hx ⟨fr, hG, y, rfl⟩
      have hr4 : r < 4 := by
        have := (List.getElem?_eq_some_iff.mp hx).1
        omega
      obtain ⟨c, hc, hw⟩ := hb.at_ eb (legs_at (i := i) (j := j) hr4)
      rw [hx] at hc
      cases hc
      have ncd : c ≠ d := fun z => by rw [z, s1 _ _ hd] at hw; cases hw
      have lw := (len_addL ((legsW i j).take r) ws).2
      rw [List.length_take] at lw
      refine ⟨.ref d, rfl, .ref c, rfl, d, _, rfl, put_at hG (fr _ _ ncd hw) (by have : (legsW i j).length = 4 := rfl; omega), fun b o nb e => ?_, ?_, _, rfl⟩
      · rw [upd_ne nb]
        exact fr _ _ nb e
      · rw [upd_same]
        have : addL ws ((legsW i j).take (r + 1)) = addW (addL ws ((legsW i j).take r)) (legW i j r) := by
          unfold addL
          rw [List.take_add_one, legs_at hr4, List.foldl_append]
          rfl
        rw [this]
    · rintro σ G ⟨fr, hG, y, rfl⟩
      rw [lb] at hG
      exact q G ((Fr.same s1).trans fr) hG
theorem scIsTell : FnScope ["held", "i", "j", "leg", "places"] ["held", "i", "j", "leg"] (defScope sIsTell) := ⟨rfl, rfl, rfl, by decide +kernel, rfl, by decide +kernel, by decide +kernel⟩
def spIsTell : Sp := fun vs H Q _ => ∃ (d : Addr) (i j : Int) (l : Nat) (ws : List Wi), vs = [.ref d, .int i, .int j, .int (l : Int)] ∧ l < 4 ∧ H d = some (.dT (ws.map kW)) ∧ ∀ (B : Bool) H', Same H H' → B = decide (legW i j l ∈ ws ∧ legW i j ((l + 1) % 4) ∈ ws) → Q (.bl B) H'
theorem ok_istell {f fL : Addr} {fd fdL : FuncData} {k : Nat} (F : Fun K "is_telling" "is_telling" sIsTell f fd) (FL : Fun K "legs" "legs" sLegs fL fdL) (bL : Binds K fdL ["i", "j"] []) (gL : mg "legs" = some (.ref fL)) : FnOk P w K mg base CX0 (k + 2) f fd ["held", "i", "j", "leg"] spIsTell := by
  have GL : FnOk P w K mg base CX0 (k + 1) fL fdL ["i", "j"] spLegs := ok_legs FL
  refine F.ok scIsTell (fun vs H Q E h => ?_) (fun cdv A outer s H vs Q E hr h => ?_)
  · obtain ⟨d, i, j, l, ws, rfl, _⟩ := h
    rfl
  · obtain ⟨d, i, j, l, ws, rfl, hl, hd, q⟩ := h
    have nd := scIsTell.nd
    refine ⟨_, pss_cons (ps_set (i := 4) nd rfl (.inl rfl) (pe_call GL hr (by rfl) gL FL.kp bL .nil pass0 (pa_cons (pv 1) (pa_cons (pv 2) pa_nil))))
      (pss_one (ps_ret (pe_and (pe_cmp (pc_din (Nat.lt_of_le_of_lt (Nat.add_le_add_left (by decide) _) hr.units) (pe_ix ix_tup (pv 4) (pv 3) (fun _ _ => rfl)) (pv 0))) (pe_one (pe_cmp (pc_din (Nat.lt_of_le_of_lt (Nat.add_le_add_left (by decide) _) hr.units) (pe_ix ix_tup (pv 4) (pe_op op_mod (pe_op op_add (pv 3) pe_int) pe_int) (fun _ _ => rfl)) (pv 0))))))), ?_⟩
    refine ⟨.int i, rfl, .int j, rfl, i, j, rfl, fun T bs H1 s1 nT hT eb hb => ?_⟩
    have hd1 := s1 _ _ hd
    obtain ⟨c1, e1, h1⟩ := hb.at_ eb (legs_at (i := i) (j := j) hl)
    obtain ⟨c2, e2, h2⟩ := hb.at_ eb (legs_at (i := i) (j := j) (Nat.mod_lt (l + 1) (by decide : 0 < 4)))
    obtain ⟨o1, g1, b1⟩ := in_w hd1 h1
    obtain ⟨o2, g2, b2⟩ := in_w hd1 h2
    refine ⟨.ref T, rfl, .int (l : Int), rfl, T, _, _, .ref c1, rfl, rfl, .inl (.inl hT), at_of rfl e1, .ref d, rfl, d, o1, rfl, g1, o1.isSome, rfl, ite2 (fun z => ?_) (fun z => ?_)⟩
    · have em : ((l : Int) + 1) % 4 = (((l + 1) % 4 : Nat) : Int) := by omega
      refine ⟨.ref T, rfl, .int (l : Int), rfl, (l : Int), 1, rfl, rfl, (l : Int) + 1, 4, rfl, rfl, by show (0 : Int) < 4; decide, T, _, _, .ref c2, rfl, rfl, .inl (.inl hT), at_of em e2, .ref d, rfl, d, o2, rfl, g2, q _ _ s1 ?_⟩
      rw [b2]
      rw [b1] at z
      have z1 := of_decide_eq_true z
      simp [z1]
    · refine q _ _ s1 ?_
      rw [b1] at z
      have z1 : legW i j l ∉ ws := fun m => z (decide_eq_true m)
      simp [z1]
theorem scTellLeg : FnScope ["held", "i", "j", "leg"] ["held", "i", "j"] (defScope sTellLeg) := ⟨rfl, rfl, rfl, by decide +kernel, rfl, by decide +kernel, by decide +kernel⟩
def spTellLeg : Sp := fun vs H Q _ => ∃ (d : Addr) (i j : Int) (ws : List Wi), vs = [.ref d, .int i, .int j] ∧ H d = some (.dT (ws.map kW)) ∧ ∀ (v : V) H', Same H H' → ((∃ l : Nat, v = .int (l : Int) ∧ l < 4 ∧ legW i j l ∈ ws ∧ legW i j ((l + 1) % 4) ∈ ws) ∨ (v = .non ∧ ¬ Tells ws i j)) → Q v H'
theorem ok_tell {f fI fL : Addr} {fd fdI fdL : FuncData} {k : Nat} (F : Fun K "telling_leg" "telling_leg" sTellLeg f fd) (FI : Fun K "is_telling" "is_telling" sIsTell fI fdI) (FL : Fun K "legs" "legs" sLegs fL fdL) (bI : Binds K fdI ["held", "i", "j", "leg"] []) (bL : Binds K fdL ["i", "j"] []) (gI : mg "is_telling" = some (.ref fI)) (gL : mg "legs" = some (.ref fL)) (mr : mg "range" = none) : FnOk P w K mg base CX0 (k + 3) f fd ["held", "i", "j"] spTellLeg := by
  have GI : FnOk P w K mg base CX0 (k + 2) fI fdI ["held", "i", "j", "leg"] spIsTell := ok_istell FI FL bL gL
  refine F.ok scTellLeg (fun vs H Q E h => ?_) (fun cdv A outer s H vs Q E hr h => ?_)
  · obtain ⟨d, i, j, ws, rfl, _⟩ := h
    rfl
  · obtain ⟨d, i, j, ws, rfl, hd, q⟩ := h
    have nd := scTellLeg.nd
    refine ⟨_, pss_cons (ps_for PassesOwn.never rfl (pi_range1 (by rfl) mr (pa_cons pe_int pa_nil)) (pg_name (i := 3) nd rfl (.inl rfl)) (pss_one (ps_if (pt_val (pe_call GI hr (by rfl) gI FI.kp bI .nil pass0 (pa_cons (pv 0) (pa_cons (pv 1) (pa_cons (pv 2) (pa_cons (pv 3) pa_nil)))))) (pss_one (ps_ret (pv 3))) pss_nil)))
      (pss_one (ps_ret pe_non)), ?_⟩
    refine ⟨4, rfl, by decide, by decide, ?_⟩
    refine for_range (lo := 0) (n := 4) (fun r σ G => Same H G ∧ (∀ l, l < r → ¬ (legW i j l ∈ ws ∧ legW i j ((l + 1) % 4) ∈ ws)) ∧ ∃ y, σ = [some (.ref d), some (.int i), some (.int j), y]) ⟨Same.refl _, fun l hl => absurd hl (Nat.not_lt_zero _), _, rfl⟩ ?_ ?_
    · rintro r σ G hr4 ⟨sm, no, y, rfl⟩
      rw [Int.zero_add]
      refine ⟨.ref d, rfl, .int i, rfl, .int j, rfl, .int (r : Int), rfl, d, i, j, r, ws, rfl, hr4, sm _ _ hd, fun B G' s' e => ⟨B, rfl, ite2 (fun z => ?_) (fun z => ?_)⟩⟩
      · rw [e] at z
        obtain ⟨z1, z2⟩ := of_decide_eq_true z
        exact ⟨.int (r : Int), rfl, q _ G' (sm.trans s') (.inl ⟨r, rfl, hr4, z1, z2⟩)⟩
      · refine ⟨sm.trans s', fun l hl t => ?_, _, rfl⟩
        rcases Nat.lt_succ_iff_lt_or_eq.mp hl with hl | rfl
        · exact no l hl t
        · exact z (by rw [e]; exact decide_eq_true t)
    · rintro σ G ⟨sm, no, y, rfl⟩
      exact q _ G sm (.inr ⟨rfl, fun ⟨l, hl, t⟩ => no l hl t⟩)
abbrev NCa : List Str := ["a", "b", "wire", "word", "number", "place", "i", "j"]
theorem scCrossAt : FnScope NCa ["a", "b", "wire"] (defScope sCrossAt) := ⟨rfl, rfl, rfl, by decide +kernel, rfl, by decide +kernel, by decide +kernel⟩
def ttC (sl al : Nat) : TT := tTest (tChain (rI0 fun i j => V.bl (decide (i ≤ j))) (rI0 fun i j => V.bl (decide (i < j))) (tC (V.int 0)) (tVar sl) (tVar al))
def teC6 : TE := tTup (tCons (tVar 6) (tCons (tVar 4) tNil))
def teC7 : TE := tTup (tCons (tVar 4) (tCons (tVar 7) tNil))
def iTwo (K : PySem.W.Frag) : TI := iTup K (tTup (tCons (tOp (rI0 fun i j => V.int (i - j)) (tVar 5) (tC (V.int 1))) (tCons (tVar 5) tNil)))
theorem lc_two {σ : L2.St} {G : Hp} {Q : VK} {te : TE} {sl al : Nat} {p m : Int} {f : Int → Int × Int} (h5 : σ[5]? = some (some (.int p))) (hw : ∀ v, wipe ((wipe σ [sl]).set sl (some v)) [sl] = wipe σ [sl]) (hv : ∀ v : V, ((wipe σ [sl]).set sl (some v))[sl]? = some (some v)) (ha : ∀ v : V, ((wipe σ [sl]).set sl (some v))[al]? = some (some (.int m)))
    (hte : ∀ (k : Int) (G : Hp) (R : VK), (∀ c G', Same G G' → G' c = some (.tup [.int (f k).1, .int (f k).2]) → R (.ref c) G') → te ((wipe σ [sl]).set sl (some (.int k))) G R)
    (q : ∀ l us G', Same G G' → G l = none → G' l = some (.lst us) → Prs G' us (([p - 1, p].filter fun i => decide (0 ≤ i ∧ i < m)).map f) → Q (.ref l) G') : tLc (iTwo K) (gName sl) (ttC sl al) te [sl] σ G Q := by
  refine ⟨.int p, h5, p, 1, rfl, rfl, .int p, h5, by show 2 ≤ sizeLine; decide, fun T nT => ⟨T, rfl, ⟨_, .inl (.inl upd_same)⟩, fun D nD => ?_⟩⟩
  have sT := same_upd (o := .tup [.int (p - 1), .int p]) nT
  have sD := same_upd (o := .lst []) nD
  have nDG : G D = none := by
    cases e : G D with
    | none => rfl
    | some o => rw [sT _ _ e] at nD; cases nD
  refine lc_tup (xs := [.int (p - 1), .int p]) (fun r G' => Same G G' ∧ G' T = some (.tup [.int (p - 1), .int p]) ∧ ∃ us, G' D = some (.lst us) ∧ us.length ≤ r ∧ Prs G' us ((([p - 1, p].take r).filter fun i => decide (0 ≤ i ∧ i < m)).map f)) ⟨sT.trans sD, sD _ _ upd_same, [], upd_same, Nat.le_refl _, .nil⟩ (fun r G' _ h => .inl (.inl h.2.1)) ?_ ?_
  · rintro r x G' hx ⟨sm, hT, us, hD, lu, pr⟩
    have r2 : r < 2 := (List.getElem?_eq_some_iff.mp hx).1
    obtain ⟨k, ek, rfl⟩ : ∃ k, [p - 1, p][r]? = some k ∧ x = .int k := by
      match r, r2, hx with
      | 0, _, hx => cases hx; exact ⟨_, rfl, rfl⟩
      | 1, _, hx => cases hx; exact ⟨_, rfl, rfl⟩
    refine ⟨hw _, .int k, hv _, 0, k, rfl, rfl, decide (0 ≤ k), rfl, ?_⟩
    have nx : ([p - 1, p].take (r + 1)).filter (fun i => decide (0 ≤ i ∧ i < m)) = ([p - 1, p].take r).filter (fun i => decide (0 ≤ i ∧ i < m)) ++ [k].filter fun i => decide (0 ≤ i ∧ i < m) := by
      rw [List.take_add_one, ek, List.filter_append]
      rfl
    have skip : ¬ (0 ≤ k ∧ k < m) → Same G G' ∧ G' T = some (.tup [.int (p - 1), .int p]) ∧ ∃ us, G' D = some (.lst us) ∧ us.length ≤ r + 1 ∧ Prs G' us ((([p - 1, p].take (r + 1)).filter fun i => decide (0 ≤ i ∧ i < m)).map f) := fun z => by
      refine ⟨sm, hT, us, hD, by omega, ?_⟩
      rw [nx, List.filter_cons, if_neg (by simpa using z), List.filter_nil, List.append_nil]
      exact pr
    refine ite2 (fun z => ?_) (fun z => ?_)
    · refine ⟨.int m, ha _, k, m, rfl, rfl, decide (k < m), rfl, ite2 (fun z2 => ?_) (fun z2 => ?_)⟩
      · have zz : 0 ≤ k ∧ k < m := ⟨of_decide_eq_true z, of_decide_eq_true z2⟩
        refine hte k G' _ fun c G2 s2 hc => ?_
        have hD2 := s2 _ _ hD
        have kp : Keeps G2 (upd G2 D (.lst (us ++ [.ref c]))) := Keeps.at hD2 (fun xs z => nomatch z)
        refine ⟨us, hD2, Nat.lt_of_lt_of_le (show us.length < 1000 by omega) (by decide), fun b o e => ?_, ?_, us ++ [.ref c], upd_same, by rw [List.length_append, List.length_singleton]; omega, ?_⟩
        · rw [upd_ne (ne_of_none e nDG)]
          exact s2 _ _ (sm _ _ e)
        · exact kp _ _ (s2 _ _ hT)
        · rw [nx, List.filter_cons, if_pos (decide_eq_true zz), List.filter_nil, List.map_append]
          exact ((pr.keeps (Keeps.same s2)).keeps kp).app (.cons ⟨c, rfl, kp _ _ hc⟩ .nil)
      · exact skip fun t => z2 (decide_eq_true t.2)
    · exact ⟨false, rfl, iteF (skip fun t => z (decide_eq_true t.1))⟩
  · rintro G' ⟨sm, hT, us, hD, lu, pr⟩
    exact q D us G' sm nDG hD pr
def spCrossAt : Sp := fun vs H Q _ => ∃ (a b : Int) (c : Addr) (x : Wi), vs = [.int a, .int b, .ref c] ∧ H c = some (.tup (wv x)) ∧ ∀ l us H', Same H H' → H l = none → H' l = some (.lst us) → Prs H' us (crossW a b x) → Q (.ref l) H'
theorem ok_cross {f : Addr} {fd : FuncData} {k : Nat} (F : Fun K "crossings_at" "crossings_at" sCrossAt f fd) : FnOk P w K mg base CX0 (k + 1) f fd ["a", "b", "wire"] spCrossAt := by
  refine F.ok scCrossAt (fun vs H Q E h => ?_) (fun cdv A outer s H vs Q E hr h => ?_)
  · obtain ⟨a, b, c, x, rfl, _⟩ := h
    rfl
  · obtain ⟨a, b, c, x, rfl, hc, q⟩ := h
    have nd := scCrossAt.nd
    refine ⟨_, pss_cons (ps_asg (pv 2) (pg_tup rfl (pgs_cons (pg_name (i := 3) nd rfl (.inl rfl)) (pgs_cons (pg_name (i := 4) nd rfl (.inr rfl)) (pgs_cons (pg_name (i := 5) nd rfl (.inl rfl)) pgs_nil)))))
      (pss_cons (ps_if (pt_cmpR op_eq (pv 3) pe_str (nomark _)) (pss_one (ps_ret (pe_lc (own := [("i", 6)]) (g := gName 6) (tt := ttC 6 0) (te := teC6) rfl nd (pi_tup (pe_tup (pa_cons (pe_op op_sub (pv 5) pe_int) (pa_cons (pv 5) pa_nil)))) (blkOk_by (own := [("i", 6)]) (N := NCa) (sc := defScope sCrossAt) (by decide +kernel)) (fun _ _ _ _ _ => pg_name (i := 6) nd rfl (.inl rfl)) (fun _ _ _ _ _ => (pts_one (pt_chain op_le op_lt pe_int (pv 6) (pv 0)))) (fun _ _ _ _ _ => (pe_tup (pa_cons (pv 6) (pa_cons (pv 4) pa_nil))))))) pss_nil)
      (pss_one (ps_ret (pe_lc (own := [("j", 7)]) (g := gName 7) (tt := ttC 7 1) (te := teC7) rfl nd (pi_tup (pe_tup (pa_cons (pe_op op_sub (pv 5) pe_int) (pa_cons (pv 5) pa_nil)))) (blkOk_by (own := [("j", 7)]) (N := NCa) (sc := defScope sCrossAt) (by decide +kernel)) (fun _ _ _ _ _ => pg_name (i := 7) nd rfl (.inl rfl)) (fun _ _ _ _ _ => (pts_one (pt_chain op_le op_lt pe_int (pv 7) (pv 1)))) (fun _ _ _ _ _ => (pe_tup (pa_cons (pv 4) (pa_cons (pv 7) pa_nil)))))))), ?_⟩
    obtain ⟨r, n, p⟩ := x
    refine ⟨.ref c, rfl, c, _, rfl, .inl (.inl hc), rfl, _, _, rfl, _, _, rfl, _, _, rfl, rfl, ?_⟩
    refine ⟨.str (wordOf r), rfl, rfl, _, rfl, ?_⟩
    cases r with
    | true =>
      refine iteT ?_
      show tRet (tLc (iTwo K) (gName 6) (ttC 6 0) teC6 [6]) _ [some (.int a), some (.int b), some (.ref c), some (.str (wordOf true)), some (.int n), some (.int p), none, none] H
      exact lc_two (te := teC6) (f := fun i => (i, n)) rfl (fun v => rfl) (fun v => rfl) (fun v => rfl) (fun k G R h => ⟨.int k, rfl, .int n, rfl, by show 2 ≤ sizeLine; decide, fun c' nc => h c' _ (same_upd nc) upd_same⟩) fun l us G' s nl hl pr => q l us G' s nl hl pr
    | false =>
      refine iteF ?_
      show tRet (tLc (iTwo K) (gName 7) (ttC 7 1) teC7 [7]) _ [some (.int a), some (.int b), some (.ref c), some (.str (wordOf false)), some (.int n), some (.int p), none, none] H
      exact lc_two (te := teC7) (f := fun j => (n, j)) rfl (fun v => rfl) (fun v => rfl) (fun v => rfl) (fun k G R h => ⟨.int n, rfl, .int k, rfl, by show 2 ≤ sizeLine; decide, fun c' nc => h c' _ (same_upd nc) upd_same⟩) fun l us G' s nl hl pr => q l us G' s nl hl pr
end
end C2

namespace C2
set_option Elab.async false
set_option linter.all false
set_option maxRecDepth 100000
set_option maxHeartbeats 1000000
open PySem PySem.Spec PyProof.Rows L2 HT
theorem while_g {c : TT} {tb : TS} {D : Ends} {σ : L2.St} {H : Hp} (Pv : Nat → L2.St → Hp → Prop) (start : ∃ m, Pv m σ H)
    (turn : ∀ m σ H, Pv m σ H → c σ H fun b H1 => if b = true then tb { D with nx := fun σ' H' => ∃ m', m' < m ∧ Pv m' σ' H', ct := fun σ' H' => ∃ m', m' < m ∧ Pv m' σ' H', bk := D.nx } σ H1 else D.nx σ H1)
    (mono : ∀ σ' G R R', (∀ k G1, R k G1 → R' k G1) → c σ' G R → c σ' G R') : tWhile c tb D σ H := by
  refine ⟨Pv, start, fun m σ' H' p => mono σ' H' _ _ (fun b H1 q => ?_) (turn m σ' H' p)⟩
  cases b with
  | true => exact ⟨_, fun _ _ h => h, q⟩
  | false => exact q
theorem brefs_app (xs ys : List WB) : brefs (xs ++ ys) = brefs xs ++ brefs ys := List.map_append
theorem snoc_or (l : List WB) : l = [] ∨ ∃ xs b, l = xs ++ [b] := by
  rcases List.eq_nil_or_concat l with h | ⟨xs, b, h⟩
  · exact .inl h
  · exact .inr ⟨xs, b, by rw [h, List.concat_eq_append]⟩
def TrAt (G : Hp) (v : V) (t : Int × Int × Int) : Prop := ∃ c, v = .ref c ∧ G c = some (.tup [.int t.1, .int t.2.1, .int t.2.2])
inductive Trs (G : Hp) : List V → List (Int × Int × Int) → Prop
  | nil : Trs G [] []
  | cons {v : V} {vs : List V} {p : Int × Int × Int} {ps : List (Int × Int × Int)} (h : TrAt G v p) (t : Trs G vs ps) : Trs G (v :: vs) (p :: ps)
theorem Trs.keeps {G G' : Hp} (s : Keeps G G') : ∀ {vs : List V} {ps : List (Int × Int × Int)}, Trs G vs ps → Trs G' vs ps
  | _, _, .nil => .nil
  | _, _, .cons ⟨c, e, z⟩ t => .cons ⟨c, e, s _ _ z⟩ (Trs.keeps s t)
theorem Trs.app {G : Hp} : ∀ {vs us : List V} {ps qs : List (Int × Int × Int)}, Trs G vs ps → Trs G us qs → Trs G (vs ++ us) (ps ++ qs)
  | _, _, _, _, .nil, u => u
  | _, _, _, _, .cons h t, u => .cons h (Trs.app t u)
theorem Trs.len {G : Hp} : ∀ {vs : List V} {ps : List (Int × Int × Int)}, Trs G vs ps → vs.length = ps.length
  | _, _, .nil => rfl
  | _, _, .cons _ t => by rw [List.length_cons, List.length_cons, Trs.len t]
theorem Trs.at_ {G : Hp} : ∀ {vs : List V} {ps : List (Int × Int × Int)} {m : Nat} {v : V}, Trs G vs ps → vs[m]? = some v → ∃ p, ps[m]? = some p ∧ TrAt G v p
  | _, _, 0, _, .cons h t, e => by cases e; exact ⟨_, rfl, h⟩
  | _, _, m + 1, _, .cons h t, e => by
    obtain ⟨p, a, b⟩ := Trs.at_ (m := m) t (by simpa using e)
    exact ⟨p, by simpa using a, b⟩
theorem Run.short {a b : Int} {K : List Wi} {ts : List (Int × Int × Int)} {ws : List Wi} (h : Run a b K ts ws) : ts.length ≤ ws.length := by
  induction h with
  | nil => exact Nat.zero_le _
  | @snoc ts ws i j l _ c hl h1 h2 h3 ih =>
    have e := len_new (ws := ws) (legs_nodup i j)
    obtain ⟨w, hw, nw⟩ := h3
    have pos : 0 < ((legsW i j).filter fun u => decide (u ∉ ws)).length := List.length_pos_of_mem (List.mem_filter.mpr ⟨hw, decide_eq_true nw⟩)
    rw [List.length_append, List.length_singleton]
    omega
theorem Run.few {a b : Nat} {K : List Wi} {ts : List (Int × Int × Int)} {ws : List Wi} (h : Run a b K ts ws) (k : K.Nodup) (inK : ∀ w ∈ K, InW a b w) : ws.length ≤ (allW a b).length := few_of (h.nodup k) fun x hx => all_w.mpr (h.inW inK x hx)
section
variable {P : Program} {w : World} {K : PySem.W.Frag} {mg : Str → Option Value} {base : Heap}
def ttF : TT := tTest (tDNotIn (tVar 11) (tVar 3))
/-- what is new of a crossing's legs -/
theorem lc_fresh {σ : L2.St} {G : Hp} {Q : VK} {tL : TE} {d : Addr} {i j : Int} {ws : List Wi} (hd : G d = some (.dT (ws.map kW))) (hw : ∀ v, wipe ((wipe σ [11]).set 11 (some v)) [11] = wipe σ [11]) (h11 : ∀ v : V, ((wipe σ [11]).set 11 (some v))[11]? = some (some v)) (h3 : ∀ v : V, ((wipe σ [11]).set 11 (some v))[3]? = some (some (.ref d)))
    (hL : ∀ R : VK, (∀ T bs G', Same G G' → G' T = some (.tup (brefs bs)) → bs.map (·.2) = legsW i j → WBs G' bs → R (.ref T) G') → tL σ G R)
    (q : ∀ D fbs G', Same G G' → G D = none → G' D = some (.lst (brefs fbs)) → WBs G' fbs → fbs.map (·.2) = (legsW i j).filter (fun u => decide (u ∉ ws)) → Q (.ref D) G') : tLc (iTup K tL) (gName 11) ttF (tVar 11) [11] σ G Q := by
  refine hL _ fun T bs G1 s1 hT eb hb => ⟨T, rfl, ⟨_, .inl (.inl hT)⟩, fun D nD => ?_⟩
  have nDG := same_none s1 nD
  have sD := same_upd (o := .lst []) nD
  refine lc_tup (xs := brefs bs) (fun r G' => Same G1 G' ∧ ∃ fbs : List WB, G' D = some (.lst (brefs fbs)) ∧ (∀ b ∈ fbs, b ∈ bs) ∧ fbs.length ≤ r ∧ fbs.map (·.2) = ((legsW i j).take r).filter (fun u => decide (u ∉ ws))) ⟨sD, [], upd_same, (fun b hb => nomatch hb), Nat.le_refl _, rfl⟩ (fun r G' _ h => .inl (.inl (h.1 _ _ hT))) ?_ ?_
  · rintro r x G' hx ⟨sm, fbs, hD, sub, lf, ef⟩
    have hr : r < bs.length := by have := (List.getElem?_eq_some_iff.mp hx).1; rw [List.length_map] at this; exact this
    have ebr : bs[r]? = some bs[r] := List.getElem?_eq_getElem hr
    have hx2 : x = .ref bs[r].1 := by
      rw [List.getElem?_map, ebr] at hx
      exact (Option.some.inj hx).symm
    subst hx2
    have mem := List.getElem_mem hr
    have hc := sm _ _ (hb _ mem)
    have er : (legsW i j)[r]? = some bs[r].2 := by rw [← eb, List.getElem?_map, ebr]; rfl
    obtain ⟨o, g, eo⟩ := in_w (sm _ _ (s1 _ _ hd)) hc
    have nx : ((legsW i j).take (r + 1)).filter (fun u => decide (u ∉ ws)) = ((legsW i j).take r).filter (fun u => decide (u ∉ ws)) ++ [bs[r].2].filter fun u => decide (u ∉ ws) := by
      rw [List.take_add_one, er, List.filter_append]
      rfl
    refine ⟨hw _, .ref bs[r].1, h11 _, .ref d, h3 _, d, o, rfl, g, !o.isSome, rfl, ?_⟩
    rw [eo]
    by_cases m : bs[r].2 ∈ ws
    · rw [decide_eq_true m]
      refine iteF ⟨sm, fbs, hD, sub, by omega, ?_⟩
      rw [nx, List.filter_cons, if_neg (by simpa using m), List.filter_nil, List.append_nil]
      exact ef
    · rw [decide_eq_false m]
      have b4 : bs.length = 4 := by
        have := congrArg List.length eb
        rw [List.length_map] at this
        exact this
      refine iteT ⟨.ref bs[r].1, h11 _, brefs fbs, hD, Nat.lt_of_lt_of_le (show (brefs fbs).length < 1000 by rw [List.length_map]; omega) (by decide), fun b o e => ?_, fbs ++ [bs[r]], ?_, fun b hb' => ?_, by rw [List.length_append, List.length_singleton]; omega, ?_⟩
      · rw [upd_ne (ne_of_none e nD)]
        exact sm _ _ e
      · rw [upd_same, brefs_app]
        rfl
      · rcases List.mem_append.mp hb' with hb' | hb'
        · exact sub b hb'
        · rw [List.mem_singleton.mp hb']
          exact mem
      · rw [nx, List.filter_cons, if_pos (by simpa using m), List.filter_nil, List.map_append, ef]
        rfl
  · rintro G' ⟨sm, fbs, hD, sub, lf, ef⟩
    have l4 : (brefs bs).length = (legsW i j).length := by rw [List.length_map, ← eb, List.length_map]
    rw [l4, List.take_length] at ef
    exact q D fbs G' (s1.trans sm) nDG hD (fun b hb' => sm _ _ (hb b (sub b hb'))) ef
/-- {wire: True for wire in known} -/
theorem dc_known {σ : L2.St} {G : Hp} {Q : VK} {t : Addr} {bs : List WB} {sl kl : Nat} (hk : σ[kl]? = some (some (.ref t))) (hw : ∀ v, wipe ((wipe σ [sl]).set sl (some v)) [sl] = wipe σ [sl]) (hs : ∀ v : V, ((wipe σ [sl]).set sl (some v))[sl]? = some (some v)) (ht : G t = some (.tup (brefs bs))) (hb : WBs G bs) (few : bs.length ≤ 9000)
    (q : ∀ D G', Same G G' → G D = none → G' D = some (.dT ((addL [] (bs.map (·.2))).map kW)) → Q (.ref D) G') : tDcT (iTup K (tVar kl)) (gName sl) tYes (tVar sl) (tC (.bl true)) [sl] σ G Q := by
  refine ⟨_, hk, t, rfl, ⟨_, .inl (.inl ht)⟩, fun D nD => ?_⟩
  have sD := same_upd (o := .dT []) nD
  refine dcT_tup (xs := brefs bs) (fun r G' => Same G G' ∧ G' D = some (.dT ((addL [] ((bs.map (·.2)).take r)).map kW))) ⟨sD, upd_same⟩ (fun r G' _ h => .inl (.inl (h.1 _ _ ht))) ?_ ?_
  · rintro r x G' hx ⟨sm, hD⟩
    have hr : r < bs.length := by have := (List.getElem?_eq_some_iff.mp hx).1; rw [List.length_map] at this; exact this
    have ebr : bs[r]? = some bs[r] := List.getElem?_eq_getElem hr
    have hx2 : x = .ref bs[r].1 := by
      rw [List.getElem?_map, ebr] at hx
      exact (Option.some.inj hx).symm
    subst hx2
    refine ⟨hw _, ?_⟩
    simp only [tYes, ↓reduceIte]
    have ll := (len_addL ((bs.map (·.2)).take r) []).2
    rw [List.length_take, List.length_nil] at ll
    refine ⟨.ref bs[r].1, hs _, _, (kW bs[r].2).1, bs[r].1, rfl, sm _ _ (hb _ (List.getElem_mem hr)), hD, by rw [List.length_map]; exact Nat.lt_of_le_of_lt (show _ ≤ 10000 by omega) (by decide), fun b o e => ?_, ?_⟩
    · rw [upd_ne (ne_of_none e nD)]
      exact sm _ _ e
    · rw [upd_same]
      have e2 : (bs.map (·.2))[r]? = some bs[r].2 := by rw [List.getElem?_map, ebr]; rfl
      have : addL [] ((bs.map (·.2)).take (r + 1)) = addW (addL [] ((bs.map (·.2)).take r)) bs[r].2 := by
        unfold addL
        rw [List.take_add_one, e2, List.foldl_append]
        rfl
      rw [this]
      exact congrArg (fun z => some (HO.dT z)) (put_w _ _)
  · rintro G' ⟨sm, hD⟩
    have l4 : (brefs bs).length = (bs.map (·.2)).length := by rw [List.length_map, List.length_map]
    rw [l4, List.take_length] at hD
    exact q D G' sm nD hD
abbrev NSt : List Str := ["a", "b", "known", "held", "waiting", "taken", "newest", "i", "j", "leg", "fresh", "wire"]
theorem scSteps : FnScope NSt ["a", "b", "known"] (defScope sSteps) := ⟨rfl, rfl, rfl, by decide +kernel, rfl, by decide +kernel, by decide +kernel⟩
def spSteps : Sp := fun vs H Q _ => ∃ (a b : Nat) (t : Addr) (bs : List WB), vs = [.int (a : Int), .int (b : Int), .ref t] ∧ a ≤ 40 ∧ b ≤ 40 ∧ H t = some (.tup (brefs bs)) ∧ WBs H bs ∧ bs.length ≤ 4000 ∧ (∀ x ∈ bs.map (·.2), InW a b x) ∧
  ∀ T us ts ws H', Same H H' → H T = none → H' T = some (.tup us) → Trs H' us ts → Run a b (addL [] (bs.map (·.2))) ts ws → Shut a b ws → Q (.ref T) H'
/-- what stands between two turns -/
structure SI (H : Hp) (d lw lt : Addr) (a b : Nat) (K0 : List Wi) (todo : List (Int × Int)) (m : Nat) (ws : List Wi) (wbs : List WB) (G : Hp) : Prop where
  sm : Same H G
  hd : G d = some (.dT (ws.map kW))
  hw : G lw = some (.lst (brefs wbs))
  wb : WBs G wbs
  iw : ∀ x ∈ wbs.map (·.2), InW a b x
  tk : ∃ us ts, G lt = some (.lst us) ∧ Trs G us ts ∧ Run a b K0 ts ws
  wi : WInv a b ws (wbs.map (·.2)) todo
  me : 2 * ((allW a b).length - ws.length) + wbs.length = m
theorem SI.same {H : Hp} {d lw lt : Addr} {a b : Nat} {K0 : List Wi} {todo : List (Int × Int)} {m : Nat} {ws : List Wi} {wbs : List WB} {G G' : Hp} (h : SI H d lw lt a b K0 todo m ws wbs G) (s : Same G G') : SI H d lw lt a b K0 todo m ws wbs G' := by
  obtain ⟨us, ts, h1, h2, h3⟩ := h.tk
  exact ⟨h.sm.trans s, s _ _ h.hd, s _ _ h.hw, h.wb.same s, h.iw, ⟨us, ts, s _ _ h1, h2.keeps (Keeps.same s), h3⟩, h.wi, h.me⟩
theorem same_at {H G : Hp} {l : Addr} {o : HO} (s : Same H G) (n : H l = none) : Same H (upd G l o) := fun b x e => by
  rw [upd_ne (ne_of_none e n)]
  exact s _ _ e
theorem ok_steps {f fL fC fTl fI fH : Addr} {fd fdL fdC fdTl fdI fdH : FuncData} {k : Nat} (F : Fun K "steps" "steps" sSteps f fd) (FL : Fun K "legs" "legs" sLegs fL fdL) (FC : Fun K "crossings_at" "crossings_at" sCrossAt fC fdC) (FTl : Fun K "telling_leg" "telling_leg" sTellLeg fTl fdTl) (FI : Fun K "is_telling" "is_telling" sIsTell fI fdI) (FH : Fun K "hold" "hold" sHold fH fdH)
    (bL : Binds K fdL ["i", "j"] []) (bC : Binds K fdC ["a", "b", "wire"] []) (bTl : Binds K fdTl ["held", "i", "j"] []) (bI : Binds K fdI ["held", "i", "j", "leg"] []) (bH : Binds K fdH ["held", "i", "j"] [])
    (gL : mg "legs" = some (.ref fL)) (gC : mg "crossings_at" = some (.ref fC)) (gTl : mg "telling_leg" = some (.ref fTl)) (gI : mg "is_telling" = some (.ref fI)) (gH : mg "hold" = some (.ref fH)) (mlist : mg "list" = none) (mtup : mg "tuple" = none) (mr : mg "range" = none) : FnOk P w K mg base CX0 (k + 4) f fd ["a", "b", "known"] spSteps := by
  have GL : FnOk P w K mg base CX0 (k + 1) fL fdL ["i", "j"] spLegs := ok_legs FL
  have GC : FnOk P w K mg base CX0 (k + 1) fC fdC ["a", "b", "wire"] spCrossAt := ok_cross FC
  have GTl : FnOk P w K mg base CX0 (k + 3) fTl fdTl ["held", "i", "j"] spTellLeg := ok_tell FTl FI FL bI bL gI gL mr
  have GH : FnOk P w K mg base CX0 (k + 2) fH fdH ["held", "i", "j"] spHold := ok_hold FH FL bL gL
  refine F.ok scSteps (fun vs H Q E h => ?_) (fun cdv A outer s H vs Q E hr h => ?_)
  · obtain ⟨a, b, t, bs, rfl, _⟩ := h
    rfl
  obtain ⟨a, b, t, bs, rfl, a40, b40, ht, hb, few, inn, q⟩ := h
  have nd := scSteps.nd
  refine ⟨_, pss_cons (ps_set (i := 3) nd rfl (.inr rfl) (pe_dcT (own := [("wire", 11)]) (g := gName 11) (tt := tYes) (tk := tVar 11) (tv := tC (.bl true)) (Nat.lt_of_le_of_lt (Nat.add_le_add_left (by decide) _) hr.units) rfl nd  (pi_tup (pv 2)) (blkOk_by (own := [("wire", 11)]) (N := NSt) (sc := defScope sSteps) (by decide +kernel)) (fun _ _ _ _ _ => pg_name (i := 11) nd rfl (.inl rfl)) (fun _ _ _ _ _ => pts_nil) (fun _ _ _ _ _ => pv 11) (fun _ _ _ _ _ => pe_bl)))
      (pss_cons (ps_set (i := 4) nd rfl (.inl rfl) (pe_callTy call_list_of (by rfl) mlist (by decide +kernel) (pa_cons (pv 2) pa_nil)))
      (pss_cons (ps_set (i := 5) nd rfl (.inl rfl) (pe_lst pa_nil))
      (pss_cons (ps_while PassesOwn.never (pt_truth (pv 4) (by intro _; rfl)) (pss_cons (ps_set (i := 6) nd rfl (.inl rfl) (pe_bm0 PySem.F.plainAttrs_list PySem.F.slot_list_pop PySem.F.type_list_pop mt_pop (pv 4)))
      (pss_one (ps_for PassesOwn.never rfl (pi_list (pe_call GC (hr.mono (by omega)) (by rfl) gC FC.kp bC .nil pass0 (pa_cons (pv 0) (pa_cons (pv 1) (pa_cons (pv 6) pa_nil))))) (pg_tup rfl (pgs_cons (pg_name (i := 7) nd rfl (.inl rfl)) (pgs_cons (pg_name (i := 8) nd rfl (.inl rfl)) pgs_nil))) (pss_cons (ps_set (i := 9) nd rfl (.inl rfl) (pe_call GTl (hr.mono (by omega)) (by rfl) gTl FTl.kp bTl .nil pass0 (pa_cons (pv 3) (pa_cons (pv 7) (pa_cons (pv 8) pa_nil)))))
      (pss_cons (ps_setLc (i := 10) (own := [("wire", 11)]) (g := gName 11) (tt := ttF) (te := tVar 11) rfl nd rfl rfl (sw_true rfl rfl rfl (by decide +kernel)) (pi_tup (pe_call GL (hr.mono (by omega)) (by rfl) gL FL.kp bL .nil pass0 (pa_cons (pv 7) (pa_cons (pv 8) pa_nil)))) (blkOk_by (own := [("wire", 11)]) (N := NSt) (sc := defScope sSteps) (by decide +kernel)) (fun _ _ _ _ _ => pg_name (i := 11) nd rfl (.inl rfl)) (fun _ _ _ _ _ => pts_one (pt_cmp (pc_dnotin (Nat.lt_of_le_of_lt (Nat.add_le_add_left (by decide) _) hr.units) (pv 11) (pv 3)))) (fun _ _ _ _ _ => pv 11))
      (pss_one (ps_if (PW.pt (pw_and (pt_cmpR op_notN (pv 9) pe_non (nomark _)) (pw_and1 (pt_truth (pv 10) (by intro _; rfl))))) (pss_cons (ps_expr (pe_bm PySem.F.plainAttrs_list PySem.F.slot_list_append PySem.F.type_list_append mt_append (pv 5) (pa_cons (pe_tup (pa_cons (pv 7) (pa_cons (pv 8) (pa_cons (pv 9) pa_nil)))) pa_nil)))
      (pss_cons (ps_expr (pe_call GH (hr.mono (by omega)) (by rfl) gH FH.kp bH .nil pass0 (pa_cons (pv 3) (pa_cons (pv 7) (pa_cons (pv 8) pa_nil)))))
      (pss_one (ps_expr (pe_bm PySem.F.plainAttrs_list PySem.F.slot_list_extend PySem.F.type_list_extend mt_extend (pv 4) (pa_cons (pv 10) pa_nil)))))) pss_nil))))))))
      (pss_one (ps_ret (pe_callTy call_tuple_of (by rfl) mtup (by decide +kernel) (pa_cons (pv 5) pa_nil))))))), ?_⟩
  show tSeq (tAsg (tDcT (iTup K (tVar 2)) (gName 11) tYes (tVar 11) (tC (.bl true)) [11]) (gName 3)) _ _ [some (.int (a : Int)), some (.int (b : Int)), some (.ref t), none, none, none, none, none, none, none, none, none] H
  refine seqAsg (dc_known rfl (fun v => rfl) (fun v => rfl) ht hb (by omega) fun d H1 s1 nd1 hd1 => ?_)
  refine ⟨.ref t, rfl, t, _, rfl, .inr (.inl (.inl (s1 _ _ ht))), fun lw nlw => ⟨by decide, fun lt nlt => ?_⟩⟩
  have g1 := same_upd (o := .lst (brefs bs)) nlw
  have g2 := same_upd (o := .lst []) nlt
  have nwH := same_none s1 nlw
  have ntH := same_none (s1.trans g1) nlt
  have dw : d ≠ lw := ne_of_none hd1 nlw
  have dt : d ≠ lt := ne_of_none (g1 _ _ hd1) nlt
  have wt : lw ≠ lt := ne_of_none upd_same nlt
  have K0n : (addL [] (bs.map (·.2))).Nodup := nodup_addL List.nodup_nil
  have K0i : ∀ x ∈ addL [] (bs.map (·.2)), InW a b x := fun x hx => inn x ((mem_addL.mp hx).resolve_left List.not_mem_nil)
  have N3 := len_all_le a40 b40
  have I0 : SI H d lw lt a b (addL [] (bs.map (·.2))) [] (2 * ((allW a b).length - (addL [] (bs.map (·.2))).length) + bs.length) (addL [] (bs.map (·.2))) bs _ := ⟨s1.trans (g1.trans g2), (g1.trans g2) _ _ hd1, g2 _ _ upd_same, hb.same (s1.trans (g1.trans g2)), inn, ⟨[], [], upd_same, .nil, .nil⟩, winv_start fun x hx => (mem_addL.mp hx).resolve_left List.not_mem_nil, rfl⟩
  generalize upd (upd H1 lw (.lst (brefs bs))) lt (.lst []) = H2 at I0 ⊢
  generalize addL [] (bs.map (·.2)) = K0 at I0 K0n K0i q hd1
  have m0 : 2 * ((allW a b).length - K0.length) + bs.length ≤ 20000 := by omega
  refine gName_run ?_
  dsimp only [List.set]
  show tSeq (tWhile _ _) _ _ [some (.int (a : Int)), some (.int (b : Int)), some (.ref t), some (.ref d), some (.ref lw), some (.ref lt), none, none, none, none, none, none] H2
  refine while_g (fun m σ G => m ≤ 20000 ∧ (∃ ws wbs, SI H d lw lt a b K0 [] m ws wbs G) ∧ ∃ y6 y7 y8 y9 y10, σ = [some (.int (a : Int)), some (.int (b : Int)), some (.ref t), some (.ref d), some (.ref lw), some (.ref lt), y6, y7, y8, y9, y10, none]) ⟨_, m0, ⟨_, _, I0⟩, _, _, _, _, _, rfl⟩ ?_ ?_
  · rintro m σ G ⟨m2, ⟨ws, wbs, I⟩, y6, y7, y8, y9, y10, rfl⟩
    refine ⟨.ref lw, rfl, !(brefs wbs).isEmpty, .inl ⟨_, .inl (.inl I.hw), rfl⟩, ?_⟩
    rcases snoc_or wbs with rfl | ⟨wb', bn, rfl⟩
    · refine iteF ?_
      obtain ⟨us, ts, h1, h2, h3⟩ := I.tk
      refine ⟨.ref lt, rfl, lt, us, rfl, .inl ⟨.inl (.inl h1), fun T nT => ?_⟩⟩
      have sT := same_upd (o := .tup us) nT
      exact q T us ts ws _ (I.sm.trans sT) (same_none I.sm nT) upd_same (h2.keeps (Keeps.same sT)) h3 (winv_end I.wi)
    have ne : (!(brefs (wb' ++ [bn])).isEmpty) = true := by simp
    rw [ne]
    refine iteT ?_
    have hw0 := I.hw
    rw [brefs_app] at hw0
    refine ⟨.ref lw, rfl, .inl ⟨rfl, _, .inl (.inl hw0)⟩, lw, _, .ref bn.1, rfl, rfl, hw0, by simp, ?_⟩
    have edl : (brefs wb' ++ brefs [bn]).dropLast = brefs wb' := by
      show (brefs wb' ++ [V.ref bn.1]).dropLast = _
      rw [List.dropLast_concat]
    rw [edl]
    have kp0 : Keeps G (upd G lw (.lst (brefs wb'))) := Keeps.at hw0 (fun xs z => nomatch z)
    have hbn : (upd G lw (.lst (brefs wb'))) bn.1 = some (.tup (wv bn.2)) := kp0 _ _ (I.wb bn (List.mem_append_right _ (List.mem_singleton.mpr rfl)))
    have I1 : SI H d lw lt a b K0 (crossW a b bn.2) (m - 1) ws wb' (upd G lw (.lst (brefs wb'))) := by
      obtain ⟨us, ts, h1, h2, h3⟩ := I.tk
      have wi := I.wi
      rw [List.map_append] at wi
      have me := I.me
      rw [List.length_append, List.length_singleton] at me
      exact ⟨same_at I.sm nwH, by rw [upd_ne dw]; exact I.hd, upd_same, fun b hb' => kp0 _ _ (I.wb b (List.mem_append_left _ hb')), fun x hx => I.iw x (by rw [List.map_append]; exact List.mem_append_left _ hx), ⟨us, ts, by rw [upd_ne wt.symm]; exact h1, h2.keeps kp0, h3⟩, winv_pop wi, by omega⟩
    have ibn : InW a b bn.2 := I.iw bn.2 (by rw [List.map_append]; exact List.mem_append_right _ (List.mem_singleton.mpr rfl))
    have mpos : m - 1 < m := by
      have me := I.me
      rw [List.length_append, List.length_singleton] at me
      omega
    generalize upd G lw (.lst (brefs wb')) = G1 at I1 hbn ⊢
    generalize m - 1 = m1 at I1 mpos
    refine gName_run ?_
    dsimp only [List.set]
    refine ⟨.int (a : Int), rfl, .int (b : Int), rfl, .ref bn.1, rfl, a, b, bn.1, bn.2, rfl, hbn, fun lc us G2 s2 nlc hlc pr => ⟨lc, rfl, ⟨_, .inl (.inl hlc)⟩, ?_⟩⟩
    have lcd : lc ≠ d := (ne_of_none I1.hd nlc).symm
    have lcw : lc ≠ lw := (ne_of_none I1.hw nlc).symm
    have lct : lc ≠ lt := by
      obtain ⟨us, ts, h1, _⟩ := I1.tk
      exact (ne_of_none h1 nlc).symm
    have lcr := pr.len
    refine for_list (xs := us) (fun r σ G' => (∃ ws wbs m', m' ≤ m1 ∧ SI H d lw lt a b K0 ((crossW a b bn.2).drop r) m' ws wbs G') ∧ G' lc = some (.lst us) ∧ Prs G' us (crossW a b bn.2) ∧ ∃ y7 y8 y9 y10, σ = [some (.int (a : Int)), some (.int (b : Int)), some (.ref t), some (.ref d), some (.ref lw), some (.ref lt), some (.ref bn.1), y7, y8, y9, y10, none]) ⟨⟨ws, wb', m1, Nat.le_refl _, I1.same s2⟩, hlc, pr, _, _, _, _, rfl⟩ (fun r σ G' _ h => .inl (.inl h.2.1)) ?_ ?_
    · rintro r x σ G' hx ⟨⟨ws, wbs, m', mm, J⟩, hlc', pr', y7, y8, y9, y10, rfl⟩
      obtain ⟨⟨i, j⟩, hp, c, rfl, hc⟩ := pr'.at_ hx
      have cin : InC a b i j := cross_in ibn (List.mem_of_getElem? hp)
      have edr : (crossW a b bn.2).drop r = (i, j) :: (crossW a b bn.2).drop (r + 1) := by
        obtain ⟨h1, h2⟩ := List.getElem?_eq_some_iff.mp hp
        rw [List.drop_eq_getElem_cons h1, h2]
      have wiJ := J.wi
      rw [edr] at wiJ
      refine ⟨c, _, rfl, .inl (.inl hc), rfl, _, _, rfl, _, _, rfl, rfl, ?_⟩
      refine seqAsg ?_
      refine ⟨.ref d, rfl, .int i, rfl, .int j, rfl, d, i, j, ws, rfl, J.hd, fun v G3 s3 hv => ?_⟩
      dsimp only [List.set]
      have J3 := J.same s3
      refine seqAsg (lc_fresh (i := i) (j := j) J3.hd (fun v => rfl) (fun v => rfl) (fun v => rfl) (fun R h => ⟨.int i, rfl, .int j, rfl, i, j, rfl, fun T bs G' s nT hT eb hb => h T bs G' s hT eb hb⟩) fun D fbs G4 s4 nD hD wf ef => ?_)
      dsimp only [List.set]
      have J4 := J3.same s4
      have hlc4 := (s3.trans s4) _ _ hlc'
      have pr4 := pr'.keeps (Keeps.same (s3.trans s4))
      have skip : (¬ Tells ws i j ∨ Full ws i j) → SI H d lw lt a b K0 ((crossW a b bn.2).drop (r + 1)) m' ws wbs G4 := fun h => ⟨J4.sm, J4.hd, J4.hw, J4.wb, J4.iw, J4.tk, winv_skip wiJ h, J4.me⟩
      rcases hv with ⟨l, rfl, hl, t1, t2⟩ | ⟨rfl, nt⟩
      · refine ⟨.int (l : Int), rfl, rfl, true, rfl, iteT ⟨.ref D, rfl, !(brefs fbs).isEmpty, .inl ⟨_, .inl (.inl hD), rfl⟩, ?_⟩⟩
        cases fbs with
        | nil =>
          refine iteF ⟨⟨ws, wbs, m', mm, skip (.inr fun w hw => ?_)⟩, hlc4, pr4, _, _, _, _, rfl⟩
          by_cases mw : w ∈ ws
          · exact mw
          · have : w ∈ (legsW i j).filter fun u => decide (u ∉ ws) := List.mem_filter.mpr ⟨hw, decide_eq_true mw⟩
            rw [← ef] at this
            exact nomatch this
        | cons fb fbs =>
        refine iteT ?_
        have fm : fb.2 ∈ (fb :: fbs).map (·.2) := List.mem_map.mpr ⟨fb, List.mem_cons_self, rfl⟩
        generalize fb :: fbs = fs at wf hD ef fm
        obtain ⟨us5, ts5, h51, h52, h53⟩ := J4.tk
        have few5 := h53.few K0n K0i
        have sh5 := h53.short
        have lu5 := h52.len
        have dD : D ≠ d := (ne_of_none J3.hd nD).symm
        have wD : D ≠ lw := (ne_of_none J3.hw nD).symm
        have tD : D ≠ lt := by
          obtain ⟨us', ts', h', _⟩ := J3.tk
          exact (ne_of_none h' nD).symm
        refine ⟨.ref lt, rfl, .inl ⟨rfl, _, .inl (.inl h51)⟩, .int i, rfl, .int j, rfl, .int (l : Int), rfl, by show 3 ≤ sizeLine; decide, fun c3 nc3 => ?_⟩
        have sc3 := same_upd (o := .tup [.int i, .int j, .int (l : Int)]) nc3
        have J5 := J4.same sc3
        have h51' := sc3 _ _ h51
        refine ⟨lt, us5, .ref c3, rfl, rfl, h51', Nat.lt_of_lt_of_le (show us5.length < 100000 by omega) (by decide), ?_⟩
        have kp5 : Keeps (upd G4 c3 (.tup [.int i, .int j, .int (l : Int)])) (upd (upd G4 c3 (.tup [.int i, .int j, .int (l : Int)])) lt (.lst (us5 ++ [.ref c3]))) := Keeps.at h51' (fun xs z => nomatch z)
        have hd5 : (upd (upd G4 c3 (.tup [.int i, .int j, .int (l : Int)])) lt (.lst (us5 ++ [.ref c3]))) d = some (.dT (ws.map kW)) := by rw [upd_ne dt]; exact J5.hd
        have hw5 : (upd (upd G4 c3 (.tup [.int i, .int j, .int (l : Int)])) lt (.lst (us5 ++ [.ref c3]))) lw = some (.lst (brefs wbs)) := by rw [upd_ne wt]; exact J5.hw
        have hD5 : (upd (upd G4 c3 (.tup [.int i, .int j, .int (l : Int)])) lt (.lst (us5 ++ [.ref c3]))) D = some (.lst (brefs fs)) := by rw [upd_ne tD]; exact sc3 _ _ hD
        have hl5 : (upd (upd G4 c3 (.tup [.int i, .int j, .int (l : Int)])) lt (.lst (us5 ++ [.ref c3]))) lc = some (.lst us) := by rw [upd_ne lct]; exact sc3 _ _ hlc4
        have ht5 := upd_same (H := upd G4 c3 (.tup [.int i, .int j, .int (l : Int)])) (a := lt) (o := .lst (us5 ++ [.ref c3]))
        have sm5 : Same H (upd (upd G4 c3 (.tup [.int i, .int j, .int (l : Int)])) lt (.lst (us5 ++ [.ref c3]))) := same_at J5.sm ntH
        have kp45 := (Keeps.same sc3).trans kp5
        have hc5 := kp5 _ _ (upd_same (H := G4) (a := c3) (o := .tup [.int i, .int j, .int (l : Int)]))
        have wb5 := J4.wb.keeps kp45
        have wf5 := wf.keeps kp45
        have tr5 := h52.keeps kp45
        have pr5 := pr4.keeps kp45
        generalize upd (upd G4 c3 (.tup [.int i, .int j, .int (l : Int)])) lt (.lst (us5 ++ [.ref c3])) = G5 at hd5 hw5 hD5 hl5 ht5 sm5 hc5 wb5 wf5 tr5 pr5 ⊢
        dsimp only
        refine ⟨.ref d, rfl, .int i, rfl, .int j, rfl, d, i, j, ws, rfl, hd5, by omega, fun G6 f6 hd6 => ?_⟩
        have kp6 : Keeps G5 G6 := fun b xs e => f6 _ _ (fun z => by rw [z, hd5] at e; cases e) e
        have hw6 := f6 _ _ dw.symm hw5
        have hD6 := f6 _ _ dD hD5
        have hl6 := f6 _ _ lcd hl5
        have ht6 := f6 _ _ dt.symm ht5
        have sm6 : Same H G6 := fun b o e => f6 _ _ (ne_of_none e nd1) (sm5 _ _ e)
        have lfs : fs.length = ((legsW i j).filter fun u => decide (u ∉ ws)).length := by rw [← ef, List.length_map]
        have l4 : ((legsW i j).filter fun u => decide (u ∉ ws)).length ≤ 4 := List.length_filter_le _ _
        have me := J4.me
        refine ⟨.ref lw, rfl, .inl ⟨rfl, _, .inl (.inl hw6)⟩, .ref D, rfl, lw, D, _, _, rfl, rfl, hw6, hD6, Nat.le_trans (show (brefs wbs).length + (brefs fs).length ≤ 100000 by rw [List.length_map, List.length_map]; omega) (by decide), ?_⟩
        have kp7 : Keeps G6 (upd G6 lw (.lst (brefs wbs ++ brefs fs))) := Keeps.at hw6 (fun xs z => nomatch z)
        have kp57 := kp6.trans kp7
        have fpos : ∃ w ∈ legsW i j, w ∉ ws := by
          rw [ef] at fm
          obtain ⟨f1, f2⟩ := List.mem_filter.mp fm
          exact ⟨_, f1, of_decide_eq_true f2⟩
        have run := Run.snoc h53 cin hl t1 t2 fpos
        have ln := len_new (ws := ws) (legs_nodup i j)
        have few7 := run.few K0n K0i
        refine ⟨⟨addL ws (legsW i j), wbs ++ fs, _, ?_, same_at sm6 nwH, by rw [upd_ne dw]; exact hd6, by rw [upd_same, brefs_app], ?_, ?_, ⟨us5 ++ [.ref c3], _, by rw [upd_ne wt.symm]; exact ht6, (tr5.keeps kp57).app (.cons ⟨c3, rfl, kp57 _ _ hc5⟩ .nil), run⟩, ?_, rfl⟩, by rw [upd_ne lcw]; exact hl6, pr5.keeps kp57, _, _, _, _, rfl⟩
        · rw [List.length_append]
          omega
        · intro b hb'
          rcases List.mem_append.mp hb' with hb' | hb'
          · exact kp57 _ _ (wb5 b hb')
          · exact kp57 _ _ (wf5 b hb')
        · intro x hx
          rw [List.map_append] at hx
          rcases List.mem_append.mp hx with hx | hx
          · exact J4.iw x hx
          · rw [ef] at hx
            exact legs_in cin (List.mem_filter.mp hx).1
        · rw [List.map_append, ef]
          exact winv_hold wiJ
      · exact ⟨.non, rfl, rfl, false, rfl, iteF (iteF ⟨⟨ws, wbs, m', mm, skip (.inl nt)⟩, hlc4, pr4, _, _, _, _, rfl⟩)⟩
    · rintro σ G' ⟨⟨ws, wbs, m', mm, J⟩, hlc', pr', y7, y8, y9, y10, rfl⟩
      rw [lcr, List.drop_length] at J
      exact ⟨m', by omega, by omega, ⟨ws, wbs, J⟩, _, _, _, _, _, rfl⟩
  · rintro σ H Q Q' h ⟨x, e, k, t, q'⟩
    exact ⟨x, e, k, t, h _ _ q'⟩
end
end C2

namespace C2
set_option Elab.async false
set_option linter.all false
set_option maxRecDepth 100000
set_option maxHeartbeats 1000000
open PySem PySem.Spec PyProof.Rows L2 HT
theorem told_congr {a b : Int} {K K' : Wi → Prop} (h : ∀ w, K w → K' w) {w : Wi} (t : Told a b K w) : Told a b K' w := by
  induction t with
  | known x => exact .known (h _ x)
  | step c hl _ _ hw i1 i2 => exact .step c hl i1 i2 hw
/-- the risen row of what is told -/
def IsTold (a b : Int) (K : List Wi) (cs : List WB) : Prop := ∃ bs : List WB, cs = bs.mergeSort leW ∧ (bs.map (·.2)).Nodup ∧ ∀ w, w ∈ bs.map (·.2) ↔ Told a b (· ∈ K) w
theorem IsTold.one {a b : Int} {K : List Wi} {cs ds : List WB} (h : IsTold a b K cs) (g : IsTold a b K ds) : cs.map (·.2) = ds.map (·.2) := by
  obtain ⟨bs, rfl, n1, m1⟩ := h
  obtain ⟨es, rfl, n2, m2⟩ := g
  exact sort_one n1 n2 fun x => (m1 x).trans (m2 x).symm
theorem told_is {a b : Int} {K ws : List Wi} (s : ∀ w ∈ ws, Told a b (· ∈ K) w) (k : ∀ w ∈ K, w ∈ ws) (h : Shut a b ws) (w : Wi) : w ∈ ws ↔ Told a b (· ∈ K) w := ⟨s w, fun t => told_least h k t⟩
theorem told_add {a b : Int} {K : List Wi} (w : Wi) : Told a b (· ∈ addL [] K) w ↔ Told a b (· ∈ K) w := ⟨told_congr fun x hx => (mem_addL.mp hx).resolve_left List.not_mem_nil, told_congr fun x hx => mem_addL.mpr (.inr hx)⟩
section
variable {P : Program} {w : World} {K : PySem.W.Frag} {mg : Str → Option Value} {base : Heap}
abbrev NTd : List Str := ["a", "b", "known", "held", "i", "j", "leg", "wire"]
theorem scTold : FnScope NTd ["a", "b", "known"] (defScope sTold) := ⟨rfl, rfl, rfl, by decide +kernel, rfl, by decide +kernel, by decide +kernel⟩
def spTold : Sp := fun vs H Q _ => ∃ (a b : Nat) (t : Addr) (bs : List WB), vs = [.int (a : Int), .int (b : Int), .ref t] ∧ a ≤ 40 ∧ b ≤ 40 ∧ H t = some (.tup (brefs bs)) ∧ WBs H bs ∧ bs.length ≤ 4000 ∧ (∀ x ∈ bs.map (·.2), InW a b x) ∧
  ∀ T cs H', Same H H' → H T = none → H' T = some (.tup (brefs cs)) → WBs H' cs → cs.length ≤ (allW a b).length → IsTold a b (bs.map (·.2)) cs → Q (.ref T) H'
theorem ok_told {f fSt fL fC fTl fI fH : Addr} {fd fdSt fdL fdC fdTl fdI fdH : FuncData} {k : Nat} (F : Fun K "told" "told" sTold f fd) (FSt : Fun K "steps" "steps" sSteps fSt fdSt) (FL : Fun K "legs" "legs" sLegs fL fdL) (FC : Fun K "crossings_at" "crossings_at" sCrossAt fC fdC) (FTl : Fun K "telling_leg" "telling_leg" sTellLeg fTl fdTl) (FI : Fun K "is_telling" "is_telling" sIsTell fI fdI) (FH : Fun K "hold" "hold" sHold fH fdH)
    (bSt : Binds K fdSt ["a", "b", "known"] []) (bL : Binds K fdL ["i", "j"] []) (bC : Binds K fdC ["a", "b", "wire"] []) (bTl : Binds K fdTl ["held", "i", "j"] []) (bI : Binds K fdI ["held", "i", "j", "leg"] []) (bH : Binds K fdH ["held", "i", "j"] [])
    (gSt : mg "steps" = some (.ref fSt)) (gL : mg "legs" = some (.ref fL)) (gC : mg "crossings_at" = some (.ref fC)) (gTl : mg "telling_leg" = some (.ref fTl)) (gI : mg "is_telling" = some (.ref fI)) (gH : mg "hold" = some (.ref fH)) (mlist : mg "list" = none) (mtup : mg "tuple" = none) (mr : mg "range" = none) (ms : mg "sorted" = none) : FnOk P w K mg base CX0 (k + 5) f fd ["a", "b", "known"] spTold := by
  have GSt : FnOk P w K mg base CX0 (k + 4) fSt fdSt ["a", "b", "known"] spSteps := ok_steps FSt FL FC FTl FI FH bL bC bTl bI bH gL gC gTl gI gH mlist mtup mr
  have GH : FnOk P w K mg base CX0 (k + 2) fH fdH ["held", "i", "j"] spHold := ok_hold FH FL bL gL
  refine F.ok scTold (fun vs H Q E h => ?_) (fun cdv A outer s H vs Q E hr h => ?_)
  · obtain ⟨a, b, t, bs, rfl, _⟩ := h
    rfl
  obtain ⟨a, b, t, bs, rfl, a40, b40, ht, hb, few, inn, q⟩ := h
  have nd := scTold.nd
  refine ⟨_, pss_cons (ps_setDcT (i := 3) (own := [("wire", 7)]) (g := gName 7) (tt := tYes) (tk := tVar 7) (tv := tC (.bl true)) (Nat.lt_of_le_of_lt (Nat.add_le_add_left (by decide) _) hr.units) rfl nd rfl rfl (swd_true rfl rfl rfl (by decide +kernel)) (pi_tup (pv 2)) (blkOk_by (own := [("wire", 7)]) (N := NTd) (sc := defScope sTold) (by decide +kernel)) (fun _ _ _ _ _ => pg_name (i := 7) nd rfl (.inl rfl)) (fun _ _ _ _ _ => pts_nil) (fun _ _ _ _ _ => pv 7) (fun _ _ _ _ _ => pe_bl))
      (pss_cons (ps_for PassesOwn.never rfl (pi_tup (pe_call GSt hr (by rfl) gSt FSt.kp bSt .nil pass0 (pa_cons (pv 0) (pa_cons (pv 1) (pa_cons (pv 2) pa_nil))))) (pg_tup rfl (pgs_cons (pg_name (i := 4) nd rfl (.inl rfl)) (pgs_cons (pg_name (i := 5) nd rfl (.inl rfl)) (pgs_cons (pg_name (i := 6) nd rfl (.inl rfl)) pgs_nil)))) (pss_one (ps_expr (pe_call GH (hr.mono (by omega)) (by rfl) gH FH.kp bH .nil pass0 (pa_cons (pv 3) (pa_cons (pv 4) (pa_cons (pv 5) pa_nil)))))))
      (pss_one (ps_ret (pe_callTy call_tuple_of (by rfl) mtup (by decide +kernel) (pa_cons (pe_callB (cr_sortL hr.units) (by rfl) ms (by decide +kernel) (pa_cons (pe_callTy (call_listDW rfl) (by rfl) mlist (by decide +kernel) (pa_cons (pv 3) pa_nil)) pa_nil)) pa_nil))))), ?_⟩
  show tSeq (tAsg (tDcT (iTup K (tVar 2)) (gName 7) tYes (tVar 7) (tC (.bl true)) [7]) (gName 3)) _ _ [some (.int (a : Int)), some (.int (b : Int)), some (.ref t), none, none, none, none, none] H
  refine seqAsg (dc_known rfl (fun v => rfl) (fun v => rfl) ht hb (by omega) fun d H1 s1 nd1 hd1 => ?_)
  refine ⟨.int (a : Int), rfl, .int (b : Int), rfl, .ref t, rfl, a, b, t, bs, rfl, a40, b40, s1 _ _ ht, hb.same s1, few, inn, fun T us ts ws H2 s2 nT hT tr run shut => ⟨T, rfl, ⟨_, .inl (.inl hT)⟩, ?_⟩⟩
  have K0n : (addL [] (bs.map (·.2))).Nodup := nodup_addL List.nodup_nil
  have K0i : ∀ x ∈ addL [] (bs.map (·.2)), InW a b x := fun x hx => inn x ((mem_addL.mp hx).resolve_left List.not_mem_nil)
  have N3 := len_all_le a40 b40
  have fewW := run.few K0n K0i
  have Td : T ≠ d := (ne_of_none hd1 nT).symm
  have lut := tr.len
  have sh := run.short
  have part : ∀ r, ((ts.take r).foldl (fun acc t => addL acc (legsW t.1 t.2.1)) (addL [] (bs.map (·.2)))).length ≤ 3280 := fun r => by
    have nod : ∀ (l : List (Int × Int × Int)) (acc : List Wi), acc.Nodup → (l.foldl (fun acc t => addL acc (legsW t.1 t.2.1)) acc).Nodup := by
      intro l
      induction l with
      | nil => exact fun acc h => h
      | cons x l ih => exact fun acc h => ih _ (nodup_addL h)
    have ins : ∀ (l : List (Int × Int × Int)) (acc : List Wi), (∀ x ∈ l, InC a b x.1 x.2.1) → (∀ x ∈ acc, InW a b x) → ∀ x ∈ l.foldl (fun acc t => addL acc (legsW t.1 t.2.1)) acc, InW a b x := by
      intro l
      induction l with
      | nil => exact fun acc _ h => h
      | cons y l ih => exact fun acc hl h => ih _ (fun x hx => hl x (List.mem_cons_of_mem _ hx)) fun x hx => (mem_addL.mp hx).elim (h x) (legs_in (hl y List.mem_cons_self))
    have := few_of (nod (ts.take r) _ K0n) fun x hx => all_w.mpr (ins (ts.take r) _ (fun y hy => run.inC y (List.mem_of_mem_take hy)) K0i x hx)
    omega
  refine for_tup (xs := us) (fun r σ G => Fr d H2 G ∧ G d = some (.dT (((ts.take r).foldl (fun acc t => addL acc (legsW t.1 t.2.1)) (addL [] (bs.map (·.2)))).map kW)) ∧ ∃ y4 y5 y6, σ = [some (.int (a : Int)), some (.int (b : Int)), some (.ref t), some (.ref d), y4, y5, y6, none]) ⟨Fr.refl _ _, s2 _ _ hd1, _, _, _, rfl⟩ (fun r σ G _ h => .inl (.inl (h.1 _ _ Td hT))) ?_ ?_
  · rintro r x σ G hx ⟨fr, hG, y4, y5, y6, rfl⟩
    obtain ⟨⟨i, j, l⟩, hp, c, rfl, hc⟩ := tr.at_ hx
    have cd : c ≠ d := fun z => by rw [z, s2 _ _ hd1] at hc; cases hc
    refine ⟨c, _, rfl, .inl (.inl (fr _ _ cd hc)), rfl, _, _, rfl, _, _, rfl, _, _, rfl, rfl, ?_⟩
    refine ⟨.ref d, rfl, .int i, rfl, .int j, rfl, d, i, j, _, rfl, hG, by have := part r; omega, fun G' f' hd' => ⟨fr.trans f', ?_, _, _, _, rfl⟩⟩
    rw [hd', List.take_add_one, hp, List.foldl_append]
    rfl
  · rintro σ G ⟨fr, hG, y4, y5, y6, rfl⟩
    rw [lut, List.take_length, ← run.fold] at hG
    have smG : Same H G := fun b o e => fr _ _ (ne_of_none e nd1) (s2 _ _ (s1 _ _ e))
    refine ⟨.ref d, rfl, d, ws, rfl, hG, fun l bs' nl eb' hb' => ?_⟩
    have g1 := same_upd (o := .lst (brefs bs')) nl
    have lb' : bs'.length = ws.length := by rw [← eb', List.length_map]
    refine ⟨l, bs', rfl, .inl (.inl upd_same), WBs.same hb' g1, by omega, fun l2 nl2 => ?_⟩
    have g2 := same_upd (o := .lst (brefs (bs'.mergeSort leW))) nl2
    refine ⟨l2, _, rfl, .inl ⟨.inl (.inl upd_same), fun T2 nT2 => ?_⟩⟩
    have g3 := same_upd (o := .tup (brefs (bs'.mergeSort leW))) nT2
    have sG := smG.trans (g1.trans (g2.trans g3))
    refine q T2 (bs'.mergeSort leW) _ sG (same_none (smG.trans (g1.trans g2)) nT2) upd_same (fun b hb2 => (g1.trans (g2.trans g3)) _ _ (hb' b ((List.mergeSort_perm bs' leW).mem_iff.mp hb2))) (by rw [(List.mergeSort_perm bs' leW).length_eq]; omega) ⟨bs', rfl, by rw [eb']; exact run.nodup K0n, fun w => ?_⟩
    rw [eb']
    exact (told_is run.sound run.has shut w).trans (told_add w)
end
end C2

namespace C2
set_option Elab.async false
set_option linter.all false
set_option maxRecDepth 100000
set_option maxHeartbeats 1000000
open PySem PySem.Spec PyProof.Rows L2 HT
theorem tcons_run {te : TE} {ta : TA} {σ : L2.St} {H : Hp} {R : List V → Hp → Prop} (h : te σ H fun v H1 => ta σ H1 fun vs H2 => R (v :: vs) H2) : tCons te ta σ H R := h
theorem asgTup_run {ta : TA} {g : TG} {t : TS} {D : Ends} {σ : L2.St} {H : Hp} (h : ta σ H fun xs H1 => xs.length ≤ sizeLine ∧ ∀ p, H1 p = none → g (.ref p) σ (upd H1 p (.tup xs)) fun σ' H' => t D σ' H') : tSeq (tAsg (tTup ta) g) t D σ H := h
theorem addW_same {ws : List Wi} {w : Wi} (h : (addW ws w).length = ws.length) : addW ws w = ws := by
  unfold addW at h ⊢
  split
  · rfl
  · rename_i n
    rw [if_neg n, List.length_append, List.length_singleton] at h
    omega
theorem addL_same : ∀ {us ws : List Wi}, (addL ws us).length = ws.length → addL ws us = ws
  | [], ws, _ => rfl
  | u :: us, ws, h => by
    have h1 := len_addL us (addW ws u)
    have h2 := len_addW ws u
    have h : (addL (addW ws u) us).length = ws.length := h
    have e := addW_same (ws := ws) (w := u) (by omega)
    show addL (addW ws u) us = ws
    rw [e] at h ⊢
    exact addL_same h
/-- a row of told wires -/
structure LI (a b : Nat) (K0 ws : List Wi) : Prop where
  nd : ws.Nodup
  has : ∀ w ∈ K0, w ∈ ws
  so : ∀ w ∈ ws, Told a b (· ∈ K0) w
  iw : ∀ w ∈ ws, InW a b w
theorem LI.few {a b : Nat} {K0 ws : List Wi} (h : LI a b K0 ws) : ws.length ≤ (allW a b).length := few_of h.nd fun x hx => all_w.mpr (h.iw x hx)
theorem LI.add {a b : Nat} {K0 ws : List Wi} (h : LI a b K0 ws) {i j : Int} (c : InC a b i j) (t : Tells ws i j) : LI a b K0 (addL ws (addL [] (legsW i j))) := by
  have m : ∀ {w}, w ∈ addL [] (legsW i j) → w ∈ legsW i j := fun h => (mem_addL.mp h).resolve_left List.not_mem_nil
  refine ⟨nodup_addL h.nd, fun w hw => mem_addL.mpr (.inl (h.has w hw)), fun w hw => (mem_addL.mp hw).elim (h.so w) fun z => ?_, fun w hw => (mem_addL.mp hw).elim (h.iw w) fun z => legs_in c (m z)⟩
  obtain ⟨l, hl, t1, t2⟩ := t
  exact .step c hl (h.so _ t1) (h.so _ t2) (m z)
instance (ws : List Wi) (i j : Int) : Decidable (Tells ws i j) := decidable_of_iff ((List.range 4).any (fun l => decide (legW i j l ∈ ws ∧ legW i j ((l + 1) % 4) ∈ ws)) = true) (by
  rw [List.any_eq_true]
  constructor
  · rintro ⟨l, hl, t⟩
    obtain ⟨t1, t2⟩ := of_decide_eq_true t
    exact ⟨l, List.mem_range.mp hl, t1, t2⟩
  · rintro ⟨l, hl, t1, t2⟩
    exact ⟨l, List.mem_range.mpr hl, decide_eq_true ⟨t1, t2⟩⟩)
theorem paired_snoc {α β : Type} {F : α → β → Prop} {x : α} {y : β} (h : F x y) : ∀ {xs : List α} {ys : List β}, Paired F xs ys → Paired F (xs ++ [x]) (ys ++ [y])
  | _, _, .nil => .cons h .nil
  | _, _, .cons r t => .cons r (paired_snoc h t)
theorem PrT.keeps {G G' : Hp} {ps : List (Addr × Addr)} {kvs : List (List Key × V)} (h : PrT G ps kvs) (s : Keeps G G') : PrT G' ps kvs := Paired.mapP h fun _ _ z => ⟨s _ _ z.1, s _ _ z.2⟩
section
variable {P : Program} {w : World} {K : PySem.W.Frag} {mg : Str → Option Value} {base : Heap}
def teWt : TE := tTup (tCons (tVar 8) (tCons (tC (.bl true)) tNil))
/-- one turn of [(wire, True) for wire in ..] -/
theorem pair_turn {G G' : Hp} {D : Addr} {bs : List WB} {r : Nat} {σ : L2.St} {ps : List (Addr × Addr)} (nD : G D = none) (hr : r < bs.length) (few : bs.length ≤ 9000) (h8 : σ[8]? = some (some (.ref bs[r].1))) (sm : Same G G') (hb : WBs G bs) (hD : G' D = some (.lst (ps.map fun p => V.ref p.1))) (lp : ps.length = r) (pr : PrT G' ps ((bs.take r).map fun b => kW b.2)) :
    teWt σ G' fun y H4 => ∃ acc, H4 D = some (.lst acc) ∧ acc.length < sizeLine ∧ (Same G (upd H4 D (.lst (acc ++ [y]))) ∧ ∃ ps : List (Addr × Addr), (upd H4 D (.lst (acc ++ [y]))) D = some (.lst (ps.map fun p => V.ref p.1)) ∧ ps.length = r + 1 ∧ PrT (upd H4 D (.lst (acc ++ [y]))) ps ((bs.take (r + 1)).map fun b => kW b.2)) := by
  refine ⟨_, h8, by show 2 ≤ sizeLine; decide, fun c nc => ?_⟩
  have sc := same_upd (o := .tup [.ref bs[r].1, .bl true]) nc
  have hD2 := sc _ _ hD
  have kp : Keeps (upd G' c (.tup [.ref bs[r].1, .bl true])) (upd (upd G' c (.tup [.ref bs[r].1, .bl true])) D (.lst ((ps.map fun p => V.ref p.1) ++ [.ref c]))) := Keeps.at hD2 (fun xs z => nomatch z)
  have kpA := (Keeps.same sc).trans kp
  have ebr : bs[r]? = some bs[r] := List.getElem?_eq_getElem hr
  refine ⟨_, hD2, Nat.lt_of_lt_of_le (show (ps.map fun p => V.ref p.1).length < 100000 by rw [List.length_map]; omega) (by decide), fun b o e => ?_, ps ++ [(c, bs[r].1)], ?_, by rw [List.length_append, List.length_singleton, lp], ?_⟩
  · rw [upd_ne (ne_of_none e nD)]
    exact sc _ _ (sm _ _ e)
  · rw [upd_same, List.map_append]
    rfl
  · rw [List.take_add_one, ebr, List.map_append]
    have pk := pr.keeps kpA
    refine paired_snoc (x := (c, bs[r].1)) (y := kW bs[r].2) ?_ pk
    exact ⟨kp _ _ upd_same, kpA _ _ (sm _ _ (hb _ (List.getElem_mem hr)))⟩
theorem dict_end {G G' : Hp} {D : Addr} {bs : List WB} {Q : VK} {ps : List (Addr × Addr)} (sm : Same G G') (hD : G' D = some (.lst (ps.map fun p => V.ref p.1))) (pr : PrT G' ps (bs.map fun b => kW b.2))
    (q : ∀ d G', Same G G' → G d = none → G' d = some (.dT ((addL [] (bs.map (·.2))).map kW)) → Q (.ref d) G') : rDictT [.ref D] G' Q := by
  refine ⟨D, ps, _, rfl, hD, pr, fun d nd => ?_⟩
  refine q d _ (sm.trans (same_upd nd)) (same_none sm nd) ?_
  have z := merge_w (bs.map (·.2)) []
  rw [List.map_nil, List.map_map] at z
  rw [upd_same]
  exact congrArg (fun x => some (HO.dT x)) z
theorem at_ref {bs : List WB} {r : Nat} {x : V} (hx : (brefs bs)[r]? = some x) : ∃ h : r < bs.length, x = .ref (bs[r]'h).1 := by
  have hr : r < bs.length := by have := (List.getElem?_eq_some_iff.mp hx).1; rw [List.length_map] at this; exact this
  refine ⟨hr, ?_⟩
  rw [List.getElem?_map, List.getElem?_eq_getElem hr] at hx
  exact (Option.some.inj hx).symm
theorem dictT_ok {σ : L2.St} {G : Hp} {Q : VK} {t : Addr} {bs : List WB} {kl : Nat} (hk : σ[kl]? = some (some (.ref t))) (hw : ∀ v, wipe ((wipe σ [8]).set 8 (some v)) [8] = wipe σ [8]) (hs : ∀ v : V, ((wipe σ [8]).set 8 (some v))[8]? = some (some v)) (ht : G t = some (.tup (brefs bs))) (hb : WBs G bs) (few : bs.length ≤ 9000)
    (q : ∀ d G', Same G G' → G d = none → G' d = some (.dT ((addL [] (bs.map (·.2))).map kW)) → Q (.ref d) G') : tCB rDictT (tCons (tLc (iTup K (tVar kl)) (gName 8) tYes teWt [8]) tNil) σ G Q := by
  refine ⟨_, hk, t, rfl, ⟨_, .inl (.inl ht)⟩, fun D nD => ?_⟩
  refine lc_tup (xs := brefs bs) (fun r G' => Same G G' ∧ ∃ ps : List (Addr × Addr), G' D = some (.lst (ps.map fun p => V.ref p.1)) ∧ ps.length = r ∧ PrT G' ps ((bs.take r).map fun b => kW b.2)) ⟨same_upd nD, [], upd_same, rfl, .nil⟩ (fun r G' _ h => .inl (.inl (h.1 _ _ ht))) ?_ ?_
  · rintro r x G' hx ⟨sm, ps, hD, lp, pr⟩
    obtain ⟨hr, rfl⟩ := at_ref hx
    refine ⟨hw _, ?_⟩
    simp only [tYes, ↓reduceIte]
    exact pair_turn nD hr few (hs _) sm hb hD lp pr
  · rintro G' ⟨sm, ps, hD, lp, pr⟩
    rw [List.length_map, List.take_length] at pr
    exact dict_end sm hD pr q
theorem dictL_ok {σ : L2.St} {G : Hp} {Q : VK} {t : Addr} {bs : List WB} {kl : Nat} (hk : σ[kl]? = some (some (.ref t))) (hw : ∀ v, wipe ((wipe σ [8]).set 8 (some v)) [8] = wipe σ [8]) (hs : ∀ v : V, ((wipe σ [8]).set 8 (some v))[8]? = some (some v)) (ht : G t = some (.lst (brefs bs))) (hb : WBs G bs) (few : bs.length ≤ 9000)
    (q : ∀ d G', Same G G' → G d = none → G' d = some (.dT ((addL [] (bs.map (·.2))).map kW)) → Q (.ref d) G') : tCB rDictT (tCons (tLc (iList K (tVar kl)) (gName 8) tYes teWt [8]) tNil) σ G Q := by
  refine ⟨_, hk, t, rfl, ⟨_, .inl (.inl ht)⟩, fun D nD => ?_⟩
  refine lc_list (xs := brefs bs) (fun r G' => Same G G' ∧ ∃ ps : List (Addr × Addr), G' D = some (.lst (ps.map fun p => V.ref p.1)) ∧ ps.length = r ∧ PrT G' ps ((bs.take r).map fun b => kW b.2)) ⟨same_upd nD, [], upd_same, rfl, .nil⟩ (fun r G' _ h => .inl (.inl (h.1 _ _ ht))) ?_ ?_
  · rintro r x G' hx ⟨sm, ps, hD, lp, pr⟩
    obtain ⟨hr, rfl⟩ := at_ref hx
    refine ⟨hw _, ?_⟩
    simp only [tYes, ↓reduceIte]
    exact pair_turn nD hr few (hs _) sm hb hD lp pr
  · rintro G' ⟨sm, ps, hD, lp, pr⟩
    rw [List.length_map, List.take_length] at pr
    exact dict_end sm hD pr q
def teAny (K : PySem.W.Frag) : TE := tAndV (tDIn (tOp (rIxL K) (tVar 7) (tVar 9)) (tVar 3)) (tDIn (tOp (rIxL K) (tVar 7) (tOp (rI (fun _ j => 0 < j) fun i j => V.int (i % j)) (tOp (rI0 fun i j => V.int (i + j)) (tVar 9) (tC (V.int 1))) (tC (V.int 4)))) (tVar 3))
/-- any(..): some two neighbouring legs are met -/
theorem any_ok {σ : L2.St} {G : Hp} {Q : VK} {d h : Addr} {bs : List WB} {ws : List Wi} {i j : Int} (hd : G d = some (.dT (ws.map kW))) (hh : G h = some (.lst (brefs bs))) (eb : bs.map (·.2) = legsW i j) (hb : WBs G bs) (hw : ∀ v, wipe ((wipe σ [9]).set 9 (some v)) [9] = wipe σ [9]) (h9 : ∀ v : V, ((wipe σ [9]).set 9 (some v))[9]? = some (some v)) (h3 : ∀ v : V, ((wipe σ [9]).set 9 (some v))[3]? = some (some (.ref d))) (h7 : ∀ v : V, ((wipe σ [9]).set 9 (some v))[7]? = some (some (.ref h)))
    (q : ∀ (B : Bool) G', Same G G' → B = decide (Tells ws i j) → Q (.bl B) G') : tCB (rAny K) (tCons (tLc (iRng1 (tCons (tC (V.int 4)) tNil)) (gName 9) tYes (teAny K) [9]) tNil) σ G Q := by
  refine ⟨4, rfl, by decide, by decide, fun D nD => ?_⟩
  refine lc_range (lo := 0) (n := 4) (fun r G' => Same G G' ∧ G' D = some (.lst (((List.range r).map fun l => decide (legW i j l ∈ ws ∧ legW i j ((l + 1) % 4) ∈ ws)).map V.bl))) ⟨same_upd nD, upd_same⟩ ?_ ?_
  · rintro r G' hr ⟨sm, hD⟩
    rw [Int.zero_add]
    refine ⟨hw _, ?_⟩
    simp only [tYes, ↓reduceIte]
    obtain ⟨c1, e1, k1⟩ := hb.at_ eb (legs_at (i := i) (j := j) hr)
    obtain ⟨c2, e2, k2⟩ := hb.at_ eb (legs_at (i := i) (j := j) (Nat.mod_lt (r + 1) (by decide : 0 < 4)))
    obtain ⟨o1, g1, b1⟩ := in_w (sm _ _ hd) (sm _ _ k1)
    obtain ⟨o2, g2, b2⟩ := in_w (sm _ _ hd) (sm _ _ k2)
    have fin : ∀ B : Bool, B = decide (legW i j r ∈ ws ∧ legW i j ((r + 1) % 4) ∈ ws) → ∃ acc, G' D = some (.lst acc) ∧ acc.length < sizeLine ∧ (Same G (upd G' D (.lst (acc ++ [V.bl B]))) ∧ (upd G' D (.lst (acc ++ [V.bl B]))) D = some (.lst (((List.range (r + 1)).map fun l => decide (legW i j l ∈ ws ∧ legW i j ((l + 1) % 4) ∈ ws)).map V.bl))) := fun B e => by
      refine ⟨_, hD, ?_, fun b o e' => ?_, ?_⟩
      · rw [List.length_map, List.length_map, List.length_range]
        exact Nat.lt_of_lt_of_le (show r < 1000 by omega) (by decide)
      · rw [upd_ne (ne_of_none e' nD)]
        exact sm _ _ e'
      · rw [upd_same, List.range_succ, List.map_append, List.map_append, e]
        rfl
    refine ⟨.ref h, h7 _, .int (r : Int), h9 _, h, _, _, .ref c1, rfl, rfl, .inl (.inl (sm _ _ hh)), at_of rfl e1, .ref d, h3 _, d, o1, rfl, g1, o1.isSome, rfl, ite2 (fun z => ?_) (fun z => ?_)⟩
    · have em : ((r : Int) + 1) % 4 = (((r + 1) % 4 : Nat) : Int) := by omega
      refine ⟨.ref h, h7 _, .int (r : Int), h9 _, (r : Int), 1, rfl, rfl, (r : Int) + 1, 4, rfl, rfl, by show (0 : Int) < 4; decide, h, _, _, .ref c2, rfl, rfl, .inl (.inl (sm _ _ hh)), at_of em e2, .ref d, h3 _, d, o2, rfl, g2, ?_⟩
      refine fin _ ?_
      rw [b2]
      rw [b1] at z
      have z1 := of_decide_eq_true z
      simp [z1]
    · refine fin _ ?_
      rw [b1] at z
      have z1 : legW i j r ∉ ws := fun m => z (decide_eq_true m)
      simp [z1]
  · rintro G' ⟨sm, hD⟩
    refine ⟨D, _, rfl, .inl (.inl hD), q _ _ sm ?_⟩
    rw [List.any_map]
    by_cases t : Tells ws i j
    · rw [decide_eq_true t]
      obtain ⟨l, hl, t1, t2⟩ := t
      exact List.any_eq_true.mpr ⟨l, List.mem_range.mpr hl, decide_eq_true ⟨t1, t2⟩⟩
    · rw [decide_eq_false t]
      refine List.any_eq_false.mpr fun l hl z => t ?_
      obtain ⟨z1, z2⟩ := of_decide_eq_true z
      exact ⟨l, List.mem_range.mp hl, z1, z2⟩
abbrev NTo : List Str := ["_law_a", "_law_b", "_law_known", "_law_met", "_law_many", "_law_j", "_law_i", "_law_here", "_law_wire", "_law_leg"]
theorem scLTold : FnScope NTo ["_law_a", "_law_b", "_law_known"] (defScope sLTold) := ⟨rfl, rfl, rfl, by decide +kernel, rfl, by decide +kernel, by decide +kernel⟩
theorem ok_ltold {f fLl : Addr} {fd fdLl : FuncData} {k : Nat} (F : Fun K "_law_told" "_law_told" sLTold f fd) (FLl : Fun K "_law_legs" "_law_legs" sLLegs fLl fdLl) (bLl : Binds K fdLl ["_law_i", "_law_j"] []) (gLl : mg "_law_legs" = some (.ref fLl)) (ml : mg "len" = none) (mtup : mg "tuple" = none) (mr : mg "range" = none) (ms : mg "sorted" = none) (mdict : mg "dict" = none) (mny : mg "any" = none) : FnOk P w K mg base CX0 (k + 2) f fd ["_law_a", "_law_b", "_law_known"] spTold := by
  have GLl : FnOk P w K mg base CX0 (k + 1) fLl fdLl ["_law_i", "_law_j"] spLLegs := ok_llegs FLl
  refine F.ok scLTold (fun vs H Q E h => ?_) (fun cdv A outer s H vs Q E hr h => ?_)
  · obtain ⟨a, b, t, bs, rfl, _⟩ := h
    rfl
  obtain ⟨a, b, t, bs, rfl, a40, b40, ht, hb, few, inn, q⟩ := h
  have nd := scLTold.nd
  refine ⟨_, pss_cons (ps_asg (pe_tup (pa_cons (pe_callTy (call_dictT rfl hr.units) (by rfl) mdict (by decide +kernel) (pa_cons (pe_lc (own := [("_law_wire", 8)]) (g := gName 8) (tt := tYes) (te := teWt) rfl nd (pi_tup (pv 2)) (blkOk_by (own := [("_law_wire", 8)]) (N := NTo) (sc := defScope sLTold) (by decide +kernel)) (fun _ _ _ _ _ => pg_name (i := 8) nd rfl (.inl rfl)) (fun _ _ _ _ _ => pts_nil) (fun _ _ _ _ _ => (pe_tup (pa_cons (pv 8) (pa_cons pe_bl pa_nil))))) pa_nil)) (pa_cons (pe_un un_neg pe_int) pa_nil))) (pg_tup rfl (pgs_cons (pg_name (i := 3) nd rfl (.inr rfl)) (pgs_cons (pg_name (i := 4) nd rfl (.inl rfl)) pgs_nil))))
      (pss_cons (ps_while PassesOwn.never (pt_cmpR op_gt (pe_callB call_len_dT (by rfl) ml PySem.boot_len (pa_cons (pv 3) pa_nil)) (pv 4) (nomark _)) (pss_cons (ps_set (i := 4) nd rfl (.inl rfl) (pe_callB call_len_dT (by rfl) ml PySem.boot_len (pa_cons (pv 3) pa_nil)))
      (pss_one (ps_for PassesOwn.never rfl (pi_range1 (by rfl) mr (pa_cons (pv 1) pa_nil)) (pg_name (i := 5) nd rfl (.inl rfl)) (pss_one (ps_for PassesOwn.never rfl (pi_range1 (by rfl) mr (pa_cons (pv 0) pa_nil)) (pg_name (i := 6) nd rfl (.inl rfl)) (pss_cons (ps_set (i := 7) nd rfl (.inr rfl) (pe_call GLl hr (by rfl) gLl FLl.kp bLl .nil pass0 (pa_cons (pv 6) (pa_cons (pv 5) pa_nil))))
      (pss_one (ps_if (pt_val (pe_callB (cr_any rfl) (by rfl) mny (by decide +kernel) (pa_cons (pe_lc (own := [("_law_leg", 9)]) (g := gName 9) (tt := tYes) (te := teAny K) rfl nd (pi_range1 (by rfl) mr (pa_cons pe_int pa_nil)) (blkOk_by (own := [("_law_leg", 9)]) (N := NTo) (sc := defScope sLTold) (by decide +kernel)) (fun _ _ _ _ _ => pg_name (i := 9) nd rfl (.inl rfl)) (fun _ _ _ _ _ => pts_nil) (fun _ _ _ _ _ => (pe_and (pe_cmp (pc_din (Nat.lt_of_le_of_lt (Nat.add_le_add_left (by decide) _) hr.units) (pe_ix ix_list (pv 7) (pv 9) (fun _ _ => rfl)) (pv 3))) (pe_one (pe_cmp (pc_din (Nat.lt_of_le_of_lt (Nat.add_le_add_left (by decide) _) hr.units) (pe_ix ix_list (pv 7) (pe_op op_mod (pe_op op_add (pv 9) pe_int) pe_int) (fun _ _ => rfl)) (pv 3))))))) pa_nil))) (pss_one (ps_expr (pe_bm PySem.F.plainAttrs_dict PySem.F.slot_dict_update PySem.F.type_dict_update (mt_updT hr.units) (pv 3) (pa_cons (pe_callTy (call_dictT rfl hr.units) (by rfl) mdict (by decide +kernel) (pa_cons (pe_lc (own := [("_law_wire", 8)]) (g := gName 8) (tt := tYes) (te := teWt) rfl nd (pi_list (pv 7)) (blkOk_by (own := [("_law_wire", 8)]) (N := NTo) (sc := defScope sLTold) (by decide +kernel)) (fun _ _ _ _ _ => pg_name (i := 8) nd rfl (.inl rfl)) (fun _ _ _ _ _ => pts_nil) (fun _ _ _ _ _ => (pe_tup (pa_cons (pv 8) (pa_cons pe_bl pa_nil))))) pa_nil)) pa_nil)))) pss_nil)))))))))
      (pss_one (ps_ret (pe_callTy call_tuple_of (by rfl) mtup (by decide +kernel) (pa_cons (pe_callB (cr_sortDW rfl hr.units) (by rfl) ms (by decide +kernel) (pa_cons (pv 3) pa_nil)) pa_nil))))), ?_⟩
  show tSeq (tAsg (tTup (tCons (tCB rDictT (tCons (tLc (iTup K (tVar 2)) (gName 8) tYes teWt [8]) tNil)) _)) _) _ _ [some (.int (a : Int)), some (.int (b : Int)), some (.ref t), none, none, none, none, none, none, none] H
  refine asgTup_run (tcons_run ?_)
  refine dictT_ok rfl (fun v => rfl) (fun v => rfl) ht hb (by omega) fun d H1 s1 nd1 hd1 => ?_
  refine ⟨1, rfl, by show 2 ≤ sizeLine; decide, fun u nu => ⟨u, _, rfl, .inl (.inl upd_same), rfl, _, _, rfl, _, _, rfl, rfl, ?_⟩⟩
  have su := same_upd (o := .tup [.ref d, .int (-1)]) nu
  have K0n : (addL [] (bs.map (·.2))).Nodup := nodup_addL List.nodup_nil
  have K0i : ∀ x ∈ addL [] (bs.map (·.2)), InW a b x := fun x hx => inn x ((mem_addL.mp hx).resolve_left List.not_mem_nil)
  have N3 := len_all_le a40 b40
  have hd2 := su _ _ hd1
  have s2 := s1.trans su
  generalize upd H1 u (.tup [.ref d, .int (-1)]) = H2 at hd2 s2 ⊢
  have hq : ∀ ws, LI a b (addL [] (bs.map (·.2))) ws → Shut a b ws → ∀ w, w ∈ ws ↔ Told a b (· ∈ bs.map (·.2)) w := fun ws L sh w => (told_is L.so L.has sh w).trans (told_add w)
  generalize addL [] (bs.map (·.2)) = K0 at K0n K0i hd2 hq
  have L0 : LI a b K0 K0 := ⟨K0n, fun w h => h, fun w h => .known h, K0i⟩
  dsimp only [List.set]
  show tSeq (tWhile _ _) _ _ [some (.int (a : Int)), some (.int (b : Int)), some (.ref t), some (.ref d), some (.int (-1)), none, none, none, none, none] H2
  refine while_g (fun m σ G => ∃ (ws : List Wi) (mn : Int), Same H G ∧ G d = some (.dT (ws.map kW)) ∧ LI a b K0 ws ∧ -1 ≤ mn ∧ mn ≤ (ws.length : Int) ∧ (mn = (ws.length : Int) → Shut a b ws) ∧ m = (((allW a b).length : Int) + 1 - mn).toNat ∧ ∃ y5 y6 y7, σ = [some (.int (a : Int)), some (.int (b : Int)), some (.ref t), some (.ref d), some (.int mn), y5, y6, y7, none, none]) ⟨_, K0, -1, s2, hd2, L0, by decide, by omega, fun e => by omega, rfl, _, _, _, rfl⟩ ?_ ?_
  · rintro m σ G ⟨ws, mn, sm, hd, L, mn0, mn1, sh, rfl, y5, y6, y7, rfl⟩
    have few := L.few
    refine ⟨.ref d, rfl, d, _, rfl, hd, .int mn, rfl, _, _, rfl, rfl, _, rfl, ?_⟩
    rw [List.length_map]
    refine ite2 (fun z => ?_) (fun z => ?_)
    · have z := of_decide_eq_true z
      refine ⟨.ref d, rfl, d, _, rfl, hd, ?_⟩
      rw [List.length_map]
      refine gName_run ?_
      dsimp only [List.set]
      refine ⟨.int (b : Int), rfl, (b : Int), rfl, by omega, by omega, ?_⟩
      refine for_range (lo := 0) (n := (b : Int).toNat) (fun r σ G' => ∃ ws', Same H G' ∧ G' d = some (.dT (ws'.map kW)) ∧ LI a b K0 ws' ∧ ws.length ≤ ws'.length ∧ (ws'.length = ws.length → ∀ i j, InC a b i j → j < (r : Int) → Tells ws' i j → Full ws' i j) ∧ ∃ y5 y6 y7, σ = [some (.int (a : Int)), some (.int (b : Int)), some (.ref t), some (.ref d), some (.int (ws.length : Int)), y5, y6, y7, none, none]) ⟨ws, sm, hd, L, Nat.le_refl _, fun _ i j c hj => by have := c.2.1; omega, _, _, _, rfl⟩ ?_ ?_
      · rintro r σ G1 hr1 ⟨ws1, sm1, hd1', L1, le1, vis1, y5, y6, y7, rfl⟩
        rw [Int.zero_add]
        refine ⟨.int (a : Int), rfl, (a : Int), rfl, by omega, by omega, ?_⟩
        refine for_range (lo := 0) (n := (a : Int).toNat) (fun e σ G' => ∃ ws', Same H G' ∧ G' d = some (.dT (ws'.map kW)) ∧ LI a b K0 ws' ∧ ws.length ≤ ws'.length ∧ (ws'.length = ws.length → ∀ i j, InC a b i j → (j < (r : Int) ∨ (j = (r : Int) ∧ i < (e : Int))) → Tells ws' i j → Full ws' i j) ∧ ∃ y6 y7, σ = [some (.int (a : Int)), some (.int (b : Int)), some (.ref t), some (.ref d), some (.int (ws.length : Int)), some (.int (r : Int)), y6, y7, none, none]) ⟨ws1, sm1, hd1', L1, le1, fun e0 i j c hj => vis1 e0 i j c (hj.resolve_right fun z => by have := c.1.1; omega), _, _, rfl⟩ ?_ ?_
        · rintro e σ G2 he2 ⟨ws2, sm2, hd2', L2, le2, vis2, y6, y7, rfl⟩
          rw [Int.zero_add]
          have cin : InC a b (e : Int) (r : Int) := ⟨⟨by omega, by omega⟩, by omega, by omega⟩
          refine ⟨.int (e : Int), rfl, .int (r : Int), rfl, (e : Int), (r : Int), rfl, fun lh bs3 G3 s3 nlh hlh eb3 hb3 => ?_⟩
          refine gName_run ?_
          dsimp only [List.set]
          have hd3 := s3 _ _ hd2'
          refine any_ok (ws := ws2) (i := (e : Int)) (j := (r : Int)) hd3 hlh eb3 hb3 (fun v => rfl) (fun v => rfl) (fun v => rfl) (fun v => rfl) fun B G4 s4 eB => ⟨B, rfl, ?_⟩
          subst eB
          refine ite2 (fun z2 => ?_) (fun z2 => ?_)
          · have tl := of_decide_eq_true z2
            have hd4 := s4 _ _ hd3
            have lb3 : bs3.length = 4 := by
              have := congrArg List.length eb3
              rw [List.length_map] at this
              exact this
            refine ⟨.ref d, rfl, .inr (.inr (.inl ⟨rfl, .inr ⟨_, hd4⟩⟩)), tcons_run ?_⟩
            refine dictL_ok rfl (fun v => rfl) (fun v => rfl) (s4 _ _ hlh) (hb3.same s4) (by omega) fun d5 G5 s5 nd5 hd5 => ?_
            have few2 := L2.few
            have ln5 := (len_addL (bs3.map (·.2)) []).2
            rw [List.length_nil, List.length_map] at ln5
            have ne2 : ws2.map kW ≠ [] := fun z => by
              obtain ⟨l, _, t1, _⟩ := tl
              rw [List.map_eq_nil_iff.mp z] at t1
              exact nomatch t1
            refine ⟨d, d5, _, _, rfl, rfl, ne_of_none hd4 nd5, s5 _ _ hd4, hd5, ne2, by rw [List.length_map, List.length_map]; exact Nat.le_trans (show _ ≤ 100000 by omega) (by decide), ?_⟩
            rw [merge_w, eb3]
            have L6 := L2.add cin tl
            have ln6 := (len_addL (addL [] (legsW (e : Int) (r : Int))) ws2).1
            refine ⟨addL ws2 (addL [] (legsW (e : Int) (r : Int))), same_at (sm2.trans (s3.trans (s4.trans s5))) nd1, upd_same, L6, by omega, fun e0 i j c hv => ?_, _, _, rfl⟩
            have same6 := addL_same (ws := ws2) (us := addL [] (legsW (e : Int) (r : Int))) (by omega)
            have fullC : Full (addL ws2 (addL [] (legsW (e : Int) (r : Int)))) (e : Int) (r : Int) := fun w hw => mem_addL.mpr (.inr (mem_addL.mpr (.inr hw)))
            rw [same6] at fullC e0 ⊢
            intro tt
            by_cases same : i = (e : Int) ∧ j = (r : Int)
            · obtain ⟨rfl, rfl⟩ := same
              exact fullC
            · exact vis2 e0 i j c (by omega) tt
          · have nt : ¬ Tells ws2 (e : Int) (r : Int) := fun t => z2 (decide_eq_true t)
            refine ⟨ws2, sm2.trans (s3.trans s4), s4 _ _ hd3, L2, le2, fun e0 i j c hv tt => ?_, _, _, rfl⟩
            by_cases same : i = (e : Int) ∧ j = (r : Int)
            · obtain ⟨rfl, rfl⟩ := same
              exact absurd tt nt
            · exact vis2 e0 i j c (by omega) tt
        · rintro σ G2 ⟨ws2, sm2, hd2', L2, le2, vis2, y6, y7, rfl⟩
          refine ⟨ws2, sm2, hd2', L2, le2, fun e0 i j c hj tt => vis2 e0 i j c ?_ tt, _, _, _, rfl⟩
          have := c.1.2
          omega
      · rintro σ G1 ⟨ws1, sm1, hd1', L1, le1, vis1, y5, y6, y7, rfl⟩
        refine ⟨_, ?_, ws1, (ws.length : Int), sm1, hd1', L1, by omega, by omega, fun e0 i j c tt => vis1 (by omega) i j c ?_ tt, rfl, _, _, _, rfl⟩
        · omega
        · have := c.2.2
          omega
    · have z : ¬ mn < (ws.length : Int) := fun h => z (decide_eq_true h)
      refine ⟨.ref d, rfl, d, ws, rfl, hd, by omega, fun l bs' nl eb' hb' => ?_⟩
      have g2 := same_upd (o := .lst (brefs (bs'.mergeSort leW))) nl
      have lb' : bs'.length = ws.length := by rw [← eb', List.length_map]
      refine ⟨l, _, rfl, .inl ⟨.inl (.inl upd_same), fun T2 nT2 => ?_⟩⟩
      have g3 := same_upd (o := .tup (brefs (bs'.mergeSort leW))) nT2
      refine q T2 (bs'.mergeSort leW) _ (sm.trans (g2.trans g3)) (same_none (sm.trans g2) nT2) upd_same (fun b hb2 => (g2.trans g3) _ _ (hb' b ((List.mergeSort_perm bs' leW).mem_iff.mp hb2))) (by rw [(List.mergeSort_perm bs' leW).length_eq]; omega) ⟨bs', rfl, by rw [eb']; exact L.nd, fun w => ?_⟩
      rw [eb']
      exact hq ws L (sh (by omega)) w
  · rintro σ H Q Q' h ⟨x, e, p, kvs, e1, e2, y, e3, i, j, e4, e5, b, e6, q'⟩
    exact ⟨x, e, p, kvs, e1, e2, y, e3, i, j, e4, e5, b, e6, h _ _ q'⟩
end
end C2

namespace C2
set_option Elab.async false
set_option linter.all false
set_option maxRecDepth 100000
set_option maxHeartbeats 1000000
open PySem PySem.Spec PyProof.Rows L2 HT
theorem flat_snoc {α : Type} (f : Nat → List α) (r : Nat) : (List.range (r + 1)).flatMap f = (List.range r).flatMap f ++ f r := by
  rw [List.range_succ, List.flatMap_append, List.flatMap_cons, List.flatMap_nil, List.append_nil]
section
variable {P : Program} {w : World} {K : PySem.W.Frag} {mg : Str → Option Value} {base : Heap}
def teCol : TE := tTup (tCons (tC (.str "column")) (tCons (tVar 3) (tCons (tVar 5) tNil)))
def teRow : TE := tTup (tCons (tC (.str "row")) (tCons (tVar 4) (tCons (tVar 6) tNil)))
/-- the wires of one thread -/
theorem lc_thread {te : TE} {ta : TA} {σ : L2.St} {G : Hp} {Q : VK} {sl m : Nat} {f : Nat → Wi} (hw : ∀ v, wipe ((wipe σ [sl]).set sl (some v)) [sl] = wipe σ [sl]) (hm : m ≤ 40) (hta : ∀ R : List V → Hp → Prop, R [.int ((m : Int) + 1)] G → ta σ G R)
    (hte : ∀ (y : Nat) (G : Hp) (R : VK), (∀ c G', Same G G' → G' c = some (.tup (wv (f y))) → R (.ref c) G') → te ((wipe σ [sl]).set sl (some (.int (y : Int)))) G R)
    (q : ∀ D bs G', Same G G' → G D = none → G' D = some (.lst (brefs bs)) → WBs G' bs → bs.map (·.2) = (List.range (m + 1)).map f → Q (.ref D) G') : tLc (iRng1 ta) (gName sl) tYes te [sl] σ G Q := by
  refine hta _ ⟨(m : Int) + 1, rfl, by omega, by omega, fun D nD => ?_⟩
  have em : ((m : Int) + 1).toNat = m + 1 := by omega
  refine lc_range (lo := 0) (n := ((m : Int) + 1).toNat) (fun r G' => Same G G' ∧ ∃ bs : List WB, G' D = some (.lst (brefs bs)) ∧ WBs G' bs ∧ bs.map (·.2) = (List.range r).map f) ⟨same_upd nD, [], upd_same, (fun b hb => nomatch hb), rfl⟩ ?_ ?_
  · rintro r G' hr ⟨sm, bs, hD, hb, eb⟩
    rw [Int.zero_add]
    refine ⟨hw _, ?_⟩
    simp only [tYes, ↓reduceIte]
    refine hte r G' _ fun c G2 s2 hc => ?_
    have hD2 := s2 _ _ hD
    have kp : Keeps G2 (upd G2 D (.lst (brefs bs ++ [.ref c]))) := Keeps.at hD2 (fun xs z => nomatch z)
    have lb : bs.length = r := by have := congrArg List.length eb; rw [List.length_map, List.length_map, List.length_range] at this; exact this
    refine ⟨_, hD2, Nat.lt_of_lt_of_le (show (brefs bs).length < 1000 by rw [List.length_map]; omega) (by decide), fun b o e => ?_, bs ++ [(c, f r)], ?_, fun b hb' => ?_, ?_⟩
    · rw [upd_ne (ne_of_none e nD)]
      exact s2 _ _ (sm _ _ e)
    · rw [upd_same, brefs_app]
      rfl
    · rcases List.mem_append.mp hb' with hb' | hb'
      · exact kp _ _ (s2 _ _ (hb b hb'))
      · rw [List.mem_singleton.mp hb']
        exact kp _ _ hc
    · rw [List.map_append, eb, List.range_succ, List.map_append]
      rfl
  · rintro G' ⟨sm, bs, hD, hb, eb⟩
    rw [em] at eb
    exact q D bs G' sm nD hD hb eb
abbrev NWi : List Str := ["_law_a", "_law_b", "_law_found", "_law_i", "_law_j", "_law_y", "_law_x"]
theorem scLWires : FnScope NWi ["_law_a", "_law_b"] (defScope sLWires) := ⟨rfl, rfl, rfl, by decide +kernel, rfl, by decide +kernel, by decide +kernel⟩
def spLWires : Sp := fun vs H Q _ => ∃ (a b : Nat), vs = [.int (a : Int), .int (b : Int)] ∧ a ≤ 40 ∧ b ≤ 40 ∧ ∀ l bs H', Same H H' → H l = none → H' l = some (.lst (brefs bs)) → WBs H' bs → bs.map (·.2) = allW a b → Q (.ref l) H'
theorem ok_lwires {f : Addr} {fd : FuncData} {k : Nat} (F : Fun K "_law_wires" "_law_wires" sLWires f fd) (mr : mg "range" = none) : FnOk P w K mg base CX0 (k + 1) f fd ["_law_a", "_law_b"] spLWires := by
  refine F.ok scLWires (fun vs H Q E h => ?_) (fun cdv A outer s H vs Q E hr h => ?_)
  · obtain ⟨a, b, rfl, _⟩ := h
    rfl
  obtain ⟨a, b, rfl, a40, b40, q⟩ := h
  have nd := scLWires.nd
  refine ⟨_, pss_cons (ps_set (i := 2) nd rfl (.inl rfl) (pe_lst pa_nil))
      (pss_cons (ps_for PassesOwn.never rfl (pi_range1 (by rfl) mr (pa_cons (pv 0) pa_nil)) (pg_name (i := 3) nd rfl (.inr rfl)) (pss_one (ps_expr (pe_bm PySem.F.plainAttrs_list PySem.F.slot_list_extend PySem.F.type_list_extend mt_extend (pv 2) (pa_cons (pe_lc (own := [("_law_y", 5)]) (g := gName 5) (tt := tYes) (te := teCol) rfl nd (pi_range1 (by rfl) mr (pa_cons (pe_op op_add (pv 1) pe_int) pa_nil)) (blkOk_by (own := [("_law_y", 5)]) (N := NWi) (sc := defScope sLWires) (by decide +kernel)) (fun _ _ _ _ _ => pg_name (i := 5) nd rfl (.inl rfl)) (fun _ _ _ _ _ => pts_nil) (fun _ _ _ _ _ => (pe_tup (pa_cons pe_str (pa_cons (pv 3) (pa_cons (pv 5) pa_nil)))))) pa_nil)))))
      (pss_cons (ps_for PassesOwn.never rfl (pi_range1 (by rfl) mr (pa_cons (pv 1) pa_nil)) (pg_name (i := 4) nd rfl (.inr rfl)) (pss_one (ps_expr (pe_bm PySem.F.plainAttrs_list PySem.F.slot_list_extend PySem.F.type_list_extend mt_extend (pv 2) (pa_cons (pe_lc (own := [("_law_x", 6)]) (g := gName 6) (tt := tYes) (te := teRow) rfl nd (pi_range1 (by rfl) mr (pa_cons (pe_op op_add (pv 0) pe_int) pa_nil)) (blkOk_by (own := [("_law_x", 6)]) (N := NWi) (sc := defScope sLWires) (by decide +kernel)) (fun _ _ _ _ _ => pg_name (i := 6) nd rfl (.inl rfl)) (fun _ _ _ _ _ => pts_nil) (fun _ _ _ _ _ => (pe_tup (pa_cons pe_str (pa_cons (pv 4) (pa_cons (pv 6) pa_nil)))))) pa_nil)))))
      (pss_one (ps_ret (pv 2))))), ?_⟩
  refine ⟨by decide, fun l nl => ?_⟩
  refine gName_run ?_
  dsimp only [List.set]
  have N3 := len_all_le a40 b40
  have bound : ∀ r r', r ≤ a → r' ≤ b → ((List.range r).flatMap (fun i => colW i b) ++ (List.range r').flatMap (fun j => rowW j a)).length ≤ 3280 := fun r r' h h' => by
    rw [List.length_append, len_flat (c := b + 1) (fun i => by unfold colW; rw [List.length_map, List.length_range]), len_flat (c := a + 1) (fun i => by unfold rowW; rw [List.length_map, List.length_range]), List.length_range, List.length_range]
    have h1 : r * (b + 1) ≤ 40 * 41 := Nat.mul_le_mul (by omega) (by omega)
    have h2 : r' * (a + 1) ≤ 40 * 41 := Nat.mul_le_mul (by omega) (by omega)
    omega
  show tSeq _ _ _ [some (.int (a : Int)), some (.int (b : Int)), some (.ref l), none, none, none, none] (upd H l (.lst []))
  refine ⟨.int (a : Int), rfl, (a : Int), rfl, by omega, by omega, ?_⟩
  refine for_range (lo := 0) (n := (a : Int).toNat) (fun r σ G => Same H G ∧ (∃ bs : List WB, G l = some (.lst (brefs bs)) ∧ WBs G bs ∧ bs.map (·.2) = (List.range r).flatMap (fun i => colW i b)) ∧ ∃ y3 y4, σ = [some (.int (a : Int)), some (.int (b : Int)), some (.ref l), y3, y4, none, none]) ⟨same_upd nl, ⟨[], upd_same, (fun b hb => nomatch hb), rfl⟩, _, _, rfl⟩ ?_ ?_
  · rintro r σ G hr ⟨sm, ⟨bs, hl, hb, eb⟩, y3, y4, rfl⟩
    rw [Int.zero_add]
    refine ⟨.ref l, rfl, .inl ⟨rfl, _, .inl (.inl hl)⟩, tcons_run ?_⟩
    refine lc_thread (te := teCol) (m := b) (f := fun y => (false, (r : Int), (y : Int))) (fun v => rfl) b40 (fun R h => ⟨.int (b : Int), rfl, (b : Int), 1, rfl, rfl, h⟩) (fun y G R h => ⟨.int (r : Int), rfl, .int (y : Int), rfl, by show 3 ≤ sizeLine; decide, fun c nc => h c _ (same_upd nc) upd_same⟩) fun D bs2 G2 s2 nD hD hb2 eb2 => ?_
    have hl2 := s2 _ _ hl
    have lb : bs.length ≤ 3280 := by
      have := bound r 0 (by omega) (by omega)
      rw [← List.length_map (f := fun x : WB => x.2), eb]
      simpa using this
    have lb2 : bs2.length = b + 1 := by have := congrArg List.length eb2; rw [List.length_map, List.length_map, List.length_range] at this; exact this
    refine ⟨l, D, _, _, rfl, rfl, hl2, hD, Nat.le_trans (show (brefs bs).length + (brefs bs2).length ≤ 100000 by rw [List.length_map, List.length_map]; omega) (by decide), ?_⟩
    have kp : Keeps G2 (upd G2 l (.lst (brefs bs ++ brefs bs2))) := Keeps.at hl2 (fun xs z => nomatch z)
    refine ⟨same_at (sm.trans s2) nl, ⟨bs ++ bs2, by rw [upd_same, brefs_app], fun b hb' => ?_, ?_⟩, _, _, rfl⟩
    · rcases List.mem_append.mp hb' with hb' | hb'
      · exact kp _ _ (s2 _ _ (hb b hb'))
      · exact kp _ _ (hb2 b hb')
    · rw [List.map_append, eb, eb2, flat_snoc]
      rfl
  · rintro σ G ⟨sm, ⟨bs, hl, hb, eb⟩, y3, y4, rfl⟩
    have ea : (a : Int).toNat = a := Int.toNat_natCast a
    rw [ea] at eb
    refine ⟨.int (b : Int), rfl, (b : Int), rfl, by omega, by omega, ?_⟩
    refine for_range (lo := 0) (n := (b : Int).toNat) (fun r σ G => Same H G ∧ (∃ bs : List WB, G l = some (.lst (brefs bs)) ∧ WBs G bs ∧ bs.map (·.2) = (List.range a).flatMap (fun i => colW i b) ++ (List.range r).flatMap (fun j => rowW j a)) ∧ ∃ y3 y4, σ = [some (.int (a : Int)), some (.int (b : Int)), some (.ref l), y3, y4, none, none]) ⟨sm, ⟨bs, hl, hb, by rw [eb, List.range_zero, List.flatMap_nil, List.append_nil]⟩, _, _, rfl⟩ ?_ ?_
    · rintro r σ G hr ⟨sm, ⟨bs, hl, hb, eb⟩, y3, y4, rfl⟩
      rw [Int.zero_add]
      refine ⟨.ref l, rfl, .inl ⟨rfl, _, .inl (.inl hl)⟩, tcons_run ?_⟩
      refine lc_thread (te := teRow) (m := a) (f := fun x => (true, (r : Int), (x : Int))) (fun v => rfl) a40 (fun R h => ⟨.int (a : Int), rfl, (a : Int), 1, rfl, rfl, h⟩) (fun y G R h => ⟨.int (r : Int), rfl, .int (y : Int), rfl, by show 3 ≤ sizeLine; decide, fun c nc => h c _ (same_upd nc) upd_same⟩) fun D bs2 G2 s2 nD hD hb2 eb2 => ?_
      have hl2 := s2 _ _ hl
      have lb : bs.length ≤ 3280 := by
        have := bound a r (Nat.le_refl _) (by omega)
        rw [← List.length_map (f := fun x : WB => x.2), eb]
        exact this
      have lb2 : bs2.length = a + 1 := by have := congrArg List.length eb2; rw [List.length_map, List.length_map, List.length_range] at this; exact this
      refine ⟨l, D, _, _, rfl, rfl, hl2, hD, Nat.le_trans (show (brefs bs).length + (brefs bs2).length ≤ 100000 by rw [List.length_map, List.length_map]; omega) (by decide), ?_⟩
      have kp : Keeps G2 (upd G2 l (.lst (brefs bs ++ brefs bs2))) := Keeps.at hl2 (fun xs z => nomatch z)
      refine ⟨same_at (sm.trans s2) nl, ⟨bs ++ bs2, by rw [upd_same, brefs_app], fun b hb' => ?_, ?_⟩, _, _, rfl⟩
      · rcases List.mem_append.mp hb' with hb' | hb'
        · exact kp _ _ (s2 _ _ (hb b hb'))
        · exact kp _ _ (hb2 b hb')
      · rw [List.map_append, eb, eb2, flat_snoc, List.append_assoc]
        rfl
    · rintro σ G ⟨sm, ⟨bs, hl, hb, eb⟩, y3, y4, rfl⟩
      have eb' : (b : Int).toNat = b := Int.toNat_natCast b
      rw [eb'] at eb
      exact ⟨.ref l, rfl, q l bs G sm nl hl hb eb⟩
abbrev NSe : List Str := ["_law_every", "_law_found", "_law_wire", "_law_some"]
theorem scSets : FnScope NSe ["_law_every"] (defScope sSets) := ⟨rfl, rfl, rfl, by decide +kernel, rfl, by decide +kernel, by decide +kernel⟩
def teSet (K : PySem.W.Frag) : TE := tOp (rCatA K) (tVar 3) (tTup (tCons (tVar 2) tNil))
/-- a set of some of these wires, as a tuple -/
def SetAt (G : Hp) (bs : List WB) (n : Nat) (v : V) : Prop := ∃ t cs, v = .ref t ∧ G t = some (.tup (brefs cs)) ∧ cs.length ≤ n ∧ ∀ b ∈ cs, b ∈ bs
theorem SetAt.keeps {G G' : Hp} {bs : List WB} {n : Nat} {v : V} (h : SetAt G bs n v) (s : Keeps G G') : SetAt G' bs n v := by
  obtain ⟨t, cs, e, ht, r⟩ := h
  exact ⟨t, cs, e, s _ _ ht, r⟩
theorem SetAt.up {G : Hp} {bs : List WB} {n m : Nat} {v : V} (h : SetAt G bs n v) (l : n ≤ m) : SetAt G bs m v := by
  obtain ⟨t, cs, e, ht, r, z⟩ := h
  exact ⟨t, cs, e, ht, by omega, z⟩
theorem lc_sets {σ : L2.St} {G : Hp} {Q : VK} {D : Addr} {us : List V} {bs : List WB} {r : Nat} {b0 : WB} (h1 : σ[1]? = some (some (.ref D))) (hw : ∀ v, wipe ((wipe σ [3]).set 3 (some v)) [3] = wipe σ [3]) (h3 : ∀ v : V, ((wipe σ [3]).set 3 (some v))[3]? = some (some v)) (h2 : ∀ v : V, ((wipe σ [3]).set 3 (some v))[2]? = some (some (.ref b0.1))) (hD : G D = some (.lst us)) (lu : us.length ≤ 1024) (r10 : r ≤ 10) (all : ∀ v ∈ us, SetAt G bs r v) (mem : b0 ∈ bs)
    (q : ∀ D2 zs G', Same G G' → G D2 = none → G' D2 = some (.lst zs) → zs.length = us.length → (∀ v ∈ zs, SetAt G' bs (r + 1) v) → Q (.ref D2) G') : tLc (iList K (tVar 1)) (gName 3) tYes (teSet K) [3] σ G Q := by
  refine ⟨_, h1, D, rfl, ⟨_, .inl (.inl hD)⟩, fun D2 nD2 => ?_⟩
  refine lc_list (xs := us) (fun m G' => Same G G' ∧ ∃ zs, G' D2 = some (.lst zs) ∧ zs.length = m ∧ ∀ v ∈ zs, SetAt G' bs (r + 1) v) ⟨same_upd nD2, [], upd_same, rfl, fun v hv => nomatch hv⟩ (fun m G' _ h => .inl (.inl (h.1 _ _ hD))) ?_ ?_
  · rintro m v G' hv ⟨sm, zs, hz, lz, az⟩
    refine ⟨hw _, ?_⟩
    simp only [tYes, ↓reduceIte]
    have mu : m < us.length := (List.getElem?_eq_some_iff.mp hv).1
    obtain ⟨t, cs, rfl, ht, lc, sub⟩ := all v (List.mem_of_getElem? hv)
    refine ⟨.ref t, h3 _, .ref b0.1, h2 _, by show 1 ≤ sizeLine; decide, fun u nu => ?_⟩
    have su := same_upd (o := .tup [.ref b0.1]) nu
    have ht' := su _ _ (sm _ _ ht)
    have fin : ∀ (c : Addr) (G2 : Hp) (es : List WB), Same G' G2 → G2 c = some (.tup (brefs es)) → es.length ≤ r + 1 → (∀ b ∈ es, b ∈ bs) → ∃ acc, G2 D2 = some (.lst acc) ∧ acc.length < sizeLine ∧ (Same G (upd G2 D2 (.lst (acc ++ [V.ref c]))) ∧ ∃ zs, (upd G2 D2 (.lst (acc ++ [V.ref c]))) D2 = some (.lst zs) ∧ zs.length = m + 1 ∧ ∀ v ∈ zs, SetAt (upd G2 D2 (.lst (acc ++ [V.ref c]))) bs (r + 1) v) := fun c G2 es s2 hc le se => by
      have hz2 := s2 _ _ hz
      have kp : Keeps G2 (upd G2 D2 (.lst (zs ++ [.ref c]))) := Keeps.at hz2 (fun xs z => nomatch z)
      refine ⟨zs, hz2, Nat.lt_of_lt_of_le (show zs.length < 100000 by omega) (by decide), fun b o e => ?_, zs ++ [.ref c], upd_same, by rw [List.length_append, List.length_singleton, lz], fun v hv => ?_⟩
      · rw [upd_ne (ne_of_none e nD2)]
        exact s2 _ _ (sm _ _ e)
      · rcases List.mem_append.mp hv with hv | hv
        · exact ((az v hv).keeps (Keeps.same s2)).keeps kp
        · rw [List.mem_singleton.mp hv]
          exact ⟨c, es, rfl, kp _ _ hc, le, se⟩
    refine ⟨t, u, brefs cs, [.ref b0.1], rfl, rfl, .inl (.inl ht'), .inl (.inl upd_same), Nat.le_trans (show (brefs cs).length + 1 ≤ 1000 by rw [List.length_map]; omega) (by decide), fun z => ?_, (fun _ z => nomatch z), fun _ _ c nc => ?_⟩
    · exact fin u _ [b0] su upd_same (by show 1 ≤ r + 1; omega) fun b hb => by rw [List.mem_singleton.mp hb]; exact mem
    · have sc := same_upd (o := .tup (brefs cs ++ [.ref b0.1])) nc
      refine fin c _ (cs ++ [b0]) (su.trans sc) (by rw [upd_same, brefs_app]; rfl) (by rw [List.length_append, List.length_singleton]; omega) fun b hb => ?_
      rcases List.mem_append.mp hb with hb | hb
      · exact sub b hb
      · rw [List.mem_singleton.mp hb]
        exact mem
  · rintro G' ⟨sm, zs, hz, lz, az⟩
    exact q D2 zs G' sm nD2 hz lz az
def spSets : Sp := fun vs H Q _ => ∃ (l : Addr) (bs : List WB), vs = [.ref l] ∧ H l = some (.lst (brefs bs)) ∧ bs.length ≤ 10 ∧ ∀ D us H', Same H H' → H' D = some (.lst us) → us.length ≤ 1024 → (∀ v ∈ us, SetAt H' bs 10 v) → Q (.ref D) H'
theorem ok_sets {f : Addr} {fd : FuncData} {k : Nat} (F : Fun K "_law_sets" "_law_sets" sSets f fd) : FnOk P w K mg base CX0 (k + 1) f fd ["_law_every"] spSets := by
  refine F.ok scSets (fun vs H Q E h => ?_) (fun cdv A outer s H vs Q E hr h => ?_)
  · obtain ⟨l, bs, rfl, _⟩ := h
    rfl
  obtain ⟨l, bs, rfl, hl, few, q⟩ := h
  have nd := scSets.nd
  refine ⟨_, pss_cons (ps_set (i := 1) nd rfl (.inl rfl) (pe_lst (pa_cons (pe_tup pa_nil) pa_nil)))
      (pss_cons (ps_for PassesOwn.never rfl (pi_list (pv 0)) (pg_name (i := 2) nd rfl (.inr rfl)) (pss_one (ps_set (i := 1) nd rfl (.inl rfl) (pe_op op_cat (pv 1) (pe_lc (own := [("_law_some", 3)]) (g := gName 3) (tt := tYes) (te := teSet K) rfl nd (pi_list (pv 1)) (blkOk_by (own := [("_law_some", 3)]) (N := NSe) (sc := defScope sSets) (by decide +kernel)) (fun _ _ _ _ _ => pg_name (i := 3) nd rfl (.inl rfl)) (fun _ _ _ _ _ => pts_nil) (fun _ _ _ _ _ => (pe_op op_catA (pv 3) (pe_tup (pa_cons (pv 2) pa_nil)))))))))
      (pss_one (ps_ret (pv 1)))), ?_⟩
  refine ⟨by decide, fun e0 ne0 => ⟨by show 1 ≤ sizeLine; decide, fun f0 nf0 => ?_⟩⟩
  have g1 := same_upd (o := .tup []) ne0
  have g2 := same_upd (o := .lst [.ref e0]) nf0
  have s2 := g1.trans g2
  refine ⟨.ref l, rfl, l, rfl, ⟨_, .inl (.inl (s2 _ _ hl))⟩, ?_⟩
  have pw : ∀ r, r ≤ 10 → 2 ^ r ≤ 1024 := fun r h => Nat.pow_le_pow_right (by decide) h
  refine for_list (xs := brefs bs) (fun r σ G => Same H G ∧ (∃ D us, G D = some (.lst us) ∧ us.length = 2 ^ r ∧ (∀ v ∈ us, SetAt G bs r v) ∧ ∃ y2, σ = [some (.ref l), some (.ref D), y2, none])) ⟨s2, f0, [.ref e0], upd_same, rfl, fun v hv => by
      rw [List.mem_singleton.mp hv]
      exact ⟨e0, [], rfl, g2 _ _ upd_same, Nat.le_refl _, fun b hb => nomatch hb⟩, _, rfl⟩ (fun r σ G _ h => .inl (.inl (h.1 _ _ hl))) ?_ ?_
  · rintro r x σ G hx ⟨sm, D, us, hD, lu, all, y2, rfl⟩
    obtain ⟨hr, rfl⟩ := at_ref hx
    have p10 := pw (r + 1) (by omega)
    have p2 : 2 ^ (r + 1) = 2 ^ r + 2 ^ r := by rw [Nat.pow_succ]; omega
    refine ⟨.ref D, rfl, ?_⟩
    refine lc_sets (b0 := bs[r]) (bs := bs) (r := r) rfl (fun v => rfl) (fun v => rfl) (fun v => rfl) hD (by omega) (by omega) all (List.getElem_mem hr) fun D2 zs G2 s3 nD2 hD2 lz az => ?_
    refine ⟨D, D2, us, zs, rfl, rfl, s3 _ _ hD, hD2, Nat.le_trans (show us.length + zs.length ≤ 100000 by omega) (by decide), fun l3 nl3 => ?_⟩
    have s4 := same_upd (o := .lst (us ++ zs)) nl3
    refine ⟨sm.trans (s3.trans s4), l3, us ++ zs, upd_same, by rw [List.length_append]; omega, fun v hv => ?_, _, rfl⟩
    rcases List.mem_append.mp hv with hv | hv
    · exact ((all v hv).keeps (Keeps.same (s3.trans s4))).up (by omega)
    · exact (az v hv).keeps (Keeps.same s4)
  · rintro σ G ⟨sm, D, us, hD, lu, all, y2, rfl⟩
    rw [List.length_map] at lu all
    have p10 := pw bs.length few
    exact ⟨.ref D, rfl, q D us G sm hD (by omega) fun v hv => (all v hv).up few⟩
end
end C2

namespace C2
set_option Elab.async false
set_option linter.all false
set_option maxRecDepth 100000
set_option maxHeartbeats 1000000
open PySem PySem.Spec PyProof.Rows L2 HT
theorem freshSeq {K : PySem.W.Frag} {p a : Addr} {G G' : Hp} {xs : List V} (h : SqL K G a xs) (n : G p = none) (f : Fr p G G') : SqL K G' a xs := by
  rcases h with (h | ⟨o, h⟩) | h
  · exact .inl (.inl (f _ _ (ne_of_none h n) h))
  · exact .inl (.inr ⟨o, f _ _ (ne_of_none h n) h⟩)
  · exact .inr h
theorem told_in {a b : Int} {K : List Wi} (k : ∀ w ∈ K, InW a b w) {w : Wi} (t : Told a b (· ∈ K) w) : InW a b w := by
  induction t with
  | known h => exact k _ h
  | step c hl _ _ hw _ _ => exact legs_in c hw
theorem oq_col : Oq (.str "column") 0 101 := okL.oq (by decide +kernel)
theorem oq_row : Oq (.str "row") 0 101 := okL.oq (by decide +kernel)
theorem oq_wire {a b : Nat} {x : WB} (h : InW a b x.2) (ha : a ≤ 40) (hb : b ≤ 40) : Oq (encW x) 1 306 := by
  obtain ⟨c, r, n, p⟩ := x
  have hw : Oq (.str (wordOf r)) 0 101 := by
    cases r
    · exact oq_col
    · exact oq_row
  have hn : Oq (.int n) 0 101 ∧ Oq (.int p) 0 101 := by
    rcases h with ⟨_, ⟨h1, h2⟩, h3, h4⟩ | ⟨_, ⟨h1, h2⟩, h3, h4⟩
    · have h1 : 0 ≤ n := h1
      have h2 : n < b := h2
      have h3 : 0 ≤ p := h3
      have h4 : p ≤ a := h4
      exact ⟨oq_int h1 (by omega), oq_int h3 (by omega)⟩
    · have h1 : 0 ≤ n := h1
      have h2 : n < a := h2
      have h3 : 0 ≤ p := h3
      have h4 : p ≤ b := h4
      exact ⟨oq_int h1 (by omega), oq_int h3 (by omega)⟩
  exact Oq.tup (n := 3) (fun d hd => by
    rcases List.mem_cons.mp hd with rfl | hd
    · exact hw
    rcases List.mem_cons.mp hd with rfl | hd
    · exact hn.1
    · rw [List.mem_singleton.mp hd]
      exact hn.2) (by show 3 ≤ 3; decide)
theorem wires_dq {G : Hp} : ∀ {bs : List WB}, WBs G bs → DqAll (fun _ => False) G (brefs bs) (bs.map encW)
  | [], _ => .nil
  | b :: bs, h => .cons (.tup (h b List.mem_cons_self) (fun z => z) (.cons (.str _) (.cons (.int _) (.cons (.int _) .nil)))) (wires_dq fun c hc => h c (List.mem_cons_of_mem _ hc))
theorem enc_same {bs cs : List WB} (h : bs.map (·.2) = cs.map (·.2)) : bs.map encW = cs.map encW := by
  have : ∀ ds : List WB, ds.map encW = (ds.map (·.2)).map fun x => encW (0, x) := fun ds => by rw [List.map_map]; rfl
  rw [this bs, this cs, h]
theorem told_shows {G : Hp} {T : Addr} {cs : List WB} {a b : Nat} {K : List Wi} (ha : a ≤ 3) (hb : b ≤ 3) (hT : G T = some (.tup (brefs cs))) (wb : WBs G cs) (l : cs.length ≤ (allW a b).length) (k : ∀ w ∈ K, InW a b w) (h : IsTold a b K cs) : Shows G (.ref T) (PyData.tuple (cs.map encW)).shown := by
  have l24 : (allW a b).length ≤ 24 := by
    rw [len_all]
    have h1 : a * (b + 1) ≤ 3 * 4 := Nat.mul_le_mul ha (by omega)
    have h2 : b * (a + 1) ≤ 3 * 4 := Nat.mul_le_mul hb (by omega)
    omega
  refine Oq.shows' (E := fun _ => False) (.tup hT (fun z => z) (wires_dq wb)) (Oq.tup (dp := 1) (wt := 306) (n := 24) (fun d hd => ?_) (by rw [List.length_map]; omega)) (by decide) (by decide)
  obtain ⟨x, hx, rfl⟩ := List.mem_map.mp hd
  obtain ⟨bs, rfl, _, m⟩ := h
  have mx := (m x.2).mp (List.mem_map.mpr ⟨x, (List.mergeSort_perm bs leW).mem_iff.mp hx, rfl⟩)
  exact oq_wire (told_in k mx) (by omega) (by omega)
section
variable {P : Program} {w : World} {K : PySem.W.Frag} {mg : Str → Option Value} {base : Heap}
abbrev NLw : List Str := ["_law_script", "_law_a", "_law_b", "_law_known", "_law_pot_here", "_law_turn", "_law_wire"]
theorem scLaw : FnScope NLw ["_law_script"] (defScope sLaw) := ⟨rfl, rfl, rfl, by decide +kernel, rfl, by decide +kernel, by decide +kernel⟩
def spLaw (K : PySem.W.Frag) : Sp := fun vs H Q _ => ∃ (a : Addr) (ns : List Int), vs = [.ref a] ∧ SqL K H a (ns.map V.int) ∧ ns.length ≤ 63 ∧ ∀ H', Q (.bl true) H'
def ttT : TT := tTest (tOp rEq (tCall spTake [] E0 (tCons (tVar 4) (tCons (tC (V.int 3)) tNil))) (tC (V.int 0)))
def tLook : TS := tIfS (tTest (tOp rNe (tCB rReprS (tCons (tCall spTold [] E0 (tCons (tVar 1) (tCons (tVar 2) (tCons (tVar 3) tNil)))) tNil)) (tCB rReprS (tCons (tCall spTold [] E0 (tCons (tVar 1) (tCons (tVar 2) (tCons (tVar 3) tNil)))) tNil)))) (tRet (tC (V.bl false))) tNext
theorem look_ok {D : Ends} {σ : L2.St} {G : Hp} {a b : Nat} {t : Addr} {bs : List WB} (h1 : σ[1]? = some (some (.int (a : Int)))) (h2 : σ[2]? = some (some (.int (b : Int)))) (h3 : σ[3]? = some (some (.ref t))) (ha : a ≤ 3) (hb : b ≤ 3) (ht : G t = some (.tup (brefs bs))) (wb : WBs G bs) (few : bs.length ≤ 4000) (inn : ∀ x ∈ bs.map (·.2), InW a b x) (q : ∀ G', Same G G' → D.nx σ G') : tLook D σ G := by
  refine ⟨.int (a : Int), h1, .int (b : Int), h2, .ref t, h3, a, b, t, bs, rfl, by omega, by omega, ht, wb, few, inn, fun T1 cs1 G1 s1 n1 hT1 wb1 l1 it1 => ⟨.ref T1, _, rfl, told_shows ha hb hT1 wb1 l1 inn it1, ?_⟩⟩
  refine ⟨.int (a : Int), h1, .int (b : Int), h2, .ref t, h3, a, b, t, bs, rfl, by omega, by omega, s1 _ _ ht, wb.same s1, few, inn, fun T2 cs2 G2 s2 n2 hT2 wb2 l2 it2 => ?_⟩
  have sh := told_shows ha hb hT2 wb2 l2 inn it2
  rw [enc_same (it2.one it1)] at sh
  generalize (PyData.tuple (cs1.map encW)).shown = S at sh ⊢
  refine ⟨.ref T2, S, rfl, sh, rfl, _, rfl, ?_⟩
  have en : (!decide (V.str S = V.str S)) = false := by rw [decide_eq_true rfl]; rfl
  rw [en]
  exact iteF (q G2 (s1.trans s2))
/-- some of the wires, drawn -/
theorem lc_some {σ : L2.St} {G : Hp} {Q : VK} {tw : TE} {p : Addr} {a b n : Nat} (ha : a ≤ 3) (hb : b ≤ 3) (hw : ∀ v, wipe ((wipe σ [6]).set 6 (some v)) [6] = wipe σ [6]) (h6 : ∀ v : V, ((wipe σ [6]).set 6 (some v))[6]? = some (some v)) (h4 : ∀ v : V, ((wipe σ [6]).set 6 (some v))[4]? = some (some (.ref p))) (hP : PotAt G p n) (hn : n < 900000)
    (htw : ∀ R : VK, (∀ l bs G', Same G G' → G l = none → G' l = some (.lst (brefs bs)) → WBs G' bs → bs.map (·.2) = allW a b → R (.ref l) G') → tw σ G R)
    (q : ∀ D fbs G', Fr p G G' → PotAt G' p (n + 24) → G' D = some (.lst (brefs fbs)) → WBs G' fbs → fbs.length ≤ 24 → (∀ x ∈ fbs.map (·.2), InW a b x) → Q (.ref D) G') : tLc (iList K tw) (gName 6) ttT (tVar 6) [6] σ G Q := by
  refine htw _ fun l bs G1 s1 nl hl wb eb => ⟨l, rfl, ⟨_, .inl (.inl hl)⟩, fun D nD => ?_⟩
  have lp : l ≠ p := hP.ne nl
  have P1 := hP.same s1
  have Dp : D ≠ p := P1.ne nD
  have lb : bs.length ≤ 24 := by
    rw [← List.length_map (f := fun x : WB => x.2), eb, len_all]
    have h1 : a * (b + 1) ≤ 3 * 4 := Nat.mul_le_mul ha (by omega)
    have h2 : b * (a + 1) ≤ 3 * 4 := Nat.mul_le_mul hb (by omega)
    omega
  refine lc_list (xs := brefs bs) (fun m G' => Fr p G1 G' ∧ PotAt G' p (n + m) ∧ ∃ fbs : List WB, G' D = some (.lst (brefs fbs)) ∧ (∀ b ∈ fbs, b ∈ bs) ∧ fbs.length ≤ m) ⟨Fr.new nD, P1.new nD, [], upd_same, (fun b hb => nomatch hb), Nat.le_refl _⟩ (fun m G' _ h => .inl (.inl (h.1 _ _ lp hl))) ?_ ?_
  · rintro m v G' hv ⟨fr, pt, fbs, hD, sub, lf⟩
    obtain ⟨hm, rfl⟩ := at_ref hv
    refine ⟨hw _, .ref p, h4 _, p, 3, n + m, rfl, pt, by omega, by decide, by decide, fun d G2 f2 P2 d0 d1 => ⟨rfl, _, rfl, ite2 (fun z => ?_) (fun z => ?_)⟩⟩
    · refine ⟨_, h6 _, brefs fbs, f2 _ _ Dp hD, Nat.lt_of_lt_of_le (show (brefs fbs).length < 1000 by rw [List.length_map]; omega) (by decide), fr_at (fr.trans f2) nD, P2.at Dp, fbs ++ [bs[m]], by rw [upd_same, brefs_app]; rfl, fun b hb' => ?_, by rw [List.length_append, List.length_singleton]; omega⟩
      rcases List.mem_append.mp hb' with hb' | hb'
      · exact sub b hb'
      · rw [List.mem_singleton.mp hb']
        exact List.getElem_mem hm
    · exact ⟨fr.trans f2, P2, fbs, f2 _ _ Dp hD, sub, by omega⟩
  · rintro G' ⟨fr, pt, fbs, hD, sub, lf⟩
    rw [List.length_map] at pt lf
    refine q D fbs G' ((Fr.same s1).trans fr) (pt.mono (by omega)) hD (fun b hb' => ?_) (by omega) fun x hx => ?_
    · refine fr _ _ (fun z => ?_) (wb b (sub b hb'))
      obtain ⟨g, c, u, e, _⟩ := P1
      have z2 := wb b (sub b hb')
      rw [z, e] at z2
      cases z2
    · obtain ⟨y, hy, rfl⟩ := List.mem_map.mp hx
      have : y.2 ∈ bs.map (·.2) := List.mem_map.mpr ⟨y, sub y hy, rfl⟩
      rw [eb] at this
      exact all_w.mp this
/-- a pair of small numbers -/
def Pr2 (G : Hp) (m : Nat) (v : V) : Prop := ∃ (c : Addr) (x y : Nat), v = .ref c ∧ G c = some (.tup [.int (x : Int), .int (y : Int)]) ∧ x ≤ 3 ∧ y ≤ 3 ∧ x * (y + 1) + y * (x + 1) ≤ m
theorem ok_law {f fPo fT fLl fLw fLt fSe fTo fSt fL fC fTl fI fH : Addr} {fd fdPo fdT fdLl fdLw fdLt fdSe fdTo fdSt fdL fdC fdTl fdI fdH : FuncData} (F : Fun K "law" "law" sLaw f fd) (FPo : Fun K "_law_pot" "_law_pot" sDraws fPo fdPo) (FT : Fun K "_law_take" "_law_take" sTake fT fdT) (FLl : Fun K "_law_legs" "_law_legs" sLLegs fLl fdLl) (FLw : Fun K "_law_wires" "_law_wires" sLWires fLw fdLw) (FLt : Fun K "_law_told" "_law_told" sLTold fLt fdLt) (FSe : Fun K "_law_sets" "_law_sets" sSets fSe fdSe) (FTo : Fun K "told" "told" sTold fTo fdTo) (FSt : Fun K "steps" "steps" sSteps fSt fdSt) (FL : Fun K "legs" "legs" sLegs fL fdL) (FC : Fun K "crossings_at" "crossings_at" sCrossAt fC fdC) (FTl : Fun K "telling_leg" "telling_leg" sTellLeg fTl fdTl) (FI : Fun K "is_telling" "is_telling" sIsTell fI fdI) (FH : Fun K "hold" "hold" sHold fH fdH)
    (bPo : Binds K fdPo ["_law_script", "_law_k"] []) (bT : Binds K fdT ["_law_pot_here", "_law_many"] []) (bLl : Binds K fdLl ["_law_i", "_law_j"] []) (bLw : Binds K fdLw ["_law_a", "_law_b"] []) (bLt : Binds K fdLt ["_law_a", "_law_b", "_law_known"] []) (bSe : Binds K fdSe ["_law_every"] []) (bTo : Binds K fdTo ["a", "b", "known"] []) (bSt : Binds K fdSt ["a", "b", "known"] []) (bL : Binds K fdL ["i", "j"] []) (bC : Binds K fdC ["a", "b", "wire"] []) (bTl : Binds K fdTl ["held", "i", "j"] []) (bI : Binds K fdI ["held", "i", "j", "leg"] []) (bH : Binds K fdH ["held", "i", "j"] [])
    (gPo : mg "_law_pot" = some (.ref fPo)) (gT : mg "_law_take" = some (.ref fT)) (gLl : mg "_law_legs" = some (.ref fLl)) (gLw : mg "_law_wires" = some (.ref fLw)) (gLt : mg "_law_told" = some (.ref fLt)) (gSe : mg "_law_sets" = some (.ref fSe)) (gTo : mg "told" = some (.ref fTo)) (gSt : mg "steps" = some (.ref fSt)) (gL : mg "legs" = some (.ref fL)) (gC : mg "crossings_at" = some (.ref fC)) (gTl : mg "telling_leg" = some (.ref fTl)) (gI : mg "is_telling" = some (.ref fI)) (gH : mg "hold" = some (.ref fH))
    (mtup : mg "tuple" = none) (ml : mg "len" = none) (mr : mg "range" = none) (mrep : mg "repr" = none) (ma : mg "abs" = none) (ms : mg "sorted" = none) (mlist : mg "list" = none) (mdict : mg "dict" = none) (mny : mg "any" = none) :
    FnG P w K mg base 6 f fd ["_law_script"] (spLaw K) := by
  have GPo : FnOk P w K mg base CX0 1 fPo fdPo ["_law_script", "_law_k"] (spDraws K) := ok_draws FPo ml ma
  have GT : FnOk P w K mg base CX0 1 fT fdT ["_law_pot_here", "_law_many"] spTake := ok_take FT
  have GLw : FnOk P w K mg base CX0 1 fLw fdLw ["_law_a", "_law_b"] spLWires := ok_lwires FLw mr
  have GSe : FnOk P w K mg base CX0 1 fSe fdSe ["_law_every"] spSets := ok_sets FSe
  have GLt : FnOk P w K mg base CX0 2 fLt fdLt ["_law_a", "_law_b", "_law_known"] spTold := ok_ltold FLt FLl bLl gLl ml mtup mr ms mdict mny
  have GTo : FnOk P w K mg base CX0 5 fTo fdTo ["a", "b", "known"] spTold := ok_told FTo FSt FL FC FTl FI FH bSt bL bC bTl bI bH gSt gL gC gTl gI gH mlist mtup mr ms
  refine okG F scLaw (fun vs H Q E h => ?_) (fun cdv A outer s H vs Q E hgd hr h => ?_)
  · obtain ⟨a, ns, rfl, _⟩ := h
    rfl
  obtain ⟨z, ns, rfl, hS, hlen, q⟩ := h
  have nd := scLaw.nd
  refine ⟨_, pss_cons (ps_for PassesOwn.never rfl (pi_tup (pe_tup (pa_cons (pe_tup (pa_cons pe_int (pa_cons pe_int pa_nil))) (pa_cons (pe_tup (pa_cons pe_int (pa_cons pe_int pa_nil))) (pa_cons (pe_tup (pa_cons pe_int (pa_cons pe_int pa_nil))) (pa_cons (pe_tup (pa_cons pe_int (pa_cons pe_int pa_nil))) (pa_cons (pe_tup (pa_cons pe_int (pa_cons pe_int pa_nil))) (pa_cons (pe_tup (pa_cons pe_int (pa_cons pe_int pa_nil))) pa_nil)))))))) (pg_tup rfl (pgs_cons (pg_name (i := 1) nd rfl (.inl rfl)) (pgs_cons (pg_name (i := 2) nd rfl (.inl rfl)) pgs_nil))) (pss_one (ps_for PassesOwn.never rfl (pi_list (pe_call GSe (hr.mono (by decide)) (by rfl) gSe FSe.kp bSe .nil pass0 (pa_cons (pe_call GLw (hr.mono (by decide)) (by rfl) gLw FLw.kp bLw .nil pass0 (pa_cons (pv 1) (pa_cons (pv 2) pa_nil))) pa_nil))) (pg_name (i := 3) nd rfl (.inl rfl)) (pss_one (ps_if (pt_cmpR op_ne (pe_callB (call_reprS hr.units hgd) (by rfl) mrep (by decide +kernel) (pa_cons (pe_call GTo (hr.mono (by decide)) (by rfl) gTo FTo.kp bTo .nil pass0 (pa_cons (pv 1) (pa_cons (pv 2) (pa_cons (pv 3) pa_nil)))) pa_nil)) (pe_callB (call_reprS hr.units hgd) (by rfl) mrep (by decide +kernel) (pa_cons (pe_call GLt (hr.mono (by decide)) (by rfl) gLt FLt.kp bLt .nil pass0 (pa_cons (pv 1) (pa_cons (pv 2) (pa_cons (pv 3) pa_nil)))) pa_nil)) (nomark _)) (pss_one (ps_ret pe_bl)) pss_nil)))))
      (pss_cons (ps_set (i := 4) nd rfl (.inr rfl) (pe_call GPo (hr.mono (by decide)) (by rfl) gPo FPo.kp bPo .nil pass0 (pa_cons (pv 0) (pa_cons pe_int pa_nil))))
      (pss_cons (ps_for PassesOwn.never rfl (pi_tup (pe_tup (pa_cons (pe_tup (pa_cons pe_int (pa_cons pe_int pa_nil))) (pa_cons (pe_tup (pa_cons pe_int (pa_cons pe_int pa_nil))) (pa_cons (pe_tup (pa_cons pe_int (pa_cons pe_int pa_nil))) pa_nil))))) (pg_tup rfl (pgs_cons (pg_name (i := 1) nd rfl (.inl rfl)) (pgs_cons (pg_name (i := 2) nd rfl (.inl rfl)) pgs_nil))) (pss_one (ps_for PassesOwn.never rfl (pi_range1 (by rfl) mr (pa_cons pe_int pa_nil)) (pg_name (i := 5) nd rfl (.inl rfl)) (pss_cons (ps_set (i := 3) nd rfl (.inl rfl) (pe_callTy call_tuple_of (by rfl) mtup (by decide +kernel) (pa_cons (pe_lc (own := [("_law_wire", 6)]) (g := gName 6) (tt := ttT) (te := tVar 6) rfl nd (pi_list (pe_call GLw (hr.mono (by decide)) (by rfl) gLw FLw.kp bLw .nil pass0 (pa_cons (pv 1) (pa_cons (pv 2) pa_nil)))) (blkOk_by (own := [("_law_wire", 6)]) (N := NLw) (sc := defScope sLaw) (by decide +kernel)) (fun _ _ _ _ _ => pg_name (i := 6) nd rfl (.inl rfl)) (fun _ _ _ _ _ => (pts_one (pt_cmpR op_eq (pe_call GT (hr.mono (by decide)) (by rfl) gT FT.kp bT .nil pass0 (pa_cons (pv 4) (pa_cons pe_int pa_nil))) pe_int (nomark _)))) (fun _ _ _ _ _ => (pv 6))) pa_nil)))
      (pss_one (ps_if (pt_cmpR op_ne (pe_callB (call_reprS hr.units hgd) (by rfl) mrep (by decide +kernel) (pa_cons (pe_call GTo (hr.mono (by decide)) (by rfl) gTo FTo.kp bTo .nil pass0 (pa_cons (pv 1) (pa_cons (pv 2) (pa_cons (pv 3) pa_nil)))) pa_nil)) (pe_callB (call_reprS hr.units hgd) (by rfl) mrep (by decide +kernel) (pa_cons (pe_call GLt (hr.mono (by decide)) (by rfl) gLt FLt.kp bLt .nil pass0 (pa_cons (pv 1) (pa_cons (pv 2) (pa_cons (pv 3) pa_nil)))) pa_nil)) (nomark _)) (pss_one (ps_ret pe_bl)) pss_nil))))))
      (pss_one (ps_ret pe_bl)))), ?_⟩
  refine ⟨by show 2 ≤ sizeLine; decide, fun a1 m1 => ⟨by show 2 ≤ sizeLine; decide, fun a2 m2 => ⟨by show 2 ≤ sizeLine; decide, fun a3 m3 => ⟨by show 2 ≤ sizeLine; decide, fun a4 m4 => ⟨by show 2 ≤ sizeLine; decide, fun a5 m5 => ⟨by show 2 ≤ sizeLine; decide, fun a6 m6 => ⟨by show 6 ≤ sizeLine; decide, fun T0 n0 => ?_⟩⟩⟩⟩⟩⟩⟩
  have r1 := same_upd (o := .tup [.int ((1 : Nat) : Int), .int ((1 : Nat) : Int)]) m1
  have r2 := same_upd (o := .tup [.int ((2 : Nat) : Int), .int ((1 : Nat) : Int)]) m2
  have r3 := same_upd (o := .tup [.int ((1 : Nat) : Int), .int ((2 : Nat) : Int)]) m3
  have r4 := same_upd (o := .tup [.int ((0 : Nat) : Int), .int ((2 : Nat) : Int)]) m4
  have r5 := same_upd (o := .tup [.int ((2 : Nat) : Int), .int ((0 : Nat) : Int)]) m5
  have r6 := same_upd (o := .tup [.int ((0 : Nat) : Int), .int ((0 : Nat) : Int)]) m6
  have r7 := same_upd (o := .tup [.ref a1, .ref a2, .ref a3, .ref a4, .ref a5, .ref a6]) n0
  have t6 := r7
  have t5 := r6.trans t6
  have t4 := r5.trans t5
  have t3 := r4.trans t4
  have t2 := r3.trans t3
  have t1 := r2.trans t2
  have t0 := r1.trans t1
  have prs : ∀ v ∈ [V.ref a1, .ref a2, .ref a3, .ref a4, .ref a5, .ref a6], Pr2 (upd _ T0 (.tup [.ref a1, .ref a2, .ref a3, .ref a4, .ref a5, .ref a6])) 7 v := fun v hv => by
    rcases List.mem_cons.mp hv with rfl | hv
    · exact ⟨a1, 1, 1, rfl, t1 _ _ upd_same, by decide, by decide, by decide⟩
    rcases List.mem_cons.mp hv with rfl | hv
    · exact ⟨a2, 2, 1, rfl, t2 _ _ upd_same, by decide, by decide, by decide⟩
    rcases List.mem_cons.mp hv with rfl | hv
    · exact ⟨a3, 1, 2, rfl, t3 _ _ upd_same, by decide, by decide, by decide⟩
    rcases List.mem_cons.mp hv with rfl | hv
    · exact ⟨a4, 0, 2, rfl, t4 _ _ upd_same, by decide, by decide, by decide⟩
    rcases List.mem_cons.mp hv with rfl | hv
    · exact ⟨a5, 2, 0, rfl, t5 _ _ upd_same, by decide, by decide, by decide⟩
    · rw [List.mem_singleton.mp hv]
      exact ⟨a6, 0, 0, rfl, t6 _ _ upd_same, by decide, by decide, by decide⟩
  have hT0 := upd_same (H := upd (upd (upd (upd (upd (upd H a1 (.tup [.int ((1 : Nat) : Int), .int ((1 : Nat) : Int)])) a2 (.tup [.int ((2 : Nat) : Int), .int ((1 : Nat) : Int)])) a3 (.tup [.int ((1 : Nat) : Int), .int ((2 : Nat) : Int)])) a4 (.tup [.int ((0 : Nat) : Int), .int ((2 : Nat) : Int)])) a5 (.tup [.int ((2 : Nat) : Int), .int ((0 : Nat) : Int)])) a6 (.tup [.int ((0 : Nat) : Int), .int ((0 : Nat) : Int)])) (a := T0) (o := .tup [.ref a1, .ref a2, .ref a3, .ref a4, .ref a5, .ref a6])
  refine ⟨T0, rfl, ⟨_, .inl (.inl hT0)⟩, ?_⟩
  have sH0 := t0
  generalize upd (upd (upd (upd (upd (upd (upd H a1 (.tup [.int ((1 : Nat) : Int), .int ((1 : Nat) : Int)])) a2 (.tup [.int ((2 : Nat) : Int), .int ((1 : Nat) : Int)])) a3 (.tup [.int ((1 : Nat) : Int), .int ((2 : Nat) : Int)])) a4 (.tup [.int ((0 : Nat) : Int), .int ((2 : Nat) : Int)])) a5 (.tup [.int ((2 : Nat) : Int), .int ((0 : Nat) : Int)])) a6 (.tup [.int ((0 : Nat) : Int), .int ((0 : Nat) : Int)])) T0 (.tup [.ref a1, .ref a2, .ref a3, .ref a4, .ref a5, .ref a6]) = H0 at sH0 prs hT0
  generalize [V.ref a1, .ref a2, .ref a3, .ref a4, .ref a5, .ref a6] = v0 at prs hT0
  refine for_tup (xs := v0) (fun r σ G => Same H0 G ∧ ∃ y1 y2 y3, σ = [some (.ref z), y1, y2, y3, none, none, none]) ⟨Same.refl _, _, _, _, rfl⟩ (fun r σ G _ h => .inl (.inl (h.1 _ _ hT0))) ?_ ?_
  · rintro r x σ G hx ⟨sm, y1, y2, y3, rfl⟩
    obtain ⟨c, a, b, rfl, hc, a3', b3', few⟩ := prs x (List.mem_of_getElem? hx)
    refine ⟨c, _, rfl, .inl (.inl (sm _ _ hc)), rfl, _, _, rfl, _, _, rfl, rfl, ?_⟩
    refine ⟨.int (a : Int), rfl, .int (b : Int), rfl, a, b, rfl, by omega, by omega, fun l bs G1 s1 nl hl wb eb => ?_⟩
    have lb : bs.length ≤ 7 := by
      rw [← List.length_map (f := fun x : WB => x.2), eb, len_all]
      exact few
    refine ⟨l, bs, rfl, hl, by omega, fun D us G2 s2 hD lu all => ⟨D, rfl, ⟨_, .inl (.inl hD)⟩, ?_⟩⟩
    refine for_list (xs := us) (fun e σ G' => Same G2 G' ∧ ∃ y3, σ = [some (.ref z), some (.int (a : Int)), some (.int (b : Int)), y3, none, none, none]) ⟨Same.refl _, _, rfl⟩ (fun e σ G' _ h => .inl (.inl (h.1 _ _ hD))) ?_ ?_
    · rintro e v σ G3 hv ⟨sm3, y3, rfl⟩
      obtain ⟨t, cs, rfl, ht, lc, sub⟩ := all v (List.mem_of_getElem? hv)
      show tLook _ [some (.ref z), some (.int (a : Int)), some (.int (b : Int)), some (.ref t), none, none, none] G3
      refine look_ok rfl rfl rfl a3' b3' (sm3 _ _ ht) (fun b' hb' => (s2.trans sm3) _ _ (wb b' (sub b' hb'))) (by omega) (fun x hx => ?_) fun G' s' => ⟨sm3.trans s', _, rfl⟩
      obtain ⟨y, hy, rfl⟩ := List.mem_map.mp hx
      have : y.2 ∈ bs.map (·.2) := List.mem_map.mpr ⟨y, sub y hy, rfl⟩
      rw [eb] at this
      exact all_w.mp this
    · rintro σ G3 ⟨sm3, y3, rfl⟩
      exact ⟨sm.trans (s1.trans (s2.trans sm3)), _, _, _, rfl⟩
  · rintro σ G ⟨sm, y1, y2, y3, rfl⟩
    have hSG := (sH0.trans sm).seq hS
    refine ⟨.ref z, rfl, z, ns, 0, rfl, hSG, by decide, fun H1 p sm1 np hP1 => ?_⟩
    refine gName_run ?_
    dsimp only [List.set]
    refine ⟨by show 2 ≤ sizeLine; decide, fun b1 k1 => ⟨by show 2 ≤ sizeLine; decide, fun b2 k2 => ⟨by show 2 ≤ sizeLine; decide, fun b3 k3 => ⟨by show 3 ≤ sizeLine; decide, fun T1 n1 => ?_⟩⟩⟩⟩
    have u1 := same_upd (o := .tup [.int ((3 : Nat) : Int), .int ((1 : Nat) : Int)]) k1
    have u2 := same_upd (o := .tup [.int ((1 : Nat) : Int), .int ((3 : Nat) : Int)]) k2
    have u3 := same_upd (o := .tup [.int ((2 : Nat) : Int), .int ((2 : Nat) : Int)]) k3
    have u4 := same_upd (o := .tup [.ref b1, .ref b2, .ref b3]) n1
    have w3 := u4
    have w2 := u3.trans w3
    have w1 := u2.trans w2
    have w0 := u1.trans w1
    have prs2 : ∀ v ∈ [V.ref b1, .ref b2, .ref b3], Pr2 (upd _ T1 (.tup [.ref b1, .ref b2, .ref b3])) 12 v := fun v hv => by
      rcases List.mem_cons.mp hv with rfl | hv
      · exact ⟨b1, 3, 1, rfl, w1 _ _ upd_same, by decide, by decide, by decide⟩
      rcases List.mem_cons.mp hv with rfl | hv
      · exact ⟨b2, 1, 3, rfl, w2 _ _ upd_same, by decide, by decide, by decide⟩
      · rw [List.mem_singleton.mp hv]
        exact ⟨b3, 2, 2, rfl, w3 _ _ upd_same, by decide, by decide, by decide⟩
    have hT1 := upd_same (H := upd (upd (upd H1 b1 (.tup [.int ((3 : Nat) : Int), .int ((1 : Nat) : Int)])) b2 (.tup [.int ((1 : Nat) : Int), .int ((3 : Nat) : Int)])) b3 (.tup [.int ((2 : Nat) : Int), .int ((2 : Nat) : Int)])) (a := T1) (o := .tup [.ref b1, .ref b2, .ref b3])
    refine ⟨T1, rfl, ⟨_, .inl (.inl hT1)⟩, ?_⟩
    have P2 := hP1.same w0
    generalize upd (upd (upd (upd H1 b1 (.tup [.int ((3 : Nat) : Int), .int ((1 : Nat) : Int)])) b2 (.tup [.int ((1 : Nat) : Int), .int ((3 : Nat) : Int)])) b3 (.tup [.int ((2 : Nat) : Int), .int ((2 : Nat) : Int)])) T1 (.tup [.ref b1, .ref b2, .ref b3]) = H2 at P2 prs2 hT1
    have l3 : [V.ref b1, .ref b2, .ref b3].length ≤ 3 := by show 3 ≤ 3; decide
    generalize [V.ref b1, .ref b2, .ref b3] = v1 at prs2 hT1 l3
    have tp : ∀ {c : Addr} {us : List V}, H2 c = some (.tup us) → c ≠ p := fun h z => by
      obtain ⟨g, c, u, e, _⟩ := P2
      rw [z, e] at h
      cases h
    refine for_tup (xs := v1) (fun r σ G => Fr p H2 G ∧ PotAt G p (200 * r) ∧ r ≤ v1.length ∧ ∃ y1 y2 y3 y5, σ = [some (.ref z), y1, y2, y3, some (.ref p), y5, none]) ⟨Fr.refl _ _, P2, Nat.zero_le _, _, _, _, _, rfl⟩ (fun r σ G _ h => .inl (.inl (h.1 _ _ (tp hT1) hT1))) ?_ ?_
    · rintro r x σ G hx ⟨fr, pt, _, y1, y2, y3, y5, rfl⟩
      have hr1 : r < v1.length := (List.getElem?_eq_some_iff.mp hx).1
      obtain ⟨c, a, b, rfl, hc, a3', b3', few⟩ := prs2 x (List.mem_of_getElem? hx)
      refine ⟨c, _, rfl, .inl (.inl (fr _ _ (tp hc) hc)), rfl, _, _, rfl, _, _, rfl, rfl, ?_⟩
      refine ⟨8, rfl, by decide, by decide, ?_⟩
      refine for_range (lo := 0) (n := 8) (fun e σ G' => Fr p H2 G' ∧ PotAt G' p (200 * r + 24 * e) ∧ ∃ y3 y5, σ = [some (.ref z), some (.int (a : Int)), some (.int (b : Int)), y3, some (.ref p), y5, none]) ⟨fr, pt, _, _, rfl⟩ ?_ ?_
      · rintro e σ G3 he ⟨fr3, pt3, y3, y5, rfl⟩
        refine seqAsg (tcb_run ?_)
        refine lc_some (a := a) (b := b) (n := 200 * r + 24 * e) a3' b3' (fun v => rfl) (fun v => rfl) (fun v => rfl) pt3 (by have : v1.length ≤ 3 := l3; omega) (fun R h => ⟨.int (a : Int), rfl, .int (b : Int), rfl, a, b, rfl, by omega, by omega, fun l bs G' s' nl hl wb eb => h l bs G' s' nl hl wb eb⟩) fun D fbs G4 f4 P4 hD wf lf inn => ?_
        refine ⟨D, _, rfl, .inl ⟨.inl (.inl hD), fun t nt => ?_⟩⟩
        have st := same_upd (o := .tup (brefs fbs)) nt
        show tLook _ [some (.ref z), some (.int (a : Int)), some (.int (b : Int)), some (.ref t), some (.ref p), _, none] _
        refine look_ok rfl rfl rfl a3' b3' upd_same (wf.same st) (by omega) inn fun G' s' => ⟨fr3.trans (f4.trans (Fr.same (st.trans s'))), ((P4.same st).same s').mono (by omega), _, _, rfl⟩
      · rintro σ G3 ⟨fr3, pt3, y3, y5, rfl⟩
        exact ⟨fr3, pt3.mono (by omega), hr1, _, _, _, _, rfl⟩
    · rintro σ G ⟨fr, pt, _, y1, y2, y3, y5, rfl⟩
      exact q _
end
end C2

namespace C2
set_option Elab.async false
set_option linter.all false
set_option maxRecDepth 100000
set_option maxHeartbeats 4000000
open PySem PySem.Spec PyProof.Rows L2
theorem all_mk {l : PySem.W.OpenLaw} {w : World} {K : PySem.W.Frag} {h : Heap} {mg : Str → Option Value} {fa f1 f2 f3 f4 f5 f6 f7 f8 f9 f10 f11 f12 f13 f14 : Addr} (X : K.In h) (G : h.Ns mainGlobals mg) (hfa : mg "law" = some (.ref fa))
    {od1 an1 od2 an2 od3 an3 od4 an4 od5 an5 od6 an6 od7 an7 od8 an8 od9 an9 od10 an10 od11 an11 od12 an12 od13 an13 od14 an14 : Option Addr} {sl1 sl2 sl3 sl4 sl5 sl6 sl7 sl8 sl9 sl10 sl11 sl12 sl13 sl14 : Array (Option Value)}
    {oc1 kV1 dc1 pm1 cd1 ct1 oc2 kV2 dc2 pm2 cd2 ct2 oc3 kV3 dc3 pm3 cd3 ct3 oc4 kV4 dc4 pm4 cd4 ct4 oc5 kV5 dc5 pm5 cd5 ct5 oc6 kV6 dc6 pm6 cd6 ct6 oc7 kV7 dc7 pm7 cd7 ct7 oc8 kV8 dc8 pm8 cd8 ct8 oc9 kV9 dc9 pm9 cd9 ct9 oc10 kV10 dc10 pm10 cd10 ct10 oc11 kV11 dc11 pm11 cd11 ct11 oc12 kV12 dc12 pm12 cd12 ct12 oc13 kV13 dc13 pm13 cd13 ct13 oc14 kV14 dc14 pm14 cd14 ct14 : Value}
    (a1 : PySem.W.nsIn K mainGlobals "_law_pot" = some (some (.ref f1))) (l1 : K.lookup f1 = some ⟨oc1, od1, .func (PySem.W.fnOf "_law_pot" "_law_pot" (defArgs sDraws) (defBody sDraws) (defScope sDraws) .none kV1 dc1 pm1 an1 cd1 ct1), sl1⟩) (c1 : PySem.W.codeIn K cd1 "_law_pot" = true) (k1 : PySem.W.keepIn K (.ref f1) = true)
    (a2 : PySem.W.nsIn K mainGlobals "_law_take" = some (some (.ref f2))) (l2 : K.lookup f2 = some ⟨oc2, od2, .func (PySem.W.fnOf "_law_take" "_law_take" (defArgs sTake) (defBody sTake) (defScope sTake) .none kV2 dc2 pm2 an2 cd2 ct2), sl2⟩) (c2 : PySem.W.codeIn K cd2 "_law_take" = true) (k2 : PySem.W.keepIn K (.ref f2) = true)
    (a3 : PySem.W.nsIn K mainGlobals "_law_legs" = some (some (.ref f3))) (l3 : K.lookup f3 = some ⟨oc3, od3, .func (PySem.W.fnOf "_law_legs" "_law_legs" (defArgs sLLegs) (defBody sLLegs) (defScope sLLegs) .none kV3 dc3 pm3 an3 cd3 ct3), sl3⟩) (c3 : PySem.W.codeIn K cd3 "_law_legs" = true) (k3 : PySem.W.keepIn K (.ref f3) = true)
    (a4 : PySem.W.nsIn K mainGlobals "_law_wires" = some (some (.ref f4))) (l4 : K.lookup f4 = some ⟨oc4, od4, .func (PySem.W.fnOf "_law_wires" "_law_wires" (defArgs sLWires) (defBody sLWires) (defScope sLWires) .none kV4 dc4 pm4 an4 cd4 ct4), sl4⟩) (c4 : PySem.W.codeIn K cd4 "_law_wires" = true) (k4 : PySem.W.keepIn K (.ref f4) = true)
    (a5 : PySem.W.nsIn K mainGlobals "_law_told" = some (some (.ref f5))) (l5 : K.lookup f5 = some ⟨oc5, od5, .func (PySem.W.fnOf "_law_told" "_law_told" (defArgs sLTold) (defBody sLTold) (defScope sLTold) .none kV5 dc5 pm5 an5 cd5 ct5), sl5⟩) (c5 : PySem.W.codeIn K cd5 "_law_told" = true) (k5 : PySem.W.keepIn K (.ref f5) = true)
    (a6 : PySem.W.nsIn K mainGlobals "_law_sets" = some (some (.ref f6))) (l6 : K.lookup f6 = some ⟨oc6, od6, .func (PySem.W.fnOf "_law_sets" "_law_sets" (defArgs sSets) (defBody sSets) (defScope sSets) .none kV6 dc6 pm6 an6 cd6 ct6), sl6⟩) (c6 : PySem.W.codeIn K cd6 "_law_sets" = true) (k6 : PySem.W.keepIn K (.ref f6) = true)
    (a7 : PySem.W.nsIn K mainGlobals "told" = some (some (.ref f7))) (l7 : K.lookup f7 = some ⟨oc7, od7, .func (PySem.W.fnOf "told" "told" (defArgs sTold) (defBody sTold) (defScope sTold) .none kV7 dc7 pm7 an7 cd7 ct7), sl7⟩) (c7 : PySem.W.codeIn K cd7 "told" = true) (k7 : PySem.W.keepIn K (.ref f7) = true)
    (a8 : PySem.W.nsIn K mainGlobals "steps" = some (some (.ref f8))) (l8 : K.lookup f8 = some ⟨oc8, od8, .func (PySem.W.fnOf "steps" "steps" (defArgs sSteps) (defBody sSteps) (defScope sSteps) .none kV8 dc8 pm8 an8 cd8 ct8), sl8⟩) (c8 : PySem.W.codeIn K cd8 "steps" = true) (k8 : PySem.W.keepIn K (.ref f8) = true)
    (a9 : PySem.W.nsIn K mainGlobals "legs" = some (some (.ref f9))) (l9 : K.lookup f9 = some ⟨oc9, od9, .func (PySem.W.fnOf "legs" "legs" (defArgs sLegs) (defBody sLegs) (defScope sLegs) .none kV9 dc9 pm9 an9 cd9 ct9), sl9⟩) (c9 : PySem.W.codeIn K cd9 "legs" = true) (k9 : PySem.W.keepIn K (.ref f9) = true)
    (a10 : PySem.W.nsIn K mainGlobals "crossings_at" = some (some (.ref f10))) (l10 : K.lookup f10 = some ⟨oc10, od10, .func (PySem.W.fnOf "crossings_at" "crossings_at" (defArgs sCrossAt) (defBody sCrossAt) (defScope sCrossAt) .none kV10 dc10 pm10 an10 cd10 ct10), sl10⟩) (c10 : PySem.W.codeIn K cd10 "crossings_at" = true) (k10 : PySem.W.keepIn K (.ref f10) = true)
    (a11 : PySem.W.nsIn K mainGlobals "telling_leg" = some (some (.ref f11))) (l11 : K.lookup f11 = some ⟨oc11, od11, .func (PySem.W.fnOf "telling_leg" "telling_leg" (defArgs sTellLeg) (defBody sTellLeg) (defScope sTellLeg) .none kV11 dc11 pm11 an11 cd11 ct11), sl11⟩) (c11 : PySem.W.codeIn K cd11 "telling_leg" = true) (k11 : PySem.W.keepIn K (.ref f11) = true)
    (a12 : PySem.W.nsIn K mainGlobals "is_telling" = some (some (.ref f12))) (l12 : K.lookup f12 = some ⟨oc12, od12, .func (PySem.W.fnOf "is_telling" "is_telling" (defArgs sIsTell) (defBody sIsTell) (defScope sIsTell) .none kV12 dc12 pm12 an12 cd12 ct12), sl12⟩) (c12 : PySem.W.codeIn K cd12 "is_telling" = true) (k12 : PySem.W.keepIn K (.ref f12) = true)
    (a13 : PySem.W.nsIn K mainGlobals "hold" = some (some (.ref f13))) (l13 : K.lookup f13 = some ⟨oc13, od13, .func (PySem.W.fnOf "hold" "hold" (defArgs sHold) (defBody sHold) (defScope sHold) .none kV13 dc13 pm13 an13 cd13 ct13), sl13⟩) (c13 : PySem.W.codeIn K cd13 "hold" = true) (k13 : PySem.W.keepIn K (.ref f13) = true)
    (a14 : PySem.W.nsIn K mainGlobals "law" = some (some (.ref f14))) (l14 : K.lookup f14 = some ⟨oc14, od14, .func (PySem.W.fnOf "law" "law" (defArgs sLaw) (defBody sLaw) (defScope sLaw) .none kV14 dc14 pm14 an14 cd14 ct14), sl14⟩) (c14 : PySem.W.codeIn K cd14 "law" = true) (k14 : PySem.W.keepIn K (.ref f14) = true)
    (z1 : PySem.W.nsIn K mainGlobals "tuple" = some none) (z2 : PySem.W.nsIn K mainGlobals "len" = some none) (z3 : PySem.W.nsIn K mainGlobals "range" = some none) (z4 : PySem.W.nsIn K mainGlobals "repr" = some none) (z5 : PySem.W.nsIn K mainGlobals "abs" = some none) (z6 : PySem.W.nsIn K mainGlobals "sorted" = some none) (z7 : PySem.W.nsIn K mainGlobals "list" = some none) (z8 : PySem.W.nsIn K mainGlobals "dict" = some none) (z9 : PySem.W.nsIn K mainGlobals "any" = some none) :
    ∃ fd : FuncData, (∀ (s : Shared) (v : Value), BindsTo s fd ⟨[v], []⟩ [("_law_script", v)]) ∧ ∀ base : Heap, K.In base → base.Ns mainGlobals mg → FnG l.prog w K mg base 6 fa fd ["_law_script"] (spLaw K) := by
  have e := hfa.symm.trans (PySem.W.mg_of X G a14)
  cases e
  have F1 := fun_mk (st := sDraws) l1 c1 k1
  have F2 := fun_mk (st := sTake) l2 c2 k2
  have F3 := fun_mk (st := sLLegs) l3 c3 k3
  have F4 := fun_mk (st := sLWires) l4 c4 k4
  have F5 := fun_mk (st := sLTold) l5 c5 k5
  have F6 := fun_mk (st := sSets) l6 c6 k6
  have F7 := fun_mk (st := sTold) l7 c7 k7
  have F8 := fun_mk (st := sSteps) l8 c8 k8
  have F9 := fun_mk (st := sLegs) l9 c9 k9
  have F10 := fun_mk (st := sCrossAt) l10 c10 k10
  have F11 := fun_mk (st := sTellLeg) l11 c11 k11
  have F12 := fun_mk (st := sIsTell) l12 c12 k12
  have F13 := fun_mk (st := sHold) l13 c13 k13
  have F14 := fun_mk (st := sLaw) l14 c14 k14
  have b1 := F1.binds (ps := ["_law_script", "_law_k"]) fun _ _ _ _ _ _ us hl => match us, hl with | [_, _], _ => rfl
  have b2 := F2.binds (ps := ["_law_pot_here", "_law_many"]) fun _ _ _ _ _ _ us hl => match us, hl with | [_, _], _ => rfl
  have b3 := F3.binds (ps := ["_law_i", "_law_j"]) fun _ _ _ _ _ _ us hl => match us, hl with | [_, _], _ => rfl
  have b4 := F4.binds (ps := ["_law_a", "_law_b"]) fun _ _ _ _ _ _ us hl => match us, hl with | [_, _], _ => rfl
  have b5 := F5.binds (ps := ["_law_a", "_law_b", "_law_known"]) fun _ _ _ _ _ _ us hl => match us, hl with | [_, _, _], _ => rfl
  have b6 := F6.binds (ps := ["_law_every"]) fun _ _ _ _ _ _ us hl => match us, hl with | [_], _ => rfl
  have b7 := F7.binds (ps := ["a", "b", "known"]) fun _ _ _ _ _ _ us hl => match us, hl with | [_, _, _], _ => rfl
  have b8 := F8.binds (ps := ["a", "b", "known"]) fun _ _ _ _ _ _ us hl => match us, hl with | [_, _, _], _ => rfl
  have b9 := F9.binds (ps := ["i", "j"]) fun _ _ _ _ _ _ us hl => match us, hl with | [_, _], _ => rfl
  have b10 := F10.binds (ps := ["a", "b", "wire"]) fun _ _ _ _ _ _ us hl => match us, hl with | [_, _, _], _ => rfl
  have b11 := F11.binds (ps := ["held", "i", "j"]) fun _ _ _ _ _ _ us hl => match us, hl with | [_, _, _], _ => rfl
  have b12 := F12.binds (ps := ["held", "i", "j", "leg"]) fun _ _ _ _ _ _ us hl => match us, hl with | [_, _, _, _], _ => rfl
  have b13 := F13.binds (ps := ["held", "i", "j"]) fun _ _ _ _ _ _ us hl => match us, hl with | [_, _, _], _ => rfl
  exact ⟨PySem.W.fnOf "law" "law" (defArgs sLaw) (defBody sLaw) (defScope sLaw) .none kV14 dc14 pm14 an14 cd14 ct14, fun s v => .of_eq rfl, fun base _ _ =>
    ok_law F14 F1 F2 F3 F4 F5 F6 F7 F8 F9 F10 F11 F12 F13 b1 b2 b3 b4 b5 b6 b7 b8 b9 b10 b11 b12 b13 (PySem.W.mg_of X G a1) (PySem.W.mg_of X G a2) (PySem.W.mg_of X G a3) (PySem.W.mg_of X G a4) (PySem.W.mg_of X G a5) (PySem.W.mg_of X G a6) (PySem.W.mg_of X G a7) (PySem.W.mg_of X G a8) (PySem.W.mg_of X G a9) (PySem.W.mg_of X G a10) (PySem.W.mg_of X G a11) (PySem.W.mg_of X G a12) (PySem.W.mg_of X G a13) (PySem.W.mg_none_of X G z1) (PySem.W.mg_none_of X G z2) (PySem.W.mg_none_of X G z3) (PySem.W.mg_none_of X G z4) (PySem.W.mg_none_of X G z5) (PySem.W.mg_none_of X G z6) (PySem.W.mg_none_of X G z7) (PySem.W.mg_none_of X G z8) (PySem.W.mg_none_of X G z9)⟩
end C2
open PySem PySem.W PyProof.Rows
set_option maxRecDepth 100000 in
set_option maxHeartbeats 0 in
theorem PySem.Challenge.cw_cornertold_k16_told_by_all_small_sets_holds : PySem.Challenge.rw_cornertold_k16_told_by_all_small_sets.Holds := by
  w_on; o_law; k_head; (case hw => w_witness2)
  k_fill
  refine C2.walkG (l := PySem.Challenge.rw_cornertold_k16_told_by_all_small_sets) (n := 63) (k := 6) (x := "_law_script") (sp := C2.spLaw) rfl (by decide) rfl ⟨rfl, by decide, by decide⟩ (fun w h Y => PySem.W.kIn_of Y) ?F (fun _ _ a ns hl hS => ⟨a, ns, rfl, hS, hl, fun _ => rfl⟩)
  case F =>
    intro w mg fa h KX G hmg
    refine' C2.all_mk KX G hmg ?a1 ?l1 ?c1 ?k1 ?a2 ?l2 ?c2 ?k2 ?a3 ?l3 ?c3 ?k3 ?a4 ?l4 ?c4 ?k4 ?a5 ?l5 ?c5 ?k5 ?a6 ?l6 ?c6 ?k6 ?a7 ?l7 ?c7 ?k7 ?a8 ?l8 ?c8 ?k8 ?a9 ?l9 ?c9 ?k9 ?a10 ?l10 ?c10 ?k10 ?a11 ?l11 ?c11 ?k11 ?a12 ?l12 ?c12 ?k12 ?a13 ?l13 ?c13 ?k13 ?a14 ?l14 ?c14 ?k14 ?z1 ?z2 ?z3 ?z4 ?z5 ?z6 ?z7 ?z8 ?z9
    (case a1 => k_is); (case l1 => k_is); (case c1 => k_is); (case k1 => k_is); (case a2 => k_is); (case l2 => k_is); (case c2 => k_is); (case k2 => k_is)
    (case a3 => k_is); (case l3 => k_is); (case c3 => k_is); (case k3 => k_is); (case a4 => k_is); (case l4 => k_is); (case c4 => k_is); (case k4 => k_is)
    (case a5 => k_is); (case l5 => k_is); (case c5 => k_is); (case k5 => k_is); (case a6 => k_is); (case l6 => k_is); (case c6 => k_is); (case k6 => k_is)
    (case a7 => k_is); (case l7 => k_is); (case c7 => k_is); (case k7 => k_is); (case a8 => k_is); (case l8 => k_is); (case c8 => k_is); (case k8 => k_is)
    (case a9 => k_is); (case l9 => k_is); (case c9 => k_is); (case k9 => k_is); (case a10 => k_is); (case l10 => k_is); (case c10 => k_is); (case k10 => k_is)
    (case a11 => k_is); (case l11 => k_is); (case c11 => k_is); (case k11 => k_is); (case a12 => k_is); (case l12 => k_is); (case c12 => k_is); (case k12 => k_is)
    (case a13 => k_is); (case l13 => k_is); (case c13 => k_is); (case k13 => k_is); (case a14 => k_is); (case l14 => k_is); (case c14 => k_is); (case k14 => k_is)
    (case z1 => k_is); (case z2 => k_is); (case z3 => k_is); (case z4 => k_is); (case z5 => k_is); (case z6 => k_is); (case z7 => k_is); (case z8 => k_is)
    (case z9 => k_is)
