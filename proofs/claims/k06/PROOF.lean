import PyProof.Rows.All
import Wide.All
import OpenK.AllK
import Wide.FinOn
import HandS.ForMost
import HandS.Defaults
import HandS.Codes
import HandS.IsInst
import HandS.NoneIn
import HandS.Replace
import HandS.Walk
import HandS.Head0
import HandS.Head1
import HandS.Head2
import HandS.HeadEnd
import HandS.HeadHook1
import HandS.HeadHook2
import HandS.MakeKw
import HandS.MakeKwOnly
import HandS.FStr
import HandS.Deep
import PySem.Challenge.RW_trunkland_k06_servers
set_option Elab.async false
set_option linter.all false
set_option maxRecDepth 100000
set_option maxHeartbeats 4000000
/-! Helpers of mine over the hand layer, the same for every law of this program. -/
namespace TK
open PySem PySem.Spec PyProof.Rows L2 C8 SX
section
variable {X : Cx} {x : Str} {pos p : Pos} {k j : Nat} {sp : Sp} {dvs : List V}
theorem pgI {i : Int} (h : ∃ t, X.mg x = some (.int i t)) (hg : Gl X x := by rfl) (hd : (x == ("__debug__" : Str)) = false := by decide) : PE X (.Name x pos) (tC (.int i)) := by
  obtain ⟨t, e⟩ := h
  exact pe_glob hg e ⟨t, rfl⟩ hd
theorem pgS {z : Str} (h : ∃ t, X.mg x = some (.str z t)) (hg : Gl X x := by rfl) (hd : (x == ("__debug__" : Str)) = false := by decide) : PE X (.Name x pos) (tC (.str z)) := by
  obtain ⟨t, e⟩ := h
  exact pe_glob hg e ⟨t, rfl⟩ hd
theorem pgR {a : Addr} (h : X.mg x = some (.ref a)) (hg : Gl X x := by rfl) (hd : (x == ("__debug__" : Str)) = false := by decide) : PE X (.Name x pos) (tC (.ref a)) := pe_glob hg h rfl hd
theorem pe_c0 (c : Cal X.prog X.w X.K X.mg X.base k x sp dvs) (hr : Room j X.A) (hk : k ≤ j) (hg : Gl X x) (hdb : (x == ("__debug__" : Str)) = false := by decide) :
    PE X (.Call (.Name x p) [] [] pos) (tCall sp dvs L2.E0 tNil) := by
  obtain ⟨f, fd, ps, ds, F, hm, kp, b, d⟩ := c.ex
  exact pe_call0 F (hr.mono hk) hg hm kp b d L2.pass0 hdb
end
section
variable {P : Program} {w : World} {K : PySem.W.Frag} {mg : Str → Option Value} {base : Heap}
/-- a def without defaults, as callers want it -/
theorem cal_of {x qual : Str} {params : Arguments} {body : List Stmt} {scope : Scope} {f : Addr} {fd : FuncData} {ps : List Str} {k : Nat} {sp : Sp} (F : FunD K x qual params body scope [] [] f fd) (G : FnOk P w K mg base L2.CX0 k f fd ps sp) (hm : mg x = some (.ref f))
    (h : ∀ (kV doc pm : Value) (an : Option Addr) (cdv ct : Value) (us : List Value), us.length = ps.length → bindArgs (PySem.W.fnOf x qual params body scope .none kV doc pm an cdv ct) ⟨us, []⟩ = pure (ps.zip us)) : Cal P w K mg base k x sp [] :=
  ⟨f, fd, ps, [], G, hm, F.kp, F.bindsN h, .nil⟩
end
/-! ### heaps -/
/-- all that was tracked is as it was, but what stands at two places -/
def Keep (H H' : Hp) (a c : Addr) : Prop := ∀ b o, H b = some o → b ≠ a → b ≠ c → H' b = some o
theorem Keep.refl (H : Hp) (a c : Addr) : Keep H H a c := fun _ _ h _ _ => h
theorem Keep.trans {H H1 H2 : Hp} {a c : Addr} (h : Keep H H1 a c) (k : Keep H1 H2 a c) : Keep H H2 a c := fun b o e h1 h2 => k b o (h b o e h1 h2) h1 h2
theorem Keep.of_same {H H' : Hp} {a c : Addr} (h : Same H H') : Keep H H' a c := fun b o e _ _ => h b o e
theorem same_upd {H : Hp} {p : Addr} {o : HO} (h : H p = none) : Same H (upd H p o) := fun b u e => by
  rw [upd_ne (ne_of_none e h)]
  exact e
/-- the law's source of draws: a list of a list of cells and a seed -/
structure StAt (H : Hp) (s c : Addr) : Prop where
  ne : s ≠ c
  at_ : ∃ n : Int, H s = some (.lst [.ref c, .int n])
  cells : ∃ ns : List Int, H c = some (.lst (ns.map V.int)) ∧ ns.length ≤ 63
theorem StAt.same {H H' : Hp} {s c : Addr} (h : StAt H s c) (e : Same H H') : StAt H' s c := by
  obtain ⟨ne, ⟨n, h1⟩, ns, h2, h3⟩ := h
  exact ⟨ne, ⟨n, e _ _ h1⟩, ns, e _ _ h2, h3⟩
end TK
namespace TK
open PySem PySem.Spec PyProof.Rows L2 C8 SX
/-! ### comprehensions whose elements leave the heap alone -/
theorem lc_pure {J : It} {n : Nat} {G : Hp → Prop} {Y : Nat → Hp → V → Hp → Prop} (w : Walk J n G Y) (f : Nat → V) {g : TG} {tt : TT} {te : TE} {vs : List Nat} {σ : L2.St} {H1 : Hp} {D : Addr} {Qd : Hp → Prop} (hn : n ≤ sizeLine)
    (hG : ∀ i, i ≤ n → G (upd H1 D (.lst ((List.range i).map f))))
    (hs : ∀ (i : Nat) (x : V) (H' : Hp) (k : V → Hp → Prop), i < n → Y i (upd H1 D (.lst ((List.range i).map f))) x H' → k (f i) (upd H1 D (.lst ((List.range i).map f))) →
      g x (wipe σ vs) H' fun σ2 H2 => wipe σ2 vs = wipe σ vs ∧ tt σ2 H2 fun b H3 => b = true ∧ te σ2 H3 k)
    (ht : ∀ σ H Q Q', (∀ b H', Q b H' → Q' b H') → tt σ H Q → tt σ H Q') (hg : ∀ x σ H Q Q', (∀ σ' H', Q σ' H' → Q' σ' H') → g x σ H Q → g x σ H Q')
    (hd : Qd (upd H1 D (.lst ((List.range n).map f)))) :
    ∃ W : Nat → Nat → Hp → Prop, (∃ m, W 0 m (upd H1 D (.lst []))) ∧ ∀ i m H, W i m H →
      (J.stop i H ∧ Qd H) ∨ (J.go i H ∧ ∃ Nx : Hp → Prop, (∀ H', Nx H' → ∃ m', m' < m ∧ W (i + 1) m' H') ∧ ∀ x H', J.yld i H x H' → g x (wipe σ vs) H' fun σ2 H2 => wipe σ2 vs = wipe σ vs ∧ tt σ2 H2 fun b H3 =>
        if b = true then te σ2 H3 fun y H4 => ∃ acc, H4 D = some (.lst acc) ∧ acc.length < sizeLine ∧ Nx (upd H4 D (.lst (acc ++ [y]))) else Nx H3) := by
  refine lc_it w (fun i H => H = upd H1 D (.lst ((List.range i).map f))) rfl (fun i H hi e => e ▸ hG i hi) (fun i x H H' hi e y => ?_) (fun H e => e ▸ hd)
  subst e
  refine hg _ _ _ _ _ (fun σ2 H2 q => ⟨q.1, ht _ _ _ _ (fun b H3 r => ?_) q.2⟩) (hs i x H' (fun y H4 => ∃ acc, H4 D = some (.lst acc) ∧ acc.length < sizeLine ∧ upd H4 D (.lst (acc ++ [y])) = upd H1 D (.lst ((List.range (i + 1)).map f))) hi y ⟨_, upd_same, ?_, ?_⟩)
  · rw [if_pos r.1]
    exact r.2
  · rw [List.length_map, List.length_range]
    omega
  · rw [upd_upd, List.range_succ, List.map_append]
    rfl
/-- the usual target and no test -/
theorem lc_pureN {J : It} {n : Nat} {G : Hp → Prop} {Y : Nat → Hp → V → Hp → Prop} (w : Walk J n G Y) (f : Nat → V) {j : Nat} {te : TE} {vs : List Nat} {σ : L2.St} {H1 : Hp} {D : Addr} {Qd : Hp → Prop} (hn : n ≤ sizeLine)
    (hG : ∀ i, i ≤ n → G (upd H1 D (.lst ((List.range i).map f))))
    (hs : ∀ (i : Nat) (x : V) (H' : Hp) (k : V → Hp → Prop), i < n → Y i (upd H1 D (.lst ((List.range i).map f))) x H' → k (f i) (upd H1 D (.lst ((List.range i).map f))) →
      wipe ((wipe σ vs).set j (some x)) vs = wipe σ vs ∧ te ((wipe σ vs).set j (some x)) H' k)
    (hd : Qd (upd H1 D (.lst ((List.range n).map f)))) :
    ∃ W : Nat → Nat → Hp → Prop, (∃ m, W 0 m (upd H1 D (.lst []))) ∧ ∀ i m H, W i m H →
      (J.stop i H ∧ Qd H) ∨ (J.go i H ∧ ∃ Nx : Hp → Prop, (∀ H', Nx H' → ∃ m', m' < m ∧ W (i + 1) m' H') ∧ ∀ x H', J.yld i H x H' → gName j x (wipe σ vs) H' fun σ2 H2 => wipe σ2 vs = wipe σ vs ∧ tYes σ2 H2 fun b H3 =>
        if b = true then te σ2 H3 fun y H4 => ∃ acc, H4 D = some (.lst acc) ∧ acc.length < sizeLine ∧ Nx (upd H4 D (.lst (acc ++ [y]))) else Nx H3) :=
  lc_pure w f hn hG (fun i x H' k hi y q => ⟨(hs i x H' k hi y q).1, rfl, (hs i x H' k hi y q).2⟩) (fun _ _ _ _ h q => h _ _ q) (fun _ _ _ _ _ h q => h _ _ q) hd
theorem size_tl (z : Str) : z.cps.size = (TL.tl z).length := by simp [TL.tl]
theorem len_eq (z : Str) : z.length = (TL.tl z).length := TL.len_tl z
theorem range_map_getD {α β : Type} (l : List α) (d : α) (f : α → β) : (List.range l.length).map (fun i => f (l.getD i d)) = l.map f := by
  apply List.ext_getElem
  · simp
  · intro i h1 h2
    simp at h1
    simp [h1]
end TK
namespace TK
open PySem PySem.Spec PyProof.Rows L2 SX
theorem ef {b : Bool} (h : ¬ b = true) : b = false := Bool.eq_false_iff.mpr h
/-! ### places in texts -/
theorem at0 {α : Type} {l : List α} (d : α) (h : 0 < l.length) : atI l 0 = some (l.getD 0 d) := by
  cases l with
  | nil => exact absurd h (Nat.lt_irrefl 0)
  | cons a r =>
    show ((if (0 : Int) ≤ 0 then (if (0 : Int) < ((a :: r).length : Nat) then some (0 : Int).toNat else none) else _) : Option Nat).bind _ = _
    rw [if_pos (Int.le_refl 0), if_pos (by rw [List.length_cons]; omega)]
    rfl
theorem atN {α : Type} {l : List α} {i : Int} (d : α) (h0 : 0 ≤ i) (h : i < l.length) : atI l i = some (l.getD i.toNat d) := by
  show ((if (0 : Int) ≤ i then (if i < (l.length : Nat) then some i.toNat else none) else _) : Option Nat).bind _ = _
  rw [if_pos h0, if_pos h]
  show l[i.toNat]? = _
  rw [List.getD_eq_getElem?_getD, List.getElem?_eq_getElem (by omega)]
  rfl
theorem atC {α : Type} (a : α) (r : List α) : atI (a :: r) 0 = some a := at0 a (by simp)
theorem ixP {n : Nat} {i : Int} (h0 : 0 ≤ i) (h : i < n) : ixN n i = some i.toNat := by
  unfold ixN
  rw [if_pos h0, if_pos h]
theorem sqP {n : Nat} {i : Int} (h0 : 0 ≤ i) (h : i < n) : seqIndex? i n = some i.toNat := (ixN_seq (ixP h0 h)).1
theorem ixC {α : Type} (a : α) (r : List α) : ixN (a :: r).length 0 = some 0 := ixP (by decide) (by rw [List.length_cons]; omega)
theorem sqC {α : Type} (a : α) (r : List α) : seqIndex? 0 (a :: r).length = some 0 := sqP (by decide) (by rw [List.length_cons]; omega)
/-- the first place of a sign -/
theorem occ_first1 {l : List Nat} {c : Nat} (h : c ∈ l) : ∃ rest, Builtin.Str.occurrences (S l) (S [c]) 0 (S l).length 1 = l.idxOf c :: rest := by
  have at_iff : ∀ i, StrLaws.At (S l) (S [c]) (S l).length i ↔ l[i]? = some c := by
    intro i
    have e := TL.at_iff (x := S l) (y := S [c]) (by show [c] ≠ []; simp) i
    refine e.trans ?_
    show (((l.drop i).take 1 == [c]) = true) ↔ _
    rw [beq_iff_eq]
    constructor
    · intro q
      cases e2 : l.drop i with
      | nil =>
        rw [e2] at q
        cases q
      | cons a r =>
        rw [e2] at q
        have e3 : a = c := by
          simpa using q
        rw [← e3]
        have e4 : (l.drop i)[0]? = some a := by rw [e2]; rfl
        rw [List.getElem?_drop] at e4
        exact e4
    · intro q
      have hi : i < l.length := (List.getElem?_eq_some_iff.mp q).1
      rw [List.drop_eq_getElem_cons hi]
      have e3 : l[i] = c := (List.getElem?_eq_some_iff.mp q).2
      rw [e3]
      rfl
  rcases StrLaws.occ_head (S l) (S [c]) 1 (Nat.le_refl 1) with ⟨_, hn⟩ | ⟨i, r, e, ha, hn⟩
  · obtain ⟨i, hi, e⟩ := List.mem_iff_getElem.mp h
    exact absurd ((at_iff i).mpr (by rw [List.getElem?_eq_getElem hi, e])) (hn i)
  · refine ⟨r, ?_⟩
    rw [e]
    congr 1
    have h1 := (at_iff i).mp ha
    have hi : i < l.length := (List.getElem?_eq_some_iff.mp h1).1
    have e1 : l[i] = c := (List.getElem?_eq_some_iff.mp h1).2
    have hj : l.idxOf c < l.length := List.idxOf_lt_length_iff.mpr h
    have e2 : l[l.idxOf c] = c := List.getElem_idxOf hj
    rcases Nat.lt_trichotomy i (l.idxOf c) with z | z | z
    · exfalso
      have := List.not_of_lt_findIdx (p := (· == c)) (xs := l) (i := i) z
      simp [e1] at this
    · exact z
    · exfalso
      exact hn _ z ((at_iff _).mpr (by rw [List.getElem?_eq_getElem hj, e2]))
/-- a list cut at the first sign c -/
theorem cut_first {l : List Nat} {c : Nat} (h : c ∈ l) : l = l.take (l.idxOf c) ++ c :: l.drop (l.idxOf c + 1) ∧ c ∉ l.take (l.idxOf c) := by
  have hj : l.idxOf c < l.length := List.idxOf_lt_length_iff.mpr h
  refine ⟨?_, ?_⟩
  · have e2 : l[l.idxOf c] = c := List.getElem_idxOf hj
    have e3 := List.drop_eq_getElem_cons hj
    rw [e2] at e3
    rw [← e3, List.take_append_drop]
  · intro hm
    obtain ⟨i, hi, e⟩ := List.mem_iff_getElem.mp hm
    rw [List.length_take] at hi
    have hi1 : i < l.idxOf c := by omega
    have := List.not_of_lt_findIdx (p := (· == c)) (xs := l) (i := i) hi1
    rw [List.getElem_take] at e
    simp [e] at this
theorem cut_unique {a b a' b' : List Nat} {c : Nat} (h : a ++ c :: b = a' ++ c :: b') (ha : c ∉ a) (ha' : c ∉ a') : a = a' ∧ b = b' := by
  induction a generalizing a' with
  | nil =>
    cases a' with
    | nil => exact ⟨rfl, by simpa using h⟩
    | cons d r =>
      have e : c = d := by simpa using (List.cons.inj h).1
      exact absurd (List.mem_cons.mpr (.inl e)) ha'
  | cons d r ih =>
    cases a' with
    | nil =>
      have e : d = c := by simpa using (List.cons.inj h).1
      exact absurd (List.mem_cons.mpr (.inl e.symm)) ha
    | cons d' r' =>
      obtain ⟨e1, e2⟩ := List.cons.inj h
      obtain ⟨e3, e4⟩ := ih e2 (fun z => ha (List.mem_cons_of_mem _ z)) (fun z => ha' (List.mem_cons_of_mem _ z))
      exact ⟨by rw [e1, e3], e4⟩
end TK
namespace TK
open PySem PySem.Spec PyProof.Rows L2 SX
theorem Keep.upd {H H' : Hp} {s c D : Addr} {o : HO} (k : Keep H H' s c) (hD : H D = none) : Keep H (upd H' D o) s c := fun b u e h1 h2 => by
  rw [upd_ne (ne_of_none e hD)]
  exact k b u e h1 h2
theorem StAt.upd {H : Hp} {s c D : Addr} {o : HO} (h : StAt H s c) (h1 : D ≠ s) (h2 : D ≠ c) : StAt (upd H D o) s c := by
  obtain ⟨ne, ⟨n, a⟩, ns, b, l⟩ := h
  exact ⟨ne, ⟨n, by rw [upd_ne h1.symm]; exact a⟩, ns, by rw [upd_ne h2.symm]; exact b, l⟩
theorem StAt.tracked {H : Hp} {s c D : Addr} (h : StAt H s c) (hD : H D = none) : D ≠ s ∧ D ≠ c := by
  obtain ⟨ne, ⟨n, a⟩, ns, b, l⟩ := h
  exact ⟨fun e => (by rw [e, a] at hD; cases hD), fun e => (by rw [e, b] at hD; cases hD)⟩
theorem Keep.none {H H' : Hp} {s c b : Addr} (k : Keep H H' s c) (h : H' b = Option.none) (h1 : b ≠ s) (h2 : b ≠ c) : H b = Option.none := by
  cases e : H b with
  | none => rfl
  | some o =>
    rw [k b o e h1 h2] at h
    cases h
theorem joinL_nil : ∀ l : List (List Nat), TL.joinL [] l = l.flatten
  | [] => rfl
  | [p] => by simp [TL.joinL]
  | p :: q :: r => by
    show p ++ ([] ++ TL.joinL [] (q :: r)) = _
    rw [joinL_nil (q :: r)]
    rfl
/-- texts of one sign, joined -/
theorem join_ones {ys : List Str} (h : ∀ z ∈ ys, z.length = 1) : (Txt.join "" ys).length = ys.length := by
  have e : (Txt.join ("" : Str) ys) = Str.join "" ys := TL.join_eq "" ys
  rw [e, len_eq, TL.tl_join, show TL.tl ("" : Str) = [] by decide +kernel, joinL_nil]
  induction ys with
  | nil => rfl
  | cons a r ih =>
    have h1 := h a (List.mem_cons_self ..)
    rw [len_eq] at h1
    rw [List.map_cons, List.flatten_cons, List.length_append, ih (fun z hz => h z (List.mem_cons_of_mem _ hz)) (TL.join_eq "" r), List.length_cons, h1]
    omega
theorem sum_ones {ys : List Str} (h : ∀ z ∈ ys, z.length = 1) : (ys.map (·.length)).sum = ys.length := by
  induction ys with
  | nil => rfl
  | cons a r ih =>
    rw [List.map_cons, List.sum_cons, ih (fun z hz => h z (List.mem_cons_of_mem _ hz)), h a (List.mem_cons_self ..), List.length_cons]
    omega
theorem cat_len (a b : Str) : (a ++ b).length = a.length + b.length := by
  rw [len_eq, TL.tl_append, List.length_append, ← len_eq, ← len_eq]
end TK
namespace TK
open PySem PySem.Spec PyProof.Rows L2 SX
/-- lc_it with a plain name as target and no test -/
theorem lc_itN {J : It} {n : Nat} {G : Hp → Prop} {Y : Nat → Hp → V → Hp → Prop} (w : Walk J n G Y) {j : Nat} {te : TE} {vs : List Nat} {σ : L2.St} {H1 : Hp} {D : Addr} {Qd : Hp → Prop} (Pv : Nat → Hp → Prop) (h0 : Pv 0 (upd H1 D (.lst []))) (hG : ∀ i H, i ≤ n → Pv i H → G H)
    (hs : ∀ i x H H', i < n → Pv i H → Y i H x H' → wipe ((wipe σ vs).set j (some x)) vs = wipe σ vs ∧ te ((wipe σ vs).set j (some x)) H' fun y H4 => ∃ acc, H4 D = some (.lst acc) ∧ acc.length < sizeLine ∧ Pv (i + 1) (upd H4 D (.lst (acc ++ [y])))) (hd : ∀ H, Pv n H → Qd H) :
    ∃ W : Nat → Nat → Hp → Prop, (∃ m, W 0 m (upd H1 D (.lst []))) ∧ ∀ i m H, W i m H →
      (J.stop i H ∧ Qd H) ∨ (J.go i H ∧ ∃ Nx : Hp → Prop, (∀ H', Nx H' → ∃ m', m' < m ∧ W (i + 1) m' H') ∧ ∀ x H', J.yld i H x H' → gName j x (wipe σ vs) H' fun σ2 H2 => wipe σ2 vs = wipe σ vs ∧ tYes σ2 H2 fun b H3 =>
        if b = true then te σ2 H3 fun y H4 => ∃ acc, H4 D = some (.lst acc) ∧ acc.length < sizeLine ∧ Nx (upd H4 D (.lst (acc ++ [y]))) else Nx H3) :=
  lc_it w Pv h0 hG (fun i x H H' hi p y => ⟨(hs i x H H' hi p y).1, (hs i x H H' hi p y).2⟩) hd
end TK
namespace TK
open PySem PySem.Spec PyProof.Rows L2 SX
theorem slTo (z : Str) {i : Int} (h : 0 ≤ i) : Txt.slice z none (some i) = S ((TL.tl z).take i.toNat) := slice_to (a := TL.tl z) h
theorem slFrom (z : Str) {i : Int} (h : 0 ≤ i) : Txt.slice z (some i) none = S ((TL.tl z).drop i.toNat) := slice_from (a := TL.tl z) h
theorem log_small {i : Int} (h : i.natAbs < 2 ^ 1900) : i.natAbs.log2 < 1920 := by
  by_cases h0 : i.natAbs = 0
  · rw [h0]
    decide
  · exact (Nat.log2_lt h0).mpr (Nat.lt_of_lt_of_le h (Nat.pow_le_pow_right (by decide) (by decide)))
end TK
namespace TK
open PySem PySem.Spec PyProof.Rows L2 SX
/-! ### comprehensions with a test, the heap left alone -/
theorem lc_filt {J : It} {n : Nat} {G : Hp → Prop} {Y : Nat → Hp → V → Hp → Prop} (w : Walk J n G Y) (f : Nat → V) (b : Nat → Bool) {j : Nat} {tt : TT} {te : TE} {vs : List Nat} {σ : L2.St} {H1 : Hp} {D : Addr} {Qd : Hp → Prop} (hn : n ≤ sizeLine)
    (hG : ∀ i, i ≤ n → G (upd H1 D (.lst (((List.range i).filter b).map f))))
    (ht : ∀ (i : Nat) (x : V) (H' : Hp) (k : Bool → Hp → Prop), i < n → Y i (upd H1 D (.lst (((List.range i).filter b).map f))) x H' → k (b i) (upd H1 D (.lst (((List.range i).filter b).map f))) →
      wipe ((wipe σ vs).set j (some x)) vs = wipe σ vs ∧ tt ((wipe σ vs).set j (some x)) H' k)
    (he : ∀ (i : Nat) (x : V) (H' : Hp) (k : V → Hp → Prop), i < n → b i = true → Y i (upd H1 D (.lst (((List.range i).filter b).map f))) x H' → k (f i) (upd H1 D (.lst (((List.range i).filter b).map f))) →
      te ((wipe σ vs).set j (some x)) (upd H1 D (.lst (((List.range i).filter b).map f))) k)
    (hd : Qd (upd H1 D (.lst (((List.range n).filter b).map f)))) :
    ∃ W : Nat → Nat → Hp → Prop, (∃ m, W 0 m (upd H1 D (.lst []))) ∧ ∀ i m H, W i m H →
      (J.stop i H ∧ Qd H) ∨ (J.go i H ∧ ∃ Nx : Hp → Prop, (∀ H', Nx H' → ∃ m', m' < m ∧ W (i + 1) m' H') ∧ ∀ x H', J.yld i H x H' → gName j x (wipe σ vs) H' fun σ2 H2 => wipe σ2 vs = wipe σ vs ∧ tt σ2 H2 fun b H3 =>
        if b = true then te σ2 H3 fun y H4 => ∃ acc, H4 D = some (.lst acc) ∧ acc.length < sizeLine ∧ Nx (upd H4 D (.lst (acc ++ [y]))) else Nx H3) := by
  refine lc_it w (fun i H => H = upd H1 D (.lst (((List.range i).filter b).map f))) rfl (fun i H hi e => e ▸ hG i hi) (fun i x H H' hi e y => ?_) (fun H e => e ▸ hd)
  subst e
  refine ht i x H' _ hi y ?_
  cases hb : b i with
  | true =>
    refine iteT (he i x H' _ hi hb y ⟨_, upd_same, ?_, ?_⟩)
    · rw [List.length_map]
      exact Nat.lt_of_le_of_lt (List.length_filter_le _ _) (by rw [List.length_range]; omega)
    · rw [upd_upd, List.range_succ, List.filter_append, List.map_append, List.filter_cons_of_pos hb]
      rfl
  | false =>
    refine iteF ?_
    rw [List.range_succ, List.filter_append, List.filter_cons_of_neg (by rw [hb]; exact Bool.false_ne_true), List.filter_nil, List.append_nil]
theorem range_filter_getD {α β : Type} (l : List α) (d : α) (p : α → Bool) (f : α → β) : ((List.range l.length).filter (fun i => p (l.getD i d))).map (fun i => f (l.getD i d)) = (l.filter p).map f := by
  have e := range_map_getD l d (fun x => x)
  rw [List.map_id'] at e
  have h : (l.filter p).map f = (((List.range l.length).map (fun i => l.getD i d)).filter p).map f := by rw [e]
  rw [h, List.filter_map, List.map_map]
  rfl
theorem getD_at {α : Type} {l : List α} {i : Nat} {x : α} (d : α) (h : l[i]? = some x) : l.getD i d = x := by
  rw [List.getD_eq_getElem?_getD, h]
  rfl
/-! ### heads with tables -/
def obsX (n : Nat) (fa : List He.Fa) (fn : List He.DefD) (ex : PySem.W.Frag → List Bool) (g : Addr → Option Obj) : He.AlD :=
  ((He.obsD fa fn (He.frG g (He.asD g n))).1 && (ex (He.frG g (He.asD g n))).all id, (He.obsD fa fn (He.frG g (He.asD g n))).2)
def hookX (n : Nat) (fa : List He.Fa) (fn : List He.DefD) (ex : PySem.W.Frag → List Bool) : PySem.W.Hook where
  α := He.AlD
  obs s := obsX n fa fn ex s.heap.get?
  val _ := He.valD fn
  says _ h := ∃ K : PySem.W.Frag, K.In h ∧ He.SaysD fa fn K ∧ (ex K).all id = true
  of _ _ e := by
    have e1 := congrArg (fun z : He.AlD => z.1) e
    have e2 := congrArg (fun z : He.AlD => z.2) e
    obtain ⟨a, b⟩ := Bool.and_eq_true_iff.mp e1
    exact ⟨_, He.frG_in, Prod.ext a e2, b⟩
  keeps _ _ _ c k := let ⟨K, hK, c1, c2⟩ := c; ⟨K, PySem.W.Frag.In.keeps hK k, c1, c2⟩
theorem obsX_eq {n : Nat} {fa : List He.Fa} {fn : List He.DefD} {ex : PySem.W.Frag → List Bool} {g : Addr → Option Obj} {s : Shared} (h : ∀ a, g a = s.heap.get? a) : obsX n fa fn ex g = (hookX n fa fn ex).obs s := by
  obtain rfl : g = s.heap.get? := funext h
  rfl
theorem exAt {l : List Bool} (h : l.all id = true) (i : Nat) {b : Bool} (e : l[i]? = some b) : b = true := List.all_eq_true.mp h b (List.mem_of_getElem? e)
end TK
namespace TK
open PySem PySem.Spec PyProof.Rows L2 SX
/-! ### rules that name the written part, for use within a comprehension -/
section
variable {X : Cx}
theorem inSeqK (K : PySem.W.Frag) (e : X.K = K) : OpR X (compareOp .In) (rIn K false) := by
  subst e
  exact op_in_seq
theorem notInSeqK (K : PySem.W.Frag) (e : X.K = K) : OpR X (compareOp .NotIn) (rIn K true) := by
  subst e
  exact op_notIn_seq
theorem ixListK (K : PySem.W.Frag) (e : X.K = K) : IxR X (rIxL K) := by
  subst e
  exact ix_list
theorem ixTupK (K : PySem.W.Frag) (e : X.K = K) : IxR X (rIxT K) := by
  subst e
  exact ix_tup
theorem isiK (K : PySem.W.Frag) (e : X.K = K) : CallR X (.builtin "isinstance") (rIsi K) := by
  subst e
  exact call_isi
end
end TK
set_option maxHeartbeats 4000000
namespace TK
open PySem PySem.Spec PyProof.Rows L2 SX
theorem same_upd2 {H H' : Hp} {D : Addr} {o : HO} (s : Same H H') (hD : H D = none) : Same H (upd H' D o) := fun b u e => by
  rw [upd_ne (ne_of_none e hD)]
  exact s b u e
theorem joinL_len (y : List Nat) : ∀ l : List (List Nat), (TL.joinL y l).length ≤ (l.map (·.length)).sum + l.length * y.length
  | [] => by simp [TL.joinL]
  | [p] => by simp [TL.joinL]
  | p :: q :: r => by
    have ih := joinL_len y (q :: r)
    show (p ++ (y ++ TL.joinL y (q :: r))).length ≤ _
    rw [List.length_append, List.length_append, List.map_cons, List.sum_cons, List.length_cons (a := p), Nat.succ_mul]
    omega
theorem join_len (y : Str) (ys : List Str) : (Txt.join y ys).length ≤ (ys.map (·.length)).sum + ys.length * y.length := by
  rw [show Txt.join y ys = Str.join y ys from TL.join_eq y ys, len_eq, TL.tl_join]
  have q := joinL_len (TL.tl y) (ys.map TL.tl)
  rw [List.length_map, List.map_map] at q
  have e : (ys.map (fun x : Str => x.length)) = ys.map ((fun x : List Nat => x.length) ∘ TL.tl) := List.map_congr_left fun x _ => len_eq x
  rw [e, len_eq y]
  exact q
theorem sum_le {m : Nat} : ∀ {ys : List Str}, (∀ z ∈ ys, z.length ≤ m) → (ys.map (·.length)).sum ≤ ys.length * m
  | [], _ => Nat.zero_le _
  | a :: r, h => by
    have ih := sum_le (ys := r) fun z hz => h z (List.mem_cons_of_mem _ hz)
    have h1 := h a (List.mem_cons_self ..)
    rw [List.map_cons, List.sum_cons, List.length_cons, Nat.succ_mul]
    omega
theorem nodup_inr : ∀ ys : List Str, (ys.map (Sum.inr : Str → Key)).Nodup ↔ ys.Nodup
  | [] => by simp
  | a :: r => by
    rw [List.map_cons, List.nodup_cons, List.nodup_cons, nodup_inr r, List.mem_map]
    constructor
    · intro q
      exact ⟨fun m => q.1 ⟨a, m, rfl⟩, q.2⟩
    · intro q
      exact ⟨fun ⟨b, m, e⟩ => q.1 (Sum.inr.inj e ▸ m), q.2⟩
theorem key_strs (ys : List Str) : (ys.map (Sum.inr : Str → Key)).map kV = ys.map V.str := by
  rw [List.map_map]
  rfl
/-- the parts of a text are no longer than the text -/
theorem part_len {z y p : Str} (h : p ∈ Txt.split z y) : p.length ≤ z.length := by
  have j := StrLaws.join_split z y
  have sub : ∀ (l : List (List Nat)) (s : List Nat), ∀ x ∈ l, x.length ≤ (TL.joinL s l).length := by
    intro l s
    induction l with
    | nil => exact fun x hx => nomatch hx
    | cons a r ih =>
      intro x hx
      cases r with
      | nil =>
        rw [List.mem_singleton.mp hx]
        exact Nat.le_refl _
      | cons b r =>
        show x.length ≤ (a ++ (s ++ TL.joinL s (b :: r))).length
        rw [List.length_append, List.length_append]
        rcases List.mem_cons.mp hx with q | q
        · rw [q]
          omega
        · have := ih x q
          omega
  have q := sub ((Txt.split z y).map TL.tl) (TL.tl y) (TL.tl p) (List.mem_map.mpr ⟨p, h, rfl⟩)
  rw [← TL.tl_join, j] at q
  rw [len_eq, len_eq]
  exact q
end TK
namespace TK
open PySem PySem.Spec PyProof.Rows L2 SX
/-! ### a word between an expression and what follows -/
def tCutE (t : TE) : TE := fun σ H Q => ∃ Mid : VK, t σ H Mid ∧ ∀ v H', Mid v H' → Q v H'
def tCutT (t : TT) : TT := fun σ H Q => ∃ Mid : Bool → Hp → Prop, t σ H Mid ∧ ∀ b H', Mid b H' → Q b H'
section
variable {X : Cx} {e : Expr}
theorem pe_cut {t : TE} (h : PE X e t) : PE X e (tCutE t) := ⟨fun pins s σ H _ I ⟨Mid, hm, hq⟩ => thn (h.run pins s σ H Mid I hm) fun _ _ ⟨v, H', I', r, q⟩ => ⟨v, H', I', r, hq v H' q⟩⟩
theorem pt_cut {t : TT} (h : PT X e t) : PT X e (tCutT t) := ⟨fun pins s σ H _ I ⟨Mid, hm, hq⟩ => thn (h.run pins s σ H Mid I hm) fun b _ ⟨H', I', q⟩ => ⟨H', I', hq b H' q⟩⟩
end
end TK
set_option maxHeartbeats 4000000
/-! Own classes: rules that name the class, makers and methods by their promises. -/
namespace TK
open PySem PySem.Spec PyProof.Rows L2 SX
def tFldC (C : Addr) (ta : TE) (f : Str) : TE := fun σ H Q => ta σ H fun x H1 => ∃ a dx fs v, x = .ref a ∧ H1 a = some (.ins C dx fs) ∧ fs.lookup f = some v ∧ Q v H1
def sFldC (C : Addr) (ta tv : TE) (f : Str) : TS := fun D σ H => tv σ H fun y H1 => ta σ H1 fun x H2 => ∃ a dx fs, x = .ref a ∧ H2 a = some (.ins C dx fs) ∧ fs.length < 1000 ∧ D.nx σ (upd H2 a (.ins C dx (putF f y fs)))
section
variable {X : Cx} {K : PySem.W.Frag} {C : Addr} {e o value : Expr} {f : Str} {pos pos' : Pos} {ta tv : TE}
theorem pe_fldC (eK : X.K = K) (c : Cls K C) (n : NoAttr K C f) (he : PE X e ta) (hb : attributeBase e f X.env (eval e X.env) = eval e X.env) : PE X (.Attribute e f pos) (tFldC C ta f) := by
  subst eK
  exact ⟨fun pins s σ H Q I h => (pe_fld (pe_cut he) hb).run pins s σ H Q I ⟨_, h, fun v H' ⟨a, dx, fs, w, e1, e2, e3, q⟩ => ⟨a, C, dx, fs, w, e1, e2, c, n, e3, q⟩⟩⟩
theorem ps_fldC (eK : X.K = K) (c : Cls K C) (n : NoAttr K C f) (ha : PE X o ta) (hv : PE X value tv) (hs : swapsWith value (some (.Attribute o f pos')) pos.line X.env = pure false) : PS X (.Assign [.Attribute o f pos'] value pos) (sFldC C ta tv f) := by
  subst eK
  exact ⟨fun pins s σ H D I h => (ps_fld (pe_cut ha) (pe_cut hv) hs).run pins s σ H D I ⟨_, h, fun v H' h2 => ⟨_, h2, fun x H2 ⟨a, dx, fs, e1, e2, e3, q⟩ => ⟨a, C, dx, fs, e1, e2, c, n, e3, q⟩⟩⟩⟩
end
/-! ### few attributes -/
class SmallF (fs : List (Str × V)) (n : outParam Nat) : Prop where
  le : fs.length ≤ n
instance : SmallF [] 0 := ⟨Nat.le_refl _⟩
instance {x : Str × V} {l : List (Str × V)} {n : Nat} [h : SmallF l n] : SmallF (x :: l) (n + 1) := ⟨Nat.succ_le_succ h.le⟩
theorem putF_len {f : Str} {v : V} : ∀ fs : List (Str × V), (putF f v fs).length ≤ fs.length + 1
  | [] => Nat.le_refl _
  | (g, x) :: r => by
    show (if g = f then (g, v) :: r else (g, x) :: putF f v r).length ≤ _
    by_cases h : g = f
    · rw [if_pos h]
      exact Nat.le_succ _
    · rw [if_neg h]
      exact Nat.succ_le_succ (putF_len r)
instance {f : Str} {v : V} {l : List (Str × V)} {n : Nat} [h : SmallF l n] : SmallF (putF f v l) (n + 1) := ⟨Nat.le_trans (putF_len l) (Nat.succ_le_succ h.le)⟩
theorem sm {fs : List (Str × V)} {n : Nat} [h : SmallF fs n] (hn : n < 1000 := by decide) : fs.length < 1000 := Nat.lt_of_le_of_lt h.le hn
/-! ### makers -/
section
variable {P : Program} {w : World} {K : PySem.W.Frag} {mg : Str → Option Value} {base : Heap}
structure MakK (P : Program) (w : World) (K : PySem.W.Frag) (mg : Str → Option Value) (base : Heap) (k : Nat) (x : Str) (C : Addr) (sp : Sp) (n : Nat) (ks : List Str) (gV : List V → List V → List V) : Prop where
  ex : ∃ (f : Addr) (fd : FuncData) (ps : List Str) (g : List Value → List Value → List Value), Mk K C f ∧ FnOk P w K mg base L2.CX0 k f fd ps sp ∧ mg x = some (.ref C) ∧ KBn K fd ps (n + 1) ks g gV
theorem mak_of {C : Addr} {x n qual : Str} {params : Arguments} {body : List Stmt} {scope : Scope} {f : Addr} {fd : FuncData} {ps : List Str} {k : Nat} {sp : Sp} (M : Mk K C f) (hm : mg x = some (.ref C)) (F : FunD K n qual params body scope [] [] f fd) (G : FnOk P w K mg base L2.CX0 k f fd ps sp)
    (h : ∀ (kV doc pm : Value) (an : Option Addr) (cdv ct : Value) (us : List Value), us.length = ps.length → bindArgs (PySem.W.fnOf n qual params body scope .none kV doc pm an cdv ct) ⟨us, []⟩ = pure (ps.zip us)) : C8.Mak P w K mg base k x C sp [] :=
  ⟨f, fd, ps, [], M, G, hm, F.bindsN h, .nil⟩
theorem met_of {C : Addr} {n qual : Str} {params : Arguments} {body : List Stmt} {scope : Scope} {f : Addr} {fd : FuncData} {ps : List Str} {k : Nat} {sp : Sp} (c : Cls K C) (m : Meth K C n f) (F : FunD K n qual params body scope [] [] f fd) (G : FnOk P w K mg base L2.CX0 k f fd ps sp)
    (h : ∀ (kV doc pm : Value) (an : Option Addr) (cdv ct : Value) (us : List Value), us.length = ps.length → bindArgs (PySem.W.fnOf n qual params body scope .none kV doc pm an cdv ct) ⟨us, []⟩ = pure (ps.zip us)) : C8.Met P w K mg base k C n sp [] :=
  ⟨f, fd, ps, [], c, m, G, F.bindsN h, .nil⟩
theorem metD_of {C : Addr} {n qual : Str} {params : Arguments} {body : List Stmt} {scope : Scope} {dvs : List V} {f : Addr} {fd : FuncData} {ps : List Str} {k : Nat} {sp : Sp} (c : Cls K C) (m : Meth K C n f) (F : FunD K n qual params body scope dvs [] f fd) (G : FnOk P w K mg base L2.CX0 k f fd ps sp) (hd : dvs ≠ []) (hn : dvs.length ≤ ps.length)
    (h : ∀ (T : Addr) (kV doc pm : Value) (an : Option Addr) (cdv ct : Value) (us its : List Value), us.length = ps.length - dvs.length → its.length = dvs.length →
      ∃ k, bindArgs (PySem.W.fnOf n qual params body scope (.ref T) kV doc pm an cdv ct) ⟨us, []⟩ = seqItems? (.ref T) >>= k ∧ k (some its.toArray) = pure (ps.zip (us ++ its.drop 0))) : C8.Met P w K mg base k C n sp dvs := by
  obtain ⟨ds, h1, h2⟩ := F.binds1 (ps := ps) (ps.length - dvs.length) 0 hd (by omega) h
  exact ⟨f, fd, ps, ds, c, m, G, h2, by simpa using h1⟩
end
section
variable {X : Cx} {k j n : Nat} {C : Addr} {x : Str} {sp : Sp} {p pos : Pos} {e : Expr} {es : List Expr} {kws : List Keyword} {ks : List Str} {t tk : TA} {gV : List V → List V → List V}
theorem pe_mk0 {dvs : List V} (c : C8.Mak X.prog X.w X.K X.mg X.base k x C sp dvs) (hr : Room j X.A) (hk : k + 1 ≤ j) (hg : Gl X x) (hdb : (x == ("__debug__" : Str)) = false := by decide) : PE X (.Call (.Name x p) [] [] pos) (tMake C sp dvs L2.E0 tNil) := by
  obtain ⟨f, fd, ps, ds, M, F, hm, b, d⟩ := c.ex
  exact pe_make0 M F (hr.mono hk) hg hm b d L2.pass0 hdb
theorem pe_mkK0 (c : MakK X.prog X.w X.K X.mg X.base k x C sp 0 ks gV) (hr : Room j X.A) (hk : k + 1 ≤ j) (hg : Gl X x) (hkw : PK X kws tk)
    (hall : (backToKw pos (keywordEach kws X.env)).all (·.1.isSome) = true := by rfl) (hks : (backToKw pos (keywordEach kws X.env)).filterMap (·.1) = ks := by rfl) (hdb : (x == ("__debug__" : Str)) = false := by decide)
    (hpl : ((backTo pos (starEach [] X.env)).any (·.1) || (backToKw pos (keywordEach kws X.env)).any (·.1.isNone)) = false := by rfl) :
    PE X (.Call (.Name x p) [] kws pos) (tMakeK C 0 ks.length sp gV L2.E0 tNil tk) := by
  obtain ⟨f, fd, ps, g, M, F, hm, b⟩ := c.ex
  exact pe_makeK0 M F (hr.mono hk) hg hm b L2.pass0 hkw hall hks hdb hpl
end
/-! ### new objects -/
theorem same_own {H : Hp} {x dx C : Addr} {fs : List (Str × V)} (hx : H x = none) (hd : H dx = none) : Same H (upd (upd H dx (.own x)) x (.ins C dx fs)) := fun b o e => by
  rw [upd_ne (ne_of_none e hx), upd_ne (ne_of_none e hd)]
  exact e
theorem Same.upd_of {H H' : Hp} {a : Addr} {o : HO} (s : Same H H') (h : H a = none) : Same H (upd H' a o) := fun b u e => by
  rw [upd_ne (ne_of_none e h)]
  exact s b u e
/-! ### texts that can be laid -/
theorem ok_iff {z : Str} : PyData.strOk z = true ↔ ∀ c ∈ TL.tl z, c < 0x110000 := by
  unfold PyData.strOk TL.tl
  rw [Array.all_eq_true']
  constructor
  · intro h c hc
    simpa using h c (by simpa using hc)
  · intro h c hc
    simpa using h c (by simpa using hc)
theorem ok_cat {a b : Str} (ha : PyData.strOk a = true) (hb : PyData.strOk b = true) : PyData.strOk (a ++ b) = true := by
  rw [ok_iff] at *
  intro c hc
  rw [TL.tl_append, List.mem_append] at hc
  exact hc.elim (ha c) (hb c)
theorem joinL_mem {s : List Nat} {c : Nat} : ∀ l : List (List Nat), c ∈ TL.joinL s l → c ∈ s ∨ ∃ p ∈ l, c ∈ p
  | [], h => by simp [TL.joinL] at h
  | [p], h => .inr ⟨p, List.mem_singleton.mpr rfl, by simpa [TL.joinL] using h⟩
  | p :: q :: r, h => by
    have h2 : c ∈ p ++ (s ++ TL.joinL s (q :: r)) := h
    rw [List.mem_append, List.mem_append] at h2
    rcases h2 with h2 | h2 | h2
    · exact .inr ⟨p, List.mem_cons_self .., h2⟩
    · exact .inl h2
    · rcases joinL_mem (q :: r) h2 with h3 | ⟨x, h3, h4⟩
      · exact .inl h3
      · exact .inr ⟨x, List.mem_cons_of_mem _ h3, h4⟩
theorem ok_join {y : Str} {l : List Str} (hy : PyData.strOk y = true) (hl : ∀ z ∈ l, PyData.strOk z = true) : PyData.strOk (Txt.join y l) = true := by
  rw [TL.join_eq, ok_iff]
  intro c hc
  rw [TL.tl_join] at hc
  rcases joinL_mem _ hc with h | ⟨p, hp, h⟩
  · exact ok_iff.mp hy c h
  · obtain ⟨z, hz, rfl⟩ := List.mem_map.mp hp
    exact ok_iff.mp (hl z hz) c h
def numS (i : Int) : Str := Str.ofString (toString i)
theorem numS_tl {i : Int} (h : 0 ≤ i) : TL.tl (numS i) = TL.numL i.toNat := by
  have e : i = ((i.toNat : Nat) : Int) := (Int.toNat_of_nonneg h).symm
  rw [e]
  exact TL.tl_num _
theorem ok_num {i : Int} (h : 0 ≤ i) : PyData.strOk (numS i) = true := by
  rw [ok_iff, numS_tl h]
  intro c hc
  exact Nat.lt_of_not_le fun q => TL.numL_free (n := i.toNat) (s := c) (.inr (by omega)) hc
theorem numS_len {i : Int} (h : i.natAbs < 1000000000) : (numS i).length ≤ 10 := by
  have e := int_text_length_le10 (a := i) (k := 9) (by decide) (by omega)
  show (Str.ofString (toString i)).length ≤ 10
  rw [PySem.ofString_length]
  omega
theorem numS_log {i : Int} (h : i.natAbs < 1000000000) : i.natAbs.log2 < 1920 := log_small (Nat.lt_of_lt_of_le h (by decide))
theorem szl {z : Str} (h : z.length ≤ 100000) : z.length ≤ sizeLine := Nat.le_trans h (by decide)
theorem ne_ins {H : Hp} {a b C C' dx dx' : Addr} {fs fs' : List (Str × V)} (h : H a = some (.ins C dx fs)) (h' : H b = some (.ins C' dx' fs')) (n : fs.length ≠ fs'.length) : a ≠ b :=
  ne_of h h' fun e => by
    injection e with _ _ e2
    exact n (congrArg List.length e2)
/-- only what stands at A has changed -/
def Fr (A : List Addr) (H H' : Hp) : Prop := ∀ b o, H b = some o → b ∉ A → H' b = some o
theorem Fr.of_same {A : List Addr} {H H' : Hp} (s : Same H H') : Fr A H H' := fun b o e _ => s b o e
theorem Fr.refl (A : List Addr) (H : Hp) : Fr A H H := fun _ _ e _ => e
theorem Fr.trans {A : List Addr} {H H1 H2 : Hp} (s : Fr A H H1) (t : Fr A H1 H2) : Fr A H H2 := fun b o e n => t b o (s b o e n) n
theorem Fr.trans_new {A A' : List Addr} {H H1 H2 : Hp} (s : Fr A H H1) (t : Fr A' H1 H2) (n : ∀ b ∈ A', b ∈ A ∨ H b = none) : Fr A H H2 := fun b o e hn => t b o (s b o e hn) fun m => (n b m).elim hn fun z => by rw [e] at z; cases z
end TK
set_option maxHeartbeats 1000000
/-! Calls with keywords of defs with many keyword-only parameters: the binding by names, without unfolding it at each name. -/
namespace TK
open PySem PySem.Spec PyProof.Rows L2
open PySem.W (Looks)
theorem forIn_looks {M : Model} {h : Heap} {α β : Type} {f : α → β → Sem (ForInStep β)} {g : β → α → β} : ∀ (l : List α) (b : β), (∀ pre a post, l = pre ++ a :: post → Looks M h (f a (pre.foldl g b)) (.yield (g (pre.foldl g b) a))) → Looks M h (forIn l b f) (l.foldl g b)
  | [], b, _ => by rw [List.forIn_nil]; exact Looks.of_pure rfl
  | a :: r, b, H => by
    rw [List.forIn_cons]
    exact Looks.andThen (H [] a r rfl) (forIn_looks r (g b a) fun pre c post e => H (a :: pre) c post (by rw [e]; rfl))
abbrev Sl : Type := List (Str × Value)
def g1 (s : Sl × Sl) (p : Str × Value) : Sl × Sl := (s.1 ++ [(p.1, p.2)], s.2)
theorem fold1 : ∀ (l : Sl) (s : Sl × Sl), l.foldl g1 s = (s.1 ++ l, s.2)
  | [], s => by rw [List.foldl_nil, List.append_nil]
  | p :: r, s => by
    rw [List.foldl_cons, fold1 r]
    unfold g1
    rw [List.append_assoc]
    rfl
theorem lookup_none {k : Str} : ∀ {l : Sl}, k ∉ l.map (·.1) → l.lookup k = none
  | [], _ => rfl
  | (a, b) :: r, h => by
    rw [List.map_cons, List.mem_cons, not_or] at h
    rw [List.lookup_cons, show (k == a) = false from beq_eq_false_iff_ne.mpr h.1]
    exact lookup_none h.2
theorem lookup_some {k : Str} : ∀ {l : Sl}, k ∈ l.map (·.1) → ∃ v, l.lookup k = some v
  | [], h => by cases h
  | (a, b) :: r, h => by
    rw [List.lookup_cons]
    by_cases e : (k == a) = true
    · rw [e]
      exact ⟨b, rfl⟩
    · rw [show (k == a) = false by simpa using e]
      rw [List.map_cons, List.mem_cons] at h
      exact lookup_some (h.resolve_left fun z => e (by rw [z]; exact beq_self_eq_true a))
def g2 (dv : Str → Value) (s : Sl × List Str) (n : Str) : Sl × List Str := if (s.1.lookup n).isNone = true then (s.1 ++ [(n, dv n)], s.2) else (s.1, s.2)
theorem fold2 {dv : Str → Value} : ∀ (l : List Str) (s : Sl × List Str), ∃ t, l.foldl (g2 dv) s = (s.1 ++ t, s.2)
  | [], s => ⟨[], by rw [List.foldl_nil, List.append_nil]⟩
  | n :: r, s => by
    rw [List.foldl_cons]
    obtain ⟨t, e⟩ := fold2 r (g2 dv s n)
    rw [e]
    unfold g2
    by_cases h : (s.1.lookup n).isNone = true
    · rw [if_pos h]
      exact ⟨(n, dv n) :: t, by rw [List.append_assoc]; rfl⟩
    · rw [if_neg h]
      exact ⟨t, rfl⟩
def bindR (self : Str) (L : List Str) (u : Value) (kw : Sl) (dv : Str → Value) : Sl :=
  ([self] ++ L).filterMap fun n => ((L.foldl (g2 dv) ((self, u) :: kw, [])).1.lookup n).map fun x => (n, x)
theorem bind_kw {K : PySem.W.Frag} {M : Model} {h : Heap} {x qual : Str} {params : Arguments} {body : List Stmt} {scope : Scope} {D : Addr} {doc pm : Value} {an : Option Addr} {cdv ct : Value} {u : Value} {kw : Sl} {L ks : List Str} {self : Str}
    (X : K.In h) (h1 : params.posonlyargs.map (·.arg) = []) (h2 : params.args.map (·.arg) = [self]) (h3 : params.kwonlyargs.map (·.arg) = L) (h4 : params.vararg = none) (h5 : params.kwarg = none) (hk : kw.map (·.1) = ks) (nd : (self :: ks).Nodup) (hin : ∀ k ∈ ks, k ∈ L)
    (dv : Str → Value) (hd : ∀ n ∈ L, n ∉ ks → PySem.W.nsIn K D n = some (some (dv n))) :
    Looks M h (bindArgs (PySem.W.fnOf x qual params body scope .none (.ref D) doc pm an cdv ct) ⟨[u], kw⟩) (bindR self L u kw dv) := by
  unfold bindArgs
  simp only [PySem.W.fnOf, h1, h2, h3, h4, h5]
  have e1 : ∀ pre, pre.foldl g1 ((([] : List Str) ++ [self]).zip [u], []) = ((self, u) :: pre, []) := fun pre => fold1 pre _
  refine Looks.andThen (a := ((self, u) :: kw, [])) ?_ ?_
  · rw [← e1 kw]
    refine forIn_looks kw _ fun pre p post e => ?_
    rw [e1 pre]
    have mk : p.1 ∈ ks := by rw [← hk, e, List.map_append, List.map_cons]; exact List.mem_append_right _ (List.mem_cons_self ..)
    have c1 : ([self].contains p.1 || L.contains p.1) = true := by rw [show L.contains p.1 = true by simpa using hin _ mk, Bool.or_true]
    have nk : p.1 ∉ ((self, u) :: pre).map (·.1) := by
      rw [← hk, e, List.map_append, List.map_cons] at nd
      obtain ⟨n1, n2⟩ := List.nodup_cons.mp nd
      rw [List.map_cons, List.mem_cons, not_or]
      refine ⟨fun z => n1 (by have z2 : p.1 = self := z; rw [← z2]; exact List.mem_append_right _ (List.mem_cons_self ..)), fun z => ?_⟩
      exact (List.nodup_append.mp n2).2.2 _ z _ (List.mem_cons_self ..) rfl
    rw [if_pos c1, if_neg (by rw [lookup_none nk]; exact Bool.false_ne_true)]
    exact Looks.of_pure rfl
  · refine Looks.andThen (a := none) (Looks.of_pure rfl) ?_
    have el : ((self, u) :: kw).lookup self = some u := by rw [List.lookup_cons, beq_self_eq_true]
    rw [if_neg (by show ¬ (decide (1 > 1) && _) = true; simp)]
    have em : List.filter (fun n => (List.lookup n (((self, u) :: kw, ([] : Sl)) : Sl × Sl).fst).isNone) [self] = [] := by
      rw [List.filter_cons, if_neg (by show ¬ (List.lookup self ((self, u) :: kw)).isNone = true; rw [el]; exact Bool.false_ne_true)]
      rfl
    refine (fun z => ?_) em
    rw [if_neg (by show ¬ (!(List.filter (fun n => (List.lookup n (((self, u) :: kw, ([] : Sl)) : Sl × Sl).fst).isNone) [self]).isEmpty) = true; rw [em]; exact Bool.false_ne_true)]
    refine Looks.andThen (a := (self, u) :: kw) (Looks.of_pure rfl) ?_
    refine Looks.andThen (a := L.foldl (g2 dv) ((self, u) :: kw, [])) (forIn_looks L _ fun pre n post e => ?_) ?_
    · obtain ⟨t, et⟩ := fold2 (dv := dv) pre ((self, u) :: kw, [])
      rw [show List.foldl (g2 dv) ((self, u) :: kw, []) pre = (((self, u) :: kw) ++ t, []) from et]
      unfold g2
      by_cases hl : (List.lookup n (((self, u) :: kw) ++ t)).isNone = true
      · rw [if_pos hl, if_pos hl]
        have nks : n ∉ ks := fun m => by
          have m2 : n ∈ (((self, u) :: kw) ++ t).map (·.1) := by
            rw [List.map_append, List.map_cons, hk]
            exact List.mem_append_left _ (List.mem_cons_of_mem _ m)
          obtain ⟨v, ev⟩ := lookup_some m2
          rw [ev] at hl
          cases hl
        refine Looks.andThen (a := some (dv n)) (PySem.W.looks_nsIn X (hd n (by rw [e]; exact List.mem_append_right _ (List.mem_cons_self ..)) nks)) (Looks.of_pure rfl)
      · rw [if_neg hl, if_neg hl]
        exact Looks.of_pure rfl
    · obtain ⟨t, et⟩ := fold2 (dv := dv) L ((self, u) :: kw, [])
      rw [if_neg (by rw [et]; exact Bool.false_ne_true)]
      exact Looks.of_pure rfl
theorem kbn_of {K : PySem.W.Frag} {x qual : Str} {params : Arguments} {body : List Stmt} {scope : Scope} {kws : List (Str × V)} {f : Addr} {fd : FuncData} {ps ks L : List Str} {self : Str} (F : FunD K x qual params body scope [] kws f fd) (ms : List (Str × V)) (g : {α : Type} → List α → List α → List α → List α) (hkws : kws ≠ [])
    (hrel : ∀ {vs mz zs : List V} {us mv ws : List Value}, Vals vs us → Vals mz mv → Vals zs ws → Vals (g vs mz zs) (g us mv ws))
    (h1 : params.posonlyargs.map (·.arg) = []) (h2 : params.args.map (·.arg) = [self]) (h3 : params.kwonlyargs.map (·.arg) = L) (h4 : params.vararg = none) (h5 : params.kwarg = none) (nd : (self :: ks).Nodup) (hin : ∀ k ∈ ks, k ∈ L) (hms : ∀ q ∈ ms, q ∈ kws) (hcov : ∀ n ∈ L, n ∉ ks → n ∈ ms.map (·.1))
    (heq : ∀ (u : Value) (mv ws : List Value), mv.length = ms.length → ws.length = ks.length → bindR self L u (ks.zip ws) (fun n => (((ms.map (·.1)).zip mv).lookup n).getD .none) = ps.zip (g [u] mv ws)) :
    ∃ mv : List Value, KBn K fd ps 1 ks (fun us ws => g us mv ws) (fun vs zs => g vs (ms.map (·.2)) zs) := by
  obtain ⟨oc, od, dV, kV, doc, pm, an, cdv, ct, osl, rfl, lk, hcd, hD, hK⟩ := F.ex
  have edV : dV = .none := by
    rcases hD with ⟨_, e⟩ | ⟨e, _⟩
    · exact e
    · exact absurd rfl e
  subst edV
  rcases hK with e | ⟨D, rfl, hq⟩
  · exact absurd e hkws
  obtain ⟨mv, hl, rk, hks⟩ := kwd_vals (ms := ms) fun q hm => hq q (hms q hm)
  refine ⟨mv, ⟨fun s us ws X l1 l2 => ?_, fun r1 r2 => hrel r1 rk r2⟩⟩
  obtain ⟨u, rfl⟩ : ∃ u, us = [u] := by
    cases us with
    | nil => cases l1
    | cons a r =>
      cases r with
      | nil => exact ⟨a, rfl⟩
      | cons b r => cases l1
  refine BindsTo.of_looks fun M => ?_
  show Looks M s.heap _ (ps.zip (g [u] mv ws))
  rw [← heq u mv ws hl l2]
  refine bind_kw X h1 h2 h3 h4 h5 (List.map_fst_zip (by omega)) nd hin _ fun n hn nk => ?_
  have lm : ((ms.map (·.1)).zip mv).map (·.1) = ms.map (·.1) := List.map_fst_zip (by rw [List.length_map]; omega)
  obtain ⟨v, ev⟩ := lookup_some (k := n) (l := (ms.map (·.1)).zip mv) (by rw [lm]; exact hcov n hn nk)
  rw [ev]
  have mem : ∀ {l : Sl}, l.lookup n = some v → (n, v) ∈ l := by
    intro l
    induction l with
    | nil => intro h; cases h
    | cons a r ih =>
      obtain ⟨a1, a2⟩ := a
      intro h
      rw [List.lookup_cons] at h
      by_cases e : (n == a1) = true
      · rw [e] at h
        rw [Option.some.inj h, beq_iff_eq.mp e]
        exact List.mem_cons_self ..
      · rw [show (n == a1) = false by simpa using e] at h
        exact List.mem_cons_of_mem _ (ih h)
  exact hks _ (mem ev)
end TK
set_option maxHeartbeats 4000000
namespace K6
open PySem PySem.Spec PyProof.Rows L2 SX TK
open C8 (pe_c)
def top (i : Nat) : Stmt := PySem.Challenge.pw_trunkland_k06_servers.main.body.getD i (.Pass ⟨0, 0, 0, 0⟩)
abbrev s_write_offer : Stmt := top 1
abbrev s_Letter___init : Stmt := inClass (top 4) 0
abbrev s_Letter_parts : Stmt := inClass (top 4) 1
abbrev s_Letter_reply : Stmt := inClass (top 4) 2
abbrev s_is_final : Stmt := top 5
abbrev s_write : Stmt := top 6
abbrev s_write_head : Stmt := top 7
abbrev s_Wait___init : Stmt := inClass (top 11) 0
abbrev s_Wait_repeats : Stmt := inClass (top 11) 1
abbrev s_Wait_is_up : Stmt := inClass (top 11) 2
abbrev s_Server___init : Stmt := inClass (top 13) 0
abbrev s_Server_matches : Stmt := inClass (top 13) 1
abbrev s_Server_again : Stmt := inClass (top 13) 2
abbrev s_Server_reply : Stmt := inClass (top 13) 3
abbrev s_Server_keep : Stmt := inClass (top 13) 4
abbrev s_Server_tick : Stmt := inClass (top 13) 5
abbrev s_Server_is_over : Stmt := inClass (top 13) 6
abbrev s_law_state : Stmt := top 15
abbrev s_law_draw : Stmt := top 16
abbrev s_law_pick : Stmt := top 17
abbrev s_law_sends_at : Stmt := top 18
abbrev s_law_letter : Stmt := top 19
abbrev s_law_matches_right : Stmt := top 20
abbrev s_law_tick : Stmt := top 21
abbrev s_law_replies : Stmt := top 22
abbrev s_law_again : Stmt := top 23
abbrev s_law_keeps : Stmt := top 24
abbrev s_law : Stmt := top 25
theorem sc_write_offer : FnScope ["offer", "port", "mode", "formats"] ["offer"] (defScope s_write_offer) := ⟨rfl, rfl, rfl, by decide +kernel, rfl, by decide +kernel, by decide +kernel⟩
theorem sc_Letter___init : FnScope ["self", "verb", "call", "origin", "origin_tag", "target", "target_tag", "seq", "way", "code", "offer", "stay", "goal"] ["self", "verb", "call", "origin", "origin_tag", "target", "target_tag", "seq", "way", "code", "offer", "stay", "goal"] (defScope s_Letter___init) := ⟨rfl, rfl, rfl, by decide +kernel, rfl, by decide +kernel, by decide +kernel⟩
theorem sc_Letter_parts : FnScope ["self"] ["self"] (defScope s_Letter_parts) := ⟨rfl, rfl, rfl, by decide +kernel, rfl, by decide +kernel, by decide +kernel⟩
theorem sc_Letter_reply : FnScope ["self", "code", "tag", "offer", "stay"] ["self", "code", "tag", "offer", "stay"] (defScope s_Letter_reply) := ⟨rfl, rfl, rfl, by decide +kernel, rfl, by decide +kernel, by decide +kernel⟩
theorem sc_is_final : FnScope ["code"] ["code"] (defScope s_is_final) := ⟨rfl, rfl, rfl, by decide +kernel, rfl, by decide +kernel, by decide +kernel⟩
theorem sc_write : FnScope ["letter", "lines", "line"] ["letter"] (defScope s_write) := ⟨rfl, rfl, rfl, by decide +kernel, rfl, by decide +kernel, by decide +kernel⟩
theorem sc_write_head : FnScope ["letter"] ["letter"] (defScope s_write_head) := ⟨rfl, rfl, rfl, by decide +kernel, rfl, by decide +kernel, by decide +kernel⟩
theorem sc_Wait___init : FnScope ["self", "now", "first"] ["self", "now", "first"] (defScope s_Wait___init) := ⟨rfl, rfl, rfl, by decide +kernel, rfl, by decide +kernel, by decide +kernel⟩
theorem sc_Wait_repeats : FnScope ["self", "now"] ["self", "now"] (defScope s_Wait_repeats) := ⟨rfl, rfl, rfl, by decide +kernel, rfl, by decide +kernel, by decide +kernel⟩
theorem sc_Wait_is_up : FnScope ["self", "now"] ["self", "now"] (defScope s_Wait_is_up) := ⟨rfl, rfl, rfl, by decide +kernel, rfl, by decide +kernel, by decide +kernel⟩
theorem sc_Server___init : FnScope ["self", "letter", "place", "first"] ["self", "letter", "place", "first"] (defScope s_Server___init) := ⟨rfl, rfl, rfl, by decide +kernel, rfl, by decide +kernel, by decide +kernel⟩
theorem sc_Server_matches : FnScope ["self", "letter", "place", "own"] ["self", "letter", "place"] (defScope s_Server_matches) := ⟨rfl, rfl, rfl, by decide +kernel, rfl, by decide +kernel, by decide +kernel⟩
theorem sc_Server_again : FnScope ["self"] ["self"] (defScope s_Server_again) := ⟨rfl, rfl, rfl, by decide +kernel, rfl, by decide +kernel, by decide +kernel⟩
theorem sc_Server_reply : FnScope ["self", "letter", "now"] ["self", "letter", "now"] (defScope s_Server_reply) := ⟨rfl, rfl, rfl, by decide +kernel, rfl, by decide +kernel, by decide +kernel⟩
theorem sc_Server_keep : FnScope ["self", "now"] ["self", "now"] (defScope s_Server_keep) := ⟨rfl, rfl, rfl, by decide +kernel, rfl, by decide +kernel, by decide +kernel⟩
theorem sc_Server_tick : FnScope ["self", "now", "waits_for_keep"] ["self", "now"] (defScope s_Server_tick) := ⟨rfl, rfl, rfl, by decide +kernel, rfl, by decide +kernel, by decide +kernel⟩
theorem sc_Server_is_over : FnScope ["self"] ["self"] (defScope s_Server_is_over) := ⟨rfl, rfl, rfl, by decide +kernel, rfl, by decide +kernel, by decide +kernel⟩
theorem sc_law_state : FnScope ["script", "seed", "cell"] ["script"] (defScope s_law_state) := ⟨rfl, rfl, rfl, by decide +kernel, rfl, by decide +kernel, by decide +kernel⟩
theorem sc_law_draw : FnScope ["state", "many", "cells", "value", "mixed"] ["state", "many"] (defScope s_law_draw) := ⟨rfl, rfl, rfl, by decide +kernel, rfl, by decide +kernel, by decide +kernel⟩
theorem sc_law_pick : FnScope ["state", "row"] ["state", "row"] (defScope s_law_pick) := ⟨rfl, rfl, rfl, by decide +kernel, rfl, by decide +kernel, by decide +kernel⟩
theorem sc_law_sends_at : FnScope ["first", "ticks", "gap", "tick"] ["first"] (defScope s_law_sends_at) := ⟨rfl, rfl, rfl, by decide +kernel, rfl, by decide +kernel, by decide +kernel⟩
theorem sc_law_letter : FnScope ["verb", "call", "tag", "seq", "way"] ["verb", "call", "tag", "seq", "way"] (defScope s_law_letter) := ⟨rfl, rfl, rfl, by decide +kernel, rfl, by decide +kernel, by decide +kernel⟩
theorem sc_law_matches_right : FnScope ["server", "verb", "others", "other", "due", "wrong", "letter"] ["server", "verb"] (defScope s_law_matches_right) := ⟨rfl, rfl, rfl, by decide +kernel, rfl, by decide +kernel, by decide +kernel⟩
theorem sc_law_tick : FnScope ["server", "world", "now", "is_call", "rows", "given_up", "due", "lost"] ["server", "world", "now", "is_call"] (defScope s_law_tick) := ⟨rfl, rfl, rfl, by decide +kernel, rfl, by decide +kernel, by decide +kernel⟩
theorem sc_law_replies : FnScope ["server", "world", "letter", "code", "now", "tag", "reply", "rows"] ["server", "world", "letter", "code", "now", "tag"] (defScope s_law_replies) := ⟨rfl, rfl, rfl, by decide +kernel, rfl, by decide +kernel, by decide +kernel⟩
theorem sc_law_again : FnScope ["server", "world", "due"] ["server", "world"] (defScope s_law_again) := ⟨rfl, rfl, rfl, by decide +kernel, rfl, by decide +kernel, by decide +kernel⟩
theorem sc_law_keeps : FnScope ["server", "world", "now", "is_call", "first", "told"] ["server", "world", "now", "is_call"] (defScope s_law_keeps) := ⟨rfl, rfl, rfl, by decide +kernel, rfl, by decide +kernel, by decide +kernel⟩
theorem sc_law : FnScope ["script", "state", "verb", "first", "now", "letter", "server", "world", "cell", "kind", "right", "k"] ["script"] (defScope s_law) := ⟨rfl, rfl, rfl, by decide +kernel, rfl, by decide +kernel, by decide +kernel⟩
structure Tx (K : PySem.W.Frag) (mg : Str → Option Value) : Prop where
  g_GREATEST_GAP : ∃ t, mg "GREATEST_GAP" = some (.int 8 t)
  g_LEAST_FINAL_CODE : ∃ t, mg "LEAST_FINAL_CODE" = some (.int 20 t)
  g_LIMIT : ∃ t, mg "LIMIT" = some (.int 32 t)
  f_abs : mg "abs" = none
  f_bool : mg "bool" = none
  f_int : mg "int" = none
  f_isinstance : mg "isinstance" = none
  f_len : mg "len" = none
  f_list : mg "list" = none
  f_min : mg "min" = none
  f_range : mg "range" = none
  f_str : mg "str" = none
  cl_Letter : Cls K (He.ga K "Letter")
  na_Letter_verb : NoAttr K (He.ga K "Letter") "verb"
  na_Letter_code : NoAttr K (He.ga K "Letter") "code"
  na_Letter_call : NoAttr K (He.ga K "Letter") "call"
  na_Letter_origin : NoAttr K (He.ga K "Letter") "origin"
  na_Letter_origin_tag : NoAttr K (He.ga K "Letter") "origin_tag"
  na_Letter_target : NoAttr K (He.ga K "Letter") "target"
  na_Letter_target_tag : NoAttr K (He.ga K "Letter") "target_tag"
  na_Letter_seq : NoAttr K (He.ga K "Letter") "seq"
  na_Letter_way : NoAttr K (He.ga K "Letter") "way"
  na_Letter_offer : NoAttr K (He.ga K "Letter") "offer"
  na_Letter_stay : NoAttr K (He.ga K "Letter") "stay"
  na_Letter_goal : NoAttr K (He.ga K "Letter") "goal"
  cl_Wait : Cls K (He.ga K "Wait")
  na_Wait__began : NoAttr K (He.ga K "Wait") "_began"
  na_Wait__first : NoAttr K (He.ga K "Wait") "_first"
  na_Wait__gap : NoAttr K (He.ga K "Wait") "_gap"
  na_Wait__due : NoAttr K (He.ga K "Wait") "_due"
  cl_Server : Cls K (He.ga K "Server")
  na_Server_letter : NoAttr K (He.ga K "Server") "letter"
  na_Server_place : NoAttr K (He.ga K "Server") "place"
  na_Server_state : NoAttr K (He.ga K "Server") "state"
  na_Server_code : NoAttr K (He.ga K "Server") "code"
  na_Server__first : NoAttr K (He.ga K "Server") "_first"
  na_Server__wait : NoAttr K (He.ga K "Server") "_wait"
  na_Server__latest : NoAttr K (He.ga K "Server") "_latest"
/-! ### letters -/
structure Ltr where
  verb : Str
  call : Str
  origin : Str
  otag : Str
  target : Str
  ttag : Str
  seq : Int
  way : Str
  code : V
  offer : V
  stay : V
  goal : V
def Ltr.fl (L : Ltr) : List (Str × V) := [("verb", .str L.verb), ("code", L.code), ("call", .str L.call), ("origin", .str L.origin), ("origin_tag", .str L.otag), ("target", .str L.target), ("target_tag", .str L.ttag), ("seq", .int L.seq), ("way", .str L.way), ("offer", L.offer), ("stay", L.stay), ("goal", L.goal)]
def LetAt (K : PySem.W.Frag) (H : Hp) (a : Addr) (L : Ltr) : Prop := ∃ dx, H a = some (.ins (He.ga K "Letter") dx L.fl)
theorem LetAt.same {K : PySem.W.Frag} {H H' : Hp} {a : Addr} {L : Ltr} (h : LetAt K H a L) (s : Same H H') : LetAt K H' a L := by
  obtain ⟨dx, e⟩ := h
  exact ⟨dx, s _ _ e⟩
def Ltr.args (L : Ltr) : List V := [.str L.verb, .str L.call, .str L.origin, .str L.otag, .str L.target, .str L.ttag, .int L.seq, .str L.way, L.code, L.offer, L.stay, L.goal]
def spLetInit (K : PySem.W.Frag) : Sp := fun vs H Q _ => ∃ (p dx : Addr) (L : Ltr), vs = .ref p :: L.args ∧ H p = some (.ins (He.ga K "Letter") dx []) ∧ Q .non (upd H p (.ins (He.ga K "Letter") dx L.fl))
theorem ok_Letter___init {P : Program} {w : World} {K : PySem.W.Frag} {mg : Str → Option Value} {base : Heap} {f : Addr} {fd : FuncData} (T : Tx K mg) 
    (F : FunD K "__init__" "Letter.__init__" (defArgs s_Letter___init) (defBody s_Letter___init) (defScope s_Letter___init) [] [("code", (V.non)), ("offer", (V.non)), ("stay", (V.non)), ("goal", (V.non))] f fd) : FnOk P w K mg base CX0 1 f fd ["self", "verb", "call", "origin", "origin_tag", "target", "target_tag", "seq", "way", "code", "offer", "stay", "goal"] (spLetInit K) := by
  refine F.ok sc_Letter___init (fun vs H Q E h => ?_) (fun cdv A outer s H vs Q E hr h => ?_)
  · obtain ⟨p, dx, L, rfl, _⟩ := h
    rfl
  · obtain ⟨p, dx, L, rfl, hp, k⟩ := h
    refine ⟨_, PSs.nox (pss_cons (ps_fldC rfl T.cl_Letter T.na_Letter_verb (pv 0) (pv 1) rfl) (pss_cons (ps_fldC rfl T.cl_Letter T.na_Letter_code (pv 0) (pv 9) rfl) (pss_cons (ps_fldC rfl T.cl_Letter T.na_Letter_call (pv 0) (pv 2) rfl) (pss_cons (ps_fldC rfl T.cl_Letter T.na_Letter_origin (pv 0) (pv 3) rfl) (pss_cons (ps_fldC rfl T.cl_Letter T.na_Letter_origin_tag (pv 0) (pv 4) rfl) (pss_cons (ps_fldC rfl T.cl_Letter T.na_Letter_target (pv 0) (pv 5) rfl) (pss_cons (ps_fldC rfl T.cl_Letter T.na_Letter_target_tag (pv 0) (pv 6) rfl) (pss_cons (ps_fldC rfl T.cl_Letter T.na_Letter_seq (pv 0) (pv 7) rfl) (pss_cons (ps_fldC rfl T.cl_Letter T.na_Letter_way (pv 0) (pv 8) rfl) (pss_cons (ps_fldC rfl T.cl_Letter T.na_Letter_offer (pv 0) (pv 10) rfl) (pss_cons (ps_fldC rfl T.cl_Letter T.na_Letter_stay (pv 0) (pv 11) rfl) (pss_one (ps_fldC rfl T.cl_Letter T.na_Letter_goal (pv 0) (pv 12) rfl))))))))))))), ?_⟩
    refine ⟨_, rfl, _, rfl, p, dx, _, rfl, hp, sm, ?_⟩
    refine ⟨_, rfl, _, rfl, p, dx, _, rfl, upd_same, sm, ?_⟩
    refine ⟨_, rfl, _, rfl, p, dx, _, rfl, upd_same, sm, ?_⟩
    refine ⟨_, rfl, _, rfl, p, dx, _, rfl, upd_same, sm, ?_⟩
    refine ⟨_, rfl, _, rfl, p, dx, _, rfl, upd_same, sm, ?_⟩
    refine ⟨_, rfl, _, rfl, p, dx, _, rfl, upd_same, sm, ?_⟩
    refine ⟨_, rfl, _, rfl, p, dx, _, rfl, upd_same, sm, ?_⟩
    refine ⟨_, rfl, _, rfl, p, dx, _, rfl, upd_same, sm, ?_⟩
    refine ⟨_, rfl, _, rfl, p, dx, _, rfl, upd_same, sm, ?_⟩
    refine ⟨_, rfl, _, rfl, p, dx, _, rfl, upd_same, sm, ?_⟩
    refine ⟨_, rfl, _, rfl, p, dx, _, rfl, upd_same, sm, ?_⟩
    refine ⟨_, rfl, _, rfl, p, dx, _, rfl, upd_same, sm, ?_⟩
    simp only [upd_upd]
    exact k
def Ltr.partsV (L : Ltr) : List V := [.str L.verb, L.code, .str L.call, .str L.origin, .str L.otag, .str L.target, .str L.ttag, .int L.seq, .str L.way, L.offer, L.stay, L.goal]
def spParts (K : PySem.W.Frag) : Sp := fun vs H Q _ => ∃ (a : Addr) (L : Ltr), vs = [.ref a] ∧ LetAt K H a L ∧ ∀ t, H t = none → Q (.ref t) (upd H t (.tup L.partsV))
theorem ok_Letter_parts {P : Program} {w : World} {K : PySem.W.Frag} {mg : Str → Option Value} {base : Heap} {f : Addr} {fd : FuncData} (T : Tx K mg) 
    (F : FunD K "parts" "Letter.parts" (defArgs s_Letter_parts) (defBody s_Letter_parts) (defScope s_Letter_parts) [] [] f fd) : FnOk P w K mg base CX0 1 f fd ["self"] (spParts K) := by
  refine F.ok sc_Letter_parts (fun vs H Q E h => ?_) (fun cdv A outer s H vs Q E hr h => ?_)
  · obtain ⟨p, L, rfl, _⟩ := h
    rfl
  · obtain ⟨p, L, rfl, ⟨dx, hp⟩, k⟩ := h
    refine ⟨_, PSs.nox (pss_one (ps_ret (pe_tup (pa_cons (pe_fldC rfl T.cl_Letter T.na_Letter_verb (pv 0) rfl) (pa_cons (pe_fldC rfl T.cl_Letter T.na_Letter_code (pv 0) rfl) (pa_cons (pe_fldC rfl T.cl_Letter T.na_Letter_call (pv 0) rfl) (pa_cons (pe_fldC rfl T.cl_Letter T.na_Letter_origin (pv 0) rfl) (pa_cons (pe_fldC rfl T.cl_Letter T.na_Letter_origin_tag (pv 0) rfl) (pa_cons (pe_fldC rfl T.cl_Letter T.na_Letter_target (pv 0) rfl) (pa_cons (pe_fldC rfl T.cl_Letter T.na_Letter_target_tag (pv 0) rfl) (pa_cons (pe_fldC rfl T.cl_Letter T.na_Letter_seq (pv 0) rfl) (pa_cons (pe_fldC rfl T.cl_Letter T.na_Letter_way (pv 0) rfl) (pa_cons (pe_fldC rfl T.cl_Letter T.na_Letter_offer (pv 0) rfl) (pa_cons (pe_fldC rfl T.cl_Letter T.na_Letter_stay (pv 0) rfl) (pa_cons (pe_fldC rfl T.cl_Letter T.na_Letter_goal (pv 0) rfl) pa_nil))))))))))))))), ?_⟩
    refine ⟨_, rfl, p, dx, _, _, rfl, hp, rfl, _, rfl, p, dx, _, _, rfl, hp, rfl, _, rfl, p, dx, _, _, rfl, hp, rfl, _, rfl, p, dx, _, _, rfl, hp, rfl, _, rfl, p, dx, _, _, rfl, hp, rfl, _, rfl, p, dx, _, _, rfl, hp, rfl, ?_⟩
    refine ⟨_, rfl, p, dx, _, _, rfl, hp, rfl, _, rfl, p, dx, _, _, rfl, hp, rfl, _, rfl, p, dx, _, _, rfl, hp, rfl, _, rfl, p, dx, _, _, rfl, hp, rfl, _, rfl, p, dx, _, _, rfl, hp, rfl, _, rfl, p, dx, _, _, rfl, hp, rfl, ?_⟩
    exact ⟨by show 12 ≤ sizeLine; decide, k⟩
def Ltr.reply (L : Ltr) (code : V) (tag : Str) (offer stay : V) : Ltr := ⟨L.verb, L.call, L.origin, L.otag, L.target, tag, L.seq, L.way, code, offer, stay, .non⟩
def spLReply (K : PySem.W.Frag) : Sp := fun vs H Q _ => ∃ (a : Addr) (L : Ltr) (code : V) (tag : Str) (offer stay : V), vs = [.ref a, code, .str tag, offer, stay] ∧ LetAt K H a L ∧ ∀ b H', Same H H' → H b = none → LetAt K H' b (L.reply code tag offer stay) → Q (.ref b) H'
theorem ok_Letter_reply {P : Program} {w : World} {K : PySem.W.Frag} {mg : Str → Option Value} {base : Heap} {f : Addr} {fd : FuncData} (T : Tx K mg) (c_mk_Letter_b : MakK P w K mg base 1 "Letter" (He.ga K "Letter") (spLetInit K) 0 ["verb", "code", "call", "origin", "origin_tag", "target", "target_tag", "seq", "way", "offer", "stay"] (fun vs zs => vs ++ ((((zs.drop 0).take 1) ++ (((zs.drop 2).take 7) ++ (((zs.drop 1).take 1) ++ (((zs.drop 9).take 2) ++ ((([(V.non)] : List V).drop 0).take 1))))))))
    (F : FunD K "reply" "Letter.reply" (defArgs s_Letter_reply) (defBody s_Letter_reply) (defScope s_Letter_reply) [(V.non), (V.non)] [] f fd) : FnOk P w K mg base CX0 3 f fd ["self", "code", "tag", "offer", "stay"] (spLReply K) := by
  refine F.ok sc_Letter_reply (fun vs H Q E h => ?_) (fun cdv A outer s H vs Q E hr h => ?_)
  · obtain ⟨p, L, code, tag, offer, stay, rfl, _⟩ := h
    rfl
  · obtain ⟨p, L, code, tag, offer, stay, rfl, ⟨dx, hp⟩, k⟩ := h
    refine ⟨_, PSs.nox (pss_one (ps_ret (pe_mkK0 c_mk_Letter_b hr (by decide) rfl (pk_cons (pe_fldC rfl T.cl_Letter T.na_Letter_verb (pv 0) rfl) (pk_cons (pv 1) (pk_cons (pe_fldC rfl T.cl_Letter T.na_Letter_call (pv 0) rfl) (pk_cons (pe_fldC rfl T.cl_Letter T.na_Letter_origin (pv 0) rfl) (pk_cons (pe_fldC rfl T.cl_Letter T.na_Letter_origin_tag (pv 0) rfl) (pk_cons (pe_fldC rfl T.cl_Letter T.na_Letter_target (pv 0) rfl) (pk_cons (pv 2) (pk_cons (pe_fldC rfl T.cl_Letter T.na_Letter_seq (pv 0) rfl) (pk_cons (pe_fldC rfl T.cl_Letter T.na_Letter_way (pv 0) rfl) (pk_cons (pv 3) (pk_cons (pv 4) pk_nil)))))))))))))), ?_⟩
    refine ⟨_, rfl, p, dx, _, _, rfl, hp, rfl, _, rfl, _, rfl, p, dx, _, _, rfl, hp, rfl, _, rfl, p, dx, _, _, rfl, hp, rfl, _, rfl, p, dx, _, _, rfl, hp, rfl, _, rfl, p, dx, _, _, rfl, hp, rfl, _, rfl, _, rfl, p, dx, _, _, rfl, hp, rfl, _, rfl, p, dx, _, _, rfl, hp, rfl, _, rfl, _, rfl, rfl, rfl, ?_⟩
    intro x dy hx hdy hne
    refine ⟨x, dy, L.reply code tag offer stay, rfl, upd_same, rfl, ?_⟩
    rw [upd_upd]
    exact k x _ (same_own hx hdy) hx ⟨dy, upd_same⟩
def spFinal : Sp := fun vs H Q _ => ∃ c : Int, vs = [.int c] ∧ Q (.bl (decide (c ≥ 20))) H
theorem ok_is_final {P : Program} {w : World} {K : PySem.W.Frag} {mg : Str → Option Value} {base : Heap} {f : Addr} {fd : FuncData} (T : Tx K mg) 
    (F : FunD K "is_final" "is_final" (defArgs s_is_final) (defBody s_is_final) (defScope s_is_final) [] [] f fd) : FnOk P w K mg base CX0 1 f fd ["code"] spFinal := by
  refine F.ok sc_is_final (fun vs H Q E h => ?_) (fun cdv A outer s H vs Q E hr h => ?_)
  · obtain ⟨c, rfl, _⟩ := h
    rfl
  · obtain ⟨c, rfl, k⟩ := h
    refine ⟨_, PSs.nox (pss_one (ps_ret (pe_cmpR op_ge (pv 0) (pgI T.g_LEAST_FINAL_CODE) (nomark _)))), ?_⟩
    exact ⟨_, rfl, _, _, rfl, rfl, k⟩

end K6
set_option maxHeartbeats 4000000
namespace K6
open PySem PySem.Spec PyProof.Rows L2 SX TK
open C8 (pe_c)
/-! ### the text of a letter without offer, stay and goal -/
theorem emp_len : Str.empty.length = 0 := rfl
theorem k_request : ("request " : Str).length = 8 := by decide +kernel
theorem k_reply : ("reply " : Str).length = 6 := by decide +kernel
theorem k_blank : (" " : Str).length = 1 := by decide +kernel
theorem k_call : ("call " : Str).length = 5 := by decide +kernel
theorem k_from : ("from " : Str).length = 5 := by decide +kernel
theorem k_to : ("to " : Str).length = 3 := by decide +kernel
theorem k_seq : ("seq " : Str).length = 4 := by decide +kernel
theorem k_way : ("way " : Str).length = 4 := by decide +kernel
theorem k_nl : ("\n" : Str).length = 1 := by decide +kernel
def TxOk (z : Str) : Prop := PyData.strOk z = true
structure LOk (L : Ltr) : Prop where
  oks : TxOk L.verb ∧ TxOk L.call ∧ TxOk L.origin ∧ TxOk L.otag ∧ TxOk L.target ∧ TxOk L.ttag ∧ TxOk L.way
  seq0 : 0 ≤ L.seq
  verb : L.verb.length ≤ 1000
  call : L.call.length ≤ 1000
  origin : L.origin.length ≤ 1000
  otag : L.otag.length ≤ 1000
  target : L.target.length ≤ 1000
  ttag : L.ttag.length ≤ 1000
  seq : L.seq.natAbs < 1000000000
  way : L.way.length ≤ 1000
  code : L.code = .non ∨ ∃ c : Int, L.code = .int c ∧ 0 ≤ c ∧ c.natAbs < 1000000000
def headS (L : Ltr) : Str := match L.code with
  | .int c => Str.empty ++ "reply " ++ numS c ++ " " ++ L.verb
  | _ => Str.empty ++ "request " ++ L.verb
theorem headS_len {L : Ltr} (g : LOk L) : (headS L).length ≤ 2000 := by
  have := g.verb
  rcases g.code with e | ⟨c, e, hc0, hc⟩
  · have q : headS L = Str.empty ++ "request " ++ L.verb := by unfold headS; rw [e]
    rw [q, cat_len, cat_len, emp_len, k_request]
    omega
  · have q : headS L = Str.empty ++ "reply " ++ numS c ++ " " ++ L.verb := by unfold headS; rw [e]
    have := numS_len hc
    rw [q, cat_len, cat_len, cat_len, cat_len, emp_len, k_reply, k_blank]
    omega
def spHead (K : PySem.W.Frag) : Sp := fun vs H Q _ => ∃ (a : Addr) (L : Ltr), vs = [.ref a] ∧ LetAt K H a L ∧ LOk L ∧ Q (.str (headS L)) H
theorem ok_write_head {P : Program} {w : World} {K : PySem.W.Frag} {mg : Str → Option Value} {base : Heap} {f : Addr} {fd : FuncData} (T : Tx K mg) 
    (F : FunD K "_write_head" "_write_head" (defArgs s_write_head) (defBody s_write_head) (defScope s_write_head) [] [] f fd) : FnOk P w K mg base CX0 1 f fd ["letter"] (spHead K) := by
  refine F.ok sc_write_head (fun vs H Q E h => ?_) (fun cdv A outer s H vs Q E hr h => ?_)
  · obtain ⟨a, L, rfl, _⟩ := h
    rfl
  · obtain ⟨a, L, rfl, ⟨dx, hp⟩, g, k⟩ := h
    have g1 := g.verb
    refine ⟨_, PSs.nox (C8.pss_cut (ps_if (pt_cmpR op_isN (pe_fldC rfl T.cl_Letter T.na_Letter_code (pv 0) rfl) pe_non (nomark _)) (pss_one (ps_ret (pe_joined (PJ.cons pe_str (PJ.cons (pe_fmt (pe_fldC rfl T.cl_Letter T.na_Letter_verb (pv 0) rfl)) PJ.nil))))) pss_nil) (pss_one (ps_ret (pe_joined (PJ.cons pe_str (PJ.cons (pe_fmt (pe_fldC rfl T.cl_Letter T.na_Letter_code (pv 0) rfl)) (PJ.cons pe_str (PJ.cons (pe_fmt (pe_fldC rfl T.cl_Letter T.na_Letter_verb (pv 0) rfl)) PJ.nil)))))))), ?_⟩
    rcases g.code with e | ⟨c, e, hc0, hc⟩
    · have q : headS L = Str.empty ++ "request " ++ L.verb := by unfold headS; rw [e]
      rw [q] at k
      refine ⟨fun _ _ => False, ?_, fun _ _ z => z.elim⟩
      refine ⟨_, rfl, a, dx, _, _, rfl, hp, rfl, rfl, _, rfl, ?_⟩
      rw [e]
      refine iteT ⟨_, rfl, szl (by rw [cat_len, emp_len, k_request]; omega), _, rfl, a, dx, _, _, rfl, hp, rfl, .inl ⟨_, rfl, szl (by omega), _, rfl, szl (by rw [cat_len, cat_len, emp_len, k_request]; omega), k⟩⟩
    · have q : headS L = Str.empty ++ "reply " ++ numS c ++ " " ++ L.verb := by unfold headS; rw [e]
      have := numS_len hc
      rw [q] at k
      refine ⟨fun σ' H' => σ' = [some (.ref a)] ∧ H' = H, ?_, ?_⟩
      · refine ⟨_, rfl, a, dx, _, _, rfl, hp, rfl, rfl, _, rfl, ?_⟩
        rw [e]
        exact iteF ⟨rfl, rfl⟩
      · rintro σ' H' ⟨rfl, rfl⟩
        refine ⟨_, rfl, szl (by rw [cat_len, emp_len, k_reply]; omega), _, rfl, a, dx, _, _, rfl, hp, rfl, .inr ⟨c, e, numS_log hc, ?_⟩⟩
        refine ⟨_, rfl, szl (by show (_ ++ _ ++ numS c).length ≤ _; rw [cat_len, cat_len, emp_len, k_reply]; omega), ?_⟩
        refine ⟨_, rfl, szl (by show (_ ++ _ ++ numS c ++ _).length ≤ _; rw [cat_len, cat_len, cat_len, emp_len, k_reply, k_blank]; omega), ?_⟩
        exact ⟨_, rfl, a, dx, _, _, rfl, hp, rfl, .inl ⟨_, rfl, szl (by omega), _, rfl, szl (by show (_ ++ _ ++ numS c ++ _ ++ _).length ≤ _; rw [cat_len, cat_len, cat_len, cat_len, emp_len, k_reply, k_blank]; omega), k⟩⟩
def toS (L : Ltr) : Str := if ((L.ttag.length : Int) != 0) = true then Str.empty ++ "to " ++ L.target ++ " " ++ L.ttag else Str.empty ++ "to " ++ L.target
def linesS (L : Ltr) : List Str := [headS L, Str.empty ++ "call " ++ L.call, Str.empty ++ "from " ++ L.origin ++ " " ++ L.otag, toS L, Str.empty ++ "seq " ++ numS L.seq, Str.empty ++ "way " ++ L.way]
def textOf (l : List Str) : Str := Txt.join "" (l.map fun z => z ++ "\n")
theorem toS_len {L : Ltr} (g : LOk L) : (toS L).length ≤ 3000 := by
  have := g.target
  have := g.ttag
  unfold toS
  split
  · rw [cat_len, cat_len, cat_len, cat_len, emp_len, k_to, k_blank]
    omega
  · rw [cat_len, cat_len, emp_len, k_to]
    omega
theorem linesS_len {L : Ltr} (g : LOk L) : ∀ z ∈ linesS L, z.length ≤ 3000 := by
  intro z hz
  have := g.call
  have := g.origin
  have := g.otag
  have := g.way
  have := numS_len g.seq
  simp only [linesS, List.mem_cons, List.not_mem_nil, or_false] at hz
  rcases hz with rfl | rfl | rfl | rfl | rfl | rfl
  · exact Nat.le_trans (headS_len g) (by decide)
  · rw [cat_len, cat_len, emp_len, k_call]; omega
  · rw [cat_len, cat_len, cat_len, cat_len, emp_len, k_from, k_blank]; omega
  · exact toS_len g
  · rw [cat_len, cat_len, emp_len, k_seq]; omega
  · rw [cat_len, cat_len, emp_len, k_way]; omega
theorem textOf_fits {l : List Str} (h : ∀ z ∈ l, z.length ≤ 3000) (hn : l.length ≤ 100) : ((l.map fun z => z ++ ("\n" : Str)).map (·.length)).sum + (l.map fun z => z ++ ("\n" : Str)).length * ("" : Str).length ≤ 1000000 := by
  have e0 : ("" : Str).length = 0 := rfl
  rw [e0, Nat.mul_zero, Nat.add_zero]
  refine Nat.le_trans (sum_le (m := 3001) fun z hz => ?_) ?_
  · obtain ⟨y, hy, rfl⟩ := List.mem_map.mp hz
    rw [cat_len, k_nl]
    exact Nat.succ_le_succ (h y hy)
  · rw [List.length_map]
    omega
theorem linesS_ok {L : Ltr} (g : LOk L) : ∀ z ∈ linesS L, PyData.strOk z = true := by
  obtain ⟨h1, h2, h3, h4, h5, h6, h7⟩ := g.oks
  have q : PyData.strOk Str.empty = true := by decide +kernel
  have e1 := ok_num g.seq0
  intro z hz
  simp only [linesS, List.mem_cons, List.not_mem_nil, or_false] at hz
  rcases hz with rfl | rfl | rfl | rfl | rfl | rfl
  · rcases g.code with e | ⟨c, e, hc0, hc⟩
    · have e2 : headS L = Str.empty ++ "request " ++ L.verb := by unfold headS; rw [e]
      rw [e2]
      exact ok_cat (ok_cat q (by decide +kernel)) h1
    · have e2 : headS L = Str.empty ++ "reply " ++ numS c ++ " " ++ L.verb := by unfold headS; rw [e]
      rw [e2]
      exact ok_cat (ok_cat (ok_cat (ok_cat q (by decide +kernel)) (ok_num hc0)) (by decide +kernel)) h1
  · exact ok_cat (ok_cat q (by decide +kernel)) h2
  · exact ok_cat (ok_cat (ok_cat (ok_cat q (by decide +kernel)) h3) (by decide +kernel)) h4
  · unfold toS
    split
    · exact ok_cat (ok_cat (ok_cat (ok_cat q (by decide +kernel)) h5) (by decide +kernel)) h6
    · exact ok_cat (ok_cat q (by decide +kernel)) h5
  · exact ok_cat (ok_cat q (by decide +kernel)) e1
  · exact ok_cat (ok_cat q (by decide +kernel)) h7
theorem textOf_ok {l : List Str} (h : ∀ z ∈ l, PyData.strOk z = true) : PyData.strOk (textOf l) = true :=
  ok_join (by decide +kernel) fun z hz => by
    obtain ⟨y, hy, rfl⟩ := List.mem_map.mp hz
    exact ok_cat (h y hy) (by decide +kernel)
def spWrite0 (K : PySem.W.Frag) : Sp := fun vs H Q _ => ∃ (a : Addr) (L : Ltr), vs = [.ref a] ∧ LetAt K H a L ∧ LOk L ∧ L.offer = .non ∧ L.stay = .non ∧ L.goal = .non ∧ ∀ H', Same H H' → Q (.str (textOf (linesS L))) H'
theorem ok_write {P : Program} {w : World} {K : PySem.W.Frag} {mg : Str → Option Value} {base : Heap} {f : Addr} {fd : FuncData} (T : Tx K mg) (c_write_head : C8.Cal P w K mg base 1 "_write_head" (spHead K) [])
    (F : FunD K "write" "write" (defArgs s_write) (defBody s_write) (defScope s_write) [] [] f fd) : FnOk P w K mg base CX0 2 f fd ["letter"] (spWrite0 K) := by
  refine F.ok sc_write (fun vs H Q E h => ?_) (fun cdv A outer s H vs Q E hr h => ?_)
  · obtain ⟨a, L, rfl, _⟩ := h
    rfl
  · obtain ⟨a, L, rfl, hl, g, e1, e2, e3, k⟩ := h
    obtain ⟨dx, hp⟩ := id hl
    have g1 := g.call
    have g2 := g.origin
    have g3 := g.otag
    have g4 := g.target
    have g5 := g.ttag
    have g6 := g.way
    have g7 := numS_len g.seq
    refine ⟨_, PSs.nox (pss_cons (ps_set (i := 1) sc_write.nd rfl (Or.inl rfl) (pe_lst (pa_cons (pe_c c_write_head hr (by decide) rfl (pa_cons (pv 0) pa_nil)) (pa_cons (pe_joined (PJ.cons pe_str (PJ.cons (pe_fmt (pe_fldC rfl T.cl_Letter T.na_Letter_call (pv 0) rfl)) PJ.nil))) (pa_cons (pe_joined (PJ.cons pe_str (PJ.cons (pe_fmt (pe_fldC rfl T.cl_Letter T.na_Letter_origin (pv 0) rfl)) (PJ.cons pe_str (PJ.cons (pe_fmt (pe_fldC rfl T.cl_Letter T.na_Letter_origin_tag (pv 0) rfl)) PJ.nil))))) pa_nil))))) (pss_cons (ps_expr (pe_bm PySem.F.plainAttrs_list PySem.F.slot_list_append PySem.F.type_list_append mt_append (pv 1) (pa_cons (pe_cut (pe_ifExp (pt_truth (pe_fldC rfl T.cl_Letter T.na_Letter_target_tag (pv 0) rfl) (fun _ => rfl)) (pe_joined (PJ.cons pe_str (PJ.cons (pe_fmt (pe_fldC rfl T.cl_Letter T.na_Letter_target (pv 0) rfl)) (PJ.cons pe_str (PJ.cons (pe_fmt (pe_fldC rfl T.cl_Letter T.na_Letter_target_tag (pv 0) rfl)) PJ.nil))))) (pe_joined (PJ.cons pe_str (PJ.cons (pe_fmt (pe_fldC rfl T.cl_Letter T.na_Letter_target (pv 0) rfl)) PJ.nil))))) pa_nil))) (pss_cons (ps_expr (pe_bm PySem.F.plainAttrs_list PySem.F.slot_list_extend PySem.F.type_list_extend mt_extend (pv 1) (pa_cons (pe_lst (pa_cons (pe_joined (PJ.cons pe_str (PJ.cons (pe_fmt (pe_fldC rfl T.cl_Letter T.na_Letter_seq (pv 0) rfl)) PJ.nil))) (pa_cons (pe_joined (PJ.cons pe_str (PJ.cons (pe_fmt (pe_fldC rfl T.cl_Letter T.na_Letter_way (pv 0) rfl)) PJ.nil))) pa_nil))) pa_nil))) (C8.pss_cut (ps_if (pt_cmpR op_notN (pe_fldC rfl T.cl_Letter T.na_Letter_offer (pv 0) rfl) pe_non (nomark _)) (pss_one ps_never) pss_nil) (C8.pss_cut (ps_if (pt_cmpR op_notN (pe_fldC rfl T.cl_Letter T.na_Letter_stay (pv 0) rfl) pe_non (nomark _)) (pss_one ps_never) pss_nil) (C8.pss_cut (ps_if (pt_cmpR op_notN (pe_fldC rfl T.cl_Letter T.na_Letter_goal (pv 0) rfl) pe_non (nomark _)) (pss_one ps_never) pss_nil) (pss_one (ps_ret (pe_join pe_str (pe_lc (own := [("line", 2)]) (g := gName 2) rfl sc_write.nd (pi_list (pv 1)) (blkOk_by (own := [("line", 2)]) (N := ["letter", "lines", "line"]) (sc := defScope s_write) (by decide +kernel)) (fun _ _ _ _ _ => pg_name (i := 2) sc_write.nd rfl (Or.inl rfl)) (fun _ _ _ _ _ => pts_nil) (fun _ _ _ _ _ => (pe_op op_add_str (pv 2) pe_str)))))))))))), ?_⟩
    refine ⟨_, rfl, a, L, rfl, hl, g, ?_⟩
    refine ⟨_, rfl, szl (by rw [cat_len, emp_len, k_call]; omega), _, rfl, a, dx, _, _, rfl, hp, rfl, .inl ⟨_, rfl, szl (by omega), _, rfl, szl (by rw [cat_len, cat_len, emp_len, k_call]; omega), ?_⟩⟩
    refine ⟨_, rfl, szl (by rw [cat_len, emp_len, k_from]; omega), _, rfl, a, dx, _, _, rfl, hp, rfl, .inl ⟨_, rfl, szl (by omega), _, rfl, szl (by rw [cat_len, cat_len, emp_len, k_from]; omega), ?_⟩⟩
    refine ⟨_, rfl, szl (by rw [cat_len, cat_len, cat_len, emp_len, k_from, k_blank]; omega), _, rfl, a, dx, _, _, rfl, hp, rfl, .inl ⟨_, rfl, szl (by omega), _, rfl, szl (by rw [cat_len, cat_len, cat_len, cat_len, emp_len, k_from, k_blank]; omega), ?_⟩⟩
    refine ⟨by show 3 ≤ sizeLine; decide, fun l hnl => ?_⟩
    have al : a ≠ l := ne_of_none hp hnl
    -- lines.append(to)
    refine ⟨_, rfl, .inl ⟨rfl, _, SqL.of upd_same⟩, fun v H' => v = .str (toS L) ∧ H' = upd H l (.lst [.str (headS L), .str (Str.empty ++ "call " ++ L.call), .str (Str.empty ++ "from " ++ L.origin ++ " " ++ L.otag)]), ?_, ?_⟩
    · have hp1 : ∀ o, (upd H l o) a = some (.ins (He.ga K "Letter") dx L.fl) := fun o => by rw [upd_ne al]; exact hp
      refine ⟨_, rfl, a, dx, _, .str L.ttag, rfl, hp1 _, rfl, _, ⟨szl (by omega), rfl⟩, ?_⟩
      cases e : ((L.ttag.length : Int) != 0) with
      | true =>
        have q : toS L = Str.empty ++ "to " ++ L.target ++ " " ++ L.ttag := by unfold toS; rw [e]; rfl
        rw [q]
        refine iteT ⟨_, rfl, szl (by rw [cat_len, emp_len, k_to]; omega), _, rfl, a, dx, _, _, rfl, hp1 _, rfl, .inl ⟨_, rfl, szl (by omega), _, rfl, szl (by rw [cat_len, cat_len, emp_len, k_to]; omega), ?_⟩⟩
        exact ⟨_, rfl, szl (by rw [cat_len, cat_len, cat_len, emp_len, k_to, k_blank]; omega), _, rfl, a, dx, _, _, rfl, hp1 _, rfl, .inl ⟨_, rfl, szl (by omega), _, rfl, szl (by rw [cat_len, cat_len, cat_len, cat_len, emp_len, k_to, k_blank]; omega), rfl, rfl⟩⟩
      | false =>
        have q : toS L = Str.empty ++ "to " ++ L.target := by unfold toS; rw [e]; rfl
        rw [q]
        exact iteF ⟨_, rfl, szl (by rw [cat_len, emp_len, k_to]; omega), _, rfl, a, dx, _, _, rfl, hp1 _, rfl, .inl ⟨_, rfl, szl (by omega), _, rfl, szl (by rw [cat_len, cat_len, emp_len, k_to]; omega), rfl, rfl⟩⟩
    rintro v H' ⟨rfl, rfl⟩
    refine ⟨l, _, _, rfl, rfl, upd_same, by show 3 < sizeLine; decide, ?_⟩
    rw [upd_upd]
    -- lines.extend([seq, way])
    have hp1 : ∀ o, (upd H l o) a = some (.ins (He.ga K "Letter") dx L.fl) := fun o => by rw [upd_ne al]; exact hp
    refine ⟨_, rfl, .inl ⟨rfl, _, SqL.of upd_same⟩, _, rfl, szl (by rw [cat_len, emp_len, k_seq]; omega), _, rfl, a, dx, _, _, rfl, hp1 _, rfl, .inr ⟨_, rfl, numS_log g.seq, ?_⟩⟩
    refine ⟨_, rfl, szl (by show (_ ++ _ ++ numS L.seq).length ≤ _; rw [cat_len, cat_len, emp_len, k_seq]; omega), ?_⟩
    refine ⟨_, rfl, szl (by rw [cat_len, emp_len, k_way]; omega), _, rfl, a, dx, _, _, rfl, hp1 _, rfl, .inl ⟨_, rfl, szl (by omega), _, rfl, szl (by rw [cat_len, cat_len, emp_len, k_way]; omega), ?_⟩⟩
    refine ⟨by show 2 ≤ sizeLine; decide, fun l2 hn2 => ?_⟩
    have l2l : l ≠ l2 := fun e => by rw [← e, upd_same] at hn2; cases hn2
    have hn20 : H l2 = none := by rw [upd_ne l2l.symm] at hn2; exact hn2
    refine ⟨l, l2, _, _, rfl, rfl, (by rw [upd_ne l2l]; exact upd_same), upd_same, by show 6 ≤ sizeLine; decide, ?_⟩
    have sH : Same H (upd (upd (upd H l (.lst [.str (headS L), .str (Str.empty ++ "call " ++ L.call), .str (Str.empty ++ "from " ++ L.origin ++ " " ++ L.otag), .str (toS L)])) l2 (.lst [.str (Str.empty ++ "seq " ++ numS L.seq), .str (Str.empty ++ "way " ++ L.way)])) l (.lst ((linesS L).map V.str))) := TK.Same.upd_of ((same_upd hnl).trans (same_upd hn2)) hnl
    -- the rest: no offer, no stay, no goal
    refine ⟨fun σ' H' => σ' = [some (.ref a), some (.ref l), none] ∧ Same H H' ∧ H' l = some (.lst ((linesS L).map V.str)), ?_, ?_⟩
    · refine ⟨_, rfl, a, dx, _, _, rfl, sH _ _ hp, rfl, rfl, _, rfl, ?_⟩
      rw [e1]
      exact iteF ⟨rfl, sH, upd_same⟩
    rintro σ' H1 ⟨rfl, sH, hl1⟩
    refine ⟨fun σ' H' => σ' = [some (.ref a), some (.ref l), none] ∧ Same H H' ∧ H' l = some (.lst ((linesS L).map V.str)), ?_, ?_⟩
    · refine ⟨_, rfl, a, dx, _, _, rfl, sH _ _ hp, rfl, rfl, _, rfl, ?_⟩
      rw [e2]
      exact iteF ⟨rfl, sH, hl1⟩
    rintro σ' H2 ⟨rfl, sH, hl1⟩
    refine ⟨fun σ' H' => σ' = [some (.ref a), some (.ref l), none] ∧ Same H H' ∧ H' l = some (.lst ((linesS L).map V.str)), ?_, ?_⟩
    · refine ⟨_, rfl, a, dx, _, _, rfl, sH _ _ hp, rfl, rfl, _, rfl, ?_⟩
      rw [e3]
      exact iteF ⟨rfl, sH, hl1⟩
    rintro σ' H3 ⟨rfl, sH, hl1⟩
    -- the join
    refine ⟨⟨_, rfl⟩, _, rfl, l, rfl, ⟨_, SqL.of hl1⟩, fun D hD => ?_⟩
    have hS2 : ∀ o, SqL K (upd H3 D o) l ((linesS L).map V.str) := fun o => SqL.of ((same_upd hD) _ _ hl1)
    have hfit := textOf_fits (linesS_len g) (by show 6 ≤ 100; decide)
    refine lc_pureN walk_list (fun i => V.str ((linesS L).getD i "" ++ "\n")) (by rw [List.length_map]; show 6 ≤ sizeLine; decide) (fun _ _ => hS2 _) (fun i x H4 kk hi y q => ?_) ?_
    · obtain ⟨rfl, hx⟩ := y
      rw [List.length_map] at hi
      rw [List.getElem?_map, List.getElem?_eq_getElem hi] at hx
      obtain rfl := Option.some.inj hx
      refine ⟨rfl, _, rfl, _, _, rfl, rfl, Nat.le_trans (Nat.add_le_add (linesS_len g _ (List.getElem_mem hi)) (Nat.le_of_eq k_nl)) (by decide), ?_⟩
      rw [List.getD_eq_getElem?_getD, List.getElem?_eq_getElem hi] at q
      exact q
    · rw [List.length_map, range_map_getD (linesS L) "" fun z => V.str (z ++ "\n")]
      refine ⟨_, D, (linesS L).map fun z => z ++ "\n", rfl, rfl, .inl (SqL.of ?_), ?_, ?_⟩
      · rw [List.map_map]
        exact upd_same
      · exact Nat.le_trans hfit (by decide)
      · exact k _ (sH.trans (same_upd hD))

end K6
set_option maxHeartbeats 4000000
namespace K6
open PySem PySem.Spec PyProof.Rows L2 SX TK
open C8 (pe_c)
/-! ### waits -/
def wfl (b f g d : Int) : List (Str × V) := [("_began", .int b), ("_first", .int f), ("_gap", .int g), ("_due", .int d)]
instance {b f g d : Int} : SmallF (wfl b f g d) 4 := ⟨Nat.le_refl _⟩
def WtAt (K : PySem.W.Frag) (H : Hp) (a : Addr) (b f g d : Int) : Prop := ∃ dx, H a = some (.ins (He.ga K "Wait") dx (wfl b f g d))
def spWaitInit (K : PySem.W.Frag) : Sp := fun vs H Q _ => ∃ (p dx : Addr) (now f : Int), vs = [.ref p, .int now, .int f] ∧ H p = some (.ins (He.ga K "Wait") dx []) ∧ Q .non (upd H p (.ins (He.ga K "Wait") dx (wfl now f f (now + f))))
theorem ok_Wait___init {P : Program} {w : World} {K : PySem.W.Frag} {mg : Str → Option Value} {base : Heap} {f : Addr} {fd : FuncData} (T : Tx K mg) 
    (F : FunD K "__init__" "Wait.__init__" (defArgs s_Wait___init) (defBody s_Wait___init) (defScope s_Wait___init) [] [] f fd) : FnOk P w K mg base CX0 1 f fd ["self", "now", "first"] (spWaitInit K) := by
  refine F.ok sc_Wait___init (fun vs H Q E h => ?_) (fun cdv A outer s H vs Q E hr h => ?_)
  · obtain ⟨p, dx, now, f, rfl, _⟩ := h
    rfl
  · obtain ⟨p, dx, now, f, rfl, hp, k⟩ := h
    refine ⟨_, PSs.nox (pss_cons (ps_fldC rfl T.cl_Wait T.na_Wait__began (pv 0) (pv 1) rfl) (pss_cons (ps_fldC rfl T.cl_Wait T.na_Wait__first (pv 0) (pv 2) rfl) (pss_cons (ps_fldC rfl T.cl_Wait T.na_Wait__gap (pv 0) (pv 2) rfl) (pss_one (ps_fldC rfl T.cl_Wait T.na_Wait__due (pv 0) (pe_op op_add (pv 1) (pv 2)) rfl))))), ?_⟩
    refine ⟨_, rfl, _, rfl, p, dx, _, rfl, hp, sm, ?_⟩
    refine ⟨_, rfl, _, rfl, p, dx, _, rfl, upd_same, sm, ?_⟩
    refine ⟨_, rfl, _, rfl, p, dx, _, rfl, upd_same, sm, ?_⟩
    refine ⟨_, rfl, _, rfl, _, _, rfl, rfl, _, rfl, p, dx, _, rfl, upd_same, sm, ?_⟩
    simp only [upd_upd]
    exact k
def minI (i j : Int) : Int := if j < i then j else i
def spRepeats (K : PySem.W.Frag) : Sp := fun vs H Q _ => ∃ (a : Addr) (b f g d now : Int), vs = [.ref a, .int now] ∧ WtAt K H a b f g d ∧
  ((now < d ∧ Q (.bl false) H) ∨ (¬ now < d ∧ ∀ H', WtAt K H' a b f (minI (2 * g) (8 * f)) (now + minI (2 * g) (8 * f)) → (∀ c o, H c = some o → c ≠ a → H' c = some o) → Q (.bl true) H'))
theorem ok_Wait_repeats {P : Program} {w : World} {K : PySem.W.Frag} {mg : Str → Option Value} {base : Heap} {f : Addr} {fd : FuncData} (T : Tx K mg) 
    (F : FunD K "repeats" "Wait.repeats" (defArgs s_Wait_repeats) (defBody s_Wait_repeats) (defScope s_Wait_repeats) [] [] f fd) : FnOk P w K mg base CX0 1 f fd ["self", "now"] (spRepeats K) := by
  refine F.ok sc_Wait_repeats (fun vs H Q E h => ?_) (fun cdv A outer s H vs Q E hr h => ?_)
  · obtain ⟨a, b, f, g, d, now, rfl, _⟩ := h
    rfl
  · obtain ⟨a, b, f, g, d, now, rfl, ⟨dx, hp⟩, h⟩ := h
    refine ⟨_, PSs.nox (C8.pss_cut (ps_if (pt_cmpR op_lt (pv 1) (pe_fldC rfl T.cl_Wait T.na_Wait__due (pv 0) rfl) (nomark _)) (pss_one (ps_ret pe_bl)) pss_nil) (pss_cons (ps_fldC rfl T.cl_Wait T.na_Wait__gap (pv 0) (pe_callB (call_min2 rfl) rfl T.f_min (by decide +kernel) (pa_cons (pe_op op_mul pe_int (pe_fldC rfl T.cl_Wait T.na_Wait__gap (pv 0) rfl)) (pa_cons (pe_op op_mul (pgI T.g_GREATEST_GAP) (pe_fldC rfl T.cl_Wait T.na_Wait__first (pv 0) rfl)) pa_nil))) rfl) (pss_cons (ps_fldC rfl T.cl_Wait T.na_Wait__due (pv 0) (pe_op op_add (pv 1) (pe_fldC rfl T.cl_Wait T.na_Wait__gap (pv 0) rfl)) rfl) (pss_one (ps_ret pe_bl))))), ?_⟩
    rcases h with ⟨h1, k⟩ | ⟨h1, k⟩
    · refine ⟨fun _ _ => False, ?_, fun _ _ z => z.elim⟩
      refine ⟨_, rfl, _, rfl, a, dx, _, _, rfl, hp, rfl, _, _, rfl, rfl, _, rfl, ?_⟩
      rw [decide_eq_true h1]
      exact iteT k
    · refine ⟨fun σ' H' => σ' = [some (.ref a), some (.int now)] ∧ H' = H, ?_, ?_⟩
      · refine ⟨_, rfl, _, rfl, a, dx, _, _, rfl, hp, rfl, _, _, rfl, rfl, _, rfl, ?_⟩
        rw [decide_eq_false h1]
        exact iteF ⟨rfl, rfl⟩
      rintro σ' H' ⟨rfl, rfl⟩
      refine ⟨_, rfl, a, dx, _, _, rfl, hp, rfl, _, _, rfl, rfl, .inl ⟨by decide, by decide⟩, _, rfl, a, dx, _, _, rfl, hp, rfl, _, _, rfl, rfl, .inl ⟨by decide, by decide⟩, _, _, rfl, _, rfl, a, dx, _, rfl, hp, sm, ?_⟩
      refine ⟨_, rfl, _, rfl, a, dx, _, _, rfl, upd_same, rfl, _, _, rfl, rfl, _, rfl, a, dx, _, rfl, upd_same, sm, ?_⟩
      rw [upd_upd]
      refine k _ ⟨dx, upd_same⟩ fun c o e hc => ?_
      rw [upd_ne hc]
      exact e
def spIsUp (K : PySem.W.Frag) : Sp := fun vs H Q _ => ∃ (a : Addr) (b f g d now : Int), vs = [.ref a, .int now] ∧ WtAt K H a b f g d ∧ Q (.bl (decide (32 * f ≤ now - b))) H
theorem ok_Wait_is_up {P : Program} {w : World} {K : PySem.W.Frag} {mg : Str → Option Value} {base : Heap} {f : Addr} {fd : FuncData} (T : Tx K mg) 
    (F : FunD K "is_up" "Wait.is_up" (defArgs s_Wait_is_up) (defBody s_Wait_is_up) (defScope s_Wait_is_up) [] [] f fd) : FnOk P w K mg base CX0 1 f fd ["self", "now"] (spIsUp K) := by
  refine F.ok sc_Wait_is_up (fun vs H Q E h => ?_) (fun cdv A outer s H vs Q E hr h => ?_)
  · obtain ⟨a, b, f, g, d, now, rfl, _⟩ := h
    rfl
  · obtain ⟨a, b, f, g, d, now, rfl, ⟨dx, hp⟩, k⟩ := h
    refine ⟨_, PSs.nox (pss_one (ps_ret (pe_cmpR op_ge (pe_op op_sub (pv 1) (pe_fldC rfl T.cl_Wait T.na_Wait__began (pv 0) rfl)) (pe_op op_mul (pgI T.g_LIMIT) (pe_fldC rfl T.cl_Wait T.na_Wait__first (pv 0) rfl)) (nomark _)))), ?_⟩
    exact ⟨_, rfl, _, rfl, a, dx, _, _, rfl, hp, rfl, _, _, rfl, rfl, _, rfl, a, dx, _, _, rfl, hp, rfl, _, _, rfl, rfl, .inl ⟨by decide, by decide⟩, _, _, rfl, rfl, k⟩

end K6
set_option maxHeartbeats 4000000
namespace K6
open PySem PySem.Spec PyProof.Rows L2 SX TK
open C8 (pe_c)
/-! ### servers -/
inductive SS where | opn | snt | kpt | ovr
  deriving DecidableEq
def SS.s : SS → Str | .opn => "open" | .snt => "sent" | .kpt => "kept" | .ovr => "over"
structure Sv where
  L : Ltr
  f : Int
  st : SS
  code : V
  w : Option (Int × Int × Int)
  tx : Option Str
def svfl (la : Addr) (st : Str) (code : V) (f : Int) (wv : V) (al : Addr) : List (Str × V) := [("letter", .ref la), ("place", .str "q"), ("state", .str st), ("code", code), ("_first", .int f), ("_wait", wv), ("_latest", .ref al)]
instance {la : Addr} {st : Str} {code : V} {f : Int} {wv : V} {al : Addr} : SmallF (svfl la st code f wv al) 7 := ⟨Nat.le_refl _⟩
def WtO (K : PySem.W.Frag) (H : Hp) (wv : V) (f : Int) (A : List Addr) : Option (Int × Int × Int) → Prop
  | none => wv = .non
  | some (b, g, d) => ∃ a, wv = .ref a ∧ a ∈ A ∧ WtAt K H a b f g d
def LatAt (H : Hp) (al : Addr) (A : List Addr) : Option Str → Prop
  | none => H al = some (.lst [])
  | some z => ∃ t ∈ A, H al = some (.lst [.ref t]) ∧ H t = some (.tup [.str "q", .str z])
def SvAt (K : PySem.W.Frag) (H : Hp) (p la : Addr) (S : Sv) (A : List Addr) : Prop :=
  ∃ dx al wv, H p = some (.ins (He.ga K "Server") dx (svfl la S.st.s S.code S.f wv al)) ∧ p ∈ A ∧ la ∈ A ∧ al ∈ A ∧ LetAt K H la S.L ∧ WtO K H wv S.f A S.w ∧ LatAt H al A S.tx ∧ ∀ x ∈ A, ∃ o, H x = some o
theorem WtO.mono {K : PySem.W.Frag} {H H' : Hp} {wv : V} {f : Int} {A A' : List Addr} {o : Option (Int × Int × Int)} (h : WtO K H wv f A o) (s : ∀ b u, b ∈ A → H b = some u → H' b = some u) (n : ∀ b, b ∈ A → b ∈ A') : WtO K H' wv f A' o := by
  cases o with
  | none => exact h
  | some z =>
    obtain ⟨b, g, d⟩ := z
    obtain ⟨a, rfl, ha, dx, e⟩ := h
    exact ⟨a, rfl, n a ha, dx, s _ _ ha e⟩
theorem LatAt.mono {H H' : Hp} {al : Addr} {A A' : List Addr} {o : Option Str} (h : LatAt H al A o) (hal : al ∈ A) (s : ∀ b u, b ∈ A → H b = some u → H' b = some u) (n : ∀ b, b ∈ A → b ∈ A') : LatAt H' al A' o := by
  cases o with
  | none => exact s _ _ hal h
  | some z =>
    obtain ⟨t, ht, e1, e2⟩ := h
    exact ⟨t, n t ht, s _ _ hal e1, s _ _ ht e2⟩
theorem SvAt.mono {K : PySem.W.Frag} {H H' : Hp} {p la : Addr} {S : Sv} {A : List Addr} (h : SvAt K H p la S A) (s : ∀ b u, b ∈ A → H b = some u → H' b = some u) : SvAt K H' p la S A := by
  obtain ⟨dx, al, wv, hp, m1, m2, m3, ⟨dy, hl⟩, hw, ht, tr⟩ := h
  exact ⟨dx, al, wv, s _ _ m1 hp, m1, m2, m3, ⟨dy, s _ _ m2 hl⟩, hw.mono s fun _ m => m, ht.mono m3 s fun _ m => m, fun x m => (tr x m).elim fun o e => ⟨o, s _ _ m e⟩⟩
theorem SvAt.same {K : PySem.W.Frag} {H H' : Hp} {p la : Addr} {S : Sv} {A : List Addr} (h : SvAt K H p la S A) (s : Same H H') : SvAt K H' p la S A := h.mono fun b u _ e => s b u e
/-- a list of what is sent -/
def RowsAt (H : Hp) (r : Addr) : Option Str → Prop
  | none => H r = some (.lst [])
  | some z => ∃ t, H r = some (.lst [.ref t]) ∧ H t = some (.tup [.str "q", .str z])
theorem RowsAt.same {H H' : Hp} {r : Addr} {o : Option Str} (h : RowsAt H r o) (s : Same H H') : RowsAt H' r o := by
  cases o with
  | none => exact s _ _ h
  | some z =>
    obtain ⟨t, e1, e2⟩ := h
    exact ⟨t, s _ _ e1, s _ _ e2⟩
def dataR : Option Str → PyData
  | none => .list []
  | some z => .list [.tuple [.str "q", .str z]]
theorem RowsAt.dp {K : PySem.W.Frag} {H : Hp} {r : Addr} {o : Option Str} (h : RowsAt H r o) : Dp K H (.ref r) (dataR o) := by
  cases o with
  | none => exact .lst (SqL.of h) .nil
  | some z =>
    obtain ⟨t, e1, e2⟩ := h
    exact .lst (SqL.of e1) (.cons (.tup (SqT.of e2) (.cons (.str _) (.cons (.str _) .nil))) .nil)
def OkO (o : Option Str) : Prop := ∀ z, o = some z → PyData.strOk z = true
theorem dataR_ok {o : Option Str} (h : OkO o) : SeqAt.shaped (dataR o) = true ∧ PyData.eqv (dataR o) (dataR o) = true := by
  have q : (dataR o).canLay0 = true := by
    cases o with
    | none => rfl
    | some z => simp [dataR, PyData.canLay0, PyData.canLayAll0, h z rfl, show PyData.strOk "q" = true by decide +kernel]
  refine ⟨?_, SeqAt.eqv_refl _ q⟩
  unfold SeqAt.shaped
  rw [q, Bool.true_and, decide_eq_true_eq]
  cases o <;> simp [dataR, PyData.depth, PyData.depthAll]
def spSvInit (K : PySem.W.Frag) : Sp := fun vs H Q _ => ∃ (p dx la : Addr) (f : Int), vs = [.ref p, .ref la, .str "q", .int f] ∧ H p = some (.ins (He.ga K "Server") dx []) ∧ ∀ al, H al = none → Q .non (upd (upd H al (.lst [])) p (.ins (He.ga K "Server") dx (svfl la "open" .non f .non al)))
theorem ok_Server___init {P : Program} {w : World} {K : PySem.W.Frag} {mg : Str → Option Value} {base : Heap} {f : Addr} {fd : FuncData} (T : Tx K mg) 
    (F : FunD K "__init__" "Server.__init__" (defArgs s_Server___init) (defBody s_Server___init) (defScope s_Server___init) [] [] f fd) : FnOk P w K mg base CX0 1 f fd ["self", "letter", "place", "first"] (spSvInit K) := by
  refine F.ok sc_Server___init (fun vs H Q E h => ?_) (fun cdv A outer s H vs Q E hr h => ?_)
  · obtain ⟨p, dx, la, f, rfl, _⟩ := h
    rfl
  · obtain ⟨p, dx, la, f, rfl, hp, k⟩ := h
    refine ⟨_, PSs.nox (pss_cons (ps_fldC rfl T.cl_Server T.na_Server_letter (pv 0) (pv 1) rfl) (pss_cons (ps_fldC rfl T.cl_Server T.na_Server_place (pv 0) (pv 2) rfl) (pss_cons (ps_fldC rfl T.cl_Server T.na_Server_state (pv 0) pe_str rfl) (pss_cons (ps_fldC rfl T.cl_Server T.na_Server_code (pv 0) pe_non rfl) (pss_cons (ps_fldC rfl T.cl_Server T.na_Server__first (pv 0) (pv 3) rfl) (pss_cons (ps_fldC rfl T.cl_Server T.na_Server__wait (pv 0) pe_non rfl) (pss_one (ps_fldC rfl T.cl_Server T.na_Server__latest (pv 0) (pe_lst pa_nil) rfl)))))))), ?_⟩
    refine ⟨_, rfl, _, rfl, p, dx, _, rfl, hp, sm, ?_⟩
    refine ⟨_, rfl, _, rfl, p, dx, _, rfl, upd_same, sm, ?_⟩
    refine ⟨_, rfl, p, dx, _, rfl, upd_same, sm, ?_⟩
    refine ⟨_, rfl, p, dx, _, rfl, upd_same, sm, ?_⟩
    refine ⟨_, rfl, _, rfl, p, dx, _, rfl, upd_same, sm, ?_⟩
    refine ⟨_, rfl, p, dx, _, rfl, upd_same, sm, ?_⟩
    simp only [upd_upd]
    refine ⟨by show 0 ≤ sizeLine; decide, fun al hal => ?_⟩
    have pal : p ≠ al := fun e => by rw [← e, upd_same] at hal; cases hal
    refine ⟨_, rfl, p, dx, _, rfl, (upd_ne pal).trans upd_same, sm, ?_⟩
    rw [upd_ne pal.symm] at hal
    have e : ∀ (o u : HO), upd (upd (upd H p o) al (.lst [])) p u = upd (upd H al (.lst [])) p u := fun o u => by
      funext b
      by_cases h1 : b = p
      · rw [h1, upd_same, upd_same]
      · rw [upd_ne h1, upd_ne h1]
        by_cases h2 : b = al
        · rw [h2, upd_same, upd_same]
        · rw [upd_ne h2, upd_ne h2, upd_ne h1]
    rw [e]
    exact k al hal
def spSvOver (K : PySem.W.Frag) : Sp := fun vs H Q _ => ∃ (p la : Addr) (S : Sv) (A : List Addr), vs = [.ref p] ∧ SvAt K H p la S A ∧ Q (.bl (decide (S.st = .ovr))) H
theorem ok_Server_is_over {P : Program} {w : World} {K : PySem.W.Frag} {mg : Str → Option Value} {base : Heap} {f : Addr} {fd : FuncData} (T : Tx K mg) 
    (F : FunD K "is_over" "Server.is_over" (defArgs s_Server_is_over) (defBody s_Server_is_over) (defScope s_Server_is_over) [] [] f fd) : FnOk P w K mg base CX0 1 f fd ["self"] (spSvOver K) := by
  refine F.ok sc_Server_is_over (fun vs H Q E h => ?_) (fun cdv A outer s H vs Q E hr h => ?_)
  · obtain ⟨p, la, S, A, rfl, _⟩ := h
    rfl
  · obtain ⟨p, la, S, A, rfl, ⟨dx, al, wv, hp, _⟩, k⟩ := h
    refine ⟨_, PSs.nox (pss_one (ps_ret (pe_cmpR op_eq (pe_fldC rfl T.cl_Server T.na_Server_state (pv 0) rfl) pe_str (nomark _)))), ?_⟩
    refine ⟨_, rfl, p, dx, _, _, rfl, hp, rfl, rfl, ?_⟩
    have e : decide (V.str S.st.s = V.str "over") = decide (S.st = .ovr) := by cases S.st <;> rfl
    rw [e]
    exact k
def againO (S : Sv) : Option Str := match S.st with
  | .opn => S.tx
  | .snt => S.tx
  | _ => none
def spSvAgain (K : PySem.W.Frag) : Sp := fun vs H Q _ => ∃ (p la : Addr) (S : Sv) (A : List Addr), vs = [.ref p] ∧ SvAt K H p la S A ∧ ∀ r H', Same H H' → H r = none → RowsAt H' r (againO S) → Q (.ref r) H'
theorem ok_Server_again {P : Program} {w : World} {K : PySem.W.Frag} {mg : Str → Option Value} {base : Heap} {f : Addr} {fd : FuncData} (T : Tx K mg) 
    (F : FunD K "again" "Server.again" (defArgs s_Server_again) (defBody s_Server_again) (defScope s_Server_again) [] [] f fd) : FnOk P w K mg base CX0 1 f fd ["self"] (spSvAgain K) := by
  refine F.ok sc_Server_again (fun vs H Q E h => ?_) (fun cdv A outer s H vs Q E hr h => ?_)
  · obtain ⟨p, la, S, A, rfl, _⟩ := h
    rfl
  · obtain ⟨p, la, S, A, rfl, ⟨dx, al, wv, hp, m1, m2, m3, hl, hw, ht, tr⟩, k⟩ := h
    refine ⟨_, PSs.nox (pss_one (ps_ret (pe_ifExp (pt_cmpR op_in_seq (pe_fldC rfl T.cl_Server T.na_Server_state (pv 0) rfl) (pe_tup (pa_cons pe_str (pa_cons pe_str pa_nil))) (by with_unfolding_all rfl)) (pe_callTy call_list_of rfl T.f_list (by decide +kernel) (pa_cons (pe_fldC rfl T.cl_Server T.na_Server__latest (pv 0) rfl) pa_nil)) (pe_lst pa_nil)))), ?_⟩
    refine ⟨_, rfl, p, dx, _, _, rfl, hp, rfl, by show 2 ≤ sizeLine; decide, fun t hnt => ?_⟩
    have st := same_upd (o := .tup [.str "open", .str "sent"]) hnt
    refine ⟨t, _, rfl, .inr (SqT.of upd_same), rfl, rfl, _, rfl, ?_⟩
    have lat : LatAt (upd H t (.tup [.str "open", .str "sent"])) al A S.tx := LatAt.mono ht m3 (fun b u _ e => st b u e) fun _ m => m
    have sp := st _ _ hp
    rw [show againO S = if inV (V.str S.st.s) [.str "open", .str "sent"] = true then S.tx else none by unfold againO; cases S.st <;> rfl] at k
    cases e : inV (V.str S.st.s) [.str "open", .str "sent"] with
    | true =>
      rw [e, if_pos rfl] at k
      refine iteT ?_
      cases eo : S.tx with
      | none =>
        rw [eo] at lat k
        exact ⟨_, rfl, p, dx, _, _, rfl, sp, rfl, al, _, rfl, .inl (SqL.of lat), fun r hr => k r _ (st.trans (same_upd hr)) (st.free hr) upd_same⟩
      | some z =>
        rw [eo] at lat k
        obtain ⟨t2, m4, f1, f2⟩ := lat
        exact ⟨_, rfl, p, dx, _, _, rfl, sp, rfl, al, _, rfl, .inl (SqL.of f1), fun r hr => k r _ (st.trans (same_upd hr)) (st.free hr) ⟨t2, upd_same, (same_upd hr) _ _ f2⟩⟩
    | false =>
      rw [e, if_neg Bool.false_ne_true] at k
      exact iteF ⟨by show 0 ≤ sizeLine; decide, fun r hr => k r _ (st.trans (same_upd hr)) (st.free hr) upd_same⟩
/-! reply, keep, tick -/
def rows2 (l : Str) : V → Prop := fun _ => True
def replyS (S : Sv) (M : Ltr) (c now : Int) : Sv := match S.st with
  | .opn => if 20 ≤ c then ⟨S.L, S.f, .snt, .int c, some (now, S.f, now + S.f), some (textOf (linesS M))⟩ else ⟨S.L, S.f, .opn, .int c, S.w, some (textOf (linesS M))⟩
  | _ => S
def replyO (S : Sv) (M : Ltr) : Option Str := match S.st with
  | .opn => some (textOf (linesS M))
  | _ => none
theorem newW {H : Hp} {x dx p : Addr} {o u z : HO} (hx : H x = none) (hdx : H dx = none) (hp : H p = some z) : (upd (upd (upd H dx (.own x)) x o) p u) p = some u ∧ (upd (upd (upd H dx (.own x)) x o) p u) x = some o ∧ x ≠ p ∧ ∀ y v, H y = some v → y ≠ p → (upd (upd (upd H dx (.own x)) x o) p u) y = some v := by
  have xp : x ≠ p := (ne_of_none hp hx).symm
  refine ⟨upd_same, (upd_ne xp).trans upd_same, xp, fun y v e hy => ?_⟩
  rw [upd_ne hy, upd_ne (ne_of_none e hx), upd_ne (ne_of_none e hdx)]
  exact e
def spSvReply (K : PySem.W.Frag) : Sp := fun vs H Q _ => ∃ (p la b : Addr) (S : Sv) (A : List Addr) (M : Ltr) (c now : Int), vs = [.ref p, .ref b, .int now] ∧ SvAt K H p la S A ∧ LetAt K H b M ∧ LOk M ∧ M.offer = .non ∧ M.stay = .non ∧ M.goal = .non ∧ M.code = .int c ∧
  ∀ r H' A', SvAt K H' p la (replyS S M c now) A' → Fr A H H' → (∀ x ∈ A', x ∈ A ∨ H x = none) → RowsAt H' r (replyO S M) → Q (.ref r) H'
/-- what a new object at t, then one at l leaves -/
theorem new2 {H : Hp} {t l : Addr} {o u : HO} (ht : H t = none) (hl : upd H t o l = none) : t ≠ l ∧ H l = none ∧ Same H (upd (upd H t o) l u) ∧ (upd (upd H t o) l u) t = some o ∧ (upd (upd H t o) l u) l = some u := by
  have n : t ≠ l := fun e => by rw [← e, upd_same] at hl; cases hl
  exact ⟨n, by rw [upd_ne n.symm] at hl; exact hl, (same_upd ht).trans (same_upd hl), (upd_ne n).trans upd_same, upd_same⟩
theorem new_below {H H1 : Hp} {p : Addr} {o : HO} (h : ∃ u, H p = some u) (s : Same (upd H p o) H1) {x : Addr} (hx : H1 x = none) : H x = none ∧ x ≠ p := by
  have n : x ≠ p := fun e => by rw [e, s _ _ upd_same] at hx; cases hx
  refine ⟨?_, n⟩
  cases e : H x with
  | none => rfl
  | some u =>
    rw [s x u ((upd_ne n).trans e)] at hx
    cases hx
theorem ok_Server_reply {P : Program} {w : World} {K : PySem.W.Frag} {mg : Str → Option Value} {base : Heap} {f : Addr} {fd : FuncData} (T : Tx K mg) (c_write : C8.Cal P w K mg base 2 "write" (spWrite0 K) []) (c_is_final : C8.Cal P w K mg base 1 "is_final" spFinal []) (c_mk_Wait : C8.Mak P w K mg base 1 "Wait" (He.ga K "Wait") (spWaitInit K) [])
    (F : FunD K "reply" "Server.reply" (defArgs s_Server_reply) (defBody s_Server_reply) (defScope s_Server_reply) [] [] f fd) : FnOk P w K mg base CX0 3 f fd ["self", "letter", "now"] (spSvReply K) := by
  refine F.ok sc_Server_reply (fun vs H Q E h => ?_) (fun cdv A outer s H vs Q E hr h => ?_)
  · obtain ⟨p, la, b, S, A, M, c, now, rfl, _⟩ := h
    rfl
  · obtain ⟨p, la, b, ⟨L, sf, st, code, w0, tx⟩, A, M, c, now, rfl, hS, ⟨dy, hb⟩, g, e1, e2, e3, e4, k⟩ := h
    obtain ⟨dx, al, wv, hp, m1, m2, m3, ⟨dl, hl⟩, hw, ht, tr⟩ := id hS
    refine ⟨_, PSs.nox (C8.pss_cut (ps_if (pt_cmpR op_ne (pe_fldC rfl T.cl_Server T.na_Server_state (pv 0) rfl) pe_str (nomark _)) (pss_one (ps_ret (pe_lst pa_nil))) pss_nil) (pss_cons (ps_fldC rfl T.cl_Server T.na_Server_code (pv 0) (pe_fldC rfl T.cl_Letter T.na_Letter_code (pv 1) rfl) rfl) (pss_cons (ps_fldC rfl T.cl_Server T.na_Server__latest (pv 0) (pe_lst (pa_cons (pe_tup (pa_cons (pe_fldC rfl T.cl_Server T.na_Server_place (pv 0) rfl) (pa_cons (pe_c c_write hr (by decide) rfl (pa_cons (pv 1) pa_nil)) pa_nil))) pa_nil)) rfl) (C8.pss_cut (ps_if (pt_val (pe_c c_is_final hr (by decide) rfl (pa_cons (pe_fldC rfl T.cl_Letter T.na_Letter_code (pv 1) rfl) pa_nil))) (pss_cons (ps_fldC rfl T.cl_Server T.na_Server_state (pv 0) pe_str rfl) (pss_one (ps_fldC rfl T.cl_Server T.na_Server__wait (pv 0) (C8.pe_mk c_mk_Wait hr (by decide) rfl (pa_cons (pv 2) (pa_cons (pe_fldC rfl T.cl_Server T.na_Server__first (pv 0) rfl) pa_nil))) rfl))) pss_nil) (pss_one (ps_ret (pe_callTy call_list_of rfl T.f_list (by decide +kernel) (pa_cons (pe_fldC rfl T.cl_Server T.na_Server__latest (pv 0) rfl) pa_nil)))))))), ?_⟩
    have hno : st ≠ .opn → replyS ⟨L, sf, st, code, w0, tx⟩ M c now = ⟨L, sf, st, code, w0, tx⟩ ∧ replyO ⟨L, sf, st, code, w0, tx⟩ M = none ∧ (!decide (V.str st.s = V.str "open")) = true := by
      cases st with
      | opn => exact fun h => absurd rfl h
      | _ => exact fun _ => ⟨rfl, rfl, rfl⟩
    by_cases hst : st = .opn
    · subst hst
      refine ⟨fun σ' H' => σ' = [some (.ref p), some (.ref b), some (.int now)] ∧ H' = H, ?_, ?_⟩
      · exact ⟨_, rfl, p, dx, _, _, rfl, hp, rfl, rfl, _, rfl, iteF ⟨rfl, rfl⟩⟩
      rintro σ' H' ⟨rfl, rfl⟩
      have pb : p ≠ b := ne_ins hp hb (by show 7 ≠ 12; decide)
      refine ⟨_, rfl, b, dy, _, _, rfl, hb, rfl, _, rfl, p, dx, _, rfl, hp, sm, ?_⟩
      have hb1 : ∀ o, (upd H' p o) b = some (.ins (He.ga K "Letter") dy M.fl) := fun o => by rw [upd_ne pb.symm]; exact hb
      refine ⟨_, rfl, p, dx, _, _, rfl, upd_same, rfl, _, rfl, b, M, rfl, ⟨dy, hb1 _⟩, g, e1, e2, e3, fun H1 s1 => ?_⟩
      refine ⟨by show 2 ≤ sizeLine; decide, fun t hnt => ⟨by show 1 ≤ sizeLine; decide, fun l hnl => ?_⟩⟩
      obtain ⟨lt, hnl1, s2, q3, q2⟩ := new2 (u := .lst [.ref t]) hnt hnl
      obtain ⟨nt0, tp⟩ := new_below ⟨_, hp⟩ s1 hnt
      obtain ⟨nl0, lp⟩ := new_below ⟨_, hp⟩ s1 hnl1
      refine ⟨_, rfl, p, dx, _, rfl, s2 _ _ (s1 _ _ upd_same), sm, ?_⟩
      have f4 : ∀ x o, H' x = some o → x ≠ p → ∀ u, (upd (upd (upd H1 t (.tup [.str "q", .str (textOf (linesS M))])) l (.lst [.ref t])) p u) x = some o := fun x o e hx u => by
        rw [upd_ne hx]
        exact s2 x o (s1 x o ((upd_ne hx).trans e))
      have q2 : ∀ u, (upd (upd (upd H1 t (.tup [.str "q", .str (textOf (linesS M))])) l (.lst [.ref t])) p u) l = some (.lst [.ref t]) := fun u => (upd_ne lp).trans q2
      have q3 : ∀ u, (upd (upd (upd H1 t (.tup [.str "q", .str (textOf (linesS M))])) l (.lst [.ref t])) p u) t = some (.tup [.str "q", .str (textOf (linesS M))]) := fun u => (upd_ne tp).trans q3
      generalize upd (upd H1 t (.tup [.str "q", .str (textOf (linesS M))])) l (.lst [.ref t]) = H3 at f4 q2 q3 ⊢
      have n1 : ∀ {x : Addr} {o : HO}, H' x = some o → x ≠ t ∧ x ≠ l := fun e => ⟨ne_of_none e nt0, ne_of_none e nl0⟩
      -- if is_final(letter.code)
      let Md : L2.St → Hp → Prop := fun σ' H5 => σ' = [some (.ref p), some (.ref b), some (.int now)] ∧ ∃ A', SvAt K H5 p la (replyS ⟨L, sf, .opn, code, w0, tx⟩ M c now) A' ∧ Fr A H' H5 ∧ (∀ x ∈ A', x ∈ A ∨ H' x = none) ∧
        (∃ fs, H5 p = some (.ins (He.ga K "Server") dx fs) ∧ fs.lookup ("_latest" : Str) = some (.ref l)) ∧ H5 l = some (.lst [.ref t]) ∧ H5 t = some (.tup [.str "q", .str (textOf (linesS M))])
      refine ⟨Md, ?_, ?_⟩
      · refine ⟨_, rfl, b, dy, _, _, rfl, f4 _ _ hb pb.symm _, rfl, c, congrArg (fun v => [v]) e4, _, rfl, ?_⟩
        have lap : la ≠ p := (ne_ins hp hl (by show 7 ≠ 12; decide)).symm
        by_cases hc : 20 ≤ c
        · rw [decide_eq_true (show c ≥ 20 from hc)]
          have er : replyS ⟨L, sf, .opn, code, w0, tx⟩ M c now = ⟨L, sf, .snt, .int c, some (now, sf, now + sf), some (textOf (linesS M))⟩ := if_pos hc
          refine iteT ⟨_, rfl, p, dx, _, rfl, upd_same, sm, ?_⟩
          rw [upd_upd]
          refine ⟨_, rfl, _, rfl, p, dx, _, _, rfl, upd_same, rfl, fun x dx' hx hdx hne => ?_⟩
          have px : p ≠ x := ne_of_none upd_same hx
          have pdx : p ≠ dx' := ne_of_none upd_same hdx
          have hq := f4
          refine ⟨x, dx', now, sf, rfl, upd_same, rfl, _, rfl, p, dx, _, rfl, (upd_ne px).trans ((upd_ne px).trans ((upd_ne pdx).trans upd_same)), sm, ?_⟩
          rw [upd_upd]
          rw [show putF "_wait" (V.ref x) (putF "state" (V.str "sent") (putF "_latest" (V.ref l) (putF "code" M.code (svfl la SS.opn.s code sf wv al)))) = svfl la "sent" M.code sf (.ref x) l from rfl]
          obtain ⟨w1, w2, xp, w3⟩ := newW (o := .ins (He.ga K "Wait") dx' (wfl now sf sf (now + sf))) (u := .ins (He.ga K "Server") dx (svfl la "sent" M.code sf (.ref x) l)) hx hdx (upd_same (H := H3) (a := p) (o := .ins (He.ga K "Server") dx (putF "state" (V.str "sent") (putF "_latest" (V.ref l) (putF "code" M.code (svfl la SS.opn.s code sf wv al))))))
          have nx0 : H' x = none := by
            cases e : H' x with
            | none => rfl
            | some v =>
              rw [f4 x v e xp] at hx
              cases hx
          refine ⟨rfl, x :: l :: t :: A, ?_, fun y v e hy => ?_, ?_, ⟨_, w1, rfl⟩, w3 _ _ (q2 _) lp, w3 _ _ (q3 _) tp⟩
          · rw [er, ← e4]
            refine ⟨dx, l, .ref x, w1, List.mem_cons_of_mem _ (List.mem_cons_of_mem _ (List.mem_cons_of_mem _ m1)), List.mem_cons_of_mem _ (List.mem_cons_of_mem _ (List.mem_cons_of_mem _ m2)), List.mem_cons_of_mem _ (List.mem_cons_self ..), ⟨dl, w3 _ _ (f4 _ _ hl lap _) lap⟩,
              ⟨x, rfl, List.mem_cons_self .., dx', w2⟩, ⟨t, List.mem_cons_of_mem _ (List.mem_cons_of_mem _ (List.mem_cons_self ..)), w3 _ _ (q2 _) lp, w3 _ _ (q3 _) tp⟩, fun y hy => ?_⟩
            rcases List.mem_cons.mp hy with rfl | hy
            · exact ⟨_, w2⟩
            rcases List.mem_cons.mp hy with rfl | hy
            · exact ⟨_, w3 _ _ (q2 _) lp⟩
            rcases List.mem_cons.mp hy with rfl | hy
            · exact ⟨_, w3 _ _ (q3 _) tp⟩
            by_cases hyp : y = p
            · exact ⟨_, by rw [hyp]; exact w1⟩
            · obtain ⟨o, e⟩ := tr y hy
              exact ⟨o, w3 _ _ (f4 _ _ e hyp _) hyp⟩
          · have hyp : y ≠ p := fun e => hy (e ▸ m1)
            exact w3 _ _ (f4 _ _ e hyp _) hyp
          · intro y hy
            rcases List.mem_cons.mp hy with rfl | hy
            · exact .inr nx0
            rcases List.mem_cons.mp hy with rfl | hy
            · exact .inr nl0
            rcases List.mem_cons.mp hy with rfl | hy
            · exact .inr nt0
            exact .inl hy
        · rw [decide_eq_false (show ¬ c ≥ 20 from hc)]
          have er : replyS ⟨L, sf, .opn, code, w0, tx⟩ M c now = ⟨L, sf, .opn, .int c, w0, some (textOf (linesS M))⟩ := if_neg hc
          refine iteF ?_
          rw [show putF "_latest" (V.ref l) (putF "code" M.code (svfl la SS.opn.s code sf wv al)) = svfl la "open" M.code sf wv l from rfl]
          refine ⟨rfl, l :: t :: A, ?_, fun y v e hy => ?_, ?_, ⟨_, upd_same, rfl⟩, q2 _, q3 _⟩
          · rw [er, ← e4]
            refine ⟨dx, l, wv, upd_same, List.mem_cons_of_mem _ (List.mem_cons_of_mem _ m1), List.mem_cons_of_mem _ (List.mem_cons_of_mem _ m2), List.mem_cons_self .., ⟨dl, f4 _ _ hl lap _⟩,
              ?_, ⟨t, List.mem_cons_of_mem _ (List.mem_cons_self ..), q2 _, q3 _⟩, fun y hy => ?_⟩
            · cases hw0 : w0 with
              | none => rw [hw0] at hw; exact hw
              | some z =>
                obtain ⟨b0, g0, d0⟩ := z
                rw [hw0] at hw
                obtain ⟨a, ea, ha, dw, ew⟩ := hw
                exact ⟨a, ea, List.mem_cons_of_mem _ (List.mem_cons_of_mem _ ha), dw, f4 _ _ ew (ne_ins ew hp (by show 4 ≠ 7; decide)) _⟩
            rcases List.mem_cons.mp hy with rfl | hy
            · exact ⟨_, q2 _⟩
            rcases List.mem_cons.mp hy with rfl | hy
            · exact ⟨_, q3 _⟩
            by_cases hyp : y = p
            · exact ⟨_, by rw [hyp]; exact upd_same⟩
            · obtain ⟨o, e⟩ := tr y hy
              exact ⟨o, f4 _ _ e hyp _⟩
          · have hyp : y ≠ p := fun e => hy (e ▸ m1)
            exact f4 _ _ e hyp _
          · intro y hy
            rcases List.mem_cons.mp hy with rfl | hy
            · exact .inr nl0
            rcases List.mem_cons.mp hy with rfl | hy
            · exact .inr nt0
            exact .inl hy
      · rintro σ' H5 ⟨rfl, A', S5, fr5, nw5, ⟨fs, g1, g2⟩, g3, g4⟩
        refine ⟨_, rfl, p, dx, _, _, rfl, g1, g2, l, _, rfl, .inl (SqL.of g3), fun r hnr => ?_⟩
        exact k r _ A' (S5.same (same_upd hnr)) (fr5.trans (Fr.of_same (same_upd hnr))) nw5 ⟨t, upd_same, (same_upd hnr) _ _ g4⟩
    · obtain ⟨er, eo, e⟩ := hno hst
      refine ⟨fun _ _ => False, ?_, fun _ _ z => z.elim⟩
      refine ⟨_, rfl, p, dx, _, _, rfl, hp, rfl, rfl, _, rfl, ?_⟩
      rw [e]
      refine iteT ⟨by show 0 ≤ sizeLine; decide, fun r hnr => ?_⟩
      exact k r _ A (by rw [er]; exact hS.same (same_upd hnr)) (Fr.of_same (same_upd hnr)) (fun x m => .inl m) (by rw [eo]; exact upd_same)
end K6
set_option maxHeartbeats 4000000
namespace K6
open PySem PySem.Spec PyProof.Rows L2 SX TK
open C8 (pe_c)
def keepB (S : Sv) : Bool := decide (S.st = .snt) && decide (S.L.verb = "CALL")
def keepS (S : Sv) (now : Int) : Sv := if keepB S = true then ⟨S.L, S.f, .kpt, S.code, some (now, S.f, now + S.f), S.tx⟩ else S
def spSvKeep (K : PySem.W.Frag) : Sp := fun vs H Q _ => ∃ (p la : Addr) (S : Sv) (A : List Addr) (now : Int), vs = [.ref p, .int now] ∧ SvAt K H p la S A ∧
  ∀ H' A', SvAt K H' p la (keepS S now) A' → Fr A H H' → (∀ x ∈ A', x ∈ A ∨ H x = none) → Q (.bl (keepB S)) H'
theorem st_snt (S : SS) : (!decide (V.str S.s = V.str "sent")) = !decide (S = .snt) := by cases S <;> rfl
theorem st_snt' (S : SS) : decide (V.str S.s = V.str "sent") = decide (S = .snt) := by cases S <;> rfl
theorem vstr (a b : Str) : decide (V.str a = V.str b) = decide (a = b) := by
  by_cases h : a = b
  · rw [h, decide_eq_true rfl, decide_eq_true rfl]
  · rw [decide_eq_false h, decide_eq_false fun e => h (V.str.inj e)]
theorem ok_Server_keep {P : Program} {w : World} {K : PySem.W.Frag} {mg : Str → Option Value} {base : Heap} {f : Addr} {fd : FuncData} (T : Tx K mg) (c_mk_Wait : C8.Mak P w K mg base 1 "Wait" (He.ga K "Wait") (spWaitInit K) [])
    (F : FunD K "keep" "Server.keep" (defArgs s_Server_keep) (defBody s_Server_keep) (defScope s_Server_keep) [] [] f fd) : FnOk P w K mg base CX0 3 f fd ["self", "now"] (spSvKeep K) := by
  refine F.ok sc_Server_keep (fun vs H Q E h => ?_) (fun cdv A outer s H vs Q E hr h => ?_)
  · obtain ⟨p, la, S, A, now, rfl, _⟩ := h
    rfl
  · obtain ⟨p, la, ⟨L, sf, st, code, w0, tx⟩, A, now, rfl, hS, k⟩ := h
    obtain ⟨dx, al, wv, hp, m1, m2, m3, ⟨dl, hl⟩, hw, ht, tr⟩ := id hS
    refine ⟨_, PSs.nox (C8.pss_cut (ps_if (PW.pt (pw_or (pt_cmpR op_ne (pe_fldC rfl T.cl_Server T.na_Server_state (pv 0) rfl) pe_str (nomark _)) (pw_or1 (pt_cmpR op_ne (pe_fldC rfl T.cl_Letter T.na_Letter_verb (pe_fldC rfl T.cl_Server T.na_Server_letter (pv 0) rfl) rfl) pe_str (nomark _))))) (pss_one (ps_ret pe_bl)) pss_nil) (pss_cons (ps_fldC rfl T.cl_Server T.na_Server_state (pv 0) pe_str rfl) (pss_cons (ps_fldC rfl T.cl_Server T.na_Server__wait (pv 0) (C8.pe_mk c_mk_Wait hr (by decide) rfl (pa_cons (pv 1) (pa_cons (pe_fldC rfl T.cl_Server T.na_Server__first (pv 0) rfl) pa_nil))) rfl) (pss_one (ps_ret pe_bl))))), ?_⟩
    have no : keepB ⟨L, sf, st, code, w0, tx⟩ = false → Q (.bl false) H := fun e => by
      have q := k H A (by unfold keepS; rw [if_neg (by rw [e]; exact Bool.false_ne_true)]; exact hS) (Fr.refl _ _) fun x m => .inl m
      rw [e] at q
      exact q
    refine ⟨fun σ' H' => σ' = [some (.ref p), some (.int now)] ∧ H' = H ∧ keepB ⟨L, sf, st, code, w0, tx⟩ = true, ?_, ?_⟩
    · refine ⟨_, rfl, p, dx, _, _, rfl, hp, rfl, rfl, _, rfl, ?_⟩
      rw [st_snt]
      cases e : decide (st = .snt) with
      | false => exact iteT (iteT (no (by unfold keepB; rw [e]; rfl)))
      | true =>
        refine iteF ⟨_, rfl, p, dx, _, _, rfl, hp, rfl, la, dl, _, _, rfl, hl, rfl, rfl, _, rfl, ?_⟩
        rw [vstr]
        cases e2 : decide (L.verb = "CALL") with
        | false => exact iteT (no (by unfold keepB; rw [e, e2]; rfl))
        | true => exact iteF ⟨rfl, rfl, by unfold keepB; rw [e, e2]; rfl⟩
    · rintro σ' H' ⟨rfl, rfl, e⟩
      have es : st = .snt := of_decide_eq_true (Bool.and_eq_true_iff.mp e).1
      subst es
      refine ⟨_, rfl, p, dx, _, rfl, hp, sm, ?_⟩
      refine ⟨_, rfl, _, rfl, p, dx, _, _, rfl, upd_same, rfl, fun x dx' hx hdx hne => ?_⟩
      obtain ⟨w1, w2, xp, w3⟩ := newW (o := .ins (He.ga K "Wait") dx' (wfl now sf sf (now + sf))) (u := .ins (He.ga K "Server") dx (svfl la "kept" code sf (.ref x) al)) hx hdx (upd_same (H := H') (a := p) (o := .ins (He.ga K "Server") dx (svfl la "kept" code sf wv al)))
      refine ⟨x, dx', now, sf, rfl, upd_same, rfl, _, rfl, p, dx, _, rfl, (upd_ne xp.symm).trans ((upd_ne xp.symm).trans ((upd_ne (ne_of_none upd_same hdx)).trans upd_same)), sm, ?_⟩
      rw [upd_upd]
      have f : ∀ y v, H' y = some v → y ≠ p → (upd (upd (upd (upd H' p (.ins (He.ga K "Server") dx (svfl la "kept" code sf wv al))) dx' (.own x)) x (.ins (He.ga K "Wait") dx' (wfl now sf sf (now + sf)))) p (.ins (He.ga K "Server") dx (svfl la "kept" code sf (.ref x) al))) y = some v := fun y v e hy => w3 y v ((upd_ne hy).trans e) hy
      have nx0 : H' x = none := by
        cases e : H' x with
        | none => rfl
        | some v =>
          have z := hx
          unfold upd at z
          rw [if_neg xp, e] at z
          cases z
      rw [e] at k
      refine k _ (x :: A) ?_ (fun y v e hy => ?_) ?_
      · unfold keepS
        rw [if_pos e]
        have lap : la ≠ p := (ne_ins hp hl (by show 7 ≠ 12; decide)).symm
        refine ⟨dx, al, .ref x, w1, List.mem_cons_of_mem _ m1, List.mem_cons_of_mem _ m2, List.mem_cons_of_mem _ m3, ⟨dl, f _ _ hl lap⟩, ⟨x, rfl, List.mem_cons_self .., dx', w2⟩, ?_, fun y hy => ?_⟩
        · cases ht0 : tx with
          | none =>
            rw [ht0] at ht
            exact f _ _ ht (ne_of ht hp (by intro z; cases z))
          | some z =>
            rw [ht0] at ht
            obtain ⟨t, mt, g1, g2⟩ := ht
            exact ⟨t, List.mem_cons_of_mem _ mt, f _ _ g1 (ne_of g1 hp (by intro z; cases z)), f _ _ g2 (ne_of g2 hp (by intro z; cases z))⟩
        rcases List.mem_cons.mp hy with rfl | hy
        · exact ⟨_, w2⟩
        by_cases hyp : y = p
        · exact ⟨_, by rw [hyp]; exact w1⟩
        · obtain ⟨o, e⟩ := tr y hy
          exact ⟨o, f _ _ e hyp⟩
      · exact f _ _ e fun z => hy (z ▸ m1)
      · intro y hy
        rcases List.mem_cons.mp hy with rfl | hy
        · exact .inr nx0
        · exact .inl hy
/-! ### a tick -/
def isCallB (S : Sv) : Bool := decide (S.L.verb = "CALL")
def tickR (S : Sv) (now : Int) : Sv × Option Str × Bool :=
  match S.st, S.w with
  | .snt, some (b, g, d) =>
    if 32 * S.f ≤ now - b then (⟨S.L, S.f, .ovr, S.code, S.w, S.tx⟩, none, isCallB S)
    else if isCallB S = true ∧ ¬ now < d then (⟨S.L, S.f, .snt, S.code, some (b, minI (2 * g) (8 * S.f), now + minI (2 * g) (8 * S.f)), S.tx⟩, S.tx, false)
    else (S, none, false)
  | .kpt, some (b, _, _) =>
    if 32 * S.f ≤ now - b then (⟨S.L, S.f, .ovr, S.code, S.w, S.tx⟩, none, false) else (S, none, false)
  | _, _ => (S, none, false)
def spSvTick (K : PySem.W.Frag) : Sp := fun vs H Q _ => ∃ (p la : Addr) (S : Sv) (A : List Addr) (now : Int), vs = [.ref p, .int now] ∧ SvAt K H p la S A ∧ (S.st = .snt ∨ S.st = .kpt → S.w ≠ none) ∧
  ∀ t r H', SvAt K H' p la (tickR S now).1 A → Fr A H H' → H' t = some (.tup [.ref r, .bl (tickR S now).2.2]) → RowsAt H' r (tickR S now).2.1 → Q (.ref t) H'
theorem notIn_sk (S : SS) : (if true = true then !inV (V.str S.s) [.str "sent", .str "kept"] else inV (V.str S.s) [.str "sent", .str "kept"]) = (decide (S = .opn) || decide (S = .ovr)) := by cases S <;> rfl

theorem is_up_is {f b now : Int} : decide (32 * f ≤ now - b) = decide (32 * f ≤ now - b) := rfl
theorem ok_Server_tick {P : Program} {w : World} {K : PySem.W.Frag} {mg : Str → Option Value} {base : Heap} {f : Addr} {fd : FuncData} (T : Tx K mg) (c_Wait_repeats : C8.Met P w K mg base 1 (He.ga K "Wait") "repeats" (spRepeats K) []) (c_Wait_is_up : C8.Met P w K mg base 1 (He.ga K "Wait") "is_up" (spIsUp K) [])
    (F : FunD K "tick" "Server.tick" (defArgs s_Server_tick) (defBody s_Server_tick) (defScope s_Server_tick) [] [] f fd) : FnOk P w K mg base CX0 2 f fd ["self", "now"] (spSvTick K) := by
  refine F.ok sc_Server_tick (fun vs H Q E h => ?_) (fun cdv A outer s H vs Q E hr h => ?_)
  · obtain ⟨p, la, S, A, now, rfl, _⟩ := h
    rfl
  · obtain ⟨p, la, S, A, now, rfl, hS, hst, k⟩ := h
    obtain ⟨dx, al, wv, hp, m1, m2, m3, ⟨dl, hl⟩, hw, ht, tr⟩ := id hS
    refine ⟨_, PSs.nox (C8.pss_cut (ps_if (pt_cmpR op_notIn_seq (pe_fldC rfl T.cl_Server T.na_Server_state (pv 0) rfl) (pe_tup (pa_cons pe_str (pa_cons pe_str pa_nil))) (by with_unfolding_all rfl)) (pss_one (ps_ret (pe_tup (pa_cons (pe_lst pa_nil) (pa_cons pe_bl pa_nil))))) pss_nil) (pss_cons (ps_set (i := 2) sc_Server_tick.nd rfl (Or.inl rfl) (pe_cut (pe_and (pe_cmpR op_eq (pe_fldC rfl T.cl_Server T.na_Server_state (pv 0) rfl) pe_str (nomark _)) (pe_one (pe_cmpR op_eq (pe_fldC rfl T.cl_Letter T.na_Letter_verb (pe_fldC rfl T.cl_Server T.na_Server_letter (pv 0) rfl) rfl) pe_str (nomark _)))))) (C8.pss_cut (ps_if (pt_val (C8.pe_mt c_Wait_is_up hr (by decide) (pe_fldC rfl T.cl_Server T.na_Server__wait (pv 0) rfl) (pa_cons (pv 1) pa_nil))) (pss_cons (ps_fldC rfl T.cl_Server T.na_Server_state (pv 0) pe_str rfl) (pss_one (ps_ret (pe_tup (pa_cons (pe_lst pa_nil) (pa_cons (pv 2) pa_nil)))))) pss_nil) (C8.pss_cut (ps_if (PW.pt (pw_and (pt_val (pv 2)) (pw_and1 (pt_val (C8.pe_mt c_Wait_repeats hr (by decide) (pe_fldC rfl T.cl_Server T.na_Server__wait (pv 0) rfl) (pa_cons (pv 1) pa_nil)))))) (pss_one (ps_ret (pe_tup (pa_cons (pe_callTy call_list_of rfl T.f_list (by decide +kernel) (pa_cons (pe_fldC rfl T.cl_Server T.na_Server__latest (pv 0) rfl) pa_nil)) (pa_cons pe_bl pa_nil))))) pss_nil) (pss_one (ps_ret (pe_tup (pa_cons (pe_lst pa_nil) (pa_cons pe_bl pa_nil))))))))), ?_⟩
    -- the answer ([], lost)
    have ret : ∀ H1, SvAt K H1 p la (tickR S now).1 A → Fr A H H1 → (tickR S now).2.1 = none → 0 ≤ sizeLine ∧ ∀ l, H1 l = none → 2 ≤ sizeLine ∧ ∀ t, (upd H1 l (.lst [])) t = none → Q (.ref t) (upd (upd H1 l (.lst [])) t (.tup [.ref l, .bl (tickR S now).2.2])) := fun H1 s1 fr e => ⟨by decide, fun l hnl => ⟨by decide, fun t hnt => by
      have sm2 := (same_upd (o := .lst []) hnl).trans (same_upd (o := .tup [.ref l, .bl (tickR S now).2.2]) hnt)
      exact k t l _ (s1.same sm2) (fr.trans (Fr.of_same sm2)) upd_same (by rw [e]; exact (same_upd hnt) _ _ upd_same)⟩⟩
    refine ⟨fun σ' H' => σ' = [some (.ref p), some (.int now), none] ∧ Same H H' ∧ (S.st = .snt ∨ S.st = .kpt), ?_, ?_⟩
    · refine ⟨_, rfl, p, dx, _, _, rfl, hp, rfl, by show 2 ≤ sizeLine; decide, fun t hnt => ?_⟩
      refine ⟨t, _, rfl, .inr (SqT.of upd_same), rfl, rfl, _, rfl, ?_⟩
      rw [notIn_sk]
      have st := same_upd (o := .tup [.str "sent", .str "kept"]) hnt
      cases es : S.st with
      | snt => exact iteF ⟨rfl, st, .inl rfl⟩
      | kpt => exact iteF ⟨rfl, st, .inr rfl⟩
      | opn =>
        have et : tickR S now = (S, none, false) := by unfold tickR; rw [es]
        rw [et] at ret
        exact iteT (ret _ (hS.same st) (Fr.of_same st) rfl)
      | ovr =>
        have et : tickR S now = (S, none, false) := by unfold tickR; rw [es]
        rw [et] at ret
        exact iteT (ret _ (hS.same st) (Fr.of_same st) rfl)
    rintro σ' H1 ⟨rfl, s1, hst2⟩
    have hp1 := s1 _ _ hp
    have hl1 := s1 _ _ hl
    obtain ⟨⟨b, g, d⟩, ew⟩ := Option.ne_none_iff_exists'.mp (hst hst2)
    rw [ew] at hw
    obtain ⟨wa, rfl, mw, dw, hwa⟩ := hw
    have hwa1 := s1 _ _ hwa
    have wp : wa ≠ p := ne_ins hwa hp (by show 4 ≠ 7; decide)
    -- waits_for_keep
    let wk : Bool := decide (S.st = .snt) && isCallB S
    have go : ∀ (X : V → Hp → Prop), X (.bl wk) H1 → (if decide (S.st = .snt) = true then X (.bl (isCallB S)) H1 else X (.bl false) H1) := fun X h => by
      by_cases e : S.st = .snt
      · rw [decide_eq_true e]
        have : wk = isCallB S := by show (decide (S.st = .snt) && isCallB S) = _; rw [decide_eq_true e, Bool.true_and]
        rw [this] at h
        exact iteT h
      · rw [decide_eq_false e]
        have : wk = false := by show (decide (S.st = .snt) && isCallB S) = _; rw [decide_eq_false e, Bool.false_and]
        rw [this] at h
        exact iteF h
    refine ⟨fun v H' => v = .bl wk ∧ H' = H1, ?_, ?_⟩
    · refine ⟨_, rfl, p, dx, _, _, rfl, hp1, rfl, rfl, _, rfl, ?_⟩
      rw [st_snt']
      refine go (fun v H' => v = .bl wk ∧ H' = H1) ⟨rfl, rfl⟩ |> fun z => ?_
      by_cases e : decide (S.st = .snt) = true
      · rw [if_pos e] at z
        rw [if_pos e]
        refine ⟨_, rfl, p, dx, _, _, rfl, hp1, rfl, la, dl, _, _, rfl, hl1, rfl, rfl, ?_⟩
        rw [vstr]
        exact z
      · rw [if_neg e] at z
        rw [if_neg e]
        exact z
    rintro v H' ⟨rfl, rfl⟩
    have ek : isCallB S = decide (S.L.verb = "CALL") := rfl
    have hSv : SvAt K H' p la S A := hS.same s1
    -- if self._wait.is_up(now)
    refine ⟨fun σ' H2 => σ' = [some (.ref p), some (.int now), some (.bl wk)] ∧ H2 = H' ∧ ¬ 32 * S.f ≤ now - b, ?_, ?_⟩
    · refine ⟨_, rfl, p, dx, _, _, rfl, hp1, rfl, wa, dw, _, rfl, hwa1, rfl, _, rfl, wa, b, S.f, g, d, now, rfl, ⟨dw, hwa1⟩, _, rfl, ?_⟩
      by_cases hup : 32 * S.f ≤ now - b
      · rw [decide_eq_true hup]
        have et : tickR S now = (⟨S.L, S.f, .ovr, S.code, S.w, S.tx⟩, none, wk) := by
          unfold tickR
          rw [ew]
          rcases hst2 with e | e
          · rw [e]
            show (if 32 * S.f ≤ now - b then _ else _) = _
            rw [if_pos hup]
            show (_, _, isCallB S) = (_, _, decide (S.st = .snt) && isCallB S)
            rw [e, decide_eq_true rfl, Bool.true_and]
          · rw [e]
            show (if 32 * S.f ≤ now - b then _ else _) = _
            rw [if_pos hup]
            show (_, _, false) = (_, _, decide (S.st = .snt) && isCallB S)
            rw [e]
            rfl
        rw [et] at ret
        refine iteT ⟨_, rfl, p, dx, _, rfl, hp1, sm, ?_⟩
        rw [show putF "state" (V.str "over") (svfl la S.st.s S.code S.f (.ref wa) al) = svfl la SS.ovr.s S.code S.f (.ref wa) al from rfl]
        have lap : la ≠ p := (ne_ins hp hl (by show 7 ≠ 12; decide)).symm
        refine (fun z => ?_) (ret (upd H' p (.ins (He.ga K "Server") dx (svfl la SS.ovr.s S.code S.f (.ref wa) al))) ?_ (fun y v e hy => ?_) rfl)
        · exact ⟨z.1, fun l hl => ⟨_, rfl, z.2 l hl⟩⟩
        · refine ⟨dx, al, .ref wa, upd_same, m1, m2, m3, ⟨dl, (upd_ne lap).trans hl1⟩, ?_, ?_, fun y hy => ?_⟩
          · rw [show (Sv.w ⟨S.L, S.f, .ovr, S.code, S.w, S.tx⟩) = some (b, g, d) from ew]
            exact ⟨wa, rfl, mw, dw, (upd_ne wp).trans hwa1⟩
          · have ht1 : LatAt H' al A S.tx := LatAt.mono ht m3 (fun b u _ e => s1 b u e) fun _ m => m
            show LatAt _ al A S.tx
            cases ht0 : S.tx with
            | none =>
              rw [ht0] at ht1
              exact (upd_ne (ne_of ht1 hp1 (by intro z; cases z))).trans ht1
            | some z =>
              rw [ht0] at ht1
              obtain ⟨t, mt, g1, g2⟩ := ht1
              exact ⟨t, mt, (upd_ne (ne_of g1 hp1 (by intro z; cases z))).trans g1, (upd_ne (ne_of g2 hp1 (by intro z; cases z))).trans g2⟩
          · by_cases hyp : y = p
            · exact ⟨_, by rw [hyp]; exact upd_same⟩
            · obtain ⟨o, e⟩ := tr y hy
              exact ⟨o, (upd_ne hyp).trans (s1 _ _ e)⟩
        · exact (upd_ne fun z => hy (by rw [z]; exact m1)).trans (s1 _ _ e)
      · rw [decide_eq_false hup]
        exact iteF ⟨rfl, rfl, hup⟩
    rintro σ' H2 ⟨rfl, rfl, hup⟩
    -- if waits_for_keep and self._wait.repeats(now)
    refine ⟨fun σ' H3 => σ' = [some (.ref p), some (.int now), some (.bl wk)] ∧ H3 = H2 ∧ tickR S now = (S, none, false), ?_, ?_⟩
    · refine ⟨_, rfl, _, rfl, ?_⟩
      cases ewk : wk with
      | false =>
        refine iteF (iteF ⟨rfl, rfl, ?_⟩)
        unfold tickR
        rw [ew]
        rcases hst2 with e | e
        · rw [e]
          show (if 32 * S.f ≤ now - b then _ else if isCallB S = true ∧ ¬ now < d then _ else _) = _
          have e3 : isCallB S = false := by
            have : (decide (S.st = .snt) && isCallB S) = false := ewk
            rw [decide_eq_true e, Bool.true_and] at this
            exact this
          rw [if_neg hup, if_neg (by rw [e3]; exact fun z => Bool.false_ne_true z.1)]
        · rw [e]
          show (if 32 * S.f ≤ now - b then _ else _) = _
          rw [if_neg hup]
      | true =>
        have ea : decide (S.st = .snt) = true ∧ isCallB S = true := Bool.and_eq_true_iff.mp ewk
        have es : S.st = .snt := of_decide_eq_true ea.1
        refine iteT ⟨_, rfl, p, dx, _, _, rfl, hp1, rfl, wa, dw, _, rfl, hwa1, rfl, _, rfl, wa, b, S.f, g, d, now, rfl, ⟨dw, hwa1⟩, ?_⟩
        by_cases hnd : now < d
        · refine .inl ⟨hnd, _, rfl, iteF ⟨rfl, rfl, ?_⟩⟩
          unfold tickR
          rw [ew, es]
          show (if 32 * S.f ≤ now - b then _ else if isCallB S = true ∧ ¬ now < d then _ else _) = _
          rw [if_neg hup, if_neg fun z => z.2 hnd]
        · refine .inr ⟨hnd, fun H3 hw3 kp3 => ⟨_, rfl, iteT ?_⟩⟩
          have et : tickR S now = (⟨S.L, S.f, .snt, S.code, some (b, minI (2 * g) (8 * S.f), now + minI (2 * g) (8 * S.f)), S.tx⟩, S.tx, false) := by
            unfold tickR
            rw [ew, es]
            show (if 32 * S.f ≤ now - b then _ else if isCallB S = true ∧ ¬ now < d then _ else _) = _
            rw [if_neg hup, if_pos ⟨ea.2, hnd⟩]
          rw [et] at k
          have hp3 := kp3 _ _ hp1 wp.symm
          have ht1 : LatAt H2 al A S.tx := LatAt.mono ht m3 (fun b u _ e => s1 b u e) fun _ m => m
          have ht3 : LatAt H3 al A S.tx := by
            cases ht0 : S.tx with
            | none =>
              rw [ht0] at ht1
              exact kp3 _ _ ht1 (ne_of ht1 hwa1 (by intro z; cases z))
            | some z =>
              rw [ht0] at ht1
              obtain ⟨t, mt, g1, g2⟩ := ht1
              exact ⟨t, mt, kp3 _ _ g1 (ne_of g1 hwa1 (by intro z; cases z)), kp3 _ _ g2 (ne_of g2 hwa1 (by intro z; cases z))⟩
          have hS3 : SvAt K H3 p la ⟨S.L, S.f, .snt, S.code, some (b, minI (2 * g) (8 * S.f), now + minI (2 * g) (8 * S.f)), S.tx⟩ A := by
            refine ⟨dx, al, .ref wa, ?_, m1, m2, m3, ⟨dl, kp3 _ _ hl1 (ne_ins hl hwa (by show 12 ≠ 4; decide))⟩, ⟨wa, rfl, mw, hw3⟩, ht3, fun y hy => ?_⟩
            · rw [es] at hp3
              exact hp3
            · by_cases hyw : y = wa
              · obtain ⟨dw3, e3⟩ := hw3
                exact ⟨_, by rw [hyw]; exact e3⟩
              · obtain ⟨o, e⟩ := tr y hy
                exact ⟨o, kp3 _ _ (s1 _ _ e) hyw⟩
          have fr3 : Fr A H H3 := fun y v e hy => kp3 _ _ (s1 _ _ e) fun z => hy (by rw [z]; exact mw)
          have fin : ∀ xs, H3 al = some (.lst xs) → (∀ r, H3 r = none → RowsAt (upd H3 r (.lst xs)) r S.tx) → ∀ l, H3 l = none → 2 ≤ sizeLine ∧ ∀ t, (upd H3 l (.lst xs)) t = none → Q (.ref t) (upd (upd H3 l (.lst xs)) t (.tup [.ref l, .bl false])) := fun xs hx hr l hnl => ⟨by decide, fun t hnt => by
            have sm2 := (same_upd (o := .lst xs) hnl).trans (same_upd (o := .tup [.ref l, .bl false]) hnt)
            exact k t l _ (hS3.same sm2) (fr3.trans (Fr.of_same sm2)) upd_same ((hr l hnl).same (same_upd hnt))⟩
          cases ht0 : S.tx with
          | none =>
            rw [ht0] at ht3
            refine ⟨_, rfl, p, dx, _, _, rfl, hp3, rfl, al, _, rfl, .inl (SqL.of ht3), ?_⟩
            exact fin [] ht3 fun r hr => by rw [ht0]; exact upd_same
          | some z =>
            rw [ht0] at ht3
            obtain ⟨t, mt, g1, g2⟩ := ht3
            refine ⟨_, rfl, p, dx, _, _, rfl, hp3, rfl, al, _, rfl, .inl (SqL.of g1), ?_⟩
            exact fin [.ref t] g1 fun r hr => by rw [ht0]; exact ⟨t, upd_same, (same_upd hr) _ _ g2⟩
    · rintro σ' H3 ⟨rfl, rfl, et⟩
      rw [et] at ret
      exact ret _ hSv (Fr.of_same s1) rfl

/-! ### the same request -/
def keyD (L : Ltr) : PyData := .tuple [.str L.call, .str L.otag, .int L.seq, .str L.way]
def keyOk (L : Ltr) : Prop := PyData.strOk L.call = true ∧ PyData.strOk L.otag = true ∧ PyData.strOk L.way = true
theorem keyD_ok {L : Ltr} (h : keyOk L) : SeqAt.shaped (keyD L) = true := by
  obtain ⟨h1, h2, h3⟩ := h
  have q : (keyD L).canLay0 = true := by simp [keyD, PyData.canLay0, PyData.canLayAll0, h1, h2, h3]
  unfold SeqAt.shaped
  rw [q, Bool.true_and, decide_eq_true_eq]
  simp [keyD, PyData.depth, PyData.depthAll]
def matchB (O M : Ltr) (pl : Str) : Bool :=
  if (!decide (M.code = .non)) = true then false else if (!decide (pl = "q")) = true then false
  else if (!decide (M.verb = O.verb) && !(decide (M.verb = "KEEP") && decide (O.verb = "CALL"))) = true then false else PyData.eqv (keyD M) (keyD O)
def spSvMatch (K : PySem.W.Frag) : Sp := fun vs H Q _ => ∃ (p la b : Addr) (S : Sv) (A : List Addr) (M : Ltr) (pl : Str), vs = [.ref p, .ref b, .str pl] ∧ SvAt K H p la S A ∧ LetAt K H b M ∧ keyOk M ∧ keyOk S.L ∧ ∀ H', Same H H' → Q (.bl (matchB S.L M pl)) H'
theorem ok_Server_matches {P : Program} {w : World} {K : PySem.W.Frag} {mg : Str → Option Value} {base : Heap} {f : Addr} {fd : FuncData} (T : Tx K mg) 
    (F : FunD K "matches" "Server.matches" (defArgs s_Server_matches) (defBody s_Server_matches) (defScope s_Server_matches) [] [] f fd) : FnOk P w K mg base CX0 1 f fd ["self", "letter", "place"] (spSvMatch K) := by
  refine F.ok sc_Server_matches (fun vs H Q E h => ?_) (fun cdv A outer s H vs Q E hr h => ?_)
  · obtain ⟨p, la, b, S, A, M, pl, rfl, _⟩ := h
    rfl
  · obtain ⟨p, la, b, S, A, M, pl, rfl, ⟨dx, al, wv, hp, m1, m2, m3, ⟨dl, hl⟩, _⟩, ⟨db, hb⟩, kM, kL, k⟩ := h
    refine ⟨_, PSs.nox (pss_cons (ps_set (i := 3) sc_Server_matches.nd rfl (Or.inl rfl) (pe_fldC rfl T.cl_Server T.na_Server_letter (pv 0) rfl)) (C8.pss_cut (ps_if (PW.pt (pw_or (pt_cmpR op_notN (pe_fldC rfl T.cl_Letter T.na_Letter_code (pv 1) rfl) pe_non (nomark _)) (pw_or1 (pt_cmpR op_ne (pv 2) (pe_fldC rfl T.cl_Server T.na_Server_place (pv 0) rfl) (nomark _))))) (pss_one (ps_ret pe_bl)) pss_nil) (C8.pss_cut (ps_if (PW.pt (pw_and (pt_cmpR op_ne (pe_fldC rfl T.cl_Letter T.na_Letter_verb (pv 1) rfl) (pe_fldC rfl T.cl_Letter T.na_Letter_verb (pv 3) rfl) (nomark _)) (pw_and1 (pt_not (PW.pt (pw_and (pt_cmpR op_eq (pe_fldC rfl T.cl_Letter T.na_Letter_verb (pv 1) rfl) pe_str (nomark _)) (pw_and1 (pt_cmpR op_eq (pe_fldC rfl T.cl_Letter T.na_Letter_verb (pv 3) rfl) pe_str (nomark _))))))))) (pss_one (ps_ret pe_bl)) pss_nil) (pss_one (ps_ret (pe_cmpR (op_eqD hr.units) (pe_tup (pa_cons (pe_fldC rfl T.cl_Letter T.na_Letter_call (pv 1) rfl) (pa_cons (pe_fldC rfl T.cl_Letter T.na_Letter_origin_tag (pv 1) rfl) (pa_cons (pe_fldC rfl T.cl_Letter T.na_Letter_seq (pv 1) rfl) (pa_cons (pe_fldC rfl T.cl_Letter T.na_Letter_way (pv 1) rfl) pa_nil))))) (pe_tup (pa_cons (pe_fldC rfl T.cl_Letter T.na_Letter_call (pv 3) rfl) (pa_cons (pe_fldC rfl T.cl_Letter T.na_Letter_origin_tag (pv 3) rfl) (pa_cons (pe_fldC rfl T.cl_Letter T.na_Letter_seq (pv 3) rfl) (pa_cons (pe_fldC rfl T.cl_Letter T.na_Letter_way (pv 3) rfl) pa_nil))))) (nomark _))))))), ?_⟩
    refine ⟨_, rfl, p, dx, _, _, rfl, hp, rfl, ?_⟩
    have kS := k H (Same.refl _)
    unfold matchB at k kS
    refine ⟨fun σ' H' => σ' = [some (.ref p), some (.ref b), some (.str pl), some (.ref la)] ∧ H' = H ∧ (!decide (M.code = .non)) = false ∧ (!decide (pl = "q")) = false, ?_, ?_⟩
    · refine ⟨_, rfl, b, db, _, _, rfl, hb, rfl, rfl, _, rfl, ?_⟩
      cases e1 : (!decide (M.code = .non)) with
      | true =>
        rw [e1, if_pos rfl] at kS
        exact iteT (iteT kS)
      | false =>
        rw [e1, if_neg Bool.false_ne_true] at kS
        refine iteF ⟨_, rfl, _, rfl, p, dx, _, _, rfl, hp, rfl, rfl, _, rfl, ?_⟩
        rw [vstr]
        cases e2 : (!decide (pl = "q")) with
        | true =>
          rw [e2, if_pos rfl] at kS
          exact iteT kS
        | false => exact iteF ⟨rfl, rfl, rfl, rfl⟩
    rintro σ' H' ⟨rfl, rfl, e1, e2⟩
    rw [e1, if_neg Bool.false_ne_true, e2, if_neg Bool.false_ne_true] at k kS
    refine ⟨fun σ' H2 => σ' = [some (.ref p), some (.ref b), some (.str pl), some (.ref la)] ∧ H2 = H' ∧ (!decide (M.verb = S.L.verb) && !(decide (M.verb = "KEEP") && decide (S.L.verb = "CALL"))) = false, ?_, ?_⟩
    · refine ⟨_, rfl, b, db, _, _, rfl, hb, rfl, _, rfl, la, dl, _, _, rfl, hl, rfl, rfl, _, rfl, ?_⟩
      rw [vstr]
      cases e3 : (!decide (M.verb = S.L.verb)) with
      | false => exact iteF (iteF ⟨rfl, rfl, rfl⟩)
      | true =>
        rw [e3] at kS
        refine iteT ⟨_, rfl, b, db, _, _, rfl, hb, rfl, rfl, _, rfl, ?_⟩
        rw [vstr]
        cases e4 : decide (M.verb = "KEEP") with
        | false =>
          rw [e4] at kS
          exact iteF (iteT kS)
        | true =>
          rw [e4] at kS
          refine iteT ⟨_, rfl, la, dl, _, _, rfl, hl, rfl, rfl, _, rfl, ?_⟩
          rw [vstr]
          cases e5 : decide (S.L.verb = "CALL") with
          | false =>
            rw [e5] at kS
            exact iteT kS
          | true => exact iteF ⟨rfl, rfl, rfl⟩
    rintro σ' H2 ⟨rfl, rfl, e3⟩
    rw [e3, if_neg Bool.false_ne_true] at k
    refine ⟨_, rfl, b, db, _, _, rfl, hb, rfl, _, rfl, b, db, _, _, rfl, hb, rfl, _, rfl, b, db, _, _, rfl, hb, rfl, _, rfl, b, db, _, _, rfl, hb, rfl, by show 4 ≤ sizeLine; decide, fun t hnt => ?_⟩
    have s1 := same_upd (o := .tup [.str M.call, .str M.otag, .int M.seq, .str M.way]) hnt
    have hl1 := s1 _ _ hl
    refine ⟨_, rfl, la, dl, _, _, rfl, hl1, rfl, _, rfl, la, dl, _, _, rfl, hl1, rfl, _, rfl, la, dl, _, _, rfl, hl1, rfl, _, rfl, la, dl, _, _, rfl, hl1, rfl, by show 4 ≤ sizeLine; decide, fun t2 hnt2 => ?_⟩
    have s2 := same_upd (o := .tup [.str S.L.call, .str S.L.otag, .int S.L.seq, .str S.L.way]) hnt2
    exact ⟨keyD M, keyD S.L, .tup (SqT.of (s2 _ _ upd_same)) (.cons (.str _) (.cons (.str _) (.cons (.int _) (.cons (.str _) .nil)))), .tup (SqT.of upd_same) (.cons (.str _) (.cons (.str _) (.cons (.int _) (.cons (.str _) .nil)))), keyD_ok kM, keyD_ok kL, k _ (s1.trans s2)⟩
end K6
set_option maxHeartbeats 4000000
namespace K6
open PySem PySem.Spec PyProof.Rows L2 SX TK
open C8 (pe_c)
/-! ### the law's source of draws -/
def spState (K : PySem.W.Frag) : Sp := fun vs H Q _ => ∃ (a : Addr) (ns : List Int), vs = [.ref a] ∧ SqL K H a (ns.map V.int) ∧ ns.length ≤ 63 ∧ ∀ s c H', Same H H' → H s = none → H c = none → StAt H' s c → Q (.ref s) H'
theorem ok_law_state {P : Program} {w : World} {K : PySem.W.Frag} {mg : Str → Option Value} {base : Heap} {f : Addr} {fd : FuncData} (T : Tx K mg) 
    (F : FunD K "_law_state" "_law_state" (defArgs s_law_state) (defBody s_law_state) (defScope s_law_state) [] [] f fd) : FnOk P w K mg base CX0 1 f fd ["script"] (spState K) := by
  refine F.ok sc_law_state (fun vs H Q E h => ?_) (fun cdv A outer s H vs Q E hr h => ?_)
  · obtain ⟨a, ns, rfl, _⟩ := h
    rfl
  · obtain ⟨a, ns, rfl, hS, hn, k⟩ := h
    refine ⟨_, PSs.nox (pss_cons (ps_set (i := 1) sc_law_state.nd rfl (Or.inl rfl) pe_int) (pss_cons (ps_for PassesOwn.never rfl (pi_list (pv 0)) (pg_name (i := 2) sc_law_state.nd rfl (Or.inl rfl)) (pss_one (ps_set (i := 1) sc_law_state.nd rfl (Or.inl rfl) (pe_op op_mod (pe_callTy call_int1 rfl T.f_int (by decide +kernel) (pa_cons (pe_op op_add (pe_op op_mul (pv 1) pe_int) (pv 2)) pa_nil)) pe_int)))) (pss_one (ps_ret (pe_lst (pa_cons (pe_lc (own := [("cell", 2)]) (g := gName 2) rfl sc_law_state.nd (pi_list (pv 0)) (blkOk_by (own := [("cell", 2)]) (N := ["script", "seed", "cell"]) (sc := defScope s_law_state) (by decide +kernel)) (fun _ _ _ _ _ => pg_name (i := 2) sc_law_state.nd rfl (Or.inl rfl)) (fun _ _ _ _ _ => pts_nil) (fun _ _ _ _ _ => (pe_callB call_abs rfl T.f_abs (by decide +kernel) (pa_cons (pv 2) pa_nil)))) (pa_cons (pe_op op_add (pv 1) pe_int) pa_nil))))))), ?_⟩
    refine ⟨_, rfl, a, rfl, ⟨_, hS⟩, for_list (K := K) (a := a) (xs := ns.map V.int) (fun i σ H' => H' = H ∧ ∃ (n : Int) (v : Option V), σ = [some (.ref a), some (.int n), v]) ⟨rfl, 7, none, rfl⟩ (fun i σ H' _ q => q.1 ▸ hS) ?_ ?_⟩
    · rintro i y σ H' hi ⟨rfl, n, v, rfl⟩
      obtain ⟨z, rfl⟩ : ∃ z, y = V.int z := by
        obtain ⟨z, _, e⟩ := List.mem_map.mp (List.mem_of_getElem? hi)
        exact ⟨z, e.symm⟩
      refine ⟨_, rfl, _, _, rfl, rfl, .inr ⟨by decide, by decide⟩, _, rfl, _, _, rfl, rfl, .inl ⟨_, rfl, _, _, rfl, rfl, (by show (0 : Int) < 1000003; decide), rfl, _, _, rfl⟩⟩
    · rintro σ H' ⟨rfl, n, v, rfl⟩
      refine ⟨_, rfl, a, rfl, ⟨_, hS⟩, fun D hD => ?_⟩
      have hS2 : ∀ o, SqL K (upd H' D o) a (ns.map V.int) := fun o => (same_upd hD).seq hS
      refine lc_pureN walk_list (fun i => V.int (if ns.getD i 0 < 0 then -(ns.getD i 0) else ns.getD i 0)) (by rw [List.length_map]; exact Nat.le_trans hn (by decide)) (fun _ _ => hS2 _) (fun i x H1 kk hi y q => ?_) ?_
      · obtain ⟨rfl, hx⟩ := y
        refine ⟨rfl, _, rfl, ns.getD i 0, ?_, q⟩
        rw [List.getElem?_map] at hx
        rw [List.length_map] at hi
        rw [List.getElem?_eq_getElem hi] at hx
        rw [List.getD_eq_getElem?_getD, List.getElem?_eq_getElem hi]
        exact congrArg (fun v => [v]) (Option.some.inj hx).symm
      · refine ⟨_, rfl, _, _, rfl, rfl, by show 2 ≤ sizeLine; decide, fun p hp => ?_⟩
        have npD : p ≠ D := fun e => by
          rw [e, upd_same] at hp
          cases hp
        have hp0 : H' p = none := by
          rw [upd_ne npD] at hp
          exact hp
        refine k p D _ ((same_upd hD).trans (same_upd hp)) hp0 hD ⟨npD, ⟨_, upd_same⟩, ns.map (fun i => if i < 0 then -i else i), ?_, ?_⟩
        · rw [upd_ne npD.symm, upd_same, List.length_map, List.map_map]
          exact congrArg (fun l => some (HO.lst l)) (range_map_getD ns 0 fun i => V.int (if i < 0 then -i else i))
        · rw [List.length_map]
          exact hn
def spDraw : Sp := fun vs H Q _ => ∃ (s c : Addr) (m : Int), vs = [.ref s, .int m] ∧ StAt H s c ∧ 0 < m ∧ m < 1073741824 ∧ ∀ r H', 0 ≤ r → r < m → StAt H' s c → Keep H H' s c → Q (.int r) H'
theorem ok_law_draw {P : Program} {w : World} {K : PySem.W.Frag} {mg : Str → Option Value} {base : Heap} {f : Addr} {fd : FuncData} (T : Tx K mg) 
    (F : FunD K "_law_draw" "_law_draw" (defArgs s_law_draw) (defBody s_law_draw) (defScope s_law_draw) [] [] f fd) : FnOk P w K mg base CX0 1 f fd ["state", "many"] spDraw := by
  refine F.ok sc_law_draw (fun vs H Q E h => ?_) (fun cdv A outer s0 H vs Q E hr h => ?_)
  · obtain ⟨s, c, m, rfl, _⟩ := h
    rfl
  · obtain ⟨s, c, m, rfl, ⟨ne, ⟨n, h1⟩, ns, h2, h3⟩, hm0, hm1, k⟩ := h
    refine ⟨_, PSs.nox (pss_cons (ps_set (i := 2) sc_law_draw.nd rfl (Or.inl rfl) (pe_ix ix_list (pv 0) pe_int (fun _ _ => rfl))) (C8.pss_cut (ps_while PassesOwn.never (PW.pt (pw_and (pt_cmpR op_gt (pe_callB call_len_seq rfl T.f_len PySem.boot_len (pa_cons (pv 2) pa_nil)) pe_int (nomark _)) (pw_and1 (pt_cmpR op_eq (pe_ix ix_list (pv 2) pe_int (fun _ _ => rfl)) pe_int (nomark _))))) (pss_one (ps_expr (pe_bm PySem.F.plainAttrs_list PySem.F.slot_list_pop PySem.F.type_list_pop mt_popAt (pv 2) (pa_cons pe_int pa_nil))))) (C8.pss_cut (ps_if (pt_cmpR op_gt (pe_callB call_len_seq rfl T.f_len PySem.boot_len (pa_cons (pv 2) pa_nil)) pe_int (nomark _)) (pss_cons (ps_set (i := 3) sc_law_draw.nd rfl (Or.inl rfl) (pe_ix ix_list (pv 2) pe_int (fun _ _ => rfl))) (pss_cons (ps_asg (pe_op op_fdiv (pv 3) (pv 1)) (pg_sub (pv 2) pe_int set_list)) (pss_one (ps_ret (pe_op op_mod (pe_callTy call_int1 rfl T.f_int (by decide +kernel) (pa_cons (pv 3) pa_nil)) (pv 1)))))) pss_nil) (pss_cons (ps_set (i := 4) sc_law_draw.nd rfl (Or.inl rfl) (pe_op op_mod (pe_callTy call_int1 rfl T.f_int (by decide +kernel) (pa_cons (pe_op op_add (pe_op op_mul (pe_ix ix_list (pv 0) pe_int (fun _ _ => rfl)) pe_int) pe_int) pa_nil)) pe_int)) (pss_cons (ps_asg (pv 4) (pg_sub (pv 0) pe_int set_list)) (pss_one (ps_ret (pe_op op_mod (pe_callTy call_int1 rfl T.f_int (by decide +kernel) (pa_cons (pe_op op_fdiv (pv 4) pe_int) pa_nil)) (pv 1))))))))), ?_⟩
    refine ⟨_, rfl, s, _, 0, _, rfl, rfl, SqL.of h1, rfl, ?_⟩
    let I : L2.St → Hp → List Int → Prop := fun σ H' ns' => σ = [some (.ref s), some (.int m), some (.ref c), none, none] ∧ H' s = some (.lst [.ref c, .int n]) ∧ Keep H H' s c ∧ H' c = some (.lst (ns'.map V.int)) ∧ ns'.length ≤ 63
    refine ⟨fun σ H' => ∃ ns', I σ H' ns', ?_, ?_⟩
    · refine ⟨fun l σ H' => ∃ ns', l = ns'.length ∧ I σ H' ns', ⟨ns.length, ns, rfl, rfl, h1, Keep.refl _ _ _, h2, h3⟩, ?_⟩
      rintro l σ H' ⟨ns', rfl, rfl, g1, kp, g2, g3⟩
      refine ⟨_, rfl, c, _, rfl, .inl (SqL.of g2), _, _, rfl, rfl, _, rfl, ?_⟩
      cases ns' with
      | nil => exact iteF (iteF ⟨[], rfl, g1, kp, g2, g3⟩)
      | cons v r =>
        rw [List.length_map, decide_eq_true (by rw [List.length_cons]; omega)]
        refine iteT ?_
        refine ⟨_, rfl, c, _, 0, V.int v, rfl, rfl, SqL.of g2, atC _ _, rfl, _, rfl, ?_⟩
        refine ite2 (fun h5 => ?_) (fun h5 => ⟨v :: r, rfl, g1, kp, g2, g3⟩)
        refine ⟨fun σ' H2 => ∃ l, l < (v :: r).length ∧ ∃ ns', l = ns'.length ∧ I σ' H2 ns', fun _ _ q => q, ?_⟩
        refine ⟨_, rfl, .inl ⟨rfl, _, SqL.of g2⟩, c, _, 0, 0, V.int v, rfl, rfl, g2, by decide, by decide, sqC _ _, rfl, ?_⟩
        refine ⟨r.length, Nat.lt_succ_self _, r, rfl, rfl, ?_, fun b o e q1 q2 => ?_, upd_same, Nat.le_of_succ_le g3⟩
        · rw [upd_ne ne]
          exact g1
        · rw [upd_ne q2]
          exact kp b o e q1 q2
    · rintro σ H' ⟨ns', rfl, g1, kp, g2, g3⟩
      refine ⟨fun σ' H2 => σ' = [some (.ref s), some (.int m), some (.ref c), none, none] ∧ H2 = H', ?_, ?_⟩
      · refine ⟨_, rfl, c, _, rfl, .inl (SqL.of g2), _, _, rfl, rfl, _, rfl, ?_⟩
        cases ns' with
        | nil => exact iteF ⟨rfl, rfl⟩
        | cons v r =>
          rw [List.length_map, decide_eq_true (by rw [List.length_cons]; omega)]
          refine iteT ?_
          refine ⟨_, rfl, c, _, 0, V.int v, rfl, rfl, SqL.of g2, atC _ _, ?_⟩
          refine ⟨_, rfl, _, rfl, _, _, rfl, rfl, ⟨hm0, hm1⟩, _, rfl, c, _, 0, 0, rfl, rfl, g2, ixC _ _, ?_⟩
          refine ⟨_, rfl, .inl ⟨_, rfl, _, rfl, _, _, rfl, rfl, hm0, ?_⟩⟩
          refine k _ _ (Int.emod_nonneg _ (by omega)) (Int.emod_lt_of_pos _ hm0) ⟨ne, ⟨n, ?_⟩, (v / m) :: r, upd_same, g3⟩ (fun b o e q1 q2 => ?_)
          · rw [upd_ne ne]
            exact g1
          · rw [upd_ne q2]
            exact kp b o e q1 q2
      · rintro σ' H2 ⟨rfl, rfl⟩
        refine ⟨_, rfl, s, _, 1, _, rfl, rfl, SqL.of g1, rfl, _, _, rfl, rfl, .inr ⟨by decide, by decide⟩, _, _, rfl, rfl, .inl ⟨_, rfl, _, _, rfl, rfl, (by show (0 : Int) < 2147483647; decide), ?_⟩⟩
        refine ⟨_, rfl, _, rfl, s, _, 1, 1, rfl, rfl, g1, rfl, ?_⟩
        refine ⟨_, rfl, _, _, rfl, rfl, ⟨by decide, by decide⟩, .inl ⟨_, rfl, _, rfl, _, _, rfl, rfl, hm0, ?_⟩⟩
        refine k _ _ (Int.emod_nonneg _ (by omega)) (Int.emod_lt_of_pos _ hm0) ⟨ne, ⟨_, upd_same⟩, ns', ?_, g3⟩ (fun b o e q1 q2 => ?_)
        · rw [upd_ne ne.symm]
          exact g2
        · rw [upd_ne q1]
          exact kp b o e q1 q2
/-- of a text: one of its signs; of a list: one of its items -/
def spPick : Sp := fun vs H Q _ => ∃ (s c : Addr) (x : V), vs = [.ref s, x] ∧ StAt H s c ∧
  ((∃ z : Str, x = .str z ∧ 0 < z.length ∧ z.length ≤ 1000 ∧ ∀ ch H', ch ∈ TL.tl z → StAt H' s c → Keep H H' s c → Q (.str (S [ch])) H') ∨
   (∃ a xs, x = .ref a ∧ H a = some (.lst xs) ∧ a ≠ s ∧ a ≠ c ∧ 0 < xs.length ∧ xs.length ≤ 1000 ∧ ∀ v ∈ xs, ∀ H', StAt H' s c → Keep H H' s c → Q v H'))
theorem ok_law_pick {P : Program} {w : World} {K : PySem.W.Frag} {mg : Str → Option Value} {base : Heap} {f : Addr} {fd : FuncData} (T : Tx K mg) (c_law_draw : C8.Cal P w K mg base 1 "_law_draw" spDraw [])
    (F : FunD K "_law_pick" "_law_pick" (defArgs s_law_pick) (defBody s_law_pick) (defScope s_law_pick) [] [] f fd) : FnOk P w K mg base CX0 2 f fd ["state", "row"] spPick := by
  refine F.ok sc_law_pick (fun vs H Q E h => ?_) (fun cdv A outer s0 H vs Q E hr h => ?_)
  · obtain ⟨s, c, x, rfl, _⟩ := h
    rfl
  · obtain ⟨s, c, x, rfl, hst, h⟩ := h
    refine ⟨_, PSs.nox (pss_one (ps_ret (pe_ix ix_seq (pv 1) (pe_c c_law_draw hr (by decide) rfl (pa_cons (pv 0) (pa_cons (pe_callB call_len rfl T.f_len PySem.boot_len (pa_cons (pv 1) pa_nil)) pa_nil))) (fun _ _ => rfl)))), ?_⟩
    rcases h with ⟨z, rfl, z0, z1, k⟩ | ⟨a, xs, rfl, ha, as, ac, x0, x1, k⟩
    · have hz2 : z.length ≤ sizeLine := Nat.le_trans z1 (by decide)
      refine ⟨_, rfl, _, rfl, _, rfl, _, z.length, rfl, ⟨hz2, rfl⟩, s, c, _, rfl, hst, by omega, by omega, fun r H' r0 r1 st' kp' => ?_⟩
      have hl : r < ((TL.tl z).length : Nat) := by rw [← len_eq]; exact r1
      refine .inr (.inr ⟨z, r, _, rfl, rfl, hz2, atN 0 r0 hl, ?_⟩)
      refine k _ H' ?_ st' kp'
      have hl2 : r.toNat < (TL.tl z).length := by omega
      rw [List.getD_eq_getElem?_getD, List.getElem?_eq_getElem hl2]
      exact List.getElem_mem _
    · have hx2 : xs.length ≤ sizeLine := Nat.le_trans x1 (by decide)
      refine ⟨_, rfl, _, rfl, _, rfl, _, xs.length, rfl, .inl ⟨xs, SqL.of ha, rfl⟩, s, c, _, rfl, hst, by omega, by omega, fun r H' r0 r1 st' kp' => ?_⟩
      refine .inl ⟨a, xs, r, _, rfl, rfl, SqL.of (kp' a _ ha as ac), atN .non r0 r1, ?_⟩
      refine k _ ?_ H' st' kp'
      rw [List.getD_eq_getElem?_getD, List.getElem?_eq_getElem (by omega)]
      exact List.getElem_mem _

/-! ### the ticks at which a letter is sent again -/
def fullT (f : Int) : List Int := [f, 3 * f, 7 * f, 15 * f, 23 * f, 31 * f, 39 * f]
def sendsT (f : Int) : List Int := [f, 3 * f, 7 * f, 15 * f, 23 * f, 31 * f]
theorem filt_full {f : Int} (h : 1 ≤ f) : (fullT f).filter (fun x => decide (x < 32 * f)) = sendsT f := by
  have e : ∀ c : Int, c < 32 → decide (c * f < 32 * f) = true := fun c hc => decide_eq_true (Int.mul_lt_mul_of_pos_right hc (by omega))
  have e1 : decide (f < 32 * f) = true := decide_eq_true (by omega)
  have e2 : decide (39 * f < 32 * f) = false := decide_eq_false (by omega)
  unfold fullT sendsT
  rw [List.filter_cons, if_pos e1, List.filter_cons, if_pos (e 3 (by decide)), List.filter_cons, if_pos (e 7 (by decide)), List.filter_cons, if_pos (e 15 (by decide)), List.filter_cons, if_pos (e 23 (by decide)), List.filter_cons, if_pos (e 31 (by decide)), List.filter_cons, if_neg (by rw [e2]; exact Bool.false_ne_true)]
  rfl
theorem step_full (f : Int) : ∀ i, i < 6 → ∃ z y : Int, ([2, 4, 8, 8, 8, 8] : List Int)[i]? = some y ∧ ((fullT f).take (i + 1))[i]? = some z ∧ (fullT f).take (i + 1) ++ [z + y * f] = (fullT f).take (i + 1 + 1) ∧ 0 ≤ y ∧ y < 100
  | 0, _ => ⟨f, 2, rfl, rfl, by show [f, f + 2 * f] = [f, 3 * f]; rw [show f + 2 * f = 3 * f by omega], by decide, by decide⟩
  | 1, _ => ⟨3 * f, 4, rfl, rfl, by show [f, 3 * f, 3 * f + 4 * f] = [f, 3 * f, 7 * f]; rw [show 3 * f + 4 * f = 7 * f by omega], by decide, by decide⟩
  | 2, _ => ⟨7 * f, 8, rfl, rfl, by show [f, 3 * f, 7 * f, 7 * f + 8 * f] = [f, 3 * f, 7 * f, 15 * f]; rw [show 7 * f + 8 * f = 15 * f by omega], by decide, by decide⟩
  | 3, _ => ⟨15 * f, 8, rfl, rfl, by show [f, 3 * f, 7 * f, 15 * f, 15 * f + 8 * f] = [f, 3 * f, 7 * f, 15 * f, 23 * f]; rw [show 15 * f + 8 * f = 23 * f by omega], by decide, by decide⟩
  | 4, _ => ⟨23 * f, 8, rfl, rfl, by show [f, 3 * f, 7 * f, 15 * f, 23 * f, 23 * f + 8 * f] = [f, 3 * f, 7 * f, 15 * f, 23 * f, 31 * f]; rw [show 23 * f + 8 * f = 31 * f by omega], by decide, by decide⟩
  | 5, _ => ⟨31 * f, 8, rfl, rfl, by show [f, 3 * f, 7 * f, 15 * f, 23 * f, 31 * f, 31 * f + 8 * f] = [f, 3 * f, 7 * f, 15 * f, 23 * f, 31 * f, 39 * f]; rw [show 31 * f + 8 * f = 39 * f by omega], by decide, by decide⟩
  | n + 6, h => absurd h (by omega)
def spSends (K : PySem.W.Frag) : Sp := fun vs H Q _ => ∃ f : Int, vs = [.int f] ∧ 1 ≤ f ∧ ∀ r H', Same H H' → H' r = some (.lst ((sendsT f).map V.int)) → Q (.ref r) H'
theorem ok_law_sends_at {P : Program} {w : World} {K : PySem.W.Frag} {mg : Str → Option Value} {base : Heap} {f : Addr} {fd : FuncData} (T : Tx K mg) 
    (F : FunD K "_law_sends_at" "_law_sends_at" (defArgs s_law_sends_at) (defBody s_law_sends_at) (defScope s_law_sends_at) [] [] f fd) : FnOk P w K mg base CX0 1 f fd ["first"] (spSends K) := by
  refine F.ok sc_law_sends_at (fun vs H Q E h => ?_) (fun cdv A outer s H vs Q E hr h => ?_)
  · obtain ⟨f, rfl, _⟩ := h
    rfl
  · obtain ⟨f, rfl, hf, k⟩ := h
    refine ⟨_, PSs.nox (pss_cons (ps_set (i := 1) sc_law_sends_at.nd rfl (Or.inl rfl) (pe_lst (pa_cons (pv 0) pa_nil))) (pss_cons (ps_for PassesOwn.never rfl (pi_list (pe_lst (pa_cons pe_int (pa_cons pe_int (pa_cons pe_int (pa_cons pe_int (pa_cons pe_int (pa_cons pe_int pa_nil)))))))) (pg_name (i := 2) sc_law_sends_at.nd rfl (Or.inl rfl)) (pss_one (ps_expr (pe_bm PySem.F.plainAttrs_list PySem.F.slot_list_append PySem.F.type_list_append mt_append (pv 1) (pa_cons (pe_op op_add (pe_ix ix_list (pv 1) (pe_op op_sub (pe_callB call_len_seq rfl T.f_len PySem.boot_len (pa_cons (pv 1) pa_nil)) pe_int) (fun _ _ => rfl)) (pe_op op_mul (pv 2) (pv 0))) pa_nil))))) (pss_one (ps_ret (pe_lc (own := [("tick", 3)]) (g := gName 3) rfl sc_law_sends_at.nd (pi_list (pv 1)) (blkOk_by (own := [("tick", 3)]) (N := ["first", "ticks", "gap", "tick"]) (sc := defScope s_law_sends_at) (by decide +kernel)) (fun _ _ _ _ _ => pg_name (i := 3) sc_law_sends_at.nd rfl (Or.inl rfl)) (fun _ _ _ _ _ => pts_one (pt_cmpR op_lt (pv 3) (pe_op op_mul pe_int (pv 0)) (nomark _))) (fun _ _ _ _ _ => (pv 3))))))), ?_⟩
    refine ⟨_, rfl, by show 1 ≤ sizeLine; decide, fun l hnl => ?_⟩
    refine ⟨by show 6 ≤ sizeLine; decide, fun g hng => ?_⟩
    obtain ⟨lg, hg0, s2, ql, qg⟩ := new2 (u := .lst [.int 2, .int 4, .int 8, .int 8, .int 8, .int 8]) hnl hng
    refine ⟨g, rfl, ⟨_, SqL.of qg⟩, for_list (K := K) (a := g) (xs := [.int 2, .int 4, .int 8, .int 8, .int 8, .int 8]) (fun i σ H' => i ≤ 6 ∧ Same H H' ∧ H' g = some (.lst [.int 2, .int 4, .int 8, .int 8, .int 8, .int 8]) ∧ H' l = some (.lst (((fullT f).take (i + 1)).map V.int)) ∧ ∃ v : Option V, σ = [some (.int f), some (.ref l), v, none]) ⟨by decide, s2, qg, ql, none, rfl⟩ (fun i σ H' _ q => SqL.of q.2.2.1) ?_ ?_⟩
    · rintro i y σ H' hi ⟨hi6, sH, h1, h2, v, rfl⟩
      have hi5 : i < 6 := (List.getElem?_eq_some_iff.mp hi).1
      obtain ⟨z, y0, e1, e2, e3, y1, y2⟩ := step_full f i hi5
      have ey : y = .int y0 := by
        have e : (([2, 4, 8, 8, 8, 8] : List Int).map V.int)[i]? = some y := hi
        rw [List.getElem?_map, e1] at e
        exact (Option.some.inj e).symm
      subst ey
      have hlen : (((fullT f).take (i + 1)).map V.int).length = i + 1 := by
        rw [List.length_map, List.length_take]
        show min (i + 1) 7 = i + 1
        omega
      have at1 : atI (((fullT f).take (i + 1)).map V.int) (((((fullT f).take (i + 1)).map V.int).length : Int) - 1) = some (.int z) := by
        rw [hlen, show ((i + 1 : Nat) : Int) - 1 = (i : Int) by omega, atN .non (by omega) (by rw [hlen]; omega)]
        show some (List.getD _ i _) = _
        rw [List.getD_eq_getElem?_getD, List.getElem?_map, e2]
        rfl
      refine ⟨_, rfl, .inl ⟨rfl, _, SqL.of h2⟩, _, rfl, _, rfl, l, _, rfl, .inl (SqL.of h2), _, _, rfl, rfl, l, _, _, .int z, rfl, rfl, SqL.of h2, at1, _, rfl, _, rfl, _, _, rfl, rfl, .inl ⟨by omega, by omega⟩, _, _, rfl, rfl, l, _, _, rfl, rfl, h2, by rw [hlen]; exact Nat.lt_of_lt_of_le (show i + 1 < 100 by omega) (by decide), ?_⟩
      have gl : g ≠ l := lg.symm
      refine ⟨by omega, TK.Same.upd_of sH hnl, (upd_ne gl).trans h1, ?_, _, rfl⟩
      rw [← e3, List.map_append]
      exact upd_same
    · rintro σ H' ⟨_, sH, h1, h2, v, rfl⟩
      refine ⟨_, rfl, l, rfl, ⟨_, SqL.of h2⟩, fun D hD => ?_⟩
      have hS2 : ∀ o, SqL K (upd H' D o) l ((fullT f).map V.int) := fun o => SqL.of ((same_upd hD) _ _ h2)
      refine lc_filt (walk_list (K := K) (a := l) (xs := (fullT f).map V.int)) (fun i => V.int ((fullT f).getD i 0)) (fun i => decide ((fullT f).getD i 0 < 32 * f)) (by show 7 ≤ sizeLine; decide) (fun _ _ => hS2 _) (fun i x H4 kk hi y q => ?_) (fun i x H4 kk hi hb y q => ?_) ?_
      · obtain ⟨rfl, hx⟩ := y
        rw [List.length_map] at hi
        rw [List.getElem?_map, List.getElem?_eq_getElem hi] at hx
        obtain rfl := Option.some.inj hx
        refine ⟨rfl, _, rfl, _, rfl, _, _, rfl, rfl, .inl ⟨by decide, by decide⟩, _, _, rfl, rfl, _, rfl, ?_⟩
        rw [List.getD_eq_getElem?_getD, List.getElem?_eq_getElem hi] at q
        exact q
      · obtain ⟨rfl, hx⟩ := y
        rw [List.length_map] at hi
        rw [List.getElem?_map, List.getElem?_eq_getElem hi] at hx
        obtain rfl := Option.some.inj hx
        rw [List.getD_eq_getElem?_getD, List.getElem?_eq_getElem hi] at q
        exact ⟨_, rfl, q⟩
      · rw [List.length_map, range_filter_getD (fullT f) 0 (fun x => decide (x < 32 * f)) V.int, filt_full hf]
        exact k D _ (sH.trans (same_upd hD)) upd_same
end K6
set_option maxHeartbeats 4000000
namespace K6
open PySem PySem.Spec PyProof.Rows L2 SX TK
open C8 (pe_c)
def mkL (verb call tag : Str) (seq : Int) (way : Str) : Ltr := ⟨verb, call, "ann@p", tag, "bob@x", "", seq, way, .non, .non, .non, .non⟩
def spLetter (K : PySem.W.Frag) : Sp := fun vs H Q _ => ∃ (verb call tag : Str) (seq : Int) (way : Str), vs = [.str verb, .str call, .str tag, .int seq, .str way] ∧ ∀ a H', Same H H' → LetAt K H' a (mkL verb call tag seq way) → Q (.ref a) H'
theorem ok_law_letter {P : Program} {w : World} {K : PySem.W.Frag} {mg : Str → Option Value} {base : Heap} {f : Addr} {fd : FuncData} (T : Tx K mg) (c_mk_Letter_a : MakK P w K mg base 1 "Letter" (He.ga K "Letter") (spLetInit K) 0 ["verb", "call", "origin", "origin_tag", "target", "target_tag", "seq", "way"] (fun vs zs => vs ++ ((((zs.drop 0).take 8) ++ ((([(V.non), (V.non), (V.non), (V.non)] : List V).drop 0).take 4)))))
    (F : FunD K "_law_letter" "_law_letter" (defArgs s_law_letter) (defBody s_law_letter) (defScope s_law_letter) [] [] f fd) : FnOk P w K mg base CX0 3 f fd ["verb", "call", "tag", "seq", "way"] (spLetter K) := by
  refine F.ok sc_law_letter (fun vs H Q E h => ?_) (fun cdv A outer s H vs Q E hr h => ?_)
  · obtain ⟨verb, call, tag, seq, way, rfl, _⟩ := h
    rfl
  · obtain ⟨verb, call, tag, seq, way, rfl, k⟩ := h
    refine ⟨_, PSs.nox (pss_one (ps_ret (pe_mkK0 c_mk_Letter_a hr (by decide) rfl (pk_cons (pv 0) (pk_cons (pv 1) (pk_cons pe_str (pk_cons (pv 2) (pk_cons pe_str (pk_cons pe_str (pk_cons (pv 3) (pk_cons (pv 4) pk_nil))))))))))), ?_⟩
    refine ⟨_, rfl, _, rfl, _, rfl, _, rfl, _, rfl, rfl, rfl, fun x dy hx hdy hne => ?_⟩
    refine ⟨x, dy, mkL verb call tag seq way, rfl, upd_same, rfl, ?_⟩
    rw [upd_upd]
    exact k x _ (same_own hx hdy) ⟨dy, upd_same⟩
def keyB (M O : Ltr) : Bool := M.call == O.call && (M.otag == O.otag && (M.seq == O.seq && M.way == O.way))
theorem eqv_key (M O : Ltr) : PyData.eqv (keyD M) (keyD O) = keyB M O := by simp [keyD, PyData.eqv, PyData.eqvAll, keyB]
def othersL : List Str := ["CALL", "KEEP", "STOP", "END", "TURN", "MOVE", "LIVE", "SIGN"]
def verbsL : List Str := ["CALL", "END", "LIVE", "STOP", "TURN"]
def dueB (o v : Str) : Bool := decide (o = v) || (decide (o = "KEEP") && decide (v = "CALL"))
def matchC (O M : Ltr) (pl : Str) : Bool :=
  if (!decide (pl = "q")) = true then false
  else if (!decide (M.verb = O.verb) && !(decide (M.verb = "KEEP") && decide (O.verb = "CALL"))) = true then false else keyB M O
theorem matchB_C (O : Ltr) (verb call tag : Str) (seq : Int) (way pl : Str) : matchB O (mkL verb call tag seq way) pl = matchC O (mkL verb call tag seq way) pl := by
  unfold matchB matchC
  rw [eqv_key]
  rfl
theorem m_all : ∀ v ∈ verbsL, ∀ o ∈ othersL, matchC (mkL v "c1" "t1" 5 "w3") (mkL o "c1" "t1" 5 "w3") "q" = dueB o v ∧ matchC (mkL v "c1" "t1" 5 "w3") (mkL o "c2" "t1" 5 "w3") "q" = false ∧ matchC (mkL v "c1" "t1" 5 "w3") (mkL o "c1" "t" 5 "w3") "q" = false ∧
    matchC (mkL v "c1" "t1" 5 "w3") (mkL o "c1" "t1" 6 "w3") "q" = false ∧ matchC (mkL v "c1" "t1" 5 "w3") (mkL o "c1" "t1" 5 "w33") "q" = false ∧ matchC (mkL v "c1" "t1" 5 "w3") (mkL o "c1" "t1" 5 "w3") "p" = false := by decide +kernel
theorem keyOk_mk {verb call tag way : Str} {seq : Int} (h1 : PyData.strOk call = true) (h2 : PyData.strOk tag = true) (h3 : PyData.strOk way = true) : keyOk (mkL verb call tag seq way) := ⟨h1, h2, h3⟩
theorem ok_c1 : PyData.strOk "c1" = true := by decide +kernel
theorem ok_c2 : PyData.strOk "c2" = true := by decide +kernel
theorem ok_t1 : PyData.strOk "t1" = true := by decide +kernel
theorem ok_t : PyData.strOk "t" = true := by decide +kernel
theorem ok_w3 : PyData.strOk "w3" = true := by decide +kernel
theorem ok_w33 : PyData.strOk "w33" = true := by decide +kernel
def spMatchR (K : PySem.W.Frag) : Sp := fun vs H Q _ => ∃ (p la : Addr) (S : Sv) (A : List Addr) (v : Str), vs = [.ref p, .str v] ∧ SvAt K H p la S A ∧ S.L = mkL v "c1" "t1" 5 "w3" ∧ v ∈ verbsL ∧ ∀ H', Same H H' → Q (.bl true) H'
theorem vbl (a b : Bool) : (!decide (V.bl a = V.bl b)) = !decide (a = b) := by cases a <;> cases b <;> rfl
theorem ok_law_matches_right {P : Program} {w : World} {K : PySem.W.Frag} {mg : Str → Option Value} {base : Heap} {f : Addr} {fd : FuncData} (T : Tx K mg) (c_Server_matches : C8.Met P w K mg base 1 (He.ga K "Server") "matches" (spSvMatch K) []) (c_law_letter : C8.Cal P w K mg base 3 "_law_letter" (spLetter K) [])
    (F : FunD K "_law_matches_right" "_law_matches_right" (defArgs s_law_matches_right) (defBody s_law_matches_right) (defScope s_law_matches_right) [] [] f fd) : FnOk P w K mg base CX0 4 f fd ["server", "verb"] (spMatchR K) := by
  refine F.ok sc_law_matches_right (fun vs H Q E h => ?_) (fun cdv A outer s H vs Q E hr h => ?_)
  · obtain ⟨p, la, S, A, v, rfl, _⟩ := h
    rfl
  · obtain ⟨p, la, S, A, v, rfl, hS, eL, hv, k⟩ := h
    have kL : keyOk S.L := by rw [eL]; exact keyOk_mk ok_c1 ok_t1 ok_w3
    refine ⟨_, PSs.nox (pss_cons (ps_set (i := 2) sc_law_matches_right.nd rfl (Or.inl rfl) (pe_lst (pa_cons pe_str (pa_cons pe_str (pa_cons pe_str (pa_cons pe_str (pa_cons pe_str (pa_cons pe_str (pa_cons pe_str (pa_cons pe_str pa_nil)))))))))) (pss_cons (ps_for PassesOwn.never rfl (pi_list (pv 2)) (pg_name (i := 3) sc_law_matches_right.nd rfl (Or.inl rfl)) (pss_cons (ps_set (i := 4) sc_law_matches_right.nd rfl (Or.inl rfl) (pe_cut (pe_or (pe_cmpR op_eq (pv 3) (pv 1) (nomark _)) (pe_one (pe_and (pe_cmpR op_eq (pv 3) pe_str (nomark _)) (pe_one (pe_cmpR op_eq (pv 1) pe_str (nomark _)))))))) (C8.pss_cut (ps_if (pt_cmpR op_ne (C8.pe_mt c_Server_matches hr (by decide) (pv 0) (pa_cons (pe_c c_law_letter hr (by decide) rfl (pa_cons (pv 3) (pa_cons pe_str (pa_cons pe_str (pa_cons pe_int (pa_cons pe_str pa_nil)))))) (pa_cons pe_str pa_nil))) (pv 4) (nomark _)) (pss_one (ps_ret pe_bl)) pss_nil) (pss_cons (ps_set (i := 5) sc_law_matches_right.nd rfl (Or.inl rfl) (pe_lst (pa_cons (pe_c c_law_letter hr (by decide) rfl (pa_cons (pv 3) (pa_cons pe_str (pa_cons pe_str (pa_cons pe_int (pa_cons pe_str pa_nil)))))) (pa_cons (pe_c c_law_letter hr (by decide) rfl (pa_cons (pv 3) (pa_cons pe_str (pa_cons pe_str (pa_cons pe_int (pa_cons pe_str pa_nil)))))) pa_nil)))) (pss_cons (ps_set (i := 5) sc_law_matches_right.nd rfl (Or.inl rfl) (pe_op op_cat (pv 5) (pe_lst (pa_cons (pe_c c_law_letter hr (by decide) rfl (pa_cons (pv 3) (pa_cons pe_str (pa_cons pe_str (pa_cons pe_int (pa_cons pe_str pa_nil)))))) (pa_cons (pe_c c_law_letter hr (by decide) rfl (pa_cons (pv 3) (pa_cons pe_str (pa_cons pe_str (pa_cons pe_int (pa_cons pe_str pa_nil)))))) pa_nil))))) (pss_cons (ps_for PassesOwn.never rfl (pi_list (pv 5)) (pg_name (i := 6) sc_law_matches_right.nd rfl (Or.inl rfl)) (pss_one (ps_if (pt_val (C8.pe_mt c_Server_matches hr (by decide) (pv 0) (pa_cons (pv 6) (pa_cons pe_str pa_nil)))) (pss_one (ps_ret pe_bl)) pss_nil))) (pss_one (ps_if (pt_val (C8.pe_mt c_Server_matches hr (by decide) (pv 0) (pa_cons (pe_c c_law_letter hr (by decide) rfl (pa_cons (pv 3) (pa_cons pe_str (pa_cons pe_str (pa_cons pe_int (pa_cons pe_str pa_nil)))))) (pa_cons pe_str pa_nil)))) (pss_one (ps_ret pe_bl)) pss_nil)))))))) (pss_one (ps_ret pe_bl)))), ?_⟩
    refine ⟨by show 8 ≤ sizeLine; decide, fun lo hno => ?_⟩
    refine ⟨_, rfl, lo, rfl, ⟨_, SqL.of upd_same⟩, for_list (K := K) (a := lo) (xs := othersL.map V.str) (fun i σ H' => Same (upd H lo (.lst (othersL.map V.str))) H' ∧ ∃ v3 v4 v5 v6 : Option V, σ = [some (.ref p), some (.str v), some (.ref lo), v3, v4, v5, v6]) ⟨Same.refl _, none, none, none, none, rfl⟩ (fun i σ H' _ q => SqL.of (q.1 _ _ upd_same)) ?_ ?_⟩
    · rintro i y σ H1 hi ⟨s1, v3, v4, v5, v6, rfl⟩
      obtain ⟨o, ho, rfl⟩ : ∃ o ∈ othersL, y = V.str o := by
        obtain ⟨o, ho, e⟩ := List.mem_map.mp (List.mem_of_getElem? hi)
        exact ⟨o, ho, e.symm⟩
      obtain ⟨d1, d2, d3, d4, d5, d6⟩ := m_all v hv o ho
      have s0 : Same H H1 := (same_upd hno).trans s1
      -- due
      refine ⟨fun w H' => w = .bl (dueB o v) ∧ H' = H1, ?_, ?_⟩
      · refine ⟨_, rfl, _, rfl, rfl, _, rfl, ?_⟩
        rw [vstr]
        unfold dueB
        cases e1 : decide (o = v) with
        | true => exact iteT ⟨rfl, rfl⟩
        | false =>
          refine iteF ⟨_, rfl, rfl, _, rfl, ?_⟩
          rw [vstr]
          cases e2 : decide (o = "KEEP") with
          | false => exact iteF ⟨rfl, rfl⟩
          | true =>
            refine iteT ⟨_, rfl, rfl, ?_⟩
            rw [vstr]
            exact ⟨rfl, rfl⟩
      rintro w H1' ⟨rfl, rfl⟩
      -- the same one
      refine ⟨fun σ' H' => Same H1' H' ∧ σ' = [some (.ref p), some (.str v), some (.ref lo), some (.str o), some (.bl (dueB o v)), v5, v6], ?_, ?_⟩
      · obtain ⟨dx, al, wv, hp, _⟩ := id hS
        refine ⟨_, rfl, p, dx, _, rfl, s0 _ _ hp, rfl, _, rfl, o, "c1", "t1", 5, "w3", rfl, fun b H2 s2 hb => ?_⟩
        refine ⟨p, la, b, S, A, _, "q", rfl, hS.same (s0.trans s2), hb, keyOk_mk ok_c1 ok_t1 ok_w3, kL, fun H3 s3 => ?_⟩
        refine ⟨_, rfl, rfl, _, rfl, ?_⟩
        rw [eL, matchB_C, d1, decide_eq_true rfl]
        exact iteF ⟨s2.trans s3, rfl⟩
      rintro σ' H2 ⟨s2, rfl⟩
      have s02 := s0.trans s2
      -- the wrong ones
      refine ⟨_, rfl, o, "c2", "t1", 5, "w3", rfl, fun b1 H3 s3 hb1 => ?_⟩
      refine ⟨_, rfl, o, "c1", "t", 5, "w3", rfl, fun b2 H4 s4 hb2 => ?_⟩
      refine ⟨by show 2 ≤ sizeLine; decide, fun w1 hw1 => ?_⟩
      refine ⟨_, rfl, _, rfl, o, "c1", "t1", 6, "w3", rfl, fun b3 H5 s5 hb3 => ?_⟩
      refine ⟨_, rfl, o, "c1", "t1", 5, "w33", rfl, fun b4 H6 s6 hb4 => ?_⟩
      refine ⟨by show 2 ≤ sizeLine; decide, fun w2 hw2 => ?_⟩
      have sa := same_upd (o := .lst [.ref b1, .ref b2]) hw1
      have sb := same_upd (o := .lst [.ref b3, .ref b4]) hw2
      have sab := (s5.trans s6).trans sb
      refine ⟨_, _, _, _, rfl, rfl, sab _ _ upd_same, upd_same, by show 2 + 2 ≤ sizeLine; decide, fun w3 hw3 => ?_⟩
      have sc := same_upd (o := .lst ([.ref b1, .ref b2] ++ [.ref b3, .ref b4])) hw3
      have s07 := ((((s02.trans s3).trans s4).trans sa).trans sab).trans sc
      have t1 := ((s4.trans sa).trans sab).trans sc
      have t2 := (sa.trans sab).trans sc
      have t3 := (s6.trans sb).trans sc
      have t4 := sb.trans sc
      have hb : ∀ y ∈ [V.ref b1, .ref b2, .ref b3, .ref b4], ∃ b M, y = .ref b ∧ LetAt K (upd (upd H6 w2 (.lst [.ref b3, .ref b4])) w3 (.lst ([.ref b1, .ref b2] ++ [.ref b3, .ref b4]))) b M ∧ keyOk M ∧ matchB S.L M "q" = false := by
        intro y hy
        simp only [List.mem_cons, List.not_mem_nil, or_false] at hy
        rcases hy with rfl | rfl | rfl | rfl
        · exact ⟨b1, _, rfl, hb1.same t1, keyOk_mk ok_c2 ok_t1 ok_w3, by rw [eL, matchB_C]; exact d2⟩
        · exact ⟨b2, _, rfl, hb2.same t2, keyOk_mk ok_c1 ok_t ok_w3, by rw [eL, matchB_C]; exact d3⟩
        · exact ⟨b3, _, rfl, hb3.same t3, keyOk_mk ok_c1 ok_t1 ok_w3, by rw [eL, matchB_C]; exact d4⟩
        · exact ⟨b4, _, rfl, hb4.same t4, keyOk_mk ok_c1 ok_t1 ok_w33, by rw [eL, matchB_C]; exact d5⟩
      have hw : (upd (upd H6 w2 (.lst [.ref b3, .ref b4])) w3 (.lst ([.ref b1, .ref b2] ++ [.ref b3, .ref b4]))) w3 = some (.lst [.ref b1, .ref b2, .ref b3, .ref b4]) := upd_same
      have s27 : Same H1' (upd (upd H6 w2 (.lst [.ref b3, .ref b4])) w3 (.lst ([.ref b1, .ref b2] ++ [.ref b3, .ref b4]))) := ((((s2.trans s3).trans s4).trans sa).trans sab).trans sc
      generalize (upd (upd H6 w2 (.lst [.ref b3, .ref b4])) w3 (.lst ([.ref b1, .ref b2] ++ [.ref b3, .ref b4]))) = H7 at hb hw s07 s27 ⊢
      refine ⟨_, rfl, w3, rfl, ⟨_, SqL.of hw⟩, for_list (K := K) (a := w3) (xs := [.ref b1, .ref b2, .ref b3, .ref b4]) (fun i σ H' => Same H7 H' ∧ ∃ v6 : Option V, σ = [some (.ref p), some (.str v), some (.ref lo), some (.str o), some (.bl (dueB o v)), some (.ref w3), v6]) ⟨Same.refl _, _, rfl⟩ (fun i σ H' _ q => SqL.of (q.1 _ _ hw)) ?_ ?_⟩
      · rintro j y σ H8 hj ⟨s8, v6', rfl⟩
        obtain ⟨b, M, rfl, hM, kM, eM⟩ := hb y (List.mem_of_getElem? hj)
        obtain ⟨dx, al, wv, hp, _⟩ := id (hS.same (s07.trans s8))
        refine ⟨_, rfl, p, dx, _, rfl, hp, rfl, _, rfl, p, la, b, S, A, M, "q", rfl, hS.same (s07.trans s8), hM.same s8, kM, kL, fun H9 s9 => ⟨_, rfl, ?_⟩⟩
        rw [eM]
        exact iteF ⟨s8.trans s9, _, rfl⟩
      · rintro σ H8 ⟨s8, v6', rfl⟩
        obtain ⟨dx, al, wv, hp, _⟩ := id (hS.same (s07.trans s8))
        refine ⟨_, rfl, p, dx, _, rfl, hp, rfl, _, rfl, o, "c1", "t1", 5, "w3", rfl, fun b H9 s9 hb9 => ?_⟩
        refine ⟨p, la, b, S, A, _, "p", rfl, hS.same ((s07.trans s8).trans s9), hb9, keyOk_mk ok_c1 ok_t1 ok_w3, kL, fun H10 s10 => ⟨_, rfl, ?_⟩⟩
        rw [eL, matchB_C, d6]
        exact iteF ⟨s1.trans (((s27.trans s8).trans s9).trans s10), _, _, _, _, rfl⟩
    · rintro σ H1 ⟨s1, _⟩
      exact k H1 ((same_upd hno).trans s1)
end K6
set_option maxHeartbeats 4000000
namespace K6
open PySem PySem.Spec PyProof.Rows L2 SX TK
open C8 (pe_c)
/-! ### the server and the law's own account of it -/
def Stg (f x e g : Int) : Prop := (e = f ∧ g = f ∧ 0 ≤ x ∧ x < f) ∨ (e = 3 * f ∧ g = 2 * f ∧ f ≤ x ∧ x < 3 * f) ∨ (e = 7 * f ∧ g = 4 * f ∧ 3 * f ≤ x ∧ x < 7 * f) ∨ (e = 15 * f ∧ g = 8 * f ∧ 7 * f ≤ x ∧ x < 15 * f) ∨
  (e = 23 * f ∧ g = 8 * f ∧ 15 * f ≤ x ∧ x < 23 * f) ∨ (e = 31 * f ∧ g = 8 * f ∧ 23 * f ≤ x ∧ x < 31 * f) ∨ (e = 39 * f ∧ g = 8 * f ∧ 31 * f ≤ x ∧ x < 39 * f)
theorem mem_sends {f x : Int} : x ∈ sendsT f ↔ x = f ∨ x = 3 * f ∨ x = 7 * f ∨ x = 15 * f ∨ x = 23 * f ∨ x = 31 * f := by simp [sendsT]
theorem stg_step {f x e g : Int} (h1 : 1 ≤ f) (h : Stg f x e g) (hx : x + 1 < 32 * f) : (x + 1 ∈ sendsT f ↔ ¬ x + 1 < e) ∧ (x + 1 < e → Stg f (x + 1) e g) ∧ (¬ x + 1 < e → Stg f (x + 1) (x + 1 + minI (2 * g) (8 * f)) (minI (2 * g) (8 * f))) := by
  rw [mem_sends]
  unfold Stg at *
  have m : ∀ a b : Int, (b < a → minI a b = b) ∧ (¬ b < a → minI a b = a) := fun a b => ⟨fun z => if_pos z, fun z => if_neg z⟩
  rcases h with h | h | h | h | h | h | h <;> obtain ⟨he, hg, h3, h4⟩ := h
  · rw [hg, (m (2 * f) (8 * f)).2 (by omega)]
    refine ⟨by omega, fun _ => by omega, fun _ => by omega⟩
  · rw [hg, (m (2 * (2 * f)) (8 * f)).2 (by omega)]
    refine ⟨by omega, fun _ => by omega, fun _ => by omega⟩
  · rw [hg, (m (2 * (4 * f)) (8 * f)).2 (by omega)]
    refine ⟨by omega, fun _ => by omega, fun _ => by omega⟩
  all_goals
    rw [hg, (m (2 * (8 * f)) (8 * f)).1 (by omega)]
    refine ⟨by omega, fun _ => by omega, fun _ => by omega⟩
def StR (S : Sv) (t0 now : Int) : Prop := match S.st with
  | .opn => True
  | .snt => S.tx ≠ none ∧ now - t0 < 32 * S.f ∧ ∃ g d, S.w = some (t0, g, d) ∧ (isCallB S = true → Stg S.f (now - t0) (d - t0) g)
  | .kpt => ∃ g d, S.w = some (t0, g, d)
  | .ovr => True
structure R (S : Sv) (t0 : Int) (tx : Str) (now : Int) : Prop where
  f1 : 1 ≤ S.f
  f2 : S.f ≤ 20
  txo : (S.tx = none ∧ tx = "") ∨ (S.tx = some tx ∧ tx ≠ "")
  ok : PyData.strOk tx = true
  st : StR S t0 now
def ovrS (S : Sv) : Sv := ⟨S.L, S.f, .ovr, S.code, S.w, S.tx⟩
theorem R.over {S : Sv} {t0 now now' : Int} {tx : Str} (r : R S t0 tx now) : R (ovrS S) t0 tx now' := ⟨r.f1, r.f2, r.txo, r.ok, trivial⟩
/-- what a tick does -/
theorem tick_is {S : Sv} {t0 now : Int} {tx : Str} (r : R S t0 tx now) :
    ((S.st = .opn ∨ S.st = .ovr) ∧ tickR S (now + 1) = (S, none, false) ∧ R S t0 tx (now + 1)) ∨
    (S.st = .kpt ∧ ((32 * S.f ≤ now + 1 - t0 ∧ tickR S (now + 1) = (ovrS S, none, false)) ∨ (¬ 32 * S.f ≤ now + 1 - t0 ∧ tickR S (now + 1) = (S, none, false) ∧ R S t0 tx (now + 1)))) ∨
    (S.st = .snt ∧ ((32 * S.f ≤ now + 1 - t0 ∧ tickR S (now + 1) = (ovrS S, none, isCallB S)) ∨
      (¬ 32 * S.f ≤ now + 1 - t0 ∧ isCallB S = true ∧ now + 1 - t0 ∈ sendsT S.f ∧ ∃ S', tickR S (now + 1) = (S', some tx, false) ∧ S'.L = S.L ∧ S'.f = S.f ∧ S'.st = S.st ∧ R S' t0 tx (now + 1)) ∨
      (¬ 32 * S.f ≤ now + 1 - t0 ∧ (isCallB S = false ∨ now + 1 - t0 ∉ sendsT S.f) ∧ tickR S (now + 1) = (S, none, false) ∧ R S t0 tx (now + 1)))) := by
  obtain ⟨L, f, st, code, w, tx'⟩ := S
  cases st with
  | opn => exact .inl ⟨.inl rfl, rfl, r.f1, r.f2, r.txo, r.ok, trivial⟩
  | ovr => exact .inl ⟨.inr rfl, rfl, r.f1, r.f2, r.txo, r.ok, trivial⟩
  | kpt =>
    obtain ⟨g, d, ew⟩ := r.st
    obtain rfl : w = some (t0, g, d) := ew
    refine .inr (.inl ⟨rfl, ?_⟩)
    by_cases h : 32 * f ≤ now + 1 - t0
    · exact .inl ⟨h, if_pos h⟩
    · exact .inr ⟨h, if_neg h, r.f1, r.f2, r.txo, r.ok, g, d, rfl⟩
  | snt =>
    obtain ⟨htx, hx, g, d, ew, hs⟩ := r.st
    obtain rfl : w = some (t0, g, d) := ew
    refine .inr (.inr ⟨rfl, ?_⟩)
    have hf1 : 1 ≤ f := r.f1
    have etx : tx' = some tx ∧ tx ≠ "" := by
      rcases r.txo with ⟨e, _⟩ | h
      · exact absurd e htx
      · exact h
    by_cases h : 32 * f ≤ now + 1 - t0
    · exact .inl ⟨h, if_pos h⟩
    · have hx' : now - t0 + 1 < 32 * f := by omega
      refine .inr ?_
      by_cases hc : isCallB ⟨L, f, .snt, code, some (t0, g, d), tx'⟩ = true
      · obtain ⟨i1, i2, i3⟩ := stg_step hf1 (hs hc) hx'
        have ex : now + 1 - t0 = now - t0 + 1 := by omega
        have ed : (now - t0 + 1 < d - t0) ↔ now + 1 < d := by omega
        have et : tickR ⟨L, f, .snt, code, some (t0, g, d), tx'⟩ (now + 1) = if isCallB ⟨L, f, .snt, code, some (t0, g, d), tx'⟩ = true ∧ ¬ now + 1 < d then (⟨L, f, .snt, code, some (t0, minI (2 * g) (8 * f), now + 1 + minI (2 * g) (8 * f)), tx'⟩, tx', false) else (⟨L, f, .snt, code, some (t0, g, d), tx'⟩, none, false) := if_neg h
        by_cases hd : now + 1 < d
        · rw [if_neg fun z => z.2 hd] at et
          refine .inr ⟨h, .inr ?_, et, r.f1, r.f2, r.txo, r.ok, htx, by show now + 1 - t0 < 32 * f; omega, g, d, rfl, fun _ => ?_⟩
          · show now + 1 - t0 ∉ sendsT f
            rw [ex, i1]
            omega
          · show Stg f (now + 1 - t0) (d - t0) g
            rw [ex]
            exact i2 (ed.mpr hd)
        · rw [if_pos ⟨hc, hd⟩] at et
          refine .inl ⟨h, hc, by show now + 1 - t0 ∈ sendsT f; rw [ex, i1]; omega, ⟨L, f, .snt, code, some (t0, minI (2 * g) (8 * f), now + 1 + minI (2 * g) (8 * f)), some tx⟩, by rw [et, etx.1], rfl, rfl, rfl, r.f1, r.f2, .inr ⟨rfl, etx.2⟩, r.ok, ⟨(fun z => nomatch z), by show now + 1 - t0 < 32 * f; omega, _, _, rfl, fun _ => ?_⟩⟩
          show Stg f (now + 1 - t0) (now + 1 + minI (2 * g) (8 * f) - t0) (minI (2 * g) (8 * f))
          rw [ex, show now + 1 + minI (2 * g) (8 * f) - t0 = now - t0 + 1 + minI (2 * g) (8 * f) by omega]
          exact i3 (fun z => hd (ed.mp z))
      · have hcf := ef hc
        refine .inr ⟨h, .inl hcf, ?_, r.f1, r.f2, r.txo, r.ok, htx, by show now + 1 - t0 < 32 * f; omega, g, d, rfl, fun z => absurd z hc⟩
        show (if 32 * f ≤ now + 1 - t0 then _ else if isCallB ⟨L, f, .snt, code, some (t0, g, d), tx'⟩ = true ∧ ¬ now + 1 < d then _ else _) = _
        rw [if_neg h, if_neg fun z => hc z.1]
theorem inV_ints (z : Int) : ∀ l : List Int, inV (.int z) (l.map V.int) = decide (z ∈ l)
  | [] => rfl
  | a :: r => by
    have ih := inV_ints z r
    unfold inV at *
    rw [List.map_cons, List.any_cons, ih]
    show ((a == z) || decide (z ∈ r)) = decide (z ∈ a :: r)
    by_cases h : a = z
    · rw [h, beq_self_eq_true, Bool.true_or, decide_eq_true (List.mem_cons_self ..)]
    · rw [show (a == z) = false from beq_eq_false_iff_ne.mpr h, Bool.false_or]
      exact decide_eq_decide.mpr ⟨fun m => List.mem_cons_of_mem _ m, fun m => (List.mem_cons.mp m).elim (fun e => absurd e.symm h) id⟩
theorem flat_ints : ∀ l : List Int, (l.map V.int).all flatV = true
  | [] => rfl
  | _ :: r => flat_ints r
def wldV (S : Sv) (t0 : Int) (tx : Str) : List V := [.str S.st.s, .int t0, .int S.f, .str tx]
/-- the server and its account, apart from all else -/
structure Good (K : PySem.W.Frag) (H : Hp) (p la ws : Addr) (L : Ltr) (f now : Int) (A : List Addr) (S : Sv) (t0 : Int) (tx : Str) : Prop where
  L : S.L = L
  f : S.f = f
  sv : SvAt K H p la S A
  w : H ws = some (.lst (wldV S t0 tx))
  n : ws ∉ A
  r : R S t0 tx now
end K6
set_option maxHeartbeats 4000000
namespace K6
open PySem PySem.Spec PyProof.Rows L2 SX TK
open C8 (pe_c)
def GoodX (K : PySem.W.Frag) (H : Hp) (p la ws : Addr) (L : Ltr) (f now : Int) (A : List Addr) : Prop := ∃ S t0 tx, Good K H p la ws L f now A S t0 tx
theorem ne_ws {K : PySem.W.Frag} {H : Hp} {p la ws x : Addr} {S : Sv} {A : List Addr} (n : ws ∉ A) (m : x ∈ A) : x ≠ ws := fun e => n (e ▸ m)
theorem SvAt.ws {K : PySem.W.Frag} {H : Hp} {p la ws : Addr} {S : Sv} {A : List Addr} {o : HO} (h : SvAt K H p la S A) (n : ws ∉ A) : SvAt K (upd H ws o) p la S A := h.mono fun b u m e => (upd_ne (ne_ws (K := K) (H := H) (p := p) (la := la) (S := S) n m)).trans e
theorem RowsAt.ws {H : Hp} {r ws : Addr} {o : Option Str} {a : Str} {l : List V} {u : HO} (h : RowsAt H r o) (hw : H ws = some (.lst (.str a :: l))) (hl : l ≠ []) : RowsAt (upd H ws u) r o := by
  cases o with
  | none => exact (upd_ne (ne_of h hw (by intro z; cases z))).trans h
  | some z =>
    obtain ⟨t, e1, e2⟩ := h
    exact ⟨t, (upd_ne (ne_of e1 hw (by intro z; cases z))).trans e1, (upd_ne (ne_of e2 hw (by intro z; cases z))).trans e2⟩
def spOpTick (K : PySem.W.Frag) : Sp := fun vs H Q _ => ∃ (p la ws : Addr) (L : Ltr) (f now : Int) (A : List Addr) (S : Sv) (t0 : Int) (tx : Str), vs = [.ref p, .ref ws, .int (now + 1), .bl (decide (L.verb = "CALL"))] ∧ Good K H p la ws L f now A S t0 tx ∧
  ∀ H' A', GoodX K H' p la ws L f (now + 1) A' → Fr (ws :: A) H H' → (∀ x ∈ A', x ∈ A ∨ H x = none) → Q (.bl true) H'
theorem ok_law_tick {P : Program} {w : World} {K : PySem.W.Frag} {mg : Str → Option Value} {base : Heap} {f : Addr} {fd : FuncData} (T : Tx K mg) (c_Server_tick : C8.Met P w K mg base 2 (He.ga K "Server") "tick" (spSvTick K) []) (c_law_sends_at : C8.Cal P w K mg base 1 "_law_sends_at" (spSends K) [])
    (F : FunD K "_law_tick" "_law_tick" (defArgs s_law_tick) (defBody s_law_tick) (defScope s_law_tick) [] [] f fd) : FnOk P w K mg base CX0 3 f fd ["server", "world", "now", "is_call"] (spOpTick K) := by
  refine F.ok sc_law_tick (fun vs H Q E h => ?_) (fun cdv A outer s H vs Q E hr h => ?_)
  · obtain ⟨p, la, ws, L, f, now, A, S, t0, tx, rfl, _⟩ := h
    rfl
  · obtain ⟨p, la, ws, L, f, now, A, S, t0, tx, rfl, G, k⟩ := h
    obtain ⟨dx, al, wv, hp, _⟩ := id G.sv
    refine ⟨_, PSs.nox (pss_cons (ps_asg (C8.pe_mt c_Server_tick hr (by decide) (pv 0) (pa_cons (pv 2) pa_nil)) (pg_tup rfl (pgs_cons (pg_name (i := 4) sc_law_tick.nd rfl (Or.inl rfl)) (pgs_cons (pg_name (i := 5) sc_law_tick.nd rfl (Or.inl rfl)) pgs_nil)))) (pss_cons (ps_set (i := 6) sc_law_tick.nd rfl (Or.inl rfl) (pe_lst pa_nil)) (pss_cons (ps_set (i := 7) sc_law_tick.nd rfl (Or.inl rfl) pe_bl) (C8.pss_cut (ps_if (PW.pt (pw_and (pt_cmpR op_in_seq (pe_ix ix_list (pv 1) pe_int (fun _ _ => rfl)) (pe_lst (pa_cons pe_str (pa_cons pe_str pa_nil))) (by with_unfolding_all rfl)) (pw_and1 (pt_cmpR op_ge (pe_op op_sub (pv 2) (pe_ix ix_list (pv 1) pe_int (fun _ _ => rfl))) (pe_op op_mul pe_int (pe_ix ix_list (pv 1) pe_int (fun _ _ => rfl))) (nomark _))))) (pss_cons (ps_set (i := 7) sc_law_tick.nd rfl (Or.inl rfl) (pe_and (pe_cmpR op_eq (pe_ix ix_list (pv 1) pe_int (fun _ _ => rfl)) pe_str (nomark _)) (pe_one (pv 3)))) (pss_one (ps_asg pe_str (pg_sub (pv 1) pe_int set_list)))) (pss_one (ps_if (PW.pt (pw_and (pt_cmpR op_eq (pe_ix ix_list (pv 1) pe_int (fun _ _ => rfl)) pe_str (nomark _)) (pw_and (pt_val (pv 3)) (pw_and1 (pt_cmpR op_in_seq (pe_op op_sub (pv 2) (pe_ix ix_list (pv 1) pe_int (fun _ _ => rfl))) (pe_c c_law_sends_at hr (by decide) rfl (pa_cons (pe_ix ix_list (pv 1) pe_int (fun _ _ => rfl)) pa_nil)) (by with_unfolding_all rfl)))))) (pss_one (ps_set (i := 6) sc_law_tick.nd rfl (Or.inl rfl) (pe_lst (pa_cons (pe_tup (pa_cons pe_str (pa_cons (pe_ix ix_list (pv 1) pe_int (fun _ _ => rfl)) pa_nil))) pa_nil)))) pss_nil))) (pss_one (ps_ret (pe_and (pe_callB call_isi rfl T.f_isinstance (by decide +kernel) (pa_cons (pv 5) (pa_cons (pe_bltn (v := .ty "bool") rfl T.f_bool (by decide +kernel) rfl) pa_nil))) (pe_and (pe_cmpR op_eq (pv 5) (pv 7) (nomark _)) (pe_one (pe_cmpR (op_eqD hr.units) (pv 4) (pv 6) (nomark _))))))))))), ?_⟩
    have hw0 : S.st = .snt ∨ S.st = .kpt → S.w ≠ none := fun h => by
      have q := G.r.st
      rcases h with h | h
      · unfold StR at q
        rw [h] at q
        obtain ⟨_, _, g, d, e, _⟩ := q
        rw [e]
        exact fun z => nomatch z
      · unfold StR at q
        rw [h] at q
        obtain ⟨g, d, e⟩ := q
        rw [e]
        exact fun z => nomatch z
    refine ⟨_, rfl, p, dx, _, rfl, hp, rfl, _, rfl, p, la, S, A, now + 1, rfl, G.sv, hw0, fun t r H1 S1 fr1 ht hr1 => ?_⟩
    have hws1 := fr1 _ _ G.w G.n
    refine ⟨t, _, rfl, SqT.of ht, rfl, _, _, rfl, _, _, rfl, rfl, ?_⟩
    refine ⟨by show 0 ≤ sizeLine; decide, fun du hdu => ?_⟩
    have sd := same_upd (o := .lst []) hdu
    have hdu1 : (upd H1 du (.lst [])) du = some (.lst []) := upd_same
    generalize upd H1 du (.lst []) = H2 at sd hdu1 ⊢
    have hws2 := sd _ _ hws1
    have S2 := S1.same sd
    have hr2 := hr1.same sd
    have fr2 : Fr (ws :: A) H H2 := fun b o e n => sd _ _ (fr1 b o e fun m => n (List.mem_cons_of_mem _ m))
    have eic : isCallB S = decide (L.verb = "CALL") := by unfold isCallB; rw [G.L]
    refine ⟨fun σ' H' => ∃ du', σ' = [some (.ref p), some (.ref ws), some (.int (now + 1)), some (.bl (decide (L.verb = "CALL"))), some (.ref r), some (.bl (tickR S (now + 1)).2.2), some (.ref du'), some (.bl (tickR S (now + 1)).2.2)] ∧
      GoodX K H' p la ws L f (now + 1) A ∧ Fr (ws :: A) H H' ∧ RowsAt H' r (tickR S (now + 1)).2.1 ∧ RowsAt H' du' (tickR S (now + 1)).2.1, ?_, ?_⟩
    · -- what the law reckons
      have wv : ∀ st, S.st = st → wldV S t0 tx = [.str st.s, .int t0, .int S.f, .str tx] := fun st e => by rw [← e]; rfl
      have hfr : ∀ {l : Addr} {o : HO}, H2 l = none → Same H2 (upd H2 l o) := fun h => same_upd h
      rcases tick_is G.r with ⟨hst, et, r'⟩ | ⟨hst, hk⟩ | ⟨hst, hs⟩
      · rw [et] at S2 hr2 ⊢
        have fin : ∀ H3, Same H2 H3 → GoodX K H3 p la ws L f (now + 1) A ∧ Fr (ws :: A) H H3 ∧ RowsAt H3 r none ∧ RowsAt H3 du none := fun H3 s3 => ⟨⟨S, t0, tx, G.L, G.f, S2.same s3, s3 _ _ hws2, G.n, r'⟩, fr2.trans (Fr.of_same s3), hr2.same s3, s3 _ _ hdu1⟩
        rcases hst with hst | hst
        · rw [wv _ hst] at hws2
          refine ⟨_, rfl, ws, _, 0, _, rfl, rfl, SqL.of hws2, rfl, by show 2 ≤ sizeLine; decide, fun l hnl => ⟨l, _, rfl, .inl (SqL.of upd_same), rfl, rfl, _, rfl, iteF (iteF ?_)⟩⟩
          exact ⟨_, rfl, ws, _, 0, _, rfl, rfl, SqL.of ((same_upd hnl) _ _ hws2), rfl, rfl, _, rfl, iteF (iteF ⟨du, rfl, fin _ (same_upd hnl)⟩)⟩
        · rw [wv _ hst] at hws2
          refine ⟨_, rfl, ws, _, 0, _, rfl, rfl, SqL.of hws2, rfl, by show 2 ≤ sizeLine; decide, fun l hnl => ⟨l, _, rfl, .inl (SqL.of upd_same), rfl, rfl, _, rfl, iteF (iteF ?_)⟩⟩
          exact ⟨_, rfl, ws, _, 0, _, rfl, rfl, SqL.of ((same_upd hnl) _ _ hws2), rfl, rfl, _, rfl, iteF (iteF ⟨du, rfl, fin _ (same_upd hnl)⟩)⟩
      · have hws3 := hws2
        rw [wv _ hst] at hws3
        refine ⟨_, rfl, ws, _, 0, _, rfl, rfl, SqL.of hws3, rfl, by show 2 ≤ sizeLine; decide, fun l hnl => ⟨l, _, rfl, .inl (SqL.of upd_same), rfl, rfl, _, rfl, iteT ?_⟩⟩
        have s3 := same_upd (o := .lst [.str "sent", .str "kept"]) hnl
        have w3 := s3 _ _ hws3
        refine ⟨_, rfl, _, rfl, ws, _, 1, _, rfl, rfl, SqL.of w3, rfl, _, _, rfl, rfl, _, rfl, ws, _, 2, _, rfl, rfl, SqL.of w3, rfl, _, _, rfl, rfl, .inl ⟨by decide, by decide⟩, _, _, rfl, rfl, _, rfl, ?_⟩
        rcases hk with ⟨hup, et⟩ | ⟨hup, et, r'⟩
        · rw [decide_eq_true hup]
          rw [et] at S2 hr2 ⊢
          refine iteT ⟨_, rfl, ws, _, 0, _, rfl, rfl, SqL.of w3, rfl, rfl, _, rfl, iteF ?_⟩
          refine ⟨_, rfl, ws, _, 0, 0, rfl, rfl, w3, rfl, du, rfl, ?_⟩
          refine ⟨⟨ovrS S, t0, tx, G.L, G.f, (S2.same s3).ws G.n, upd_same, G.n, G.r.over⟩, fun b o e n => (upd_ne fun z => n (by rw [z]; exact List.mem_cons_self ..)).trans (s3 _ _ (fr2 b o e n)), (hr2.same s3).ws w3 (by intro z; cases z), ?_⟩
          exact RowsAt.ws (o := none) (s3 _ _ hdu1) w3 (by intro z; cases z)
        · rw [decide_eq_false hup]
          rw [et] at S2 hr2 ⊢
          exact iteF ⟨_, rfl, ws, _, 0, _, rfl, rfl, SqL.of w3, rfl, rfl, _, rfl, iteF (iteF ⟨du, rfl, ⟨S, t0, tx, G.L, G.f, S2.same s3, s3 _ _ hws2, G.n, r'⟩, fr2.trans (Fr.of_same s3), hr2.same s3, s3 _ _ hdu1⟩)⟩
      · have hws3 := hws2
        rw [wv _ hst] at hws3
        refine ⟨_, rfl, ws, _, 0, _, rfl, rfl, SqL.of hws3, rfl, by show 2 ≤ sizeLine; decide, fun l hnl => ⟨l, _, rfl, .inl (SqL.of upd_same), rfl, rfl, _, rfl, iteT ?_⟩⟩
        have s3 := same_upd (o := .lst [.str "sent", .str "kept"]) hnl
        have w3 := s3 _ _ hws3
        refine ⟨_, rfl, _, rfl, ws, _, 1, _, rfl, rfl, SqL.of w3, rfl, _, _, rfl, rfl, _, rfl, ws, _, 2, _, rfl, rfl, SqL.of w3, rfl, _, _, rfl, rfl, .inl ⟨by decide, by decide⟩, _, _, rfl, rfl, _, rfl, ?_⟩
        rcases hs with ⟨hup, et⟩ | ⟨hup, hc, hm, S', et, eL', ef', est', r'⟩ | ⟨hup, hc, et, r'⟩
        · rw [decide_eq_true hup]
          rw [et] at S2 hr2 ⊢
          refine iteT ⟨_, rfl, ws, _, 0, _, rfl, rfl, SqL.of w3, rfl, rfl, _, rfl, iteT ?_⟩
          refine ⟨_, rfl, _, rfl, ws, _, 0, 0, rfl, rfl, w3, rfl, du, by rw [eic]; rfl, ?_⟩
          refine ⟨⟨ovrS S, t0, tx, G.L, G.f, (S2.same s3).ws G.n, upd_same, G.n, G.r.over⟩, fun b o e n => (upd_ne fun z => n (by rw [z]; exact List.mem_cons_self ..)).trans (s3 _ _ (fr2 b o e n)), (hr2.same s3).ws w3 (by intro z; cases z), ?_⟩
          exact RowsAt.ws (o := none) (s3 _ _ hdu1) w3 (by intro z; cases z)
        · rw [decide_eq_false hup]
          rw [et] at S2 hr2 ⊢
          refine iteF ⟨_, rfl, ws, _, 0, _, rfl, rfl, SqL.of w3, rfl, rfl, _, rfl, iteT ?_⟩
          refine ⟨_, rfl, _, rfl, ?_⟩
          rw [← eic, hc]
          refine iteT ⟨_, rfl, _, rfl, ws, _, 1, _, rfl, rfl, SqL.of w3, rfl, _, _, rfl, rfl, _, rfl, ws, _, 2, _, rfl, rfl, SqL.of w3, rfl, S.f, rfl, G.r.f1, fun m H4 s4 hm4 => ?_⟩
          refine ⟨m, _, rfl, .inl (SqL.of hm4), rfl, flat_ints _, _, rfl, ?_⟩
          rw [inV_ints, decide_eq_true hm]
          have w4 := s4 _ _ w3
          refine iteT ⟨_, rfl, ws, _, 3, _, rfl, rfl, SqL.of w4, rfl, by show 2 ≤ sizeLine; decide, fun q hq => ⟨by show 1 ≤ sizeLine; decide, fun d2 hd2 => ?_⟩⟩
          obtain ⟨n1, n2, s5, q1, q2⟩ := new2 (u := .lst [.ref q]) hq hd2
          have s35 := (s3.trans s4).trans s5
          refine ⟨d2, rfl, ⟨S', t0, tx, eL'.trans G.L, ef'.trans G.f, S2.same s35, ?_, G.n, r'⟩, fr2.trans (Fr.of_same s35), hr2.same s35, q, q2, q1⟩
          rw [show wldV S' t0 tx = wldV S t0 tx by unfold wldV; rw [est', ef']]
          exact s35 _ _ hws2
        · rw [decide_eq_false hup]
          rw [et] at S2 hr2 ⊢
          have fin : ∀ H3, Same H2 H3 → GoodX K H3 p la ws L f (now + 1) A ∧ Fr (ws :: A) H H3 ∧ RowsAt H3 r none ∧ RowsAt H3 du none := fun H3 s3 => ⟨⟨S, t0, tx, G.L, G.f, S2.same s3, s3 _ _ hws2, G.n, r'⟩, fr2.trans (Fr.of_same s3), hr2.same s3, s3 _ _ hdu1⟩
          refine iteF ⟨_, rfl, ws, _, 0, _, rfl, rfl, SqL.of w3, rfl, rfl, _, rfl, iteT ?_⟩
          refine ⟨_, rfl, _, rfl, ?_⟩
          rw [← eic]
          cases hcc : isCallB S with
          | false => exact iteF (iteF ⟨du, rfl, fin _ s3⟩)
          | true =>
            have hm : now + 1 - t0 ∉ sendsT S.f := by
              rcases hc with h | h
              · rw [hcc] at h
                cases h
              · exact h
            refine iteT ⟨_, rfl, _, rfl, ws, _, 1, _, rfl, rfl, SqL.of w3, rfl, _, _, rfl, rfl, _, rfl, ws, _, 2, _, rfl, rfl, SqL.of w3, rfl, S.f, rfl, G.r.f1, fun m H4 s4 hm4 => ?_⟩
            refine ⟨m, _, rfl, .inl (SqL.of hm4), rfl, flat_ints _, _, rfl, ?_⟩
            rw [inV_ints, decide_eq_false hm]
            exact iteF ⟨du, rfl, fin _ (s3.trans s4)⟩
    rintro σ' H' ⟨du', rfl, G', fr', hr', hd'⟩
    refine ⟨_, rfl, _, _, _, _, true, rfl, ClsV.ty "bool", TyX.base (TyOf.bl _), kit_ty (by decide +kernel), _, rfl, iteT ?_⟩
    refine ⟨_, rfl, _, rfl, rfl, _, rfl, ?_⟩
    rw [decide_eq_true rfl]
    refine iteT ⟨_, rfl, _, rfl, dataR (tickR S (now + 1)).2.1, dataR (tickR S (now + 1)).2.1, hr'.dp, hd'.dp, ?_⟩
    have ok : OkO (tickR S (now + 1)).2.1 := by
      intro z ez
      rcases tick_is G.r with ⟨hst, et, r'⟩ | ⟨hst, ⟨hup, et⟩ | ⟨hup, et, r'⟩⟩ | ⟨hst, ⟨hup, et⟩ | ⟨hup, hc, hm, S', et, eL', ef', est', r'⟩ | ⟨hup, hc, et, r'⟩⟩ <;> rw [et] at ez
      · cases ez
      · cases ez
      · cases ez
      · cases ez
      · cases ez
        exact G.r.ok
      · cases ez
    refine ⟨(dataR_ok ok).1, (dataR_ok ok).1, ?_⟩
    rw [(dataR_ok ok).2]
    exact k H' A G' fr' fun x m => .inl m
end K6
set_option maxHeartbeats 1000000
namespace K6
open PySem PySem.Spec PyProof.Rows L2 SX TK
open C8 (pe_c)
theorem textOf_ne {l : List Str} (h : l ≠ []) : textOf l ≠ "" := by
  intro e
  have e2 := congrArg TL.tl e
  unfold textOf at e2
  rw [TL.join_eq, TL.tl_join, show TL.tl ("" : Str) = [] by decide +kernel, joinL_nil] at e2
  cases l with
  | nil => exact h rfl
  | cons a r =>
    rw [List.map_cons, List.map_cons, List.flatten_cons, TL.tl_append] at e2
    have e3 : TL.tl ("\n" : Str) = [10] := by decide +kernel
    rw [e3] at e2
    simp at e2
theorem okO_none : OkO none := fun z e => nomatch e
def repL (v : Str) (c : Int) : Ltr := (mkL v "c1" "t1" 5 "w3").reply (.int c) "t2" .non .non
theorem verbs_small : ∀ v ∈ verbsL, v.length ≤ 1000 ∧ PyData.strOk v = true := by decide +kernel
theorem repL_ok {v : Str} {c : Int} (hv : v ∈ verbsL) (h0 : 0 ≤ c) (h1 : c < 100) : LOk (repL v c) := by
  obtain ⟨a, b⟩ := verbs_small v hv
  have k : ("c1" : Str).length ≤ 1000 ∧ ("ann@p" : Str).length ≤ 1000 ∧ ("t1" : Str).length ≤ 1000 ∧ ("bob@x" : Str).length ≤ 1000 ∧ ("t2" : Str).length ≤ 1000 ∧ ("w3" : Str).length ≤ 1000 := by decide +kernel
  have q : PyData.strOk "c1" = true ∧ PyData.strOk "ann@p" = true ∧ PyData.strOk "t1" = true ∧ PyData.strOk "bob@x" = true ∧ PyData.strOk "t2" = true ∧ PyData.strOk "w3" = true := by decide +kernel
  obtain ⟨k1, k2, k3, k4, k5, k6⟩ := k
  obtain ⟨q1, q2, q3, q4, q5, q6⟩ := q
  exact ⟨⟨b, q1, q2, q3, q4, q5, q6⟩, by show (0 : Int) ≤ 5; decide, a, k1, k2, k3, k4, k5, by show (5 : Int).natAbs < _; decide, k6, .inr ⟨c, rfl, h0, by omega⟩⟩
theorem R.reply {S : Sv} {t0 now : Int} {tx : Str} {M : Ltr} {c : Int} (r : R S t0 tx now) (hS : S.st = .opn) (g : LOk M) : R (replyS S M c now) (if 20 ≤ c then now else t0) (textOf (linesS M)) now := by
  obtain ⟨L, f, st, code, w, tx'⟩ := S
  obtain rfl : st = .opn := hS
  have hf1 : 1 ≤ f := r.f1
  have n : textOf (linesS M) ≠ "" := textOf_ne (by intro z; cases z)
  have o := textOf_ok (linesS_ok g)
  by_cases h : 20 ≤ c
  · rw [show replyS ⟨L, f, .opn, code, w, tx'⟩ M c now = ⟨L, f, .snt, .int c, some (now, f, now + f), some (textOf (linesS M))⟩ from if_pos h, if_pos h]
    refine ⟨r.f1, r.f2, .inr ⟨rfl, n⟩, o, ⟨(fun z => nomatch z), by show now - now < 32 * f; omega, f, now + f, rfl, fun _ => .inl ⟨by show now + f - now = f; omega, rfl, by show 0 ≤ now - now; omega, by show now - now < f; omega⟩⟩⟩
  · rw [show replyS ⟨L, f, .opn, code, w, tx'⟩ M c now = ⟨L, f, .opn, .int c, w, some (textOf (linesS M))⟩ from if_neg h, if_neg h]
    exact ⟨r.f1, r.f2, .inr ⟨rfl, n⟩, o, trivial⟩
def spOpReply (K : PySem.W.Frag) : Sp := fun vs H Q _ => ∃ (p la ws : Addr) (v : Str) (f now c : Int) (A : List Addr) (S : Sv) (t0 : Int) (tx : Str), vs = [.ref p, .ref ws, .ref la, .int c, .int now, .str "t2"] ∧ v ∈ verbsL ∧ 0 ≤ c ∧ c < 100 ∧ Good K H p la ws (mkL v "c1" "t1" 5 "w3") f now A S t0 tx ∧
  ∀ H' A', GoodX K H' p la ws (mkL v "c1" "t1" 5 "w3") f now A' → Fr (ws :: A) H H' → (∀ x ∈ A', x ∈ A ∨ H x = none) → Q (.bl true) H'
theorem replyS_L (S : Sv) (M : Ltr) (c now : Int) : (replyS S M c now).L = S.L ∧ (replyS S M c now).f = S.f := by
  unfold replyS
  cases S.st with
  | opn =>
    show (if 20 ≤ c then _ else _ : Sv).L = _ ∧ (if 20 ≤ c then _ else _ : Sv).f = _
    split <;> exact ⟨rfl, rfl⟩
  | _ => exact ⟨rfl, rfl⟩
theorem ok_law_replies {P : Program} {w : World} {K : PySem.W.Frag} {mg : Str → Option Value} {base : Heap} {f : Addr} {fd : FuncData} (T : Tx K mg) (c_Letter_reply : C8.Met P w K mg base 3 (He.ga K "Letter") "reply" (spLReply K) [(V.non), (V.non)]) (c_Server_reply : C8.Met P w K mg base 3 (He.ga K "Server") "reply" (spSvReply K) []) (c_write : C8.Cal P w K mg base 2 "write" (spWrite0 K) [])
    (F : FunD K "_law_replies" "_law_replies" (defArgs s_law_replies) (defBody s_law_replies) (defScope s_law_replies) [] [] f fd) : FnOk P w K mg base CX0 4 f fd ["server", "world", "letter", "code", "now", "tag"] (spOpReply K) := by
  refine F.ok sc_law_replies (fun vs H Q E h => ?_) (fun cdv A outer s H vs Q E hr h => ?_)
  · obtain ⟨p, la, ws, v, f, now, c, A, S, t0, tx, rfl, _⟩ := h
    rfl
  · obtain ⟨p, la, ws, v, f, now, c, A, S, t0, tx, rfl, hv, c0, c1, G, k⟩ := h
    obtain ⟨dx, al, wv, hp, m1, m2, m3, ⟨dl, hl⟩, hw, ht, tr⟩ := id G.sv
    rw [G.L] at hl
    refine ⟨_, PSs.nox (pss_cons (ps_set (i := 6) sc_law_replies.nd rfl (Or.inl rfl) (C8.pe_mt c_Letter_reply hr (by decide) (pv 2) (pa_cons (pv 3) (pa_cons (pv 5) pa_nil)))) (pss_cons (ps_set (i := 7) sc_law_replies.nd rfl (Or.inl rfl) (C8.pe_mt c_Server_reply hr (by decide) (pv 0) (pa_cons (pv 6) (pa_cons (pv 4) pa_nil)))) (C8.pss_cut (ps_if (pt_cmpR op_ne (pe_ix ix_list (pv 1) pe_int (fun _ _ => rfl)) pe_str (nomark _)) (pss_one (ps_ret (pe_cmpR (op_eqD hr.units) (pv 7) (pe_lst pa_nil) (nomark _)))) pss_nil) (pss_cons (ps_asg (pe_c c_write hr (by decide) rfl (pa_cons (pv 6) pa_nil)) (pg_sub (pv 1) pe_int set_list)) (C8.pss_cut (ps_if (pt_cmpR op_ge (pv 3) pe_int (nomark _)) (pss_cons (ps_asg pe_str (pg_sub (pv 1) pe_int set_list)) (pss_one (ps_asg (pv 4) (pg_sub (pv 1) pe_int set_list)))) pss_nil) (pss_one (ps_ret (pe_cmpR (op_eqD hr.units) (pv 7) (pe_lst (pa_cons (pe_tup (pa_cons pe_str (pa_cons (pe_ix ix_list (pv 1) pe_int (fun _ _ => rfl)) pa_nil))) pa_nil)) (nomark _))))))))), ?_⟩
    refine ⟨_, rfl, la, dl, _, rfl, hl, rfl, _, rfl, _, rfl, la, _, .int c, "t2", .non, .non, rfl, ⟨dl, hl⟩, fun b H1 s1 hbn hb => ?_⟩
    have gM := repL_ok hv c0 c1
    have bA : b ∉ A := fun m => by
      obtain ⟨o, e⟩ := tr b m
      rw [e] at hbn
      cases hbn
    refine ⟨_, rfl, p, dx, _, rfl, s1 _ _ hp, rfl, _, rfl, _, rfl, p, la, b, S, A, repL v c, c, now, rfl, G.sv.same s1, hb, gM, rfl, rfl, rfl, rfl, fun r H2 A' S2 fr2 nw2 hr2 => ?_⟩
    obtain ⟨db, hb⟩ := hb
    have hb2 := fr2 _ _ hb bA
    have hw2 := fr2 _ _ (s1 _ _ G.w) G.n
    have nw : ∀ x ∈ A', x ∈ A ∨ H x = none := fun x m => (nw2 x m).elim .inl fun e => .inr (s1.free e)
    have wsA : ws ∉ A' := fun m => (nw ws m).elim G.n fun e => by
      have z := G.w
      rw [e] at z
      cases z
    have fr : Fr (ws :: A) H H2 := fun b o e n => fr2 _ _ (s1 _ _ e) fun m => n (List.mem_cons_of_mem _ m)
    have wv : ∀ st, S.st = st → wldV S t0 tx = [.str st.s, .int t0, .int S.f, .str tx] := fun st e => by rw [← e]; rfl
    obtain ⟨rl, rf⟩ := replyS_L S (repL v c) c now
    by_cases hst : S.st = .opn
    · have w2 := hw2
      rw [wv _ hst] at w2
      refine ⟨fun σ' H' => σ' = [some (.ref p), some (.ref ws), some (.ref la), some (.int c), some (.int now), some (.str "t2"), some (.ref b), some (.ref r)] ∧ H' = H2, ⟨_, rfl, ws, _, 0, _, rfl, rfl, SqL.of w2, rfl, rfl, _, rfl, iteF ⟨rfl, rfl⟩⟩, ?_⟩
      rintro σ' H' ⟨rfl, rfl⟩
      have eo : replyO S (repL v c) = some (textOf (linesS (repL v c))) := by unfold replyO; rw [hst]
      rw [eo] at hr2
      have R3 : R (replyS S (repL v c) c now) _ _ now := G.r.reply hst gM
      have oTx : PyData.strOk (textOf (linesS (repL v c))) = true := textOf_ok (linesS_ok gM)
      refine ⟨_, rfl, b, repL v c, rfl, ⟨db, hb2⟩, gM, rfl, rfl, rfl, fun H3 s3 => ?_⟩
      have w3 := s3 _ _ w2
      refine ⟨_, rfl, ws, _, 3, 3, rfl, rfl, w3, rfl, ?_⟩
      generalize textOf (linesS (repL v c)) = tt at hr2 R3 oTx ⊢
      have hr3 := (hr2.same s3).ws (u := .lst [.str "open", .int t0, .int S.f, .str tt]) w3 (by intro z; cases z)
      have S3 := (S2.same s3).ws (o := .lst [.str "open", .int t0, .int S.f, .str tt]) wsA
      have fr3 : ∀ o, Fr (ws :: A) H (upd H3 ws o) := fun o b u e n => (upd_ne fun z => n (by rw [z]; exact List.mem_cons_self ..)).trans (s3 _ _ (fr b u e n))
      -- if code >= 20
      refine ⟨fun σ' H4 => σ' = [some (.ref p), some (.ref ws), some (.ref la), some (.int c), some (.int now), some (.str "t2"), some (.ref b), some (.ref r)] ∧ GoodX K H4 p la ws (mkL v "c1" "t1" 5 "w3") f now A' ∧ Fr (ws :: A) H H4 ∧ RowsAt H4 r (some tt) ∧ ∃ x y z, H4 ws = some (.lst [.str x, .int y, .int z, .str tt]), ?_, ?_⟩
      · refine ⟨_, rfl, _, _, rfl, rfl, _, rfl, ?_⟩
        by_cases hc : 20 ≤ c
        · rw [decide_eq_true hc]
          rw [if_pos hc] at R3
          refine iteT ⟨_, rfl, ws, _, 0, 0, rfl, rfl, upd_same, rfl, ?_⟩
          rw [upd_upd]
          refine ⟨_, rfl, _, rfl, ws, _, 1, 1, rfl, rfl, upd_same, rfl, ?_⟩
          rw [upd_upd]
          have est : (replyS S (repL v c) c now).st = .snt := by
            unfold replyS
            rw [hst]
            show (if 20 ≤ c then _ else _ : Sv).st = _
            rw [if_pos hc]
          refine ⟨rfl, ⟨_, now, _, rl.trans G.L, rf.trans G.f, (S2.same s3).ws wsA, ?_, wsA, R3⟩, fr3 _, (hr2.same s3).ws w3 (by intro z; cases z), _, _, _, upd_same⟩
          unfold wldV
          rw [est, rf]
          exact upd_same
        · rw [decide_eq_false hc]
          rw [if_neg hc] at R3
          have est : (replyS S (repL v c) c now).st = .opn := by
            unfold replyS
            rw [hst]
            show (if 20 ≤ c then _ else _ : Sv).st = _
            rw [if_neg hc]
          refine iteF ⟨rfl, ⟨_, t0, _, rl.trans G.L, rf.trans G.f, S3, ?_, wsA, R3⟩, fr3 _, hr3, _, _, _, upd_same⟩
          unfold wldV
          rw [est, rf]
          exact upd_same
      rintro σ' H4 ⟨rfl, G4, fr4, hr4, x, y, z, hw4⟩
      refine ⟨_, rfl, _, rfl, ws, _, 3, _, rfl, rfl, SqL.of hw4, rfl, by show 2 ≤ sizeLine; decide, fun q hq => ⟨by show 1 ≤ sizeLine; decide, fun d2 hd2 => ?_⟩⟩
      obtain ⟨n1, n2, s5, q1, q2⟩ := new2 (u := .lst [.ref q]) hq hd2
      have hd : RowsAt (upd (upd H4 q (.tup [.str "q", .str tt])) d2 (.lst [.ref q])) d2 (some tt) := ⟨q, q2, q1⟩
      have ok : OkO (some tt) := fun z e => by cases e; exact oTx
      refine ⟨dataR (some tt), dataR (some tt), (hr4.same s5).dp, hd.dp, (dataR_ok ok).1, (dataR_ok ok).1, ?_⟩
      rw [(dataR_ok ok).2]
      obtain ⟨S', t', x', G'⟩ := G4
      exact k _ A' ⟨S', t', x', G'.L, G'.f, G'.sv.same s5, s5 _ _ G'.w, G'.n, G'.r⟩ (fr4.trans (Fr.of_same s5)) nw
    · have er : replyS S (repL v c) c now = S ∧ replyO S (repL v c) = none ∧ (!decide (V.str S.st.s = V.str "open")) = true := by
        unfold replyS replyO
        revert hst
        cases S.st with
        | opn => exact fun h => absurd rfl h
        | _ => exact fun _ => ⟨rfl, rfl, rfl⟩
      rw [er.1] at S2
      rw [er.2.1] at hr2
      refine ⟨fun _ _ => False, ?_, fun _ _ z => z.elim⟩
      refine ⟨_, rfl, ws, _, 0, _, rfl, rfl, SqL.of hw2, rfl, rfl, _, rfl, ?_⟩
      rw [er.2.2]
      refine iteT ⟨_, rfl, by show 0 ≤ sizeLine; decide, fun d hd => ?_⟩
      have s3 := same_upd (o := .lst []) hd
      have hd3 : RowsAt (upd H2 d (.lst [])) d none := upd_same
      refine ⟨dataR none, dataR none, (hr2.same s3).dp, hd3.dp, (dataR_ok okO_none).1, (dataR_ok okO_none).1, ?_⟩
      rw [(dataR_ok okO_none).2]
      exact k _ A' ⟨S, t0, tx, G.L, G.f, S2.same s3, s3 _ _ hw2, wsA, G.r⟩ (fr.trans (Fr.of_same s3)) nw

def spOpAgain (K : PySem.W.Frag) : Sp := fun vs H Q _ => ∃ (p la ws : Addr) (L : Ltr) (f now : Int) (A : List Addr) (S : Sv) (t0 : Int) (tx : Str), vs = [.ref p, .ref ws] ∧ Good K H p la ws L f now A S t0 tx ∧
  ∀ H' A', GoodX K H' p la ws L f now A' → Fr (ws :: A) H H' → (∀ x ∈ A', x ∈ A ∨ H x = none) → Q (.bl true) H'
theorem inOS (S : SS) : inV (.str S.s) [.str "open", .str "sent"] = (decide (S = .opn) || decide (S = .snt)) := by cases S <;> rfl
theorem ok_law_again {P : Program} {w : World} {K : PySem.W.Frag} {mg : Str → Option Value} {base : Heap} {f : Addr} {fd : FuncData} (T : Tx K mg) (c_Server_again : C8.Met P w K mg base 1 (He.ga K "Server") "again" (spSvAgain K) [])
    (F : FunD K "_law_again" "_law_again" (defArgs s_law_again) (defBody s_law_again) (defScope s_law_again) [] [] f fd) : FnOk P w K mg base CX0 2 f fd ["server", "world"] (spOpAgain K) := by
  refine F.ok sc_law_again (fun vs H Q E h => ?_) (fun cdv A outer s H vs Q E hr h => ?_)
  · obtain ⟨p, la, ws, L, f, now, A, S, t0, tx, rfl, _⟩ := h
    rfl
  · obtain ⟨p, la, ws, L, f, now, A, S, t0, tx, rfl, G, k⟩ := h
    refine ⟨_, PSs.nox (pss_cons (ps_set (i := 2) sc_law_again.nd rfl (Or.inl rfl) (pe_lst pa_nil)) (C8.pss_cut (ps_if (PW.pt (pw_and (pt_cmpR op_in_seq (pe_ix ix_list (pv 1) pe_int (fun _ _ => rfl)) (pe_lst (pa_cons pe_str (pa_cons pe_str pa_nil))) (by with_unfolding_all rfl)) (pw_and1 (pt_cmpR op_ne (pe_ix ix_list (pv 1) pe_int (fun _ _ => rfl)) pe_str (nomark _))))) (pss_one (ps_set (i := 2) sc_law_again.nd rfl (Or.inl rfl) (pe_lst (pa_cons (pe_tup (pa_cons pe_str (pa_cons (pe_ix ix_list (pv 1) pe_int (fun _ _ => rfl)) pa_nil))) pa_nil)))) pss_nil) (pss_one (ps_ret (pe_cmpR (op_eqD hr.units) (C8.pe_mt0 c_Server_again hr (by decide) (pv 0)) (pv 2) (nomark _)))))), ?_⟩
    refine ⟨by show 0 ≤ sizeLine; decide, fun d hd => ?_⟩
    have s1 := same_upd (o := .lst []) hd
    have hd1 : (upd H d (.lst [])) d = some (.lst []) := upd_same
    generalize upd H d (.lst []) = H1 at s1 hd1 ⊢
    have w1 := s1 _ _ G.w
    have ok : OkO (againO S) := fun z e => by
      have h : S.tx = some z := by
        unfold againO at e
        cases hs : S.st <;> rw [hs] at e <;> first | exact e | cases e
      rcases G.r.txo with ⟨e1, _⟩ | ⟨e1, _⟩
      · rw [e1] at h
        cases h
      · rw [e1] at h
        cases h
        exact G.r.ok
    refine ⟨fun σ' H' => ∃ d', σ' = [some (.ref p), some (.ref ws), some (.ref d')] ∧ Same H H' ∧ RowsAt H' d' (againO S), ?_, ?_⟩
    · refine ⟨_, rfl, ws, _, 0, _, rfl, rfl, SqL.of w1, rfl, by show 2 ≤ sizeLine; decide, fun l hnl => ⟨l, _, rfl, .inl (SqL.of upd_same), rfl, rfl, _, rfl, ?_⟩⟩
      have s2 := same_upd (o := .lst [.str "open", .str "sent"]) hnl
      have w2 := s2 _ _ w1
      show (if (inV (.str S.st.s) [.str "open", .str "sent"]) = true then _ else _)
      rw [inOS]
      have no : (decide (S.st = .opn) || decide (S.st = .snt)) = false → againO S = none := by
        unfold againO
        cases S.st with
        | opn => intro h; cases h
        | snt => intro h; cases h
        | _ => intro _; rfl
      have yes : (decide (S.st = .opn) || decide (S.st = .snt)) = true → againO S = S.tx := by
        unfold againO
        cases S.st with
        | opn => intro _; rfl
        | snt => intro _; rfl
        | _ => intro h; cases h
      cases e : (decide (S.st = .opn) || decide (S.st = .snt)) with
      | false =>
        refine iteF (iteF ⟨d, rfl, s1.trans s2, ?_⟩)
        rw [no e]
        exact s2 _ _ hd1
      | true =>
        refine iteT ⟨_, rfl, ws, _, 3, _, rfl, rfl, SqL.of w2, rfl, rfl, _, rfl, ?_⟩
        rw [vstr, yes e]
        rcases G.r.txo with ⟨e1, e2⟩ | ⟨e1, e2⟩
        · rw [e1, decide_eq_true e2]
          exact iteF ⟨d, rfl, s1.trans s2, s2 _ _ hd1⟩
        · rw [e1, decide_eq_false e2]
          refine iteT ⟨_, rfl, ws, _, 3, _, rfl, rfl, SqL.of w2, rfl, by show 2 ≤ sizeLine; decide, fun q hq => ⟨by show 1 ≤ sizeLine; decide, fun d2 hd2 => ?_⟩⟩
          obtain ⟨n1, n2, s5, q1, q2⟩ := new2 (u := .lst [.ref q]) hq hd2
          exact ⟨d2, rfl, (s1.trans s2).trans s5, q, q2, q1⟩
    rintro σ' H2 ⟨d', rfl, s2, hd2⟩
    obtain ⟨dx, al, wv, hp, _⟩ := id G.sv
    refine ⟨_, rfl, p, dx, _, rfl, s2 _ _ hp, rfl, p, la, S, A, rfl, G.sv.same s2, fun r H3 s3 _ hr3 => ?_⟩
    refine ⟨_, rfl, dataR (againO S), dataR (againO S), hr3.dp, (hd2.same s3).dp, (dataR_ok ok).1, (dataR_ok ok).1, ?_⟩
    rw [(dataR_ok ok).2]
    have s4 := s2.trans s3
    exact k H3 A ⟨S, t0, tx, G.L, G.f, G.sv.same s4, s4 _ _ G.w, G.n, G.r⟩ (Fr.of_same s4) fun x m => .inl m
def spOpKeep (K : PySem.W.Frag) : Sp := fun vs H Q _ => ∃ (p la ws : Addr) (L : Ltr) (f now : Int) (A : List Addr) (S : Sv) (t0 : Int) (tx : Str), vs = [.ref p, .ref ws, .int now, .bl (decide (L.verb = "CALL"))] ∧ Good K H p la ws L f now A S t0 tx ∧
  ∀ H' A', GoodX K H' p la ws L f now A' → Fr (ws :: A) H H' → (∀ x ∈ A', x ∈ A ∨ H x = none) → Q (.bl true) H'
theorem ok_law_keeps {P : Program} {w : World} {K : PySem.W.Frag} {mg : Str → Option Value} {base : Heap} {f : Addr} {fd : FuncData} (T : Tx K mg) (c_Server_keep : C8.Met P w K mg base 3 (He.ga K "Server") "keep" (spSvKeep K) [])
    (F : FunD K "_law_keeps" "_law_keeps" (defArgs s_law_keeps) (defBody s_law_keeps) (defScope s_law_keeps) [] [] f fd) : FnOk P w K mg base CX0 4 f fd ["server", "world", "now", "is_call"] (spOpKeep K) := by
  refine F.ok sc_law_keeps (fun vs H Q E h => ?_) (fun cdv A outer s H vs Q E hr h => ?_)
  · obtain ⟨p, la, ws, L, f, now, A, S, t0, tx, rfl, _⟩ := h
    rfl
  · obtain ⟨p, la, ws, L, f, now, A, S, t0, tx, rfl, G, k⟩ := h
    refine ⟨_, PSs.nox (pss_cons (ps_set (i := 4) sc_law_keeps.nd rfl (Or.inl rfl) (pe_cut (pe_and (pv 3) (pe_one (pe_cmpR op_eq (pe_ix ix_list (pv 1) pe_int (fun _ _ => rfl)) pe_str (nomark _)))))) (C8.pss_cut (ps_if (pt_val (pv 4)) (pss_cons (ps_asg pe_str (pg_sub (pv 1) pe_int set_list)) (pss_one (ps_asg (pv 2) (pg_sub (pv 1) pe_int set_list)))) pss_nil) (pss_cons (ps_set (i := 5) sc_law_keeps.nd rfl (Or.inl rfl) (C8.pe_mt c_Server_keep hr (by decide) (pv 0) (pa_cons (pv 2) pa_nil))) (pss_one (ps_ret (pe_and (pe_callB call_isi rfl T.f_isinstance (by decide +kernel) (pa_cons (pv 5) (pa_cons (pe_bltn (v := .ty "bool") rfl T.f_bool (by decide +kernel) rfl) pa_nil))) (pe_one (pe_cmpR op_eq (pv 5) (pv 4) (nomark _))))))))), ?_⟩
    have w1 : H ws = some (.lst [.str S.st.s, .int t0, .int S.f, .str tx]) := G.w
    have eic : decide (S.L.verb = "CALL") = decide (L.verb = "CALL") := by rw [G.L]
    have fin : ∀ H1, SvAt K H1 p la S A → Fr (ws :: A) H H1 → (∀ x, H1 x = none → H x = none) → H1 ws = some (.lst (wldV (keepS S now) (if keepB S = true then now else t0) tx)) → ∃ x, (V.ref p) = x ∧ True := fun _ _ _ _ _ => ⟨_, rfl, trivial⟩
    have Rk : R (keepS S now) (if keepB S = true then now else t0) tx now := by
      unfold keepS
      by_cases h : keepB S = true
      · rw [if_pos h, if_pos h]
        exact ⟨G.r.f1, G.r.f2, G.r.txo, G.r.ok, ⟨_, _, rfl⟩⟩
      · rw [if_neg h, if_neg h]
        exact G.r
    have Lk : (keepS S now).L = S.L ∧ (keepS S now).f = S.f ∧ (keepS S now).st = if keepB S = true then .kpt else S.st := by
      unfold keepS
      split
      · exact ⟨rfl, rfl, rfl⟩
      · exact ⟨rfl, rfl, rfl⟩
    -- first
    refine ⟨fun v H' => v = .bl (keepB S) ∧ H' = H, ?_, ?_⟩
    · refine ⟨_, rfl, _, rfl, ?_⟩
      unfold keepB
      rw [← eic]
      cases e : decide (S.L.verb = "CALL") with
      | false => exact iteF ⟨by rw [Bool.and_false], rfl⟩
      | true =>
        refine iteT ⟨_, rfl, ws, _, 0, _, rfl, rfl, SqL.of w1, rfl, rfl, ?_⟩
        rw [st_snt', Bool.and_true]
        exact ⟨rfl, rfl⟩
    rintro v H' ⟨rfl, rfl⟩
    refine ⟨fun σ' H1 => σ' = [some (.ref p), some (.ref ws), some (.int now), some (.bl (decide (L.verb = "CALL"))), some (.bl (keepB S)), none] ∧ SvAt K H1 p la S A ∧ Fr (ws :: A) H' H1 ∧ (∀ x, H1 x = none → H' x = none) ∧ H1 ws = some (.lst (wldV (keepS S now) (if keepB S = true then now else t0) tx)), ?_, ?_⟩
    · refine ⟨_, rfl, _, rfl, ?_⟩
      have ew : wldV (keepS S now) (if keepB S = true then now else t0) tx = [.str (if keepB S = true then SS.kpt else S.st).s, .int (if keepB S = true then now else t0), .int S.f, .str tx] := by
        unfold wldV
        rw [Lk.2.1, Lk.2.2]
      rw [ew]
      cases e : keepB S with
      | false => exact iteF ⟨rfl, G.sv, Fr.refl _ _, fun x h => h, w1⟩
      | true =>
        refine iteT ⟨_, rfl, ws, _, 0, 0, rfl, rfl, w1, rfl, ?_⟩
        refine ⟨_, rfl, _, rfl, ws, _, 1, 1, rfl, rfl, upd_same, rfl, ?_⟩
        rw [upd_upd]
        refine ⟨rfl, G.sv.ws G.n, fun b o e n => (upd_ne fun z => n (by rw [z]; exact List.mem_cons_self ..)).trans e, fun x h => ?_, upd_same⟩
        by_cases hx : x = ws
        · rw [hx, upd_same] at h
          cases h
        · rw [upd_ne hx] at h
          exact h
    rintro σ' H1 ⟨rfl, S1, fr1, nw1, w1'⟩
    obtain ⟨dx, al, wv, hp, _⟩ := id S1
    refine ⟨_, rfl, p, dx, _, rfl, hp, rfl, _, rfl, p, la, S, A, now, rfl, S1, fun H2 A' S2 fr2 nw2 => ?_⟩
    have wsA : ws ∉ A' := fun m => (nw2 ws m).elim G.n fun e => by
      rw [e] at w1'
      cases w1'
    refine ⟨_, rfl, _, _, _, _, true, rfl, ClsV.ty "bool", TyX.base (TyOf.bl _), kit_ty (by decide +kernel), _, rfl, iteT ?_⟩
    refine ⟨_, rfl, _, rfl, rfl, ?_⟩
    rw [decide_eq_true rfl]
    exact k H2 A' ⟨keepS S now, _, tx, Lk.1.trans G.L, Lk.2.1.trans G.f, S2, fr2 _ _ w1' G.n, wsA, Rk⟩ (fun b o e n => fr2 _ _ (fr1 b o e n) fun m => n (List.mem_cons_of_mem _ m)) fun x m => (nw2 x m).imp id fun e => nw1 x e
end K6
set_option maxHeartbeats 1000000
namespace K6
open PySem PySem.Spec PyProof.Rows L2 SX TK
open C8 (pe_c)
def spLaw (K : PySem.W.Frag) : Sp := fun vs H Q _ => ∃ (a : Addr) (ns : List Int), vs = [.ref a] ∧ SqL K H a (ns.map V.int) ∧ ns.length ≤ 63 ∧ ∀ H', Q (.bl true) H'
structure Far (s c ws sl : Addr) : Prop where
  a : ws ≠ s
  b : ws ≠ c
  d : ws ≠ sl
  e : sl ≠ s
  f : sl ≠ c
structure JJ (K : PySem.W.Frag) (s c p la ws sl : Addr) (xs : List V) (v : Str) (f now : Int) (A : List Addr) (H : Hp) : Prop where
  far : Far s c ws sl
  st : StAt H s c
  g : GoodX K H p la ws (mkL v "c1" "t1" 5 "w3") f now A
  ls : H sl = some (.lst xs)
  ns : s ∉ A
  nc : c ∉ A
  nl : sl ∉ A
section
variable {K : PySem.W.Frag} {s c p la ws sl : Addr} {xs : List V} {v : Str} {f now : Int} {A : List Addr} {H H' : Hp}
theorem JJ.draw (j : JJ K s c p la ws sl xs v f now A H) (st : StAt H' s c) (kp : Keep H H' s c) : JJ K s c p la ws sl xs v f now A H' := by
  obtain ⟨S, t0, tx, G⟩ := j.g
  exact ⟨j.far, st, ⟨S, t0, tx, G.L, G.f, G.sv.mono fun b u m e => kp b u e (fun z => j.ns (z ▸ m)) fun z => j.nc (z ▸ m), kp _ _ G.w j.far.a j.far.b, G.n, G.r⟩, kp _ _ j.ls j.far.e j.far.f, j.ns, j.nc, j.nl⟩
theorem JJ.same (j : JJ K s c p la ws sl xs v f now A H) (sm : Same H H') : JJ K s c p la ws sl xs v f now A H' := by
  obtain ⟨S, t0, tx, G⟩ := j.g
  exact ⟨j.far, j.st.same sm, ⟨S, t0, tx, G.L, G.f, G.sv.same sm, sm _ _ G.w, G.n, G.r⟩, sm _ _ j.ls, j.ns, j.nc, j.nl⟩
theorem JJ.op {now' : Int} {A' : List Addr} (j : JJ K s c p la ws sl xs v f now A H) (g : GoodX K H' p la ws (mkL v "c1" "t1" 5 "w3") f now' A') (fr : Fr (ws :: A) H H') (nw : ∀ x ∈ A', x ∈ A ∨ H x = none) : JJ K s c p la ws sl xs v f now' A' H' := by
  obtain ⟨ne, ⟨n, e1⟩, ns, e2, e3⟩ := j.st
  have out : ∀ x o, H x = some o → x ∉ A → x ∉ A' := fun x o e h m => (nw x m).elim h fun z => by
    rw [e] at z
    cases z
  have k : ∀ x o, H x = some o → x ∉ A → x ≠ ws → H' x = some o := fun x o e h n => fr x o e fun m => (List.mem_cons.mp m).elim n h
  exact ⟨j.far, ⟨ne, ⟨n, k _ _ e1 j.ns j.far.a.symm⟩, ns, k _ _ e2 j.nc j.far.b.symm, e3⟩, g, k _ _ j.ls j.nl j.far.d.symm, out _ _ e1 j.ns, out _ _ e2 j.nc, out _ _ j.ls j.nl⟩
end
def partsD (v : Str) : PyData := .tuple [.str v, .none, .str "c1", .str "ann@p", .str "t1", .str "bob@x", .str "", .int 5, .str "w3", .none, .none, .none]
theorem partsD_ok {v : Str} (h : v ∈ verbsL) : SeqAt.shaped (partsD v) = true ∧ PyData.eqv (partsD v) (partsD v) = true := by
  have q : PyData.strOk "c1" = true ∧ PyData.strOk "ann@p" = true ∧ PyData.strOk "t1" = true ∧ PyData.strOk "bob@x" = true ∧ PyData.strOk "" = true ∧ PyData.strOk "w3" = true := by decide +kernel
  obtain ⟨q1, q2, q3, q4, q5, q6⟩ := q
  have c : (partsD v).canLay0 = true := by simp [partsD, PyData.canLay0, PyData.canLayAll0, (verbs_small v h).2, q1, q2, q3, q4, q5, q6]
  refine ⟨?_, SeqAt.eqv_refl _ c⟩
  unfold SeqAt.shaped
  rw [c, Bool.true_and, decide_eq_true_eq]
  simp [partsD, PyData.depth, PyData.depthAll]
theorem partsD_dp {K : PySem.W.Frag} {H : Hp} {t : Addr} {v : Str} (h : H t = some (.tup (mkL v "c1" "t1" 5 "w3").partsV)) : Dp K H (.ref t) (partsD v) :=
  .tup (SqT.of h) (.cons (.str _) (.cons .non (.cons (.str _) (.cons (.str _) (.cons (.str _) (.cons (.str _) (.cons (.str _) (.cons (.int _) (.cons (.str _) (.cons .non (.cons .non (.cons .non .nil))))))))))))
theorem ok_law {P : Program} {w : World} {K : PySem.W.Frag} {mg : Str → Option Value} {base : Heap} {f : Addr} {fd : FuncData} (T : Tx K mg) (c_law_state : C8.Cal P w K mg base 1 "_law_state" (spState K) []) (c_law_pick : C8.Cal P w K mg base 2 "_law_pick" spPick []) (c_law_draw : C8.Cal P w K mg base 1 "_law_draw" spDraw []) (c_law_letter : C8.Cal P w K mg base 3 "_law_letter" (spLetter K) []) (c_mk_Server : C8.Mak P w K mg base 1 "Server" (He.ga K "Server") (spSvInit K) []) (c_law_tick : C8.Cal P w K mg base 3 "_law_tick" (spOpTick K) []) (c_law_replies : C8.Cal P w K mg base 4 "_law_replies" (spOpReply K) []) (c_law_again : C8.Cal P w K mg base 2 "_law_again" (spOpAgain K) []) (c_law_keeps : C8.Cal P w K mg base 4 "_law_keeps" (spOpKeep K) []) (c_Server_is_over : C8.Met P w K mg base 1 (He.ga K "Server") "is_over" (spSvOver K) []) (c_law_matches_right : C8.Cal P w K mg base 4 "_law_matches_right" (spMatchR K) []) (c_Letter_parts : C8.Met P w K mg base 1 (He.ga K "Letter") "parts" (spParts K) [])
    (F : FunD K "law" "law" (defArgs s_law) (defBody s_law) (defScope s_law) [] [] f fd) : FnOk P w K mg base CX0 5 f fd ["script"] (spLaw K) := by
  refine F.ok sc_law (fun vs H Q E h => ?_) (fun cdv A outer s0 H vs Q E hr h => ?_)
  · obtain ⟨a, ns, rfl, _⟩ := h
    rfl
  · obtain ⟨a, ns, rfl, hS, hn, k⟩ := h
    refine ⟨_, PSs.nox (pss_cons (ps_set (i := 1) sc_law.nd rfl (Or.inl rfl) (pe_c c_law_state hr (by decide) rfl (pa_cons (pv 0) pa_nil))) (pss_cons (ps_set (i := 2) sc_law.nd rfl (Or.inl rfl) (pe_c c_law_pick hr (by decide) rfl (pa_cons (pv 1) (pa_cons (pe_lst (pa_cons pe_str (pa_cons pe_str (pa_cons pe_str (pa_cons pe_str (pa_cons pe_str (pa_cons pe_str pa_nil))))))) pa_nil)))) (pss_cons (ps_set (i := 3) sc_law.nd rfl (Or.inl rfl) (pe_op op_add pe_int (pe_c c_law_draw hr (by decide) rfl (pa_cons (pv 1) (pa_cons (pe_c c_law_pick hr (by decide) rfl (pa_cons (pv 1) (pa_cons (pe_lst (pa_cons pe_int (pa_cons pe_int pa_nil))) pa_nil))) pa_nil))))) (pss_cons (ps_set (i := 4) sc_law.nd rfl (Or.inl rfl) (pe_c c_law_draw hr (by decide) rfl (pa_cons (pv 1) (pa_cons pe_int pa_nil)))) (pss_cons (ps_set (i := 5) sc_law.nd rfl (Or.inl rfl) (pe_c c_law_letter hr (by decide) rfl (pa_cons (pv 2) (pa_cons pe_str (pa_cons pe_str (pa_cons pe_int (pa_cons pe_str pa_nil))))))) (pss_cons (ps_set (i := 6) sc_law.nd rfl (Or.inl rfl) (C8.pe_mk c_mk_Server hr (by decide) rfl (pa_cons (pv 5) (pa_cons pe_str (pa_cons (pv 3) pa_nil))))) (pss_cons (ps_set (i := 7) sc_law.nd rfl (Or.inl rfl) (pe_lst (pa_cons pe_str (pa_cons pe_int (pa_cons (pv 3) (pa_cons pe_str pa_nil)))))) (pss_cons (ps_for PassesOwn.never rfl (pi_list (pe_slice sl_list (pv 0) po_none (po_some pe_int))) (pg_name (i := 8) sc_law.nd rfl (Or.inl rfl)) (pss_cons (ps_set (i := 9) sc_law.nd rfl (Or.inl rfl) (pe_c c_law_draw hr (by decide) rfl (pa_cons (pv 1) (pa_cons pe_int pa_nil)))) (pss_cons (ps_set (i := 10) sc_law.nd rfl (Or.inl rfl) pe_bl) (C8.pss_cut (ps_if (pt_cmpR op_lt (pv 9) pe_int (nomark _)) (pss_one (ps_for PassesOwn.never rfl (pi_range1 rfl T.f_range (pa_cons (pe_c c_law_pick hr (by decide) rfl (pa_cons (pv 1) (pa_cons (pe_lst (pa_cons pe_int (pa_cons pe_int (pa_cons (pv 3) (pa_cons (pe_op op_mul pe_int (pv 3)) (pa_cons (pe_op op_mul pe_int (pv 3)) pa_nil)))))) pa_nil))) pa_nil)) (pg_name (i := 11) sc_law.nd rfl (Or.inl rfl)) (pss_cons (ps_set (i := 4) sc_law.nd rfl (Or.inl rfl) (pe_op op_add (pv 4) pe_int)) (pss_one (ps_set (i := 10) sc_law.nd rfl (Or.inl rfl) (pe_and (pv 10) (pe_one (pe_c c_law_tick hr (by decide) rfl (pa_cons (pv 6) (pa_cons (pv 7) (pa_cons (pv 4) (pa_cons (pe_cmpR op_eq (pv 2) pe_str (nomark _)) pa_nil)))))))))))) (pss_one (ps_if (pt_cmpR op_lt (pv 9) pe_int (nomark _)) (pss_one (ps_set (i := 10) sc_law.nd rfl (Or.inl rfl) (pe_c c_law_replies hr (by decide) rfl (pa_cons (pv 6) (pa_cons (pv 7) (pa_cons (pv 5) (pa_cons (pe_c c_law_pick hr (by decide) rfl (pa_cons (pv 1) (pa_cons (pe_lst (pa_cons pe_int (pa_cons pe_int (pa_cons pe_int (pa_cons pe_int (pa_cons pe_int pa_nil)))))) pa_nil))) (pa_cons (pv 4) (pa_cons pe_str pa_nil))))))))) (pss_one (ps_if (pt_cmpR op_lt (pv 9) pe_int (nomark _)) (pss_one (ps_set (i := 10) sc_law.nd rfl (Or.inl rfl) (pe_c c_law_again hr (by decide) rfl (pa_cons (pv 6) (pa_cons (pv 7) pa_nil))))) (pss_one (ps_set (i := 10) sc_law.nd rfl (Or.inl rfl) (pe_c c_law_keeps hr (by decide) rfl (pa_cons (pv 6) (pa_cons (pv 7) (pa_cons (pv 4) (pa_cons (pe_cmpR op_eq (pv 2) pe_str (nomark _)) pa_nil)))))))))))) (pss_one (ps_if (PW.pt (pw_or (pt_not (pt_val (pv 10))) (pw_or (pt_cmpR op_ne (pe_fldC rfl T.cl_Server T.na_Server_state (pv 6) rfl) (pe_ix ix_list (pv 7) pe_int (fun _ _ => rfl)) (nomark _)) (pw_or1 (pt_cmpR op_ne (C8.pe_mt0 c_Server_is_over hr (by decide) (pv 6)) (pe_cmpR op_eq (pe_ix ix_list (pv 7) pe_int (fun _ _ => rfl)) pe_str (nomark _)) (nomark _)))))) (pss_one (ps_ret pe_bl)) pss_nil)))))) (pss_one (ps_ret (pe_and (pe_c c_law_matches_right hr (by decide) rfl (pa_cons (pv 6) (pa_cons (pv 2) pa_nil))) (pe_and (pe_cmpR (op_eqD hr.units) (C8.pe_mt0 c_Letter_parts hr (by decide) (pe_fldC rfl T.cl_Server T.na_Server_letter (pv 6) rfl)) (C8.pe_mt0 c_Letter_parts hr (by decide) (pv 5)) (nomark _)) (pe_one (pe_cmpR op_eq (pe_fldC rfl T.cl_Server T.na_Server_place (pv 6) rfl) pe_str (nomark _))))))))))))))), ?_⟩
    refine ⟨_, rfl, a, ns, rfl, hS, hn, fun s c H1 s1 hs hc st1 => ?_⟩
    -- the verb
    refine ⟨_, rfl, by show 6 ≤ sizeLine; decide, fun l1 hl1 => ?_⟩
    obtain ⟨n1, n2⟩ := st1.tracked hl1
    refine ⟨s, c, _, rfl, st1.upd n1 n2, .inr ⟨l1, _, rfl, upd_same, n1, n2, by decide, by decide, fun vv hv H2 st2 kp2 => ?_⟩⟩
    obtain ⟨v, hv2, rfl⟩ : ∃ v ∈ verbsL, vv = V.str v := by
      simp only [List.mem_cons, List.not_mem_nil, or_false] at hv
      rcases hv with rfl | rfl | rfl | rfl | rfl | rfl <;> exact ⟨_, by decide +kernel, rfl⟩
    -- the first gap
    refine ⟨_, rfl, _, rfl, by show 2 ≤ sizeLine; decide, fun l2 hl2 => ?_⟩
    obtain ⟨n1, n2⟩ := st2.tracked hl2
    refine ⟨s, c, _, rfl, st2.upd n1 n2, .inr ⟨l2, _, rfl, upd_same, n1, n2, by decide, by decide, fun mm hm H3 st3 kp3 => ?_⟩⟩
    obtain ⟨m, m0, m1, rfl⟩ : ∃ m : Int, 0 < m ∧ m ≤ 20 ∧ mm = V.int m := by
      simp only [List.mem_cons, List.not_mem_nil, or_false] at hm
      rcases hm with rfl | rfl <;> exact ⟨_, by decide, by decide, rfl⟩
    refine ⟨s, c, m, rfl, st3, m0, by omega, fun r H4 r0 r1 st4 kp4 => ⟨_, _, rfl, rfl, ?_⟩⟩
    have f1 : 1 ≤ 1 + r := by omega
    have f2 : 1 + r ≤ 20 := by omega
    dsimp only
    generalize 1 + r = f at f1 f2 ⊢
    refine ⟨_, rfl, s, c, 50, rfl, st4, by decide, by decide, fun now H5 now0 now1 st5 kp5 => ?_⟩
    -- the letter, the server, the account
    refine ⟨_, rfl, v, "c1", "t1", 5, "w3", rfl, fun la H6 s6 hla => ?_⟩
    refine ⟨_, rfl, _, rfl, fun p dx hp hdx hne => ?_⟩
    refine ⟨p, dx, la, f, rfl, upd_same, fun al hal => ⟨rfl, ?_⟩⟩
    have sO := same_own (C := He.ga K "Server") (fs := []) hp hdx
    have pal : p ≠ al := ne_of_none upd_same hal
    have hp6 : H6 p = none := hp
    have hal6 : H6 al = none := sO.free hal
    have sS : Same H6 (upd (upd (upd (upd H6 dx (.own p)) p (.ins (He.ga K "Server") dx [])) al (.lst [])) p (.ins (He.ga K "Server") dx (svfl la "open" .non f .non al))) := TK.Same.upd_of (TK.Same.upd_of sO hal6) hp6
    have q1 : (upd (upd (upd (upd H6 dx (.own p)) p (.ins (He.ga K "Server") dx [])) al (.lst [])) p (.ins (He.ga K "Server") dx (svfl la "open" .non f .non al))) p = some (.ins (He.ga K "Server") dx (svfl la "open" .non f .non al)) := upd_same
    have q2 : (upd (upd (upd (upd H6 dx (.own p)) p (.ins (He.ga K "Server") dx [])) al (.lst [])) p (.ins (He.ga K "Server") dx (svfl la "open" .non f .non al))) al = some (.lst []) := (upd_ne pal.symm).trans upd_same
    generalize (upd (upd (upd (upd H6 dx (.own p)) p (.ins (He.ga K "Server") dx [])) al (.lst [])) p (.ins (He.ga K "Server") dx (svfl la "open" .non f .non al))) = H7 at sS q1 q2 ⊢
    have hla7 := hla.same sS
    have st7 := (st5.same s6).same sS
    have sv7 : SvAt K H7 p la ⟨mkL v "c1" "t1" 5 "w3", f, .opn, .non, none, none⟩ [p, la, al] := ⟨dx, al, .non, q1, by simp, by simp, by simp, hla7, rfl, q2, fun x hx => by
      simp only [List.mem_cons, List.not_mem_nil, or_false] at hx
      rcases hx with rfl | rfl | rfl
      · exact ⟨_, q1⟩
      · obtain ⟨dl, e⟩ := hla7
        exact ⟨_, e⟩
      · exact ⟨_, q2⟩⟩
    refine ⟨_, rfl, by show 4 ≤ sizeLine; decide, fun ws hws => ?_⟩
    obtain ⟨wns, wnc⟩ := st7.tracked hws
    have s8 := same_upd (o := .lst [.str "open", .int 0, .int f, .str ""]) hws
    have w8 : (upd H7 ws (.lst [.str "open", .int 0, .int f, .str ""])) ws = some (.lst [.str "open", .int 0, .int f, .str ""]) := upd_same
    have nwA : ws ∉ [p, la, al] := fun m => by
      simp only [List.mem_cons, List.not_mem_nil, or_false] at m
      rcases m with rfl | rfl | rfl
      · rw [q1] at hws; cases hws
      · obtain ⟨dl, e⟩ := hla7
        rw [e] at hws; cases hws
      · rw [q2] at hws; cases hws
    generalize upd H7 ws (.lst [.str "open", .int 0, .int f, .str ""]) = H8 at s8 w8 ⊢
    have kpA : Keep H H5 s c := (((((Keep.of_same s1).trans (Keep.of_same (same_upd hl1))).trans kp2).trans (Keep.of_same (same_upd hl2))).trans kp3).trans (kp4.trans kp5)
    have s05 : Same H H5 := fun b o e => kpA b o e (ne_of_none e hs) (ne_of_none e hc)
    have hS8 : SqL K H8 a (ns.map V.int) := (((s05.trans s6).trans sS).trans s8).seq hS
    have st8 := st7.same s8
    have sv8 := sv7.same s8
    have r8 : R ⟨mkL v "c1" "t1" 5 "w3", f, .opn, .non, none, none⟩ 0 "" now := ⟨f1, f2, .inl ⟨rfl, rfl⟩, by decide +kernel, trivial⟩
    -- for cell in script[:60]
    refine ⟨_, rfl, 60, rfl, a, _, rfl, hS8, fun sl hsl => ?_⟩
    obtain ⟨ls, lc⟩ := st8.tracked hsl
    have s9 := same_upd (o := .lst (cutV (ns.map V.int) none (some 60))) hsl
    have j9 : JJ K s c p la ws sl (cutV (ns.map V.int) none (some 60)) v f now [p, la, al] (upd H8 sl (.lst (cutV (ns.map V.int) none (some 60)))) := by
      refine ⟨⟨wns, wnc, ne_of_none w8 hsl, ls, lc⟩, st8.same s9, ⟨_, 0, "", rfl, rfl, sv8.same s9, s9 _ _ w8, nwA, r8⟩, upd_same, fun m => ?_, fun m => ?_, fun m => ?_⟩
      · obtain ⟨_, ⟨n, e1⟩, _⟩ := st7
        simp only [List.mem_cons, List.not_mem_nil, or_false] at m
        obtain ⟨dl, e2⟩ := hla7
        rcases m with e | e | e
        · exact ne_of e1 q1 (by intro z; cases z) e
        · exact ne_of e1 e2 (by intro z; cases z) e
        · exact ne_of e1 q2 (by intro z; cases z) e
      · obtain ⟨_, _, ms, e1, _⟩ := id st5
        have e6 := s6 _ _ e1
        simp only [List.mem_cons, List.not_mem_nil, or_false] at m
        obtain ⟨dl, e2⟩ := hla7
        rcases m with e | e | e
        · exact ne_of_none e6 hp6 e
        · exact ne_of (sS _ _ e6) e2 (by intro z; cases z) e
        · exact ne_of_none e6 hal6 e
      · obtain ⟨o, e⟩ : ∃ o, H8 sl = some o := by
          obtain ⟨_, _, _, _, _, _, _, _, _, _, tr⟩ := id sv8
          exact tr sl m
        rw [e] at hsl
        cases hsl
    have hcut : ∀ y ∈ cutV (ns.map V.int) none (some 60), True := fun _ _ => trivial
    refine ⟨sl, rfl, ⟨_, SqL.of j9.ls⟩, for_list (K := K) (a := sl) (xs := cutV (ns.map V.int) none (some 60)) (fun i σ H' => ∃ (nw : Int) (A : List Addr) (v8 v9 v10 v11 : Option V), σ = [some (.ref a), some (.ref s), some (.str v), some (.int f), some (.int nw), some (.ref la), some (.ref p), some (.ref ws), v8, v9, v10, v11] ∧ JJ K s c p la ws sl (cutV (ns.map V.int) none (some 60)) v f nw A H') ⟨now, _, none, none, none, none, rfl, j9⟩ (fun i σ H' _ ⟨_, _, _, _, _, _, _, j⟩ => SqL.of j.ls) ?_ ?_⟩
    · rintro i y σ H1 hi ⟨nw, A, v8, v9, v10, v11, rfl, j⟩
      refine ⟨_, rfl, s, c, 8, rfl, j.st, by decide, by decide, fun kd H2 k0 k1 st2 kp2 => ?_⟩
      have j2 := j.draw st2 kp2
      refine ⟨fun σ' H' => ∃ (nw' : Int) (A' : List Addr) (w11 : Option V), σ' = [some (.ref a), some (.ref s), some (.str v), some (.int f), some (.int nw'), some (.ref la), some (.ref p), some (.ref ws), some y, some (.int kd), some (.bl true), w11] ∧ JJ K s c p la ws sl (cutV (ns.map V.int) none (some 60)) v f nw' A' H', ?_, ?_⟩
      · refine ⟨_, rfl, _, _, rfl, rfl, _, rfl, ?_⟩
        by_cases h3 : kd < 3
        · -- ticks
          rw [decide_eq_true h3]
          refine iteT ⟨_, rfl, _, rfl, _, rfl, _, _, rfl, rfl, .inl ⟨by decide, by decide⟩, _, rfl, _, _, rfl, rfl, .inl ⟨by decide, by decide⟩, by show 5 ≤ sizeLine; decide, fun l hl => ?_⟩
          obtain ⟨n1, n2⟩ := st2.tracked hl
          refine ⟨s, c, _, rfl, st2.upd n1 n2, .inr ⟨l, _, rfl, upd_same, n1, n2, by show 0 < 5; decide, by show 5 ≤ 1000; decide, fun mm hm H3 st3 kp3 => ?_⟩⟩
          have j3 := (j2.same (same_upd (o := .lst [.int 1, .int 1, .int f, .int (8 * f), .int (33 * f)]) hl)).draw st3 kp3
          obtain ⟨m, m0, m1, rfl⟩ : ∃ m : Int, 0 ≤ m ∧ m ≤ 1000 ∧ mm = V.int m := by
            simp only [List.mem_cons, List.not_mem_nil, or_false] at hm
            rcases hm with rfl | rfl | rfl | rfl | rfl
            · exact ⟨_, by decide, by decide, rfl⟩
            · exact ⟨_, by decide, by decide, rfl⟩
            · exact ⟨_, by omega, by omega, rfl⟩
            · exact ⟨8 * f, by omega, by omega, rfl⟩
            · exact ⟨33 * f, by omega, by omega, rfl⟩
          refine ⟨m, rfl, by omega, by omega, ?_⟩
          refine for_it walk_range (fun i σ H' => ∃ (nw' : Int) (A' : List Addr) (w11 : Option V), σ = [some (.ref a), some (.ref s), some (.str v), some (.int f), some (.int nw'), some (.ref la), some (.ref p), some (.ref ws), some y, some (.int kd), some (.bl true), w11] ∧ JJ K s c p la ws sl (cutV (ns.map V.int) none (some 60)) v f nw' A' H') ⟨nw, A, v11, rfl, j3⟩ (fun _ _ _ _ _ => trivial) ?_ (fun σ H' q => q)
          rintro i' x σ H4 H5 hi' ⟨nw', A', w11, rfl, j4⟩ ⟨rfl, rfl⟩
          obtain ⟨S, t0, tx, G⟩ := id j4.g
          refine ⟨_, rfl, _, _, rfl, rfl, ?_⟩
          refine ⟨_, rfl, _, rfl, iteT ⟨_, rfl, _, rfl, _, rfl, _, rfl, rfl, ?_⟩⟩
          refine ⟨p, la, ws, _, f, nw', A', S, t0, tx, congrArg (fun b => [V.ref p, V.ref ws, V.int (nw' + 1), V.bl b]) (vstr v "CALL"), G, fun H6 A6 g6 fr6 nw6 => ?_⟩
          exact ⟨nw' + 1, A6, _, rfl, j4.op g6 fr6 nw6⟩
        · rw [decide_eq_false h3]
          refine iteF ⟨_, rfl, _, _, rfl, rfl, _, rfl, ?_⟩
          by_cases h5 : kd < 5
          · rw [decide_eq_true h5]
            refine iteT ⟨_, rfl, _, rfl, _, rfl, _, rfl, by show 5 ≤ sizeLine; decide, fun l hl => ?_⟩
            obtain ⟨n1, n2⟩ := st2.tracked hl
            refine ⟨s, c, _, rfl, st2.upd n1 n2, .inr ⟨l, _, rfl, upd_same, n1, n2, by decide, by decide, fun mm hm H3 st3 kp3 => ?_⟩⟩
            have j3 := (j2.same (same_upd (o := .lst [.int 18, .int 18, .int 20, .int 44, .int 45]) hl)).draw st3 kp3
            obtain ⟨m, m0, m1, rfl⟩ : ∃ m : Int, 0 ≤ m ∧ m < 100 ∧ mm = V.int m := by
              simp only [List.mem_cons, List.not_mem_nil, or_false] at hm
              rcases hm with rfl | rfl | rfl | rfl | rfl <;> exact ⟨_, by decide, by decide, rfl⟩
            obtain ⟨S, t0, tx, G⟩ := id j3.g
            refine ⟨_, rfl, p, la, ws, v, f, nw, m, A, S, t0, tx, rfl, hv2, m0, m1, G, fun H6 A6 g6 fr6 nw6 => ?_⟩
            exact ⟨nw, A6, _, rfl, j3.op g6 fr6 nw6⟩
          · rw [decide_eq_false h5]
            obtain ⟨S, t0, tx, G⟩ := id j2.g
            refine iteF ⟨_, rfl, _, _, rfl, rfl, _, rfl, ?_⟩
            by_cases h7 : kd < 7
            · rw [decide_eq_true h7]
              refine iteT ⟨_, rfl, _, rfl, p, la, ws, _, f, nw, A, S, t0, tx, rfl, G, fun H6 A6 g6 fr6 nw6 => ?_⟩
              exact ⟨nw, A6, _, rfl, j2.op g6 fr6 nw6⟩
            · rw [decide_eq_false h7]
              refine iteF ⟨_, rfl, _, rfl, _, rfl, _, rfl, rfl, ?_⟩
              refine ⟨p, la, ws, _, f, nw, A, S, t0, tx, congrArg (fun b => [V.ref p, V.ref ws, V.int nw, V.bl b]) (vstr v "CALL"), G, fun H6 A6 g6 fr6 nw6 => ?_⟩
              exact ⟨nw, A6, _, rfl, j2.op g6 fr6 nw6⟩
      rintro σ' H3 ⟨nw', A', w11, rfl, j3⟩
      obtain ⟨S, t0, tx, G⟩ := id j3.g
      obtain ⟨dp, alp, wvp, hpp, _⟩ := id G.sv
      have hw : H3 ws = some (.lst [.str S.st.s, .int t0, .int S.f, .str tx]) := G.w
      refine ⟨_, rfl, _, rfl, iteF ⟨_, rfl, p, dp, _, _, rfl, hpp, rfl, _, rfl, ws, _, 0, _, rfl, rfl, SqL.of hw, rfl, rfl, _, rfl, ?_⟩⟩
      rw [decide_eq_true rfl]
      refine iteF ⟨_, rfl, p, dp, _, rfl, hpp, rfl, p, la, S, A', rfl, G.sv, _, rfl, ws, _, 0, _, rfl, rfl, SqL.of hw, rfl, rfl, rfl, _, rfl, ?_⟩
      have e : (!decide (V.bl (decide (S.st = SS.ovr)) = V.bl (decide (V.str S.st.s = V.str "over")))) = false := by cases S.st <;> rfl
      rw [e]
      exact iteF ⟨nw', A', _, _, _, _, rfl, j3⟩
    · rintro σ H1 ⟨nw, A, v8, v9, v10, v11, rfl, j⟩
      obtain ⟨S, t0, tx, G⟩ := id j.g
      obtain ⟨dp, alp, wvp, hpp, m1, m2, m3, ⟨dl, hl⟩, _⟩ := id G.sv
      rw [G.L] at hl
      refine ⟨_, rfl, _, rfl, p, la, S, A, v, rfl, G.sv, G.L, hv2, fun H2 s2 => ⟨_, rfl, iteT ?_⟩⟩
      have hl2 := s2 _ _ hl
      refine ⟨_, rfl, p, dp, _, _, rfl, s2 _ _ hpp, rfl, la, dl, _, rfl, hl2, rfl, la, _, rfl, ⟨dl, hl2⟩, fun t ht => ?_⟩
      have s3 := same_upd (o := .tup (mkL v "c1" "t1" 5 "w3").partsV) ht
      refine ⟨_, rfl, la, dl, _, rfl, s3 _ _ hl2, rfl, la, _, rfl, ⟨dl, s3 _ _ hl2⟩, fun t2 ht2 => ?_⟩
      have s4 := same_upd (o := .tup (mkL v "c1" "t1" 5 "w3").partsV) ht2
      refine ⟨partsD v, partsD v, partsD_dp (s4 _ _ upd_same), partsD_dp upd_same, (partsD_ok hv2).1, (partsD_ok hv2).1, _, rfl, ?_⟩
      rw [(partsD_ok hv2).2]
      refine iteT ⟨_, rfl, p, dp, _, _, rfl, s4 _ _ (s3 _ _ (s2 _ _ hpp)), rfl, rfl, ?_⟩
      exact k _
end K6
set_option maxHeartbeats 0
namespace K6
open PySem PySem.Spec PyProof.Rows L2 SX TK
/-! ### the head: facts by names, the run -/
def d_write_offer : He.DefD := ⟨("write_offer", none), "write_offer", "write_offer", defArgs s_write_offer, defBody s_write_offer, defScope s_write_offer, [], []⟩
def d_Letter___init : He.DefD := ⟨("Letter", some "__init__"), "__init__", "Letter.__init__", defArgs s_Letter___init, defBody s_Letter___init, defScope s_Letter___init, [], [("code", .non), ("offer", .non), ("stay", .non), ("goal", .non)]⟩
def d_Letter_parts : He.DefD := ⟨("Letter", some "parts"), "parts", "Letter.parts", defArgs s_Letter_parts, defBody s_Letter_parts, defScope s_Letter_parts, [], []⟩
def d_Letter_reply : He.DefD := ⟨("Letter", some "reply"), "reply", "Letter.reply", defArgs s_Letter_reply, defBody s_Letter_reply, defScope s_Letter_reply, [.non, .non], []⟩
def d_is_final : He.DefD := ⟨("is_final", none), "is_final", "is_final", defArgs s_is_final, defBody s_is_final, defScope s_is_final, [], []⟩
def d_write : He.DefD := ⟨("write", none), "write", "write", defArgs s_write, defBody s_write, defScope s_write, [], []⟩
def d_write_head : He.DefD := ⟨("_write_head", none), "_write_head", "_write_head", defArgs s_write_head, defBody s_write_head, defScope s_write_head, [], []⟩
def d_Wait___init : He.DefD := ⟨("Wait", some "__init__"), "__init__", "Wait.__init__", defArgs s_Wait___init, defBody s_Wait___init, defScope s_Wait___init, [], []⟩
def d_Wait_repeats : He.DefD := ⟨("Wait", some "repeats"), "repeats", "Wait.repeats", defArgs s_Wait_repeats, defBody s_Wait_repeats, defScope s_Wait_repeats, [], []⟩
def d_Wait_is_up : He.DefD := ⟨("Wait", some "is_up"), "is_up", "Wait.is_up", defArgs s_Wait_is_up, defBody s_Wait_is_up, defScope s_Wait_is_up, [], []⟩
def d_Server___init : He.DefD := ⟨("Server", some "__init__"), "__init__", "Server.__init__", defArgs s_Server___init, defBody s_Server___init, defScope s_Server___init, [], []⟩
def d_Server_matches : He.DefD := ⟨("Server", some "matches"), "matches", "Server.matches", defArgs s_Server_matches, defBody s_Server_matches, defScope s_Server_matches, [], []⟩
def d_Server_again : He.DefD := ⟨("Server", some "again"), "again", "Server.again", defArgs s_Server_again, defBody s_Server_again, defScope s_Server_again, [], []⟩
def d_Server_reply : He.DefD := ⟨("Server", some "reply"), "reply", "Server.reply", defArgs s_Server_reply, defBody s_Server_reply, defScope s_Server_reply, [], []⟩
def d_Server_keep : He.DefD := ⟨("Server", some "keep"), "keep", "Server.keep", defArgs s_Server_keep, defBody s_Server_keep, defScope s_Server_keep, [], []⟩
def d_Server_tick : He.DefD := ⟨("Server", some "tick"), "tick", "Server.tick", defArgs s_Server_tick, defBody s_Server_tick, defScope s_Server_tick, [], []⟩
def d_Server_is_over : He.DefD := ⟨("Server", some "is_over"), "is_over", "Server.is_over", defArgs s_Server_is_over, defBody s_Server_is_over, defScope s_Server_is_over, [], []⟩
def d_law_state : He.DefD := ⟨("_law_state", none), "_law_state", "_law_state", defArgs s_law_state, defBody s_law_state, defScope s_law_state, [], []⟩
def d_law_draw : He.DefD := ⟨("_law_draw", none), "_law_draw", "_law_draw", defArgs s_law_draw, defBody s_law_draw, defScope s_law_draw, [], []⟩
def d_law_pick : He.DefD := ⟨("_law_pick", none), "_law_pick", "_law_pick", defArgs s_law_pick, defBody s_law_pick, defScope s_law_pick, [], []⟩
def d_law_sends_at : He.DefD := ⟨("_law_sends_at", none), "_law_sends_at", "_law_sends_at", defArgs s_law_sends_at, defBody s_law_sends_at, defScope s_law_sends_at, [], []⟩
def d_law_letter : He.DefD := ⟨("_law_letter", none), "_law_letter", "_law_letter", defArgs s_law_letter, defBody s_law_letter, defScope s_law_letter, [], []⟩
def d_law_matches_right : He.DefD := ⟨("_law_matches_right", none), "_law_matches_right", "_law_matches_right", defArgs s_law_matches_right, defBody s_law_matches_right, defScope s_law_matches_right, [], []⟩
def d_law_tick : He.DefD := ⟨("_law_tick", none), "_law_tick", "_law_tick", defArgs s_law_tick, defBody s_law_tick, defScope s_law_tick, [], []⟩
def d_law_replies : He.DefD := ⟨("_law_replies", none), "_law_replies", "_law_replies", defArgs s_law_replies, defBody s_law_replies, defScope s_law_replies, [], []⟩
def d_law_again : He.DefD := ⟨("_law_again", none), "_law_again", "_law_again", defArgs s_law_again, defBody s_law_again, defScope s_law_again, [], []⟩
def d_law_keeps : He.DefD := ⟨("_law_keeps", none), "_law_keeps", "_law_keeps", defArgs s_law_keeps, defBody s_law_keeps, defScope s_law_keeps, [], []⟩
def d_law : He.DefD := ⟨("law", none), "law", "law", defArgs s_law, defBody s_law, defScope s_law, [], []⟩
def fnL : List He.DefD := [d_write_offer, d_Letter___init, d_Letter_parts, d_Letter_reply, d_is_final, d_write, d_write_head, d_Wait___init, d_Wait_repeats, d_Wait_is_up, d_Server___init, d_Server_matches, d_Server_again, d_Server_reply, d_Server_keep, d_Server_tick, d_Server_is_over, d_law_state, d_law_draw, d_law_pick, d_law_sends_at, d_law_letter, d_law_matches_right, d_law_tick, d_law_replies, d_law_again, d_law_keeps, d_law]
def faL : List He.Fa := [.int "GREATEST_GAP" 8, .int "LEAST_FINAL_CODE" 20, .int "LIMIT" 32, .free "abs", .free "bool", .free "int", .free "isinstance", .free "len", .free "list", .free "min", .free "range", .free "str", .cls "Letter", .noat "Letter" "verb", .noat "Letter" "code", .noat "Letter" "call", .noat "Letter" "origin", .noat "Letter" "origin_tag", .noat "Letter" "target", .noat "Letter" "target_tag", .noat "Letter" "seq", .noat "Letter" "way", .noat "Letter" "offer", .noat "Letter" "stay", .noat "Letter" "goal", .glo "Letter", .mkr "Letter", .cls "Wait", .noat "Wait" "_began", .noat "Wait" "_first", .noat "Wait" "_gap", .noat "Wait" "_due", .glo "Wait", .mkr "Wait", .cls "Server", .noat "Server" "letter", .noat "Server" "place", .noat "Server" "state", .noat "Server" "code", .noat "Server" "_first", .noat "Server" "_wait", .noat "Server" "_latest", .glo "Server", .mkr "Server", .glo "write_offer", .meth "Letter" "parts", .meth "Letter" "reply", .glo "is_final", .glo "write", .glo "_write_head", .meth "Wait" "repeats", .meth "Wait" "is_up", .meth "Server" "matches", .meth "Server" "again", .meth "Server" "reply", .meth "Server" "keep", .meth "Server" "tick", .meth "Server" "is_over", .glo "_law_state", .glo "_law_draw", .glo "_law_pick", .glo "_law_sends_at", .glo "_law_letter", .glo "_law_matches_right", .glo "_law_tick", .glo "_law_replies", .glo "_law_again", .glo "_law_keeps", .glo "law"]
def loose0 : List Str := ["LEAST_FINAL_CODE", "GREATEST_GAP", "LIMIT", "write_offer", "is_final", "write", "_write_head", "_law_state", "_law_draw", "_law_pick", "_law_sends_at", "_law_letter", "_law_matches_right", "_law_tick", "_law_replies", "_law_again", "_law_keeps", "Letter", "Wait", "Server"]
abbrev Row0 : PySem.W.OpenRow := PySem.W.OpenLaw.row PySem.Challenge.rw_trunkland_k06_servers
def exL (K : PySem.W.Frag) : List Bool := []
abbrev hk : PySem.W.Hook := TK.hookX 6 faL fnL exL
def ob (s : PySem.W.SharedT) : He.AlD := TK.obsX 6 faL fnL exL (HandSHeadRun.getT s)
theorem ob_eq (s : PySem.W.SharedT) : ob s = hk.obs s.abs := TK.obsX_eq (HandSHeadRun.getT_eq s)
theorem run (w : World) : HandSHeadRun.RunEq Row0 (PySem.W.view Row0.prog [25]) hk ob 4000 (loose0) w := by
  intro os
  kernel_rfl
theorem facts {P : Program} {w : World} {K : PySem.W.Frag} {h : Heap} {mg : Str → Option Value} {f : Addr} (X : K.In h) (G : h.Ns mainGlobals mg) (hfa : mg ("law" : Str) = some (.ref f)) (c : He.SaysD faL fnL K) (cx : (exL K).all id = true) :
    ∃ fd : FuncData, (∀ (s : Shared) (v : Value), BindsTo s fd ⟨[v], []⟩ [("script", v)]) ∧ ∀ base : Heap, K.In base → base.Ns mainGlobals mg → FnOk P w K mg base CX0 5 f fd ["script"] (spLaw K) := by
  have T : Tx K mg := ⟨He.int_ok X G (c.fact 0 (f := .int "GREATEST_GAP" 8) rfl), He.int_ok X G (c.fact 1 (f := .int "LEAST_FINAL_CODE" 20) rfl), He.int_ok X G (c.fact 2 (f := .int "LIMIT" 32) rfl), He.free_ok X G (c.fact 3 (f := .free "abs") rfl), He.free_ok X G (c.fact 4 (f := .free "bool") rfl), He.free_ok X G (c.fact 5 (f := .free "int") rfl), He.free_ok X G (c.fact 6 (f := .free "isinstance") rfl), He.free_ok X G (c.fact 7 (f := .free "len") rfl), He.free_ok X G (c.fact 8 (f := .free "list") rfl), He.free_ok X G (c.fact 9 (f := .free "min") rfl), He.free_ok X G (c.fact 10 (f := .free "range") rfl), He.free_ok X G (c.fact 11 (f := .free "str") rfl), He.cls_ok (c.fact 12 (f := .cls "Letter") rfl), He.noat_ok (c.fact 13 (f := .noat "Letter" "verb") rfl), He.noat_ok (c.fact 14 (f := .noat "Letter" "code") rfl), He.noat_ok (c.fact 15 (f := .noat "Letter" "call") rfl), He.noat_ok (c.fact 16 (f := .noat "Letter" "origin") rfl), He.noat_ok (c.fact 17 (f := .noat "Letter" "origin_tag") rfl), He.noat_ok (c.fact 18 (f := .noat "Letter" "target") rfl), He.noat_ok (c.fact 19 (f := .noat "Letter" "target_tag") rfl), He.noat_ok (c.fact 20 (f := .noat "Letter" "seq") rfl), He.noat_ok (c.fact 21 (f := .noat "Letter" "way") rfl), He.noat_ok (c.fact 22 (f := .noat "Letter" "offer") rfl), He.noat_ok (c.fact 23 (f := .noat "Letter" "stay") rfl), He.noat_ok (c.fact 24 (f := .noat "Letter" "goal") rfl), He.cls_ok (c.fact 27 (f := .cls "Wait") rfl), He.noat_ok (c.fact 28 (f := .noat "Wait" "_began") rfl), He.noat_ok (c.fact 29 (f := .noat "Wait" "_first") rfl), He.noat_ok (c.fact 30 (f := .noat "Wait" "_gap") rfl), He.noat_ok (c.fact 31 (f := .noat "Wait" "_due") rfl), He.cls_ok (c.fact 34 (f := .cls "Server") rfl), He.noat_ok (c.fact 35 (f := .noat "Server" "letter") rfl), He.noat_ok (c.fact 36 (f := .noat "Server" "place") rfl), He.noat_ok (c.fact 37 (f := .noat "Server" "state") rfl), He.noat_ok (c.fact 38 (f := .noat "Server" "code") rfl), He.noat_ok (c.fact 39 (f := .noat "Server" "_first") rfl), He.noat_ok (c.fact 40 (f := .noat "Server" "_wait") rfl), He.noat_ok (c.fact 41 (f := .noat "Server" "_latest") rfl)⟩
  obtain ⟨fd_write_offer, F_write_offer⟩ := c.def_ 0 (d := d_write_offer) rfl
  obtain ⟨fd_Letter___init, F_Letter___init⟩ := c.def_ 1 (d := d_Letter___init) rfl
  obtain ⟨fd_Letter_parts, F_Letter_parts⟩ := c.def_ 2 (d := d_Letter_parts) rfl
  obtain ⟨fd_Letter_reply, F_Letter_reply⟩ := c.def_ 3 (d := d_Letter_reply) rfl
  obtain ⟨fd_is_final, F_is_final⟩ := c.def_ 4 (d := d_is_final) rfl
  obtain ⟨fd_write, F_write⟩ := c.def_ 5 (d := d_write) rfl
  obtain ⟨fd_write_head, F_write_head⟩ := c.def_ 6 (d := d_write_head) rfl
  obtain ⟨fd_Wait___init, F_Wait___init⟩ := c.def_ 7 (d := d_Wait___init) rfl
  obtain ⟨fd_Wait_repeats, F_Wait_repeats⟩ := c.def_ 8 (d := d_Wait_repeats) rfl
  obtain ⟨fd_Wait_is_up, F_Wait_is_up⟩ := c.def_ 9 (d := d_Wait_is_up) rfl
  obtain ⟨fd_Server___init, F_Server___init⟩ := c.def_ 10 (d := d_Server___init) rfl
  obtain ⟨fd_Server_matches, F_Server_matches⟩ := c.def_ 11 (d := d_Server_matches) rfl
  obtain ⟨fd_Server_again, F_Server_again⟩ := c.def_ 12 (d := d_Server_again) rfl
  obtain ⟨fd_Server_reply, F_Server_reply⟩ := c.def_ 13 (d := d_Server_reply) rfl
  obtain ⟨fd_Server_keep, F_Server_keep⟩ := c.def_ 14 (d := d_Server_keep) rfl
  obtain ⟨fd_Server_tick, F_Server_tick⟩ := c.def_ 15 (d := d_Server_tick) rfl
  obtain ⟨fd_Server_is_over, F_Server_is_over⟩ := c.def_ 16 (d := d_Server_is_over) rfl
  obtain ⟨fd_law_state, F_law_state⟩ := c.def_ 17 (d := d_law_state) rfl
  obtain ⟨fd_law_draw, F_law_draw⟩ := c.def_ 18 (d := d_law_draw) rfl
  obtain ⟨fd_law_pick, F_law_pick⟩ := c.def_ 19 (d := d_law_pick) rfl
  obtain ⟨fd_law_sends_at, F_law_sends_at⟩ := c.def_ 20 (d := d_law_sends_at) rfl
  obtain ⟨fd_law_letter, F_law_letter⟩ := c.def_ 21 (d := d_law_letter) rfl
  obtain ⟨fd_law_matches_right, F_law_matches_right⟩ := c.def_ 22 (d := d_law_matches_right) rfl
  obtain ⟨fd_law_tick, F_law_tick⟩ := c.def_ 23 (d := d_law_tick) rfl
  obtain ⟨fd_law_replies, F_law_replies⟩ := c.def_ 24 (d := d_law_replies) rfl
  obtain ⟨fd_law_again, F_law_again⟩ := c.def_ 25 (d := d_law_again) rfl
  obtain ⟨fd_law_keeps, F_law_keeps⟩ := c.def_ 26 (d := d_law_keeps) rfl
  obtain ⟨fd_law, F_law⟩ := c.def_ 27 (d := d_law) rfl
  have e := hfa.symm.trans (He.glo_ok X G (c.fact 68 (f := .glo "law") rfl))
  cases e
  have b := FunD.bindsA (ps := ["script"]) F_law fun _ _ _ _ _ _ us hl => match us, hl with | [_], _ => rfl
  refine ⟨fd_law, fun s v => b s [v] rfl, fun base _ _ => ?_⟩
  obtain ⟨mv_Letter_a, kb_Letter_a⟩ := TK.kbn_of (ps := ["self", "verb", "call", "origin", "origin_tag", "target", "target_tag", "seq", "way", "code", "offer", "stay", "goal"]) (ks := ["verb", "call", "origin", "origin_tag", "target", "target_tag", "seq", "way"]) (L := ["verb", "call", "origin", "origin_tag", "target", "target_tag", "seq", "way", "code", "offer", "stay", "goal"]) (self := "self") F_Letter___init [("code", (V.non)), ("offer", (V.non)), ("stay", (V.non)), ("goal", (V.non))] (fun {α : Type} (us mz zs : List α) => us ++ ((((zs.drop 0).take 8) ++ ((mz.drop 0).take 4)))) (by intro z; cases z) (fun rv rm rz => rv.append (((rz.drop 0).take 8).append ((rm.drop 0).take 4))) (by kernel_rfl) (by kernel_rfl) (by kernel_rfl) (by kernel_rfl) (by kernel_rfl) (by decide +kernel) (by decide +kernel) (by intro q hq; simp only [List.mem_cons, List.not_mem_nil, or_false] at hq; rcases hq with rfl | rfl | rfl | rfl; exact List.mem_cons_self ..; exact List.mem_cons_of_mem _ (List.mem_cons_self ..); exact List.mem_cons_of_mem _ (List.mem_cons_of_mem _ (List.mem_cons_self ..)); exact List.mem_cons_of_mem _ (List.mem_cons_of_mem _ (List.mem_cons_of_mem _ (List.mem_cons_self ..)))) (by decide +kernel) (fun u mv ws h1 h2 => match mv, ws, h1, h2 with | [m0, m1, m2, m3], [k0, k1, k2, k3, k4, k5, k6, k7], _, _ => by kernel_rfl)
  have c_mk_Letter_a : MakK P w K mg base 1 "Letter" (He.ga K "Letter") (spLetInit K) 0 ["verb", "call", "origin", "origin_tag", "target", "target_tag", "seq", "way"] (fun vs zs => vs ++ ((((zs.drop 0).take 8) ++ ((([(V.non), (V.non), (V.non), (V.non)] : List V).drop 0).take 4)))) := ⟨_, _, ["self", "verb", "call", "origin", "origin_tag", "target", "target_tag", "seq", "way", "code", "offer", "stay", "goal"], _, (He.mkr_ok (c.fact 26 (f := .mkr "Letter") rfl)), ok_Letter___init T  F_Letter___init, He.glo_ok X G (c.fact 25 (f := .glo "Letter") rfl), kb_Letter_a⟩
  obtain ⟨mv_Letter_b, kb_Letter_b⟩ := TK.kbn_of (ps := ["self", "verb", "call", "origin", "origin_tag", "target", "target_tag", "seq", "way", "code", "offer", "stay", "goal"]) (ks := ["verb", "code", "call", "origin", "origin_tag", "target", "target_tag", "seq", "way", "offer", "stay"]) (L := ["verb", "call", "origin", "origin_tag", "target", "target_tag", "seq", "way", "code", "offer", "stay", "goal"]) (self := "self") F_Letter___init [("goal", (V.non))] (fun {α : Type} (us mz zs : List α) => us ++ ((((zs.drop 0).take 1) ++ (((zs.drop 2).take 7) ++ (((zs.drop 1).take 1) ++ (((zs.drop 9).take 2) ++ ((mz.drop 0).take 1))))))) (by intro z; cases z) (fun rv rm rz => rv.append (((rz.drop 0).take 1).append (((rz.drop 2).take 7).append (((rz.drop 1).take 1).append (((rz.drop 9).take 2).append ((rm.drop 0).take 1)))))) (by kernel_rfl) (by kernel_rfl) (by kernel_rfl) (by kernel_rfl) (by kernel_rfl) (by decide +kernel) (by decide +kernel) (by intro q hq; simp only [List.mem_cons, List.not_mem_nil, or_false] at hq; rcases hq with rfl; exact List.mem_cons_of_mem _ (List.mem_cons_of_mem _ (List.mem_cons_of_mem _ (List.mem_cons_self ..)))) (by decide +kernel) (fun u mv ws h1 h2 => match mv, ws, h1, h2 with | [m0], [k0, k1, k2, k3, k4, k5, k6, k7, k8, k9, k10], _, _ => by kernel_rfl)
  have c_mk_Letter_b : MakK P w K mg base 1 "Letter" (He.ga K "Letter") (spLetInit K) 0 ["verb", "code", "call", "origin", "origin_tag", "target", "target_tag", "seq", "way", "offer", "stay"] (fun vs zs => vs ++ ((((zs.drop 0).take 1) ++ (((zs.drop 2).take 7) ++ (((zs.drop 1).take 1) ++ (((zs.drop 9).take 2) ++ ((([(V.non)] : List V).drop 0).take 1))))))) := ⟨_, _, ["self", "verb", "call", "origin", "origin_tag", "target", "target_tag", "seq", "way", "code", "offer", "stay", "goal"], _, (He.mkr_ok (c.fact 26 (f := .mkr "Letter") rfl)), ok_Letter___init T  F_Letter___init, He.glo_ok X G (c.fact 25 (f := .glo "Letter") rfl), kb_Letter_b⟩
  have c_Letter_parts := met_of (P := P) (w := w) (base := base) T.cl_Letter (He.meth_ok (c.fact 45 (f := .meth "Letter" "parts") rfl)) F_Letter_parts (ok_Letter_parts T  F_Letter_parts) fun _ _ _ _ _ _ us hl => match us, hl with | [_], _ => rfl
  have c_Letter_reply := metD_of (P := P) (w := w) (base := base) T.cl_Letter (He.meth_ok (c.fact 46 (f := .meth "Letter" "reply") rfl)) F_Letter_reply (ok_Letter_reply T c_mk_Letter_b F_Letter_reply) (by intro z; cases z) (by show 2 ≤ 5; decide) fun _ _ _ _ _ _ _ us its h1 h2 => match us, its, h1, h2 with | [_, _, _], [_, _], _, _ => ⟨_, rfl, rfl⟩
  have c_is_final := cal_of (P := P) (w := w) (base := base) F_is_final (ok_is_final T  F_is_final) (He.glo_ok X G (c.fact 47 (f := .glo "is_final") rfl)) fun _ _ _ _ _ _ us hl => match us, hl with | [_], _ => rfl
  have c_write_head := cal_of (P := P) (w := w) (base := base) F_write_head (ok_write_head T  F_write_head) (He.glo_ok X G (c.fact 49 (f := .glo "_write_head") rfl)) fun _ _ _ _ _ _ us hl => match us, hl with | [_], _ => rfl
  have c_write := cal_of (P := P) (w := w) (base := base) F_write (ok_write T c_write_head F_write) (He.glo_ok X G (c.fact 48 (f := .glo "write") rfl)) fun _ _ _ _ _ _ us hl => match us, hl with | [_], _ => rfl
  have c_mk_Wait := mak_of (P := P) (w := w) (base := base) (He.mkr_ok (c.fact 33 (f := .mkr "Wait") rfl)) (He.glo_ok X G (c.fact 32 (f := .glo "Wait") rfl)) F_Wait___init (ok_Wait___init T  F_Wait___init) fun _ _ _ _ _ _ us hl => match us, hl with | [_, _, _], _ => rfl
  have c_Wait_repeats := met_of (P := P) (w := w) (base := base) T.cl_Wait (He.meth_ok (c.fact 50 (f := .meth "Wait" "repeats") rfl)) F_Wait_repeats (ok_Wait_repeats T  F_Wait_repeats) fun _ _ _ _ _ _ us hl => match us, hl with | [_, _], _ => rfl
  have c_Wait_is_up := met_of (P := P) (w := w) (base := base) T.cl_Wait (He.meth_ok (c.fact 51 (f := .meth "Wait" "is_up") rfl)) F_Wait_is_up (ok_Wait_is_up T  F_Wait_is_up) fun _ _ _ _ _ _ us hl => match us, hl with | [_, _], _ => rfl
  have c_mk_Server := mak_of (P := P) (w := w) (base := base) (He.mkr_ok (c.fact 43 (f := .mkr "Server") rfl)) (He.glo_ok X G (c.fact 42 (f := .glo "Server") rfl)) F_Server___init (ok_Server___init T  F_Server___init) fun _ _ _ _ _ _ us hl => match us, hl with | [_, _, _, _], _ => rfl
  have c_Server_is_over := met_of (P := P) (w := w) (base := base) T.cl_Server (He.meth_ok (c.fact 57 (f := .meth "Server" "is_over") rfl)) F_Server_is_over (ok_Server_is_over T  F_Server_is_over) fun _ _ _ _ _ _ us hl => match us, hl with | [_], _ => rfl
  have c_Server_again := met_of (P := P) (w := w) (base := base) T.cl_Server (He.meth_ok (c.fact 53 (f := .meth "Server" "again") rfl)) F_Server_again (ok_Server_again T  F_Server_again) fun _ _ _ _ _ _ us hl => match us, hl with | [_], _ => rfl
  have c_Server_reply := met_of (P := P) (w := w) (base := base) T.cl_Server (He.meth_ok (c.fact 54 (f := .meth "Server" "reply") rfl)) F_Server_reply (ok_Server_reply T c_write c_is_final c_mk_Wait F_Server_reply) fun _ _ _ _ _ _ us hl => match us, hl with | [_, _, _], _ => rfl
  have c_Server_keep := met_of (P := P) (w := w) (base := base) T.cl_Server (He.meth_ok (c.fact 55 (f := .meth "Server" "keep") rfl)) F_Server_keep (ok_Server_keep T c_mk_Wait F_Server_keep) fun _ _ _ _ _ _ us hl => match us, hl with | [_, _], _ => rfl
  have c_Server_tick := met_of (P := P) (w := w) (base := base) T.cl_Server (He.meth_ok (c.fact 56 (f := .meth "Server" "tick") rfl)) F_Server_tick (ok_Server_tick T c_Wait_repeats c_Wait_is_up F_Server_tick) fun _ _ _ _ _ _ us hl => match us, hl with | [_, _], _ => rfl
  have c_Server_matches := met_of (P := P) (w := w) (base := base) T.cl_Server (He.meth_ok (c.fact 52 (f := .meth "Server" "matches") rfl)) F_Server_matches (ok_Server_matches T  F_Server_matches) fun _ _ _ _ _ _ us hl => match us, hl with | [_, _, _], _ => rfl
  have c_law_state := cal_of (P := P) (w := w) (base := base) F_law_state (ok_law_state T  F_law_state) (He.glo_ok X G (c.fact 58 (f := .glo "_law_state") rfl)) fun _ _ _ _ _ _ us hl => match us, hl with | [_], _ => rfl
  have c_law_draw := cal_of (P := P) (w := w) (base := base) F_law_draw (ok_law_draw T  F_law_draw) (He.glo_ok X G (c.fact 59 (f := .glo "_law_draw") rfl)) fun _ _ _ _ _ _ us hl => match us, hl with | [_, _], _ => rfl
  have c_law_pick := cal_of (P := P) (w := w) (base := base) F_law_pick (ok_law_pick T c_law_draw F_law_pick) (He.glo_ok X G (c.fact 60 (f := .glo "_law_pick") rfl)) fun _ _ _ _ _ _ us hl => match us, hl with | [_, _], _ => rfl
  have c_law_sends_at := cal_of (P := P) (w := w) (base := base) F_law_sends_at (ok_law_sends_at T  F_law_sends_at) (He.glo_ok X G (c.fact 61 (f := .glo "_law_sends_at") rfl)) fun _ _ _ _ _ _ us hl => match us, hl with | [_], _ => rfl
  have c_law_letter := cal_of (P := P) (w := w) (base := base) F_law_letter (ok_law_letter T c_mk_Letter_a F_law_letter) (He.glo_ok X G (c.fact 62 (f := .glo "_law_letter") rfl)) fun _ _ _ _ _ _ us hl => match us, hl with | [_, _, _, _, _], _ => rfl
  have c_law_matches_right := cal_of (P := P) (w := w) (base := base) F_law_matches_right (ok_law_matches_right T c_Server_matches c_law_letter F_law_matches_right) (He.glo_ok X G (c.fact 63 (f := .glo "_law_matches_right") rfl)) fun _ _ _ _ _ _ us hl => match us, hl with | [_, _], _ => rfl
  have c_law_tick := cal_of (P := P) (w := w) (base := base) F_law_tick (ok_law_tick T c_Server_tick c_law_sends_at F_law_tick) (He.glo_ok X G (c.fact 64 (f := .glo "_law_tick") rfl)) fun _ _ _ _ _ _ us hl => match us, hl with | [_, _, _, _], _ => rfl
  have c_law_replies := cal_of (P := P) (w := w) (base := base) F_law_replies (ok_law_replies T c_Letter_reply c_Server_reply c_write F_law_replies) (He.glo_ok X G (c.fact 65 (f := .glo "_law_replies") rfl)) fun _ _ _ _ _ _ us hl => match us, hl with | [_, _, _, _, _, _], _ => rfl
  have c_law_again := cal_of (P := P) (w := w) (base := base) F_law_again (ok_law_again T c_Server_again F_law_again) (He.glo_ok X G (c.fact 66 (f := .glo "_law_again") rfl)) fun _ _ _ _ _ _ us hl => match us, hl with | [_, _], _ => rfl
  have c_law_keeps := cal_of (P := P) (w := w) (base := base) F_law_keeps (ok_law_keeps T c_Server_keep F_law_keeps) (He.glo_ok X G (c.fact 67 (f := .glo "_law_keeps") rfl)) fun _ _ _ _ _ _ us hl => match us, hl with | [_, _, _, _], _ => rfl
  exact ok_law T c_law_state c_law_pick c_law_draw c_law_letter c_mk_Server c_law_tick c_law_replies c_law_again c_law_keeps c_Server_is_over c_law_matches_right c_Letter_parts F_law
end K6
open PySem PySem.W PySem.Calls PyProof.Rows
theorem PySem.Challenge.cw_trunkland_k06_servers_holds : PySem.Challenge.rw_trunkland_k06_servers.Holds := by
  w_on; o_law
  refine HandSHeadRun.head_any (r := OpenLaw.row PySem.Challenge.rw_trunkland_k06_servers) (q := view (OpenLaw.row PySem.Challenge.rw_trunkland_k06_servers).prog [25]) (H := K6.hk) (ob := K6.ob) (M := 4000) (loose := K6.loose0) (d := HandSHeadRun.topDef (OpenLaw.row PySem.Challenge.rw_trunkland_k06_servers).prog 25) (kwd := []) K6.ob_eq
    (by kernel_rfl) (fun s => by kernel_rfl) K6.run (by kernel_rfl) (by kernel_rfl) (by kernel_rfl) (by rfl) (by first | assumption | decide +kernel) (by decide +kernel) ⟨rfl, rfl, rfl, rfl, rfl, by decide +kernel⟩ ?hw ?hc
  case hw => w_witness2
  case hc =>
    refine L2.walk_ofE (l := PySem.Challenge.rw_trunkland_k06_servers) (n := 63) (k := 5) (x := "script") (CX := L2.CX0) rfl (by decide) (by kernel_rfl) ⟨rfl, by decide, by decide⟩ ?F (fun _ _ _ _ z => z)
    intro w mg fa h Y G hmg0
    obtain ⟨K, KX, c, cx⟩ := Y
    have hmg : mg ("law" : PySem.Str) = some (.ref fa) := by
      have e : (HandSHeadRun.topDef (OpenLaw.row PySem.Challenge.rw_trunkland_k06_servers).prog 25).name = ("law" : PySem.Str) := by kernel_rfl
      rw [← e]
      exact hmg0
    obtain ⟨fd, hb, hF⟩ := K6.facts (P := (PySem.Challenge.rw_trunkland_k06_servers).prog) (w := w) KX G hmg c cx
    exact ⟨K, fd, K6.spLaw K, KX, hb, fun H a ns hl _ hS => ⟨a, ns, rfl, hS, hl, fun _ => rfl⟩, hF⟩
