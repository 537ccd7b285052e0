import PyProof.Rows.All
import Wide.All
import OpenK.AllK
import Wide.FinOn
import HandS.ForMost
import HandS.Defaults
import HandS.Codes
import HandS.IsInst
import HandS.NoneIn
import HandS.Replace
import HandS.Walk
import HandS.Head0
import HandS.Head1
import HandS.Head2
import HandS.HeadEnd
import HandS.HeadHook1
import HandS.HeadHook2
import HandS.SetKeys
import HandS.Strs
import PySem.Challenge.RW_trunkland_k02_offers
set_option Elab.async false
set_option linter.all false
set_option maxRecDepth 100000
set_option maxHeartbeats 4000000
/-! Helpers of mine over the hand layer, the same for every law of this program. -/
namespace TK
open PySem PySem.Spec PyProof.Rows L2 C8 SX
section
variable {X : Cx} {x : Str} {pos p : Pos} {k j : Nat} {sp : Sp} {dvs : List V}
theorem pgI {i : Int} (h : ∃ t, X.mg x = some (.int i t)) (hg : Gl X x := by rfl) (hd : (x == ("__debug__" : Str)) = false := by decide) : PE X (.Name x pos) (tC (.int i)) := by
  obtain ⟨t, e⟩ := h
  exact pe_glob hg e ⟨t, rfl⟩ hd
theorem pgS {z : Str} (h : ∃ t, X.mg x = some (.str z t)) (hg : Gl X x := by rfl) (hd : (x == ("__debug__" : Str)) = false := by decide) : PE X (.Name x pos) (tC (.str z)) := by
  obtain ⟨t, e⟩ := h
  exact pe_glob hg e ⟨t, rfl⟩ hd
theorem pgR {a : Addr} (h : X.mg x = some (.ref a)) (hg : Gl X x := by rfl) (hd : (x == ("__debug__" : Str)) = false := by decide) : PE X (.Name x pos) (tC (.ref a)) := pe_glob hg h rfl hd
theorem pe_c0 (c : Cal X.prog X.w X.K X.mg X.base k x sp dvs) (hr : Room j X.A) (hk : k ≤ j) (hg : Gl X x) (hdb : (x == ("__debug__" : Str)) = false := by decide) :
    PE X (.Call (.Name x p) [] [] pos) (tCall sp dvs L2.E0 tNil) := by
  obtain ⟨f, fd, ps, ds, F, hm, kp, b, d⟩ := c.ex
  exact pe_call0 F (hr.mono hk) hg hm kp b d L2.pass0 hdb
end
section
variable {P : Program} {w : World} {K : PySem.W.Frag} {mg : Str → Option Value} {base : Heap}
/-- a def without defaults, as callers want it -/
theorem cal_of {x qual : Str} {params : Arguments} {body : List Stmt} {scope : Scope} {f : Addr} {fd : FuncData} {ps : List Str} {k : Nat} {sp : Sp} (F : FunD K x qual params body scope [] [] f fd) (G : FnOk P w K mg base L2.CX0 k f fd ps sp) (hm : mg x = some (.ref f))
    (h : ∀ (kV doc pm : Value) (an : Option Addr) (cdv ct : Value) (us : List Value), us.length = ps.length → bindArgs (PySem.W.fnOf x qual params body scope .none kV doc pm an cdv ct) ⟨us, []⟩ = pure (ps.zip us)) : Cal P w K mg base k x sp [] :=
  ⟨f, fd, ps, [], G, hm, F.kp, F.bindsN h, .nil⟩
end
/-! ### heaps -/
/-- all that was tracked is as it was, but what stands at two places -/
def Keep (H H' : Hp) (a c : Addr) : Prop := ∀ b o, H b = some o → b ≠ a → b ≠ c → H' b = some o
theorem Keep.refl (H : Hp) (a c : Addr) : Keep H H a c := fun _ _ h _ _ => h
theorem Keep.trans {H H1 H2 : Hp} {a c : Addr} (h : Keep H H1 a c) (k : Keep H1 H2 a c) : Keep H H2 a c := fun b o e h1 h2 => k b o (h b o e h1 h2) h1 h2
theorem Keep.of_same {H H' : Hp} {a c : Addr} (h : Same H H') : Keep H H' a c := fun b o e _ _ => h b o e
theorem same_upd {H : Hp} {p : Addr} {o : HO} (h : H p = none) : Same H (upd H p o) := fun b u e => by
  rw [upd_ne (ne_of_none e h)]
  exact e
/-- the law's source of draws: a list of a list of cells and a seed -/
structure StAt (H : Hp) (s c : Addr) : Prop where
  ne : s ≠ c
  at_ : ∃ n : Int, H s = some (.lst [.ref c, .int n])
  cells : ∃ ns : List Int, H c = some (.lst (ns.map V.int)) ∧ ns.length ≤ 63
theorem StAt.same {H H' : Hp} {s c : Addr} (h : StAt H s c) (e : Same H H') : StAt H' s c := by
  obtain ⟨ne, ⟨n, h1⟩, ns, h2, h3⟩ := h
  exact ⟨ne, ⟨n, e _ _ h1⟩, ns, e _ _ h2, h3⟩
end TK
namespace TK
open PySem PySem.Spec PyProof.Rows L2 C8 SX
/-! ### comprehensions whose elements leave the heap alone -/
theorem lc_pure {J : It} {n : Nat} {G : Hp → Prop} {Y : Nat → Hp → V → Hp → Prop} (w : Walk J n G Y) (f : Nat → V) {g : TG} {tt : TT} {te : TE} {vs : List Nat} {σ : L2.St} {H1 : Hp} {D : Addr} {Qd : Hp → Prop} (hn : n ≤ sizeLine)
    (hG : ∀ i, i ≤ n → G (upd H1 D (.lst ((List.range i).map f))))
    (hs : ∀ (i : Nat) (x : V) (H' : Hp) (k : V → Hp → Prop), i < n → Y i (upd H1 D (.lst ((List.range i).map f))) x H' → k (f i) (upd H1 D (.lst ((List.range i).map f))) →
      g x (wipe σ vs) H' fun σ2 H2 => wipe σ2 vs = wipe σ vs ∧ tt σ2 H2 fun b H3 => b = true ∧ te σ2 H3 k)
    (ht : ∀ σ H Q Q', (∀ b H', Q b H' → Q' b H') → tt σ H Q → tt σ H Q') (hg : ∀ x σ H Q Q', (∀ σ' H', Q σ' H' → Q' σ' H') → g x σ H Q → g x σ H Q')
    (hd : Qd (upd H1 D (.lst ((List.range n).map f)))) :
    ∃ W : Nat → Nat → Hp → Prop, (∃ m, W 0 m (upd H1 D (.lst []))) ∧ ∀ i m H, W i m H →
      (J.stop i H ∧ Qd H) ∨ (J.go i H ∧ ∃ Nx : Hp → Prop, (∀ H', Nx H' → ∃ m', m' < m ∧ W (i + 1) m' H') ∧ ∀ x H', J.yld i H x H' → g x (wipe σ vs) H' fun σ2 H2 => wipe σ2 vs = wipe σ vs ∧ tt σ2 H2 fun b H3 =>
        if b = true then te σ2 H3 fun y H4 => ∃ acc, H4 D = some (.lst acc) ∧ acc.length < sizeLine ∧ Nx (upd H4 D (.lst (acc ++ [y]))) else Nx H3) := by
  refine lc_it w (fun i H => H = upd H1 D (.lst ((List.range i).map f))) rfl (fun i H hi e => e ▸ hG i hi) (fun i x H H' hi e y => ?_) (fun H e => e ▸ hd)
  subst e
  refine hg _ _ _ _ _ (fun σ2 H2 q => ⟨q.1, ht _ _ _ _ (fun b H3 r => ?_) q.2⟩) (hs i x H' (fun y H4 => ∃ acc, H4 D = some (.lst acc) ∧ acc.length < sizeLine ∧ upd H4 D (.lst (acc ++ [y])) = upd H1 D (.lst ((List.range (i + 1)).map f))) hi y ⟨_, upd_same, ?_, ?_⟩)
  · rw [if_pos r.1]
    exact r.2
  · rw [List.length_map, List.length_range]
    omega
  · rw [upd_upd, List.range_succ, List.map_append]
    rfl
/-- the usual target and no test -/
theorem lc_pureN {J : It} {n : Nat} {G : Hp → Prop} {Y : Nat → Hp → V → Hp → Prop} (w : Walk J n G Y) (f : Nat → V) {j : Nat} {te : TE} {vs : List Nat} {σ : L2.St} {H1 : Hp} {D : Addr} {Qd : Hp → Prop} (hn : n ≤ sizeLine)
    (hG : ∀ i, i ≤ n → G (upd H1 D (.lst ((List.range i).map f))))
    (hs : ∀ (i : Nat) (x : V) (H' : Hp) (k : V → Hp → Prop), i < n → Y i (upd H1 D (.lst ((List.range i).map f))) x H' → k (f i) (upd H1 D (.lst ((List.range i).map f))) →
      wipe ((wipe σ vs).set j (some x)) vs = wipe σ vs ∧ te ((wipe σ vs).set j (some x)) H' k)
    (hd : Qd (upd H1 D (.lst ((List.range n).map f)))) :
    ∃ W : Nat → Nat → Hp → Prop, (∃ m, W 0 m (upd H1 D (.lst []))) ∧ ∀ i m H, W i m H →
      (J.stop i H ∧ Qd H) ∨ (J.go i H ∧ ∃ Nx : Hp → Prop, (∀ H', Nx H' → ∃ m', m' < m ∧ W (i + 1) m' H') ∧ ∀ x H', J.yld i H x H' → gName j x (wipe σ vs) H' fun σ2 H2 => wipe σ2 vs = wipe σ vs ∧ tYes σ2 H2 fun b H3 =>
        if b = true then te σ2 H3 fun y H4 => ∃ acc, H4 D = some (.lst acc) ∧ acc.length < sizeLine ∧ Nx (upd H4 D (.lst (acc ++ [y]))) else Nx H3) :=
  lc_pure w f hn hG (fun i x H' k hi y q => ⟨(hs i x H' k hi y q).1, rfl, (hs i x H' k hi y q).2⟩) (fun _ _ _ _ h q => h _ _ q) (fun _ _ _ _ _ h q => h _ _ q) hd
theorem size_tl (z : Str) : z.cps.size = (TL.tl z).length := by simp [TL.tl]
theorem len_eq (z : Str) : z.length = (TL.tl z).length := TL.len_tl z
theorem range_map_getD {α β : Type} (l : List α) (d : α) (f : α → β) : (List.range l.length).map (fun i => f (l.getD i d)) = l.map f := by
  apply List.ext_getElem
  · simp
  · intro i h1 h2
    simp at h1
    simp [h1]
end TK
namespace TK
open PySem PySem.Spec PyProof.Rows L2 SX
theorem ef {b : Bool} (h : ¬ b = true) : b = false := Bool.eq_false_iff.mpr h
/-! ### places in texts -/
theorem at0 {α : Type} {l : List α} (d : α) (h : 0 < l.length) : atI l 0 = some (l.getD 0 d) := by
  cases l with
  | nil => exact absurd h (Nat.lt_irrefl 0)
  | cons a r =>
    show ((if (0 : Int) ≤ 0 then (if (0 : Int) < ((a :: r).length : Nat) then some (0 : Int).toNat else none) else _) : Option Nat).bind _ = _
    rw [if_pos (Int.le_refl 0), if_pos (by rw [List.length_cons]; omega)]
    rfl
theorem atN {α : Type} {l : List α} {i : Int} (d : α) (h0 : 0 ≤ i) (h : i < l.length) : atI l i = some (l.getD i.toNat d) := by
  show ((if (0 : Int) ≤ i then (if i < (l.length : Nat) then some i.toNat else none) else _) : Option Nat).bind _ = _
  rw [if_pos h0, if_pos h]
  show l[i.toNat]? = _
  rw [List.getD_eq_getElem?_getD, List.getElem?_eq_getElem (by omega)]
  rfl
theorem atC {α : Type} (a : α) (r : List α) : atI (a :: r) 0 = some a := at0 a (by simp)
theorem ixP {n : Nat} {i : Int} (h0 : 0 ≤ i) (h : i < n) : ixN n i = some i.toNat := by
  unfold ixN
  rw [if_pos h0, if_pos h]
theorem sqP {n : Nat} {i : Int} (h0 : 0 ≤ i) (h : i < n) : seqIndex? i n = some i.toNat := (ixN_seq (ixP h0 h)).1
theorem ixC {α : Type} (a : α) (r : List α) : ixN (a :: r).length 0 = some 0 := ixP (by decide) (by rw [List.length_cons]; omega)
theorem sqC {α : Type} (a : α) (r : List α) : seqIndex? 0 (a :: r).length = some 0 := sqP (by decide) (by rw [List.length_cons]; omega)
/-- the first place of a sign -/
theorem occ_first1 {l : List Nat} {c : Nat} (h : c ∈ l) : ∃ rest, Builtin.Str.occurrences (S l) (S [c]) 0 (S l).length 1 = l.idxOf c :: rest := by
  have at_iff : ∀ i, StrLaws.At (S l) (S [c]) (S l).length i ↔ l[i]? = some c := by
    intro i
    have e := TL.at_iff (x := S l) (y := S [c]) (by show [c] ≠ []; simp) i
    refine e.trans ?_
    show (((l.drop i).take 1 == [c]) = true) ↔ _
    rw [beq_iff_eq]
    constructor
    · intro q
      cases e2 : l.drop i with
      | nil =>
        rw [e2] at q
        cases q
      | cons a r =>
        rw [e2] at q
        have e3 : a = c := by
          simpa using q
        rw [← e3]
        have e4 : (l.drop i)[0]? = some a := by rw [e2]; rfl
        rw [List.getElem?_drop] at e4
        exact e4
    · intro q
      have hi : i < l.length := (List.getElem?_eq_some_iff.mp q).1
      rw [List.drop_eq_getElem_cons hi]
      have e3 : l[i] = c := (List.getElem?_eq_some_iff.mp q).2
      rw [e3]
      rfl
  rcases StrLaws.occ_head (S l) (S [c]) 1 (Nat.le_refl 1) with ⟨_, hn⟩ | ⟨i, r, e, ha, hn⟩
  · obtain ⟨i, hi, e⟩ := List.mem_iff_getElem.mp h
    exact absurd ((at_iff i).mpr (by rw [List.getElem?_eq_getElem hi, e])) (hn i)
  · refine ⟨r, ?_⟩
    rw [e]
    congr 1
    have h1 := (at_iff i).mp ha
    have hi : i < l.length := (List.getElem?_eq_some_iff.mp h1).1
    have e1 : l[i] = c := (List.getElem?_eq_some_iff.mp h1).2
    have hj : l.idxOf c < l.length := List.idxOf_lt_length_iff.mpr h
    have e2 : l[l.idxOf c] = c := List.getElem_idxOf hj
    rcases Nat.lt_trichotomy i (l.idxOf c) with z | z | z
    · exfalso
      have := List.not_of_lt_findIdx (p := (· == c)) (xs := l) (i := i) z
      simp [e1] at this
    · exact z
    · exfalso
      exact hn _ z ((at_iff _).mpr (by rw [List.getElem?_eq_getElem hj, e2]))
/-- a list cut at the first sign c -/
theorem cut_first {l : List Nat} {c : Nat} (h : c ∈ l) : l = l.take (l.idxOf c) ++ c :: l.drop (l.idxOf c + 1) ∧ c ∉ l.take (l.idxOf c) := by
  have hj : l.idxOf c < l.length := List.idxOf_lt_length_iff.mpr h
  refine ⟨?_, ?_⟩
  · have e2 : l[l.idxOf c] = c := List.getElem_idxOf hj
    have e3 := List.drop_eq_getElem_cons hj
    rw [e2] at e3
    rw [← e3, List.take_append_drop]
  · intro hm
    obtain ⟨i, hi, e⟩ := List.mem_iff_getElem.mp hm
    rw [List.length_take] at hi
    have hi1 : i < l.idxOf c := by omega
    have := List.not_of_lt_findIdx (p := (· == c)) (xs := l) (i := i) hi1
    rw [List.getElem_take] at e
    simp [e] at this
theorem cut_unique {a b a' b' : List Nat} {c : Nat} (h : a ++ c :: b = a' ++ c :: b') (ha : c ∉ a) (ha' : c ∉ a') : a = a' ∧ b = b' := by
  induction a generalizing a' with
  | nil =>
    cases a' with
    | nil => exact ⟨rfl, by simpa using h⟩
    | cons d r =>
      have e : c = d := by simpa using (List.cons.inj h).1
      exact absurd (List.mem_cons.mpr (.inl e)) ha'
  | cons d r ih =>
    cases a' with
    | nil =>
      have e : d = c := by simpa using (List.cons.inj h).1
      exact absurd (List.mem_cons.mpr (.inl e.symm)) ha
    | cons d' r' =>
      obtain ⟨e1, e2⟩ := List.cons.inj h
      obtain ⟨e3, e4⟩ := ih e2 (fun z => ha (List.mem_cons_of_mem _ z)) (fun z => ha' (List.mem_cons_of_mem _ z))
      exact ⟨by rw [e1, e3], e4⟩
end TK
namespace TK
open PySem PySem.Spec PyProof.Rows L2 SX
theorem Keep.upd {H H' : Hp} {s c D : Addr} {o : HO} (k : Keep H H' s c) (hD : H D = none) : Keep H (upd H' D o) s c := fun b u e h1 h2 => by
  rw [upd_ne (ne_of_none e hD)]
  exact k b u e h1 h2
theorem StAt.upd {H : Hp} {s c D : Addr} {o : HO} (h : StAt H s c) (h1 : D ≠ s) (h2 : D ≠ c) : StAt (upd H D o) s c := by
  obtain ⟨ne, ⟨n, a⟩, ns, b, l⟩ := h
  exact ⟨ne, ⟨n, by rw [upd_ne h1.symm]; exact a⟩, ns, by rw [upd_ne h2.symm]; exact b, l⟩
theorem StAt.tracked {H : Hp} {s c D : Addr} (h : StAt H s c) (hD : H D = none) : D ≠ s ∧ D ≠ c := by
  obtain ⟨ne, ⟨n, a⟩, ns, b, l⟩ := h
  exact ⟨fun e => (by rw [e, a] at hD; cases hD), fun e => (by rw [e, b] at hD; cases hD)⟩
theorem Keep.none {H H' : Hp} {s c b : Addr} (k : Keep H H' s c) (h : H' b = Option.none) (h1 : b ≠ s) (h2 : b ≠ c) : H b = Option.none := by
  cases e : H b with
  | none => rfl
  | some o =>
    rw [k b o e h1 h2] at h
    cases h
theorem joinL_nil : ∀ l : List (List Nat), TL.joinL [] l = l.flatten
  | [] => rfl
  | [p] => by simp [TL.joinL]
  | p :: q :: r => by
    show p ++ ([] ++ TL.joinL [] (q :: r)) = _
    rw [joinL_nil (q :: r)]
    rfl
/-- texts of one sign, joined -/
theorem join_ones {ys : List Str} (h : ∀ z ∈ ys, z.length = 1) : (Txt.join "" ys).length = ys.length := by
  have e : (Txt.join ("" : Str) ys) = Str.join "" ys := TL.join_eq "" ys
  rw [e, len_eq, TL.tl_join, show TL.tl ("" : Str) = [] by decide +kernel, joinL_nil]
  induction ys with
  | nil => rfl
  | cons a r ih =>
    have h1 := h a (List.mem_cons_self ..)
    rw [len_eq] at h1
    rw [List.map_cons, List.flatten_cons, List.length_append, ih (fun z hz => h z (List.mem_cons_of_mem _ hz)) (TL.join_eq "" r), List.length_cons, h1]
    omega
theorem sum_ones {ys : List Str} (h : ∀ z ∈ ys, z.length = 1) : (ys.map (·.length)).sum = ys.length := by
  induction ys with
  | nil => rfl
  | cons a r ih =>
    rw [List.map_cons, List.sum_cons, ih (fun z hz => h z (List.mem_cons_of_mem _ hz)), h a (List.mem_cons_self ..), List.length_cons]
    omega
theorem cat_len (a b : Str) : (a ++ b).length = a.length + b.length := by
  rw [len_eq, TL.tl_append, List.length_append, ← len_eq, ← len_eq]
end TK
namespace TK
open PySem PySem.Spec PyProof.Rows L2 SX
/-- lc_it with a plain name as target and no test -/
theorem lc_itN {J : It} {n : Nat} {G : Hp → Prop} {Y : Nat → Hp → V → Hp → Prop} (w : Walk J n G Y) {j : Nat} {te : TE} {vs : List Nat} {σ : L2.St} {H1 : Hp} {D : Addr} {Qd : Hp → Prop} (Pv : Nat → Hp → Prop) (h0 : Pv 0 (upd H1 D (.lst []))) (hG : ∀ i H, i ≤ n → Pv i H → G H)
    (hs : ∀ i x H H', i < n → Pv i H → Y i H x H' → wipe ((wipe σ vs).set j (some x)) vs = wipe σ vs ∧ te ((wipe σ vs).set j (some x)) H' fun y H4 => ∃ acc, H4 D = some (.lst acc) ∧ acc.length < sizeLine ∧ Pv (i + 1) (upd H4 D (.lst (acc ++ [y])))) (hd : ∀ H, Pv n H → Qd H) :
    ∃ W : Nat → Nat → Hp → Prop, (∃ m, W 0 m (upd H1 D (.lst []))) ∧ ∀ i m H, W i m H →
      (J.stop i H ∧ Qd H) ∨ (J.go i H ∧ ∃ Nx : Hp → Prop, (∀ H', Nx H' → ∃ m', m' < m ∧ W (i + 1) m' H') ∧ ∀ x H', J.yld i H x H' → gName j x (wipe σ vs) H' fun σ2 H2 => wipe σ2 vs = wipe σ vs ∧ tYes σ2 H2 fun b H3 =>
        if b = true then te σ2 H3 fun y H4 => ∃ acc, H4 D = some (.lst acc) ∧ acc.length < sizeLine ∧ Nx (upd H4 D (.lst (acc ++ [y]))) else Nx H3) :=
  lc_it w Pv h0 hG (fun i x H H' hi p y => ⟨(hs i x H H' hi p y).1, (hs i x H H' hi p y).2⟩) hd
end TK
namespace TK
open PySem PySem.Spec PyProof.Rows L2 SX
theorem slTo (z : Str) {i : Int} (h : 0 ≤ i) : Txt.slice z none (some i) = S ((TL.tl z).take i.toNat) := slice_to (a := TL.tl z) h
theorem slFrom (z : Str) {i : Int} (h : 0 ≤ i) : Txt.slice z (some i) none = S ((TL.tl z).drop i.toNat) := slice_from (a := TL.tl z) h
theorem log_small {i : Int} (h : i.natAbs < 2 ^ 1900) : i.natAbs.log2 < 1920 := by
  by_cases h0 : i.natAbs = 0
  · rw [h0]
    decide
  · exact (Nat.log2_lt h0).mpr (Nat.lt_of_lt_of_le h (Nat.pow_le_pow_right (by decide) (by decide)))
end TK
namespace TK
open PySem PySem.Spec PyProof.Rows L2 SX
/-! ### comprehensions with a test, the heap left alone -/
theorem lc_filt {J : It} {n : Nat} {G : Hp → Prop} {Y : Nat → Hp → V → Hp → Prop} (w : Walk J n G Y) (f : Nat → V) (b : Nat → Bool) {j : Nat} {tt : TT} {te : TE} {vs : List Nat} {σ : L2.St} {H1 : Hp} {D : Addr} {Qd : Hp → Prop} (hn : n ≤ sizeLine)
    (hG : ∀ i, i ≤ n → G (upd H1 D (.lst (((List.range i).filter b).map f))))
    (ht : ∀ (i : Nat) (x : V) (H' : Hp) (k : Bool → Hp → Prop), i < n → Y i (upd H1 D (.lst (((List.range i).filter b).map f))) x H' → k (b i) (upd H1 D (.lst (((List.range i).filter b).map f))) →
      wipe ((wipe σ vs).set j (some x)) vs = wipe σ vs ∧ tt ((wipe σ vs).set j (some x)) H' k)
    (he : ∀ (i : Nat) (x : V) (H' : Hp) (k : V → Hp → Prop), i < n → b i = true → Y i (upd H1 D (.lst (((List.range i).filter b).map f))) x H' → k (f i) (upd H1 D (.lst (((List.range i).filter b).map f))) →
      te ((wipe σ vs).set j (some x)) (upd H1 D (.lst (((List.range i).filter b).map f))) k)
    (hd : Qd (upd H1 D (.lst (((List.range n).filter b).map f)))) :
    ∃ W : Nat → Nat → Hp → Prop, (∃ m, W 0 m (upd H1 D (.lst []))) ∧ ∀ i m H, W i m H →
      (J.stop i H ∧ Qd H) ∨ (J.go i H ∧ ∃ Nx : Hp → Prop, (∀ H', Nx H' → ∃ m', m' < m ∧ W (i + 1) m' H') ∧ ∀ x H', J.yld i H x H' → gName j x (wipe σ vs) H' fun σ2 H2 => wipe σ2 vs = wipe σ vs ∧ tt σ2 H2 fun b H3 =>
        if b = true then te σ2 H3 fun y H4 => ∃ acc, H4 D = some (.lst acc) ∧ acc.length < sizeLine ∧ Nx (upd H4 D (.lst (acc ++ [y]))) else Nx H3) := by
  refine lc_it w (fun i H => H = upd H1 D (.lst (((List.range i).filter b).map f))) rfl (fun i H hi e => e ▸ hG i hi) (fun i x H H' hi e y => ?_) (fun H e => e ▸ hd)
  subst e
  refine ht i x H' _ hi y ?_
  cases hb : b i with
  | true =>
    refine iteT (he i x H' _ hi hb y ⟨_, upd_same, ?_, ?_⟩)
    · rw [List.length_map]
      exact Nat.lt_of_le_of_lt (List.length_filter_le _ _) (by rw [List.length_range]; omega)
    · rw [upd_upd, List.range_succ, List.filter_append, List.map_append, List.filter_cons_of_pos hb]
      rfl
  | false =>
    refine iteF ?_
    rw [List.range_succ, List.filter_append, List.filter_cons_of_neg (by rw [hb]; exact Bool.false_ne_true), List.filter_nil, List.append_nil]
theorem range_filter_getD {α β : Type} (l : List α) (d : α) (p : α → Bool) (f : α → β) : ((List.range l.length).filter (fun i => p (l.getD i d))).map (fun i => f (l.getD i d)) = (l.filter p).map f := by
  have e := range_map_getD l d (fun x => x)
  rw [List.map_id'] at e
  have h : (l.filter p).map f = (((List.range l.length).map (fun i => l.getD i d)).filter p).map f := by rw [e]
  rw [h, List.filter_map, List.map_map]
  rfl
theorem getD_at {α : Type} {l : List α} {i : Nat} {x : α} (d : α) (h : l[i]? = some x) : l.getD i d = x := by
  rw [List.getD_eq_getElem?_getD, h]
  rfl
/-! ### heads with tables -/
def obsX (n : Nat) (fa : List He.Fa) (fn : List He.DefD) (ex : PySem.W.Frag → List Bool) (g : Addr → Option Obj) : He.AlD :=
  ((He.obsD fa fn (He.frG g (He.asD g n))).1 && (ex (He.frG g (He.asD g n))).all id, (He.obsD fa fn (He.frG g (He.asD g n))).2)
def hookX (n : Nat) (fa : List He.Fa) (fn : List He.DefD) (ex : PySem.W.Frag → List Bool) : PySem.W.Hook where
  α := He.AlD
  obs s := obsX n fa fn ex s.heap.get?
  val _ := He.valD fn
  says _ h := ∃ K : PySem.W.Frag, K.In h ∧ He.SaysD fa fn K ∧ (ex K).all id = true
  of _ _ e := by
    have e1 := congrArg (fun z : He.AlD => z.1) e
    have e2 := congrArg (fun z : He.AlD => z.2) e
    obtain ⟨a, b⟩ := Bool.and_eq_true_iff.mp e1
    exact ⟨_, He.frG_in, Prod.ext a e2, b⟩
  keeps _ _ _ c k := let ⟨K, hK, c1, c2⟩ := c; ⟨K, PySem.W.Frag.In.keeps hK k, c1, c2⟩
theorem obsX_eq {n : Nat} {fa : List He.Fa} {fn : List He.DefD} {ex : PySem.W.Frag → List Bool} {g : Addr → Option Obj} {s : Shared} (h : ∀ a, g a = s.heap.get? a) : obsX n fa fn ex g = (hookX n fa fn ex).obs s := by
  obtain rfl : g = s.heap.get? := funext h
  rfl
theorem exAt {l : List Bool} (h : l.all id = true) (i : Nat) {b : Bool} (e : l[i]? = some b) : b = true := List.all_eq_true.mp h b (List.mem_of_getElem? e)
end TK
namespace TK
open PySem PySem.Spec PyProof.Rows L2 SX
/-! ### rules that name the written part, for use within a comprehension -/
section
variable {X : Cx}
theorem inSeqK (K : PySem.W.Frag) (e : X.K = K) : OpR X (compareOp .In) (rIn K false) := by
  subst e
  exact op_in_seq
theorem notInSeqK (K : PySem.W.Frag) (e : X.K = K) : OpR X (compareOp .NotIn) (rIn K true) := by
  subst e
  exact op_notIn_seq
theorem ixListK (K : PySem.W.Frag) (e : X.K = K) : IxR X (rIxL K) := by
  subst e
  exact ix_list
theorem ixTupK (K : PySem.W.Frag) (e : X.K = K) : IxR X (rIxT K) := by
  subst e
  exact ix_tup
theorem isiK (K : PySem.W.Frag) (e : X.K = K) : CallR X (.builtin "isinstance") (rIsi K) := by
  subst e
  exact call_isi
end
end TK
set_option maxHeartbeats 4000000
namespace TK
open PySem PySem.Spec PyProof.Rows L2 SX
theorem same_upd2 {H H' : Hp} {D : Addr} {o : HO} (s : Same H H') (hD : H D = none) : Same H (upd H' D o) := fun b u e => by
  rw [upd_ne (ne_of_none e hD)]
  exact s b u e
theorem joinL_len (y : List Nat) : ∀ l : List (List Nat), (TL.joinL y l).length ≤ (l.map (·.length)).sum + l.length * y.length
  | [] => by simp [TL.joinL]
  | [p] => by simp [TL.joinL]
  | p :: q :: r => by
    have ih := joinL_len y (q :: r)
    show (p ++ (y ++ TL.joinL y (q :: r))).length ≤ _
    rw [List.length_append, List.length_append, List.map_cons, List.sum_cons, List.length_cons (a := p), Nat.succ_mul]
    omega
theorem join_len (y : Str) (ys : List Str) : (Txt.join y ys).length ≤ (ys.map (·.length)).sum + ys.length * y.length := by
  rw [show Txt.join y ys = Str.join y ys from TL.join_eq y ys, len_eq, TL.tl_join]
  have q := joinL_len (TL.tl y) (ys.map TL.tl)
  rw [List.length_map, List.map_map] at q
  have e : (ys.map (fun x : Str => x.length)) = ys.map ((fun x : List Nat => x.length) ∘ TL.tl) := List.map_congr_left fun x _ => len_eq x
  rw [e, len_eq y]
  exact q
theorem sum_le {m : Nat} : ∀ {ys : List Str}, (∀ z ∈ ys, z.length ≤ m) → (ys.map (·.length)).sum ≤ ys.length * m
  | [], _ => Nat.zero_le _
  | a :: r, h => by
    have ih := sum_le (ys := r) fun z hz => h z (List.mem_cons_of_mem _ hz)
    have h1 := h a (List.mem_cons_self ..)
    rw [List.map_cons, List.sum_cons, List.length_cons, Nat.succ_mul]
    omega
theorem nodup_inr : ∀ ys : List Str, (ys.map (Sum.inr : Str → Key)).Nodup ↔ ys.Nodup
  | [] => by simp
  | a :: r => by
    rw [List.map_cons, List.nodup_cons, List.nodup_cons, nodup_inr r, List.mem_map]
    constructor
    · intro q
      exact ⟨fun m => q.1 ⟨a, m, rfl⟩, q.2⟩
    · intro q
      exact ⟨fun ⟨b, m, e⟩ => q.1 (Sum.inr.inj e ▸ m), q.2⟩
theorem key_strs (ys : List Str) : (ys.map (Sum.inr : Str → Key)).map kV = ys.map V.str := by
  rw [List.map_map]
  rfl
/-- the parts of a text are no longer than the text -/
theorem part_len {z y p : Str} (h : p ∈ Txt.split z y) : p.length ≤ z.length := by
  have j := StrLaws.join_split z y
  have sub : ∀ (l : List (List Nat)) (s : List Nat), ∀ x ∈ l, x.length ≤ (TL.joinL s l).length := by
    intro l s
    induction l with
    | nil => exact fun x hx => nomatch hx
    | cons a r ih =>
      intro x hx
      cases r with
      | nil =>
        rw [List.mem_singleton.mp hx]
        exact Nat.le_refl _
      | cons b r =>
        show x.length ≤ (a ++ (s ++ TL.joinL s (b :: r))).length
        rw [List.length_append, List.length_append]
        rcases List.mem_cons.mp hx with q | q
        · rw [q]
          omega
        · have := ih x q
          omega
  have q := sub ((Txt.split z y).map TL.tl) (TL.tl y) (TL.tl p) (List.mem_map.mpr ⟨p, h, rfl⟩)
  rw [← TL.tl_join, j] at q
  rw [len_eq, len_eq]
  exact q
end TK
namespace TK
open PySem PySem.Spec PyProof.Rows L2 SX
/-! ### a word between an expression and what follows -/
def tCutE (t : TE) : TE := fun σ H Q => ∃ Mid : VK, t σ H Mid ∧ ∀ v H', Mid v H' → Q v H'
def tCutT (t : TT) : TT := fun σ H Q => ∃ Mid : Bool → Hp → Prop, t σ H Mid ∧ ∀ b H', Mid b H' → Q b H'
section
variable {X : Cx} {e : Expr}
theorem pe_cut {t : TE} (h : PE X e t) : PE X e (tCutE t) := ⟨fun pins s σ H _ I ⟨Mid, hm, hq⟩ => thn (h.run pins s σ H Mid I hm) fun _ _ ⟨v, H', I', r, q⟩ => ⟨v, H', I', r, hq v H' q⟩⟩
theorem pt_cut {t : TT} (h : PT X e t) : PT X e (tCutT t) := ⟨fun pins s σ H _ I ⟨Mid, hm, hq⟩ => thn (h.run pins s σ H Mid I hm) fun b _ ⟨H', I', q⟩ => ⟨H', I', hq b H' q⟩⟩
end
end TK
set_option maxHeartbeats 4000000
/-! set(xs) of a list of ints and texts, of any length below the model's bound: mine. -/
namespace TKS
open PySem PySem.Spec PyProof.Rows L2 SX TK
def inK (l : List Key) (x : Key) : Bool := l.any fun y => decide (y = x)
def addK (l : List Key) (x : Key) : List Key := if inK l x = true then l else l ++ [x]
/-- the keys met so far, each once -/
def metK (kk : Nat → Key) : Nat → List Key
  | 0 => []
  | i + 1 => addK (metK kk i) (kk i)
theorem inK_iff {l : List Key} {x : Key} : inK l x = true ↔ x ∈ l := by
  unfold inK
  rw [List.any_eq_true]
  exact ⟨fun ⟨y, h, e⟩ => of_decide_eq_true e ▸ h, fun h => ⟨x, h, decide_eq_true rfl⟩⟩
theorem addK_len (l : List Key) (x : Key) : (addK l x).length = if inK l x = true then l.length else l.length + 1 := by
  unfold addK
  split
  · rfl
  · rw [List.length_append, List.length_singleton]
theorem metK_len (kk : Nat → Key) : ∀ i, (metK kk i).length ≤ i
  | 0 => Nat.le_refl 0
  | i + 1 => by
    have ih := metK_len kk i
    show (addK (metK kk i) (kk i)).length ≤ i + 1
    rw [addK_len]
    split <;> omega
theorem addK_in (l : List Key) (x y : Key) : inK (addK l x) y = (inK l y || decide (y = x)) := by
  unfold addK
  by_cases h : inK l x = true
  · rw [if_pos h]
    by_cases e : y = x
    · rw [e, h]
      rfl
    · rw [decide_eq_false e, Bool.or_false]
  · rw [if_neg h]
    show (l ++ [x]).any (fun z => decide (z = y)) = _
    rw [List.any_append]
    have e2 : [x].any (fun z => decide (z = y)) = decide (y = x) := by
      by_cases e : y = x
      · rw [e]
        simp
      · rw [decide_eq_false e]
        simp
        exact fun z => e z.symm
    rw [e2]
    rfl
theorem setOf_as {P : Program} {w : World} {h : Heap} {a : Addr} {S S' : Key → Bool} {n n' : Nat} (q : h.SetOf (mixKind P w) a S n) (e : ∀ k, S k = S' k) (en : n = n') : h.SetOf (mixKind P w) a S' n' := by
  obtain rfl : S = S' := funext e
  exact en ▸ q
section
variable {P : Program} {w : World} {A : Around} {R : Result → Shared → Prop} {it : Addr} {fp wr : List Addr} {G : Array GenState → Array GenState → Prop} {n : Nat} {Y : Nat → Value → Prop} {Z : Nat → Shared → Prop}
theorem set_loop (W : WalksS P w A.in1 it fp wr G n Y Z) (D : Addr) (nf : D ∉ fp) (kk : Nat → Key) (hv : ∀ i v, Y i v → RelV (kV (kk i)) v) (room : n + 1 < scanBound) : ∀ (m i : Nat) (s : Shared), n - i = m → i ≤ n → Z i s → s.heap.SetOf (mixKind P w) D (inK (metK kk i)) (metK kk i).length →
    (∀ s2, Moved (D :: wr) G s s2 → s2.heap.SetOf (mixKind P w) D (inK (metK kk n)) (metK kk n).length → R (.ok (.ret .none)) s2) → codeAny (model P w) A (.builtin "set.update.loop" ⟨[.ref D, .ref it], []⟩) R s := by
  have nw : D ∉ wr := fun q => nf (W.sub _ q)
  have more : ∀ b ∈ wr, b ∈ D :: wr := fun _ q => .tail _ q
  have stays : ∀ {s1 s2 : Shared} {S : Key → Bool} {c : Nat}, Moved wr G s1 s2 → s1.heap.SetOf (mixKind P w) D S c → s2.heap.SetOf (mixKind P w) D S c := fun mv q => setOf_at q fun o e => mv.heap D o nw e
  intro m
  induction m with
  | zero =>
    intro i s em hi z q k
    obtain rfl : i = n := by omega
    refine codeAny_builtin PyProof.Rows.F.entry_set_update_loop (?_ : wpAny _ _ _ _ _ _)
    rw [Around.under_plainId PyProof.Rows.F.plain_set_update_loop _] <;> exact wpAny_bind (W.done s _ _ z fun s2 mv => wpAny_pure (k s2 (mv.mono more) (stays mv q)))
  | succ m ih =>
    intro i s em hi z q k
    have lt : i < n := by omega
    refine codeAny_builtin PyProof.Rows.F.entry_set_update_loop (?_ : wpAny _ _ _ _ _ _)
    rw [Around.under_plainId PyProof.Rows.F.plain_set_update_loop _]
    refine wpAny_bind (W.item i s _ _ lt z fun v s2 y z2 mv => (?_ : wpAny _ A.in1 (holding [v] (setAdd D v) >>= _) _ _ s2))
    have rv := hv i v y
    have q2 := stays mv q
    have small := metK_len kk i
    refine wpAny_bind (wpAny_holding (?_ : wpAny _ A.in1 (setAdd D v) _ _ s2))
    unfold setAdd
    refine wpAny_holding (wpAny_bind ((mixKind P w).pyHash (k := kk i) (kV_is rv) (wpAny_setAddHashed_of (knd := mixKind P w) (s := { s2 with toks := s2.toks + 1 }) (kV_is rv) (key_scan rv) q2 (by omega) fun h3 but q3 => ?_)))
    have q4 : h3.SetOf (mixKind P w) D (inK (metK kk (i + 1))) (metK kk (i + 1)).length := setOf_as q3 (fun x => (addK_in (metK kk i) (kk i) x).symm) (addK_len (metK kk i) (kk i)).symm
    refine wpAny_pure ⟨plainId_quiet PyProof.Rows.F.plain_set_update_loop _, ih (i + 1) _ (by omega) lt (W.frame _ s2 _ _ z2 (Nat.le_succ _) fun b hb o e => (but.2 b fun z => nf (z ▸ hb)).trans e) q4 fun s5 mv5 q5 => k s5 ?_ q5⟩
    exact Moved.trans W.gtrans ((mv.mono more).then_heap (Nat.le_succ _) fun b o hb e => (but.2 b fun z => hb (z ▸ .head _)).trans e) mv5
/-- an empty set as the boot lays it -/
abbrev bare (b : Bool) : Obj := ⟨.type "set", none, .set #[] 0 (.fresh 0 0 b), #[]⟩
abbrev walker (l : Addr) : Obj := ⟨.type "list_iterator", none, .fields #[.ref l, .int 0 0], #[]⟩
theorem bare_of {h : Heap} {a : Addr} {b : Bool} (e : h.get? a = some (bare b)) : h.SetOf (mixKind P w) a (inK (metK (fun _ => .inl 0) 0)) 0 := by
  refine ⟨_, #[], 0, _, e, ⟨rfl, rfl, rfl⟩, rfl, ?_, ?_, ?_, ?_, ?_⟩
  · exact fun x hx => nomatch (show x ∈ ([] : List _) by simpa using hx)
  · exact fun k => ⟨fun q => (nomatch q), fun ⟨x, hx, _⟩ => nomatch (show x ∈ ([] : List _) by simpa using hx)⟩
  · decide
  · rfl
  · rfl
variable {E : Value → Shared → Prop} {s : Shared}
theorem vals_key {ks : List Key} : ∀ {us : List Value}, Vals (ks.map kV) us → ∀ (i : Nat) (v : Value), us[i]? = some v → RelV (kV (ks.getD i (.inl 0))) v := by
  induction ks with
  | nil =>
    intro us r i v h
    cases r
    cases h
  | cons k ks ih =>
    intro us r i v h
    cases r with
    | cons r1 r2 =>
      cases i with
      | zero =>
        cases h
        exact r1
      | succ i => exact ih r2 i v h
/-- set(xs) -/
theorem call_set_keys {l : Addr} {items : Array Value} {ks : List Key} {Q : Value → Shared → Prop} (calm : A.handled = none) (hl : s.heap.IsList l items) (rv : Vals (ks.map kV) items.toList) (room : items.size + 1 < scanBound)
    (k : ∀ (h2 : Heap) (tk : Nat), h2.SetOf (mixKind P w) s.heap.objs.size (inK (metK (fun i => ks.getD i (.inl 0)) items.size)) (metK (fun i => ks.getD i (.inl 0)) items.size).length → (∀ c o, c < s.heap.objs.size → s.heap.get? c = some o → h2.get? c = some o) → Q (.ref s.heap.objs.size) { s with heap := h2, toks := tk }) :
    wpAny (model P w) A (call (.type "set") [.ref l]) Q E s := by
  have cs := PySem.F.called_set
  obtain ⟨c, tl, y1⟩ := cs.mro
  have y2 := cs.made
  have y3 := cs.sub
  have y4 := cs.notType
  have y5 := cs.canCreate
  have y6 := PySem.F.typeCall_set_1 (.ref l)
  refine wpAny_call (codeAny_of_tree (?_ : wpAny _ _ (callAny (.type "set") _) _ _ _))
  refine wpAny_pure ⟨Code.quiet_builtin _ (by decide +kernel), codeAny_builtin PySem.F.entry_type_call ?_⟩
  rw [Around.under_plain (weight_type_call_type "set" [.ref l] []) rfl]
  repeat (any_goals (first | assumption | wp_step))
  refine codeAny_mono (code_set_new_1 (.ref l) (E := E) (Q₁ := fun v t => ∃ b : Bool, v = .ref s.heap.objs.size ∧ t = { s with heap := s.heap.push (bare b) }) fun b => ⟨b, rfl, rfl⟩) fun r t hr => ?_
  match r, hr with
  | .error e, hr => exact hr
  | .ok (.ret obj), hr =>
    obtain ⟨b, rfl, rfl⟩ := hr
    have g1 : (s.heap.push (bare b)).get? s.heap.objs.size = some (bare b) := Heap.get?_push_size _ rfl
    have g2 : Shared.TypeIs { s with heap := s.heap.push (bare b) } (.ref s.heap.objs.size) "set" := ⟨_, g1, rfl⟩
    have g3 := cs.init.lookup
    have g4 := cs.init.bind (.ref s.heap.objs.size)
    repeat (any_goals (first | assumption | wp_step))
    refine codeAny_mono (codeAny_call_builtin (R := wants (fun v t => v = .none ∧ ∃ h2 tk, t = { s with heap := h2, toks := tk } ∧ h2.SetOf (mixKind P w) s.heap.objs.size (inK (metK (fun i => ks.getD i (.inl 0)) items.size)) (metK (fun i => ks.getD i (.inl 0)) items.size).length ∧
      ∀ c o, c < s.heap.objs.size → s.heap.get? c = some o → h2.get? c = some o) E) cs.init.plain PySem.F.entry_set_init (check_set_init_1 g2 ?_)) fun r2 t2 hr2 => ?_
    · have hl1 : (s.heap.push (bare b)).IsList l items := hl.push _
      obtain ⟨ob, lo, lc, ln, ld⟩ := id hl
      have lt : l < s.heap.objs.size := Heap.lt_size lo
      have n1 : l ≠ (s.heap.push (bare b)).objs.size := by
        rw [Heap.size_push]
        exact Nat.ne_of_lt (.step lt)
      have n2 : s.heap.objs.size ∉ [(s.heap.push (bare b)).objs.size, l] := by
        rw [Heap.size_push]
        intro q
        rcases List.mem_cons.mp q with q | q
        · exact absurd q (Nat.ne_of_lt (Nat.lt_succ_self _))
        · rw [List.mem_singleton.mp q] at lt
          exact Nat.lt_irrefl _ lt
      obtain ⟨q1, q2, q3, q4⟩ := ob
      obtain rfl : q1 = .type "list" := lc
      obtain rfl : q3 = .seq items ln := ld
      have lo1 : (s.heap.push (bare b)).get? l = some ⟨.type "list", q2, .seq items ln, q4⟩ := Heap.get?_push_of_some _ lo
      have z1 := PySem.F.sub_list_set
      have z2 := PySem.F.sub_list_frozenset
      have z3 : (Value.type "list" == Value.type "dict") = false := by decide
      unfold Builtin.«set.__init__» noKeywords Builtin.Frozenset.updateFrom
      generalize hI : pyIter = I
      wp_walk
      subst hI
      refine wpAny_pyIter_list hl1 (wpAny_bind (wpAny_runValue ?_))
      have calm3 : A.in1.in1.in1.handled = none := by simp [calm]
      refine set_loop ((Walks.list calm3 _ l n1 items).toS) s.heap.objs.size n2 (fun i => ks.getD i (.inl 0)) (fun i v e => vals_key rv i v (by rw [Array.getElem?_toList]; exact e)) room items.size 0 _ (Nat.sub_zero _) (Nat.zero_le _) ⟨⟨_, Heap.get?_push_size _ rfl, rfl, rfl⟩, hl1.push _⟩ (bare_of (b := b) (Heap.get?_push_of_some _ g1)) fun t mv q => ?_
      obtain ⟨h2, t2, t3, tk, t5⟩ := t
      obtain rfl : t2 = s.gens := mv.gens
      obtain rfl : t3 = s.drawn := mv.drawn
      obtain rfl : t5 = s.os := mv.os
      refine wpAny_pure (wpAny_pure ⟨rfl, h2, tk, rfl, q, fun c o lc e => ?_⟩)
      refine mv.heap c o (fun m => ?_) (Heap.get?_push_of_some _ (Heap.get?_push_of_some _ e))
      rcases List.mem_cons.mp m with m | m
      · exact Nat.lt_irrefl _ (m ▸ lc)
      · have m2 := List.mem_singleton.mp m
        rw [Heap.size_push] at m2
        exact Nat.lt_irrefl _ (Nat.lt_trans (m2 ▸ lc) (Nat.lt_succ_self _))
    · match r2, hr2 with
      | .error e, hr2 => exact hr2
      | .ok (.ret v), hr2 =>
        obtain ⟨rfl, h2, tk, rfl, q1, q2⟩ := hr2
        repeat (any_goals (first | assumption | wp_step))
        exact k _ _ q1 q2
      | .ok .next, hr2 => exact hr2.elim
      | .ok .brk, hr2 => exact hr2.elim
      | .ok .cont, hr2 => exact hr2.elim
  | .ok .next, hr => exact hr.elim
  | .ok .brk, hr => exact hr.elim
  | .ok .cont, hr => exact hr.elim
end
/-! ### len(set(xs)) -/
section
variable {X : Cx} {p p2 q pos : Pos}
def tLenSetK (K : PySem.W.Frag) (ta : TE) : TE := fun σ H Q => ta σ H fun x H1 => ∃ (l : Addr) (ks : List Key), x = .ref l ∧ SqL K H1 l (ks.map kV) ∧ ks.length ≤ 4000 ∧ Q (.int ((metK (fun i => ks.getD i (.inl 0)) ks.length).length : Nat)) H1
theorem pe_lenSetK {a : Expr} {ta : TE} (ha : PE X a ta) (hm : X.mg "len" = none) (hm2 : X.mg "set" = none) (hg : Gl X "len" := by rfl) (hg2 : Gl X "set" := by rfl) (hc : X.calm = true := by rfl)
    (na : starEach [a] X.env = (false, eval a X.env) :: starEach [] X.env := by rfl) : PE X (.Call (.Name "len" p) [.Call (.Name "set" p2) [a] [] q] [] pos) (tLenSetK X.K ta) := by
  refine ⟨fun pins s σ H Q I h => Call_ (ld_blt I hg hm boot_len (PyProof.Rows.callWith_builtin1 (PyProof.Rows.args_cons (Call_ (ld_blt I hg2 hm2 boot_set ?_)) rfl) rfl rfl))⟩
  refine PyProof.Rows.callWith_type1 (PyProof.Rows.args_cons (thn (ha.run pins s σ H _ I h) fun v t ⟨x, H1, I1, rx, l, ks, ex, sq, small, z⟩ => PyProof.Rows.args_nil ?_) na) na rfl
  subst ex
  cases rx
  obtain ⟨its, r, pl, _⟩ := I1.list sq
  have n : its.toArray.size = ks.length := by
    rw [List.size_toArray, ← r.length, List.length_map]
  have lim : (4000 : Nat) + 1 < scanBound := by decide
  refine call_set_keys (ks := ks) (I1.ok.hd hc) pl.isList (by simpa using r) (by omega) fun h2 tk so kp => PyProof.Rows.args_nil ?_
  rw [n] at so
  have le := metK_len (fun i => ks.getD i (.inl 0)) ks.length
  have I2 : Inv X pins σ H1 { t with heap := h2, toks := tk } := I1.kept fun b o e => kp b o (Heap.lt_size e) e
  obtain ⟨o, es, ep, tb, ho, ex, hd, _, _, _, hf, hn⟩ := so
  exact call_len_set ho ex hd hf (by rw [hn]; omega) ⟨.int (metK (fun i => ks.getD i (.inl 0)) ks.length).length, H1, I2.tok _, ⟨_, by rw [hn]⟩, z⟩
end
/-- as many as there are, just if none is there twice -/
theorem met_nodup (ks : List Key) : ∀ i, i ≤ ks.length → (∀ x, x ∈ metK (fun i => ks.getD i (.inl 0)) i ↔ x ∈ ks.take i) ∧ ((metK (fun i => ks.getD i (.inl 0)) i).length = i ↔ (ks.take i).Nodup)
  | 0, _ => ⟨fun x => by simp [metK], by simp [metK]⟩
  | i + 1, hi => by
    obtain ⟨a, b⟩ := met_nodup ks i (by omega)
    have e : ks.getD i (.inl 0) = ks[i] := by
      rw [List.getD_eq_getElem?_getD, List.getElem?_eq_getElem (by omega)]
      rfl
    have t : ks.take (i + 1) = ks.take i ++ [ks[i]] := by
      rw [List.take_add_one, List.getElem?_eq_getElem (by omega)]
      rfl
    have le := metK_len (fun i => ks.getD i (.inl 0)) i
    show (∀ x, x ∈ addK _ (ks.getD i (.inl 0)) ↔ _) ∧ ((addK _ (ks.getD i (.inl 0))).length = i + 1 ↔ _)
    rw [e, t]
    refine ⟨fun x => ?_, ?_⟩
    · rw [← inK_iff, addK_in, Bool.or_eq_true, inK_iff, decide_eq_true_eq, a, List.mem_append, List.mem_singleton]
    · rw [addK_len, List.nodup_append]
      by_cases h : inK (metK (fun i => ks.getD i (.inl 0)) i) ks[i] = true
      · rw [if_pos h]
        rw [inK_iff, a] at h
        constructor
        · intro q
          omega
        · intro q
          exact absurd rfl (q.2.2 _ h _ (List.mem_singleton.mpr rfl))
      · rw [if_neg h]
        rw [inK_iff, a] at h
        constructor
        · intro q
          refine ⟨b.mp (by omega), by simp, fun x hx y hy => ?_⟩
          rw [List.mem_singleton.mp hy]
          exact fun z => h (z ▸ hx)
        · intro q
          rw [b.mpr q.1]
theorem met_all (ks : List Key) : (metK (fun i => ks.getD i (.inl 0)) ks.length).length = ks.length ↔ ks.Nodup := by
  have q := (met_nodup ks ks.length (Nat.le_refl _)).2
  rw [List.take_length] at q
  exact q
end TKS
set_option maxHeartbeats 4000000
namespace K2
open PySem PySem.Spec PyProof.Rows L2 SX TK TKS
open C8 (pe_c)
def top (i : Nat) : Stmt := PySem.Challenge.pw_trunkland_k02_offers.main.body.getD i (.Pass ⟨0, 0, 0, 0⟩)
abbrev s_is_name : Stmt := top 6
abbrev s_read_number : Stmt := top 7
abbrev s_consists_of : Stmt := top 8
abbrev s_read_offer : Stmt := top 13
abbrev s_write_offer : Stmt := top 14
abbrev s_answer : Stmt := top 15
abbrev s_held : Stmt := top 16
abbrev s_flows : Stmt := top 17
abbrev s_read_formats : Stmt := top 18
abbrev s_sends : Stmt := top 19
abbrev s_takes : Stmt := top 20
abbrev s_mode : Stmt := top 21
abbrev s_law_state : Stmt := top 23
abbrev s_law_draw : Stmt := top 24
abbrev s_law_pick : Stmt := top 25
abbrev s_law_offer : Stmt := top 26
abbrev s_law_sends : Stmt := top 27
abbrev s_law_takes : Stmt := top 28
abbrev s_law_mode : Stmt := top 29
abbrev s_law_answer : Stmt := top 30
abbrev s_law_wrong_words : Stmt := top 31
abbrev s_law : Stmt := top 32
theorem sc_is_name : FnScope ["word"] ["word"] (defScope s_is_name) := ⟨rfl, rfl, rfl, by decide +kernel, rfl, by decide +kernel, by decide +kernel⟩
theorem sc_read_number : FnScope ["word", "most", "number"] ["word", "most"] (defScope s_read_number) := ⟨rfl, rfl, rfl, by decide +kernel, rfl, by decide +kernel, by decide +kernel⟩
theorem sc_consists_of : FnScope ["word", "marks", "longest", "mark"] ["word", "marks", "longest"] (defScope s_consists_of) := ⟨rfl, rfl, rfl, by decide +kernel, rfl, by decide +kernel, by decide +kernel⟩
theorem sc_read_offer : FnScope ["words", "port", "mode", "formats"] ["words"] (defScope s_read_offer) := ⟨rfl, rfl, rfl, by decide +kernel, rfl, by decide +kernel, by decide +kernel⟩
theorem sc_write_offer : FnScope ["offer", "port", "mode", "formats"] ["offer"] (defScope s_write_offer) := ⟨rfl, rfl, rfl, by decide +kernel, rfl, by decide +kernel, by decide +kernel⟩
theorem sc_answer : FnScope ["able", "offer", "port", "_", "own_formats", "formats", "sends", "takes", "name"] ["able", "offer"] (defScope s_answer) := ⟨rfl, rfl, rfl, by decide +kernel, rfl, by decide +kernel, by decide +kernel⟩
theorem sc_held : FnScope ["offer", "port", "_", "formats"] ["offer"] (defScope s_held) := ⟨rfl, rfl, rfl, by decide +kernel, rfl, by decide +kernel, by decide +kernel⟩
theorem sc_flows : FnScope ["offer", "answered", "there", "back"] ["offer", "answered"] (defScope s_flows) := ⟨rfl, rfl, rfl, by decide +kernel, rfl, by decide +kernel, by decide +kernel⟩
theorem sc_read_formats : FnScope ["word", "names", "name"] ["word"] (defScope s_read_formats) := ⟨rfl, rfl, rfl, by decide +kernel, rfl, by decide +kernel, by decide +kernel⟩
theorem sc_sends : FnScope ["offer"] ["offer"] (defScope s_sends) := ⟨rfl, rfl, rfl, by decide +kernel, rfl, by decide +kernel, by decide +kernel⟩
theorem sc_takes : FnScope ["offer"] ["offer"] (defScope s_takes) := ⟨rfl, rfl, rfl, by decide +kernel, rfl, by decide +kernel, by decide +kernel⟩
theorem sc_mode : FnScope ["sends", "takes"] ["sends", "takes"] (defScope s_mode) := ⟨rfl, rfl, rfl, by decide +kernel, rfl, by decide +kernel, by decide +kernel⟩
theorem sc_law_state : FnScope ["script", "seed", "cell"] ["script"] (defScope s_law_state) := ⟨rfl, rfl, rfl, by decide +kernel, rfl, by decide +kernel, by decide +kernel⟩
theorem sc_law_draw : FnScope ["state", "many", "cells", "value", "mixed"] ["state", "many"] (defScope s_law_draw) := ⟨rfl, rfl, rfl, by decide +kernel, rfl, by decide +kernel, by decide +kernel⟩
theorem sc_law_pick : FnScope ["state", "row"] ["state", "row"] (defScope s_law_pick) := ⟨rfl, rfl, rfl, by decide +kernel, rfl, by decide +kernel, by decide +kernel⟩
theorem sc_law_offer : FnScope ["state", "names", "formats", "k", "name", "port"] ["state"] (defScope s_law_offer) := ⟨rfl, rfl, rfl, by decide +kernel, rfl, by decide +kernel, by decide +kernel⟩
theorem sc_law_sends : FnScope ["mode"] ["mode"] (defScope s_law_sends) := ⟨rfl, rfl, rfl, by decide +kernel, rfl, by decide +kernel, by decide +kernel⟩
theorem sc_law_takes : FnScope ["mode"] ["mode"] (defScope s_law_takes) := ⟨rfl, rfl, rfl, by decide +kernel, rfl, by decide +kernel, by decide +kernel⟩
theorem sc_law_mode : FnScope ["sends", "takes"] ["sends", "takes"] (defScope s_law_mode) := ⟨rfl, rfl, rfl, by decide +kernel, rfl, by decide +kernel, by decide +kernel⟩
theorem sc_law_answer : FnScope ["able", "offer", "common", "sends", "name"] ["able", "offer"] (defScope s_law_answer) := ⟨rfl, rfl, rfl, by decide +kernel, rfl, by decide +kernel, by decide +kernel⟩
theorem sc_law_wrong_words : FnScope ["state", "offer", "words", "kind"] ["state", "offer"] (defScope s_law_wrong_words) := ⟨rfl, rfl, rfl, by decide +kernel, rfl, by decide +kernel, by decide +kernel⟩
theorem sc_law : FnScope ["script", "state", "k", "able", "offer", "due", "told", "both", "words", "one"] ["script"] (defScope s_law) := ⟨rfl, rfl, rfl, by decide +kernel, rfl, by decide +kernel, by decide +kernel⟩
structure Tx (K : PySem.W.Frag) (mg : Str → Option Value) : Prop where
  g_DIGITS : ∃ t, mg "DIGITS" = some (.str "0123456789" t)
  g_GREATEST_PORT : ∃ t, mg "GREATEST_PORT" = some (.int 65535 t)
  g_LONGEST_NUMBER : ∃ t, mg "LONGEST_NUMBER" = some (.int 9 t)
  g_LONGEST_WORD : ∃ t, mg "LONGEST_WORD" = some (.int 16 t)
  g_MODES : mg "MODES" = some (.ref (He.ga K "MODES"))
  v_MODES : ∀ H : Hp, SqT K H (He.ga K "MODES") [.str "both", .str "send", .str "take", .str "none"]
  g_MOST_FORMATS : ∃ t, mg "MOST_FORMATS" = some (.int 6 t)
  g_NAME_MARKS : ∃ t, mg "NAME_MARKS" = some (.str "abcdefghijklmnopqrstuvwxyz0123456789" t)
  g_SMALL_LETTERS : ∃ t, mg "SMALL_LETTERS" = some (.str "abcdefghijklmnopqrstuvwxyz" t)
  f_abs : mg "abs" = none
  f_all : mg "all" = none
  f_bool : mg "bool" = none
  f_int : mg "int" = none
  f_isinstance : mg "isinstance" = none
  f_len : mg "len" = none
  f_range : mg "range" = none
  f_set : mg "set" = none
  f_str : mg "str" = none
  f_tuple : mg "tuple" = none
/-! ### what the program's defs answer -/
def consL (l m : List Nat) (n : Int) : Bool := (decide ((1 : Int) ≤ (l.length : Int)) && decide ((l.length : Int) ≤ n)) && l.all fun c => decide (c ∈ m)
def consB (z m : Str) (n : Int) : Bool := consL (TL.tl z) (TL.tl m) n
theorem consB_len {z m : Str} {n : Int} (h : consB z m n = true) : 0 < (TL.tl z).length ∧ ((TL.tl z).length : Int) ≤ n ∧ ∀ c ∈ TL.tl z, c ∈ TL.tl m := by
  unfold consB consL at h
  rw [Bool.and_eq_true, Bool.and_eq_true, decide_eq_true_eq, decide_eq_true_eq] at h
  refine ⟨by omega, h.1.2, fun c hc => ?_⟩
  exact of_decide_eq_true (List.all_eq_true.mp h.2 c hc)
def spCons : Sp := fun vs H Q _ => ∃ (z m : Str) (n : Int), vs = [.str z, .str m, .int n] ∧ z.length ≤ 1000 ∧ ∀ H', Same H H' → Q (.bl (consB z m n)) H'
theorem ok_consists_of {P : Program} {w : World} {K : PySem.W.Frag} {mg : Str → Option Value} {base : Heap} {f : Addr} {fd : FuncData} (T : Tx K mg) 
    (F : FunD K "_consists_of" "_consists_of" (defArgs s_consists_of) (defBody s_consists_of) (defScope s_consists_of) [] [] f fd) : FnOk P w K mg base CX0 1 f fd ["word", "marks", "longest"] spCons := by
  refine F.ok sc_consists_of (fun vs H Q E h => ?_) (fun cdv A outer s H vs Q E hr h => ?_)
  · obtain ⟨z, m, n, rfl, _⟩ := h
    rfl
  · obtain ⟨z, m, n, rfl, hz, k⟩ := h
    have hz2 : z.length ≤ sizeLine := Nat.le_trans hz (by decide)
    have eB : consB z m n = ((decide ((1 : Int) ≤ (z.length : Int)) && decide ((z.length : Int) ≤ n)) && (TL.tl z).all fun c => decide (c ∈ TL.tl m)) := by
      unfold consB consL
      rw [len_eq]
    refine ⟨_, PSs.nox (pss_one (ps_ret (pe_and (pe_chain op_le op_le pe_int (pe_callB call_len_str rfl T.f_len PySem.boot_len (pa_cons (pv 0) pa_nil)) (pv 2)) (pe_one (pe_callB (cr_all rfl) rfl T.f_all (by decide +kernel) (pa_cons (pe_lc (own := [("mark", 3)]) (g := gName 3) rfl sc_consists_of.nd (pi_str (pv 0)) (blkOk_by (own := [("mark", 3)]) (N := ["word", "marks", "longest", "mark"]) (sc := defScope s_consists_of) (by decide +kernel)) (fun _ _ _ _ _ => pg_name (i := 3) sc_consists_of.nd rfl (Or.inl rfl)) (fun _ _ _ _ _ => pts_nil) (fun _ _ _ _ _ => (pe_cmpR op_in_sign (pv 3) (pv 1) (by with_unfolding_all rfl)))) pa_nil)))))), ?_⟩
    refine ⟨_, rfl, _, rfl, hz2, _, _, rfl, rfl, _, rfl, ?_⟩
    refine ite2 (fun h1 => ?_) (fun h1 => ?_)
    · refine ⟨_, rfl, _, _, rfl, rfl, _, rfl, ?_⟩
      refine ite2 (fun h2 => ?_) (fun h2 => ?_)
      · refine ⟨_, rfl, _, rfl, fun D hD => ?_⟩
        have hn : z.cps.size ≤ sizeLine := by
          rw [size_tl, ← len_eq]
          exact hz2
        refine lc_pureN walk_str (fun i => V.bl (decide ((TL.tl z).getD i 0 ∈ TL.tl m))) hn (fun _ _ => trivial) (fun i x H' kk hi y q => ?_) ?_
        · obtain ⟨rfl, c, hc, rfl⟩ := y
          refine ⟨rfl, _, rfl, _, rfl, _, _, rfl, rfl, ?_⟩
          have e : (TL.tl z).getD i 0 = c := by
            have h5 : (TL.tl z)[i]? = some c := by
              show z.cps.toList[i]? = some c
              rw [Array.getElem?_toList]
              exact hc
            rw [List.getD_eq_getElem?_getD, h5]
            rfl
          rw [← e]
          exact q
        · refine ⟨D, (TL.tl z).map fun c => decide (c ∈ TL.tl m), rfl, SqL.of ?_, ?_⟩
          · rw [upd_same, size_tl, List.map_map]
            exact congrArg (fun l => some (HO.lst l)) (range_map_getD (TL.tl z) 0 fun c => V.bl (decide (c ∈ TL.tl m)))
          · have e : (List.map (fun c => decide (c ∈ TL.tl m)) (TL.tl z)).all id = consB z m n := by
              rw [eB, h1, h2, List.all_map]
              rfl
            rw [e]
            exact k _ (same_upd hD)
      · have e : consB z m n = false := by
          rw [eB, ef h2, Bool.and_false, Bool.false_and]
        have q := k H (Same.refl H)
        rw [e] at q
        exact q
    · have e : consB z m n = false := by
        rw [eB, ef h1, Bool.false_and, Bool.false_and]
      refine ⟨false, rfl, iteF ?_⟩
      have q := k H (Same.refl H)
      rw [e] at q
      exact q

/-! ### names, tags -/
abbrev zSM : Str := "abcdefghijklmnopqrstuvwxyz"
abbrev zNM : Str := "abcdefghijklmnopqrstuvwxyz0123456789"
abbrev zTM : Str := "ABCDEFGHIJKLMNOPQRSTUVWXYZabcdefghijklmnopqrstuvwxyz0123456789"
abbrev zDG : Str := "0123456789"
def nameB (z : Str) : Bool := consB z zNM 16 && decide ((TL.tl z).getD 0 0 ∈ TL.tl zSM)
def spName : Sp := fun vs H Q _ => ∃ z : Str, vs = [.str z] ∧ z.length ≤ 1000 ∧ ∀ H', Same H H' → Q (.bl (nameB z)) H'
theorem ok_is_name {P : Program} {w : World} {K : PySem.W.Frag} {mg : Str → Option Value} {base : Heap} {f : Addr} {fd : FuncData} (T : Tx K mg) (c_consists_of : C8.Cal P w K mg base 1 "_consists_of" spCons [])
    (F : FunD K "is_name" "is_name" (defArgs s_is_name) (defBody s_is_name) (defScope s_is_name) [] [] f fd) : FnOk P w K mg base CX0 2 f fd ["word"] spName := by
  refine F.ok sc_is_name (fun vs H Q E h => ?_) (fun cdv A outer s H vs Q E hr h => ?_)
  · obtain ⟨z, rfl, _⟩ := h
    rfl
  · obtain ⟨z, rfl, hz, k⟩ := h
    have hz2 : z.length ≤ sizeLine := Nat.le_trans hz (by decide)
    refine ⟨_, PSs.nox (pss_one (ps_ret (pe_and (pe_c c_consists_of hr (by decide) rfl (pa_cons (pv 0) (pa_cons (pgS T.g_NAME_MARKS) (pa_cons (pgI T.g_LONGEST_WORD) pa_nil)))) (pe_one (pe_cmpR op_in_sign (pe_ix ix_str (pv 0) pe_int (fun _ _ => rfl)) (pgS T.g_SMALL_LETTERS) (by with_unfolding_all rfl)))))), ?_⟩
    refine ⟨_, rfl, z, zNM, 16, rfl, hz, fun H1 s1 => ⟨_, rfl, ?_⟩⟩
    refine ite2 (fun h1 => ?_) (fun h1 => ?_)
    · refine ⟨_, rfl, _, 0, _, rfl, rfl, hz2, at0 0 (consB_len h1).1, _, _, rfl, rfl, ?_⟩
      have e : decide ((TL.tl z).getD 0 0 ∈ TL.tl zSM) = nameB z := by
        unfold nameB
        rw [h1, Bool.true_and]
      have q := k H1 s1
      rw [← e] at q
      exact q
    · have e : nameB z = false := by
        unfold nameB
        rw [ef h1, Bool.false_and]
      have q := k H1 s1
      rw [e] at q
      exact q

/-! ### numbers -/
def numV (z : Str) (most : Int) : V :=
  if consB z zDG 9 = true then
    (if (decide (V.str (S [(TL.tl z).getD 0 0]) = V.str "0") && !decide (V.str z = V.str "0")) = true then .non
     else if ((NumText.digitsVal (TL.tl z) : Nat) : Int) ≤ most then .int (NumText.digitsVal (TL.tl z) : Nat) else .non)
  else .non
theorem digits_of {z : Str} (h : ∀ c ∈ TL.tl z, c ∈ TL.tl zDG) : ∀ c ∈ TL.tl z, 48 ≤ c ∧ c ≤ 57 := fun c hc => by
  have h1 := h c hc
  have h2 : ∀ c ∈ TL.tl zDG, 48 ≤ c ∧ c ≤ 57 := by decide +kernel
  exact h2 c h1
def spNum : Sp := fun vs H Q _ => ∃ (z : Str) (m : Int), vs = [.str z, .int m] ∧ z.length ≤ 1000 ∧ ∀ H', Same H H' → Q (numV z m) H'
theorem ok_read_number {P : Program} {w : World} {K : PySem.W.Frag} {mg : Str → Option Value} {base : Heap} {f : Addr} {fd : FuncData} (T : Tx K mg) (c_consists_of : C8.Cal P w K mg base 1 "_consists_of" spCons [])
    (F : FunD K "read_number" "read_number" (defArgs s_read_number) (defBody s_read_number) (defScope s_read_number) [] [] f fd) : FnOk P w K mg base CX0 2 f fd ["word", "most"] spNum := by
  refine F.ok sc_read_number (fun vs H Q E h => ?_) (fun cdv A outer s H vs Q E hr h => ?_)
  · obtain ⟨z, m, rfl, _⟩ := h
    rfl
  · obtain ⟨z, m, rfl, hz, k⟩ := h
    have hz2 : z.length ≤ sizeLine := Nat.le_trans hz (by decide)
    refine ⟨_, PSs.nox (C8.pss_cut (ps_if (pt_not (pt_val (pe_c c_consists_of hr (by decide) rfl (pa_cons (pv 0) (pa_cons (pgS T.g_DIGITS) (pa_cons (pgI T.g_LONGEST_NUMBER) pa_nil)))))) (pss_one (ps_ret pe_non)) pss_nil) (C8.pss_cut (ps_if (PW.pt (pw_and (pt_cmpR op_eq (pe_ix ix_str (pv 0) pe_int (fun _ _ => rfl)) pe_str (nomark _)) (pw_and1 (pt_cmpR op_ne (pv 0) pe_str (nomark _))))) (pss_one (ps_ret pe_non)) pss_nil) (pss_cons (ps_set (i := 2) sc_read_number.nd rfl (Or.inl rfl) (pe_callTy call_int_str rfl T.f_int (by decide +kernel) (pa_cons (pv 0) pa_nil))) (pss_one (ps_ret (pe_ifExp (pt_cmpR op_le (pv 2) (pv 1) (nomark _)) (pv 2) pe_non)))))), ?_⟩
    refine ⟨fun σ' H' => σ' = [some (.str z), some (.int m), none] ∧ Same H H' ∧ consB z zDG 9 = true, ?_, ?_⟩
    · refine ⟨_, rfl, z, zDG, 9, rfl, hz, fun H1 s1 => ⟨_, rfl, ?_⟩⟩
      have q := k H1 s1
      unfold numV at q
      by_cases h1 : consB z zDG 9 = true
      · rw [h1]
        exact iteF ⟨rfl, s1, rfl⟩
      · rw [if_neg h1] at q
        rw [ef h1]
        exact iteT q
    · rintro σ' H1 ⟨rfl, s1, h1⟩
      have q := k H1 s1
      unfold numV at q
      rw [if_pos h1] at q
      have hl := consB_len h1
      by_cases h2 : (decide (V.str (S [(TL.tl z).getD 0 0]) = V.str "0") && !decide (V.str z = V.str "0")) = true
      · rw [if_pos h2] at q
        rw [Bool.and_eq_true] at h2
        refine ⟨fun σ' H' => False, ?_, fun _ _ z => z.elim⟩
        refine ⟨_, rfl, _, 0, _, rfl, rfl, hz2, at0 0 hl.1, rfl, _, rfl, ?_⟩
        refine ite2 (fun _ => ?_) (fun h3 => absurd h2.1 h3)
        refine ⟨_, rfl, rfl, _, rfl, ?_⟩
        refine ite2 (fun _ => q) (fun h3 => absurd h2.2 h3)
      · rw [if_neg h2] at q
        refine ⟨fun σ' H' => σ' = [some (.str z), some (.int m), none] ∧ H' = H1, ?_, ?_⟩
        · refine ⟨_, rfl, _, 0, _, rfl, rfl, hz2, at0 0 hl.1, rfl, _, rfl, ?_⟩
          refine ite2 (fun h3 => ?_) (fun h3 => iteF ⟨rfl, rfl⟩)
          refine ⟨_, rfl, rfl, _, rfl, ?_⟩
          refine ite2 (fun h4 => absurd (Bool.and_eq_true_iff.mpr ⟨h3, h4⟩) h2) (fun _ => ⟨rfl, rfl⟩)
        · rintro σ' H' ⟨rfl, rfl⟩
          refine ⟨_, rfl, z, _, rfl, PySem.intText_digits (x := z) (digits_of hl.2.2) (List.length_pos_iff.mp hl.1) (by rw [len_eq]; omega), by rw [len_eq]; omega, ?_⟩
          refine ⟨_, rfl, _, rfl, _, _, rfl, rfl, _, rfl, ?_⟩
          by_cases h5 : ((NumText.digitsVal (TL.tl z) : Nat) : Int) ≤ m
          · rw [if_pos h5] at q
            rw [decide_eq_true h5]
            exact iteT ⟨_, rfl, q⟩
          · rw [if_neg h5] at q
            rw [decide_eq_false h5]
            exact iteF q

end K2
set_option maxHeartbeats 4000000
namespace K2
open PySem PySem.Spec PyProof.Rows L2 SX TK TKS
open C8 (pe_c)
/-! ### offers -/
structure Off where
  port : Int
  mode : Str
  fs : List Str
/-- an offer stands at x -/
def OffAt (H : Hp) (x : V) (o : Off) : Prop := ∃ p f, x = .ref p ∧ H p = some (.tup [.int o.port, .str o.mode, .ref f]) ∧ H f = some (.tup (o.fs.map V.str))
theorem OffAt.same {H H' : Hp} {x : V} {o : Off} (h : OffAt H x o) (s : Same H H') : OffAt H' x o := by
  obtain ⟨p, f, rfl, e1, e2⟩ := h
  exact ⟨p, f, rfl, s _ _ e1, s _ _ e2⟩
theorem OffAt.keep {H H' : Hp} {x : V} {o : Off} {s c : Addr} (h : OffAt H x o) (st : StAt H s c) (k : Keep H H' s c) : OffAt H' x o := by
  obtain ⟨p, f, rfl, e1, e2⟩ := h
  obtain ⟨_, ⟨n, g1⟩, ns, g2, _⟩ := st
  exact ⟨p, f, rfl, k _ _ e1 (ne_of e1 g1 (by intro z; cases z)) (ne_of e1 g2 (by intro z; cases z)), k _ _ e2 (ne_of e2 g1 (by intro z; cases z)) (ne_of e2 g2 (by intro z; cases z))⟩
def sendsB (m : Str) : Bool := inV (.str m) [.str "both", .str "send"]
def takesB (m : Str) : Bool := inV (.str m) [.str "both", .str "take"]
def modeS (s t : Bool) : Str := if (s && t) = true then "both" else if s = true then "send" else if t = true then "take" else "none"
def spSends : Sp := fun vs H Q _ => ∃ x o, vs = [x] ∧ OffAt H x o ∧ ∀ H', Same H H' → Q (.bl (sendsB o.mode)) H'
theorem ok_sends {P : Program} {w : World} {K : PySem.W.Frag} {mg : Str → Option Value} {base : Heap} {f : Addr} {fd : FuncData} (T : Tx K mg) 
    (F : FunD K "_sends" "_sends" (defArgs s_sends) (defBody s_sends) (defScope s_sends) [] [] f fd) : FnOk P w K mg base CX0 1 f fd ["offer"] spSends := by
  refine F.ok sc_sends (fun vs H Q E h => ?_) (fun cdv A outer s H vs Q E hr h => ?_)
  · obtain ⟨x, o, rfl, _⟩ := h
    rfl
  · obtain ⟨x, o, rfl, ⟨p, f, rfl, e1, e2⟩, k⟩ := h
    refine ⟨_, PSs.nox (pss_one (ps_ret (pe_cmpR op_in_seq (pe_ix ix_tup (pv 0) pe_int (fun _ _ => rfl)) (pe_tup (pa_cons pe_str (pa_cons pe_str pa_nil))) (by with_unfolding_all rfl)))), ?_⟩
    refine ⟨_, rfl, p, _, 1, _, rfl, rfl, SqT.of e1, rfl, by show 2 ≤ sizeLine; decide, fun t ht => ?_⟩
    exact ⟨t, _, rfl, .inr (SqT.of upd_same), rfl, rfl, k _ (same_upd ht)⟩
def spTakes : Sp := fun vs H Q _ => ∃ x o, vs = [x] ∧ OffAt H x o ∧ ∀ H', Same H H' → Q (.bl (takesB o.mode)) H'
theorem ok_takes {P : Program} {w : World} {K : PySem.W.Frag} {mg : Str → Option Value} {base : Heap} {f : Addr} {fd : FuncData} (T : Tx K mg) 
    (F : FunD K "_takes" "_takes" (defArgs s_takes) (defBody s_takes) (defScope s_takes) [] [] f fd) : FnOk P w K mg base CX0 1 f fd ["offer"] spTakes := by
  refine F.ok sc_takes (fun vs H Q E h => ?_) (fun cdv A outer s H vs Q E hr h => ?_)
  · obtain ⟨x, o, rfl, _⟩ := h
    rfl
  · obtain ⟨x, o, rfl, ⟨p, f, rfl, e1, e2⟩, k⟩ := h
    refine ⟨_, PSs.nox (pss_one (ps_ret (pe_cmpR op_in_seq (pe_ix ix_tup (pv 0) pe_int (fun _ _ => rfl)) (pe_tup (pa_cons pe_str (pa_cons pe_str pa_nil))) (by with_unfolding_all rfl)))), ?_⟩
    refine ⟨_, rfl, p, _, 1, _, rfl, rfl, SqT.of e1, rfl, by show 2 ≤ sizeLine; decide, fun t ht => ?_⟩
    exact ⟨t, _, rfl, .inr (SqT.of upd_same), rfl, rfl, k _ (same_upd ht)⟩
def spMode : Sp := fun vs H Q _ => ∃ a b : Bool, vs = [.bl a, .bl b] ∧ Q (.str (modeS a b)) H
theorem ok_mode {P : Program} {w : World} {K : PySem.W.Frag} {mg : Str → Option Value} {base : Heap} {f : Addr} {fd : FuncData} (T : Tx K mg) 
    (F : FunD K "_mode" "_mode" (defArgs s_mode) (defBody s_mode) (defScope s_mode) [] [] f fd) : FnOk P w K mg base CX0 1 f fd ["sends", "takes"] spMode := by
  refine F.ok sc_mode (fun vs H Q E h => ?_) (fun cdv A outer s H vs Q E hr h => ?_)
  · obtain ⟨a, b, rfl, _⟩ := h
    rfl
  · obtain ⟨a, b, rfl, k⟩ := h
    refine ⟨_, PSs.nox (C8.pss_cut (ps_if (PW.pt (pw_and (pt_val (pv 0)) (pw_and1 (pt_val (pv 1))))) (pss_one (ps_ret pe_str)) pss_nil) (C8.pss_cut (ps_if (pt_val (pv 0)) (pss_one (ps_ret pe_str)) pss_nil) (pss_one (ps_ret (pe_ifExp (pt_val (pv 1)) pe_str pe_str))))), ?_⟩
    cases a with
    | true =>
      cases b with
      | true => exact ⟨fun _ _ => False, ⟨_, rfl, _, rfl, iteT ⟨_, rfl, _, rfl, iteT k⟩⟩, fun _ _ z => z.elim⟩
      | false =>
        refine ⟨fun σ' H' => σ' = [some (.bl true), some (.bl false)] ∧ H' = H, ⟨_, rfl, _, rfl, iteT ⟨_, rfl, _, rfl, iteF ⟨rfl, rfl⟩⟩⟩, ?_⟩
        rintro σ' H' ⟨rfl, rfl⟩
        exact ⟨fun _ _ => False, ⟨_, rfl, _, rfl, iteT k⟩, fun _ _ z => z.elim⟩
    | false =>
      refine ⟨fun σ' H' => σ' = [some (.bl false), some (.bl b)] ∧ H' = H, ⟨_, rfl, _, rfl, iteF (iteF ⟨rfl, rfl⟩)⟩, ?_⟩
      rintro σ' H' ⟨rfl, rfl⟩
      refine ⟨fun σ' H2 => σ' = [some (.bl false), some (.bl b)] ∧ H2 = H', ⟨_, rfl, _, rfl, iteF ⟨rfl, rfl⟩⟩, ?_⟩
      rintro σ' H2 ⟨rfl, rfl⟩
      cases b with
      | true => exact ⟨_, rfl, _, rfl, iteT k⟩
      | false => exact ⟨_, rfl, _, rfl, iteF k⟩
/-- a tuple of two answers -/
def BB (H : Hp) (x : V) (a b : Bool) : Prop := ∃ p, x = .ref p ∧ H p = some (.tup [.bl a, .bl b])
def spFlows : Sp := fun vs H Q _ => ∃ x o y u, vs = [x, y] ∧ OffAt H x o ∧ OffAt H y u ∧ ∀ z H', Same H H' → BB H' z (sendsB o.mode && takesB u.mode) (sendsB u.mode && takesB o.mode) → Q z H'
theorem ok_flows {P : Program} {w : World} {K : PySem.W.Frag} {mg : Str → Option Value} {base : Heap} {f : Addr} {fd : FuncData} (T : Tx K mg) (c_sends : C8.Cal P w K mg base 1 "_sends" spSends []) (c_takes : C8.Cal P w K mg base 1 "_takes" spTakes [])
    (F : FunD K "flows" "flows" (defArgs s_flows) (defBody s_flows) (defScope s_flows) [] [] f fd) : FnOk P w K mg base CX0 2 f fd ["offer", "answered"] spFlows := by
  refine F.ok sc_flows (fun vs H Q E h => ?_) (fun cdv A outer s H vs Q E hr h => ?_)
  · obtain ⟨x, o, y, u, rfl, _⟩ := h
    rfl
  · obtain ⟨x, o, y, u, rfl, hx, hy, k⟩ := h
    refine ⟨_, PSs.nox (pss_cons (ps_set (i := 2) sc_flows.nd rfl (Or.inl rfl) (pe_and (pe_c c_sends hr (by decide) rfl (pa_cons (pv 0) pa_nil)) (pe_one (pe_c c_takes hr (by decide) rfl (pa_cons (pv 1) pa_nil))))) (pss_cons (ps_set (i := 3) sc_flows.nd rfl (Or.inl rfl) (pe_and (pe_c c_sends hr (by decide) rfl (pa_cons (pv 1) pa_nil)) (pe_one (pe_c c_takes hr (by decide) rfl (pa_cons (pv 0) pa_nil))))) (pss_one (ps_ret (pe_tup (pa_cons (pv 2) (pa_cons (pv 3) pa_nil))))))), ?_⟩
    -- (a and b) as the two of them say
    have andT : ∀ {a b : Bool} {Q : Bool → Prop} {Z : Prop}, (a = true → Q b → Z) → Q (a && b) → if a = true then Z else Q false := by
      intro a b Q Z h1 h2
      cases a with
      | true => exact iteT (h1 rfl h2)
      | false => exact iteF h2
    refine ⟨_, rfl, x, o, rfl, hx, fun H1 s1 => ⟨_, rfl, ?_⟩⟩
    have second : ∀ (b1 : Bool) (H2 : Hp), b1 = (sendsB o.mode && takesB u.mode) → Same H H2 → (tSeq (tAsg (tAndV (tCall spSends [] L2.E0 (tCons (tVar 1) tNil)) (tCall spTakes [] L2.E0 (tCons (tVar 0) tNil))) (gName 3)) (tRet (tTup (tCons (tVar 2) (tCons (tVar 3) tNil)))) : TS) { nx := fun _ H' => Q .non H', rt := Q } [some x, some y, some (.bl b1), none] H2 := by
      rintro b1 H2 rfl s2
      refine ⟨_, rfl, y, u, rfl, hy.same s2, fun H3 s3 => ⟨_, rfl, ?_⟩⟩
      cases e : sendsB u.mode with
      | true =>
        refine iteT ⟨_, rfl, x, o, rfl, hx.same (s2.trans s3), fun H4 s4 => ?_⟩
        refine ⟨_, rfl, _, rfl, by show 2 ≤ sizeLine; decide, fun p hp => k _ _ (((s2.trans s3).trans s4).trans (same_upd hp)) ⟨p, rfl, ?_⟩⟩
        rw [e]
        exact upd_same
      | false =>
        refine iteF ⟨_, rfl, _, rfl, by show 2 ≤ sizeLine; decide, fun p hp => k _ _ ((s2.trans s3).trans (same_upd hp)) ⟨p, rfl, ?_⟩⟩
        rw [e]
        exact upd_same
    cases e : sendsB o.mode with
    | true =>
      refine iteT ⟨_, rfl, y, u, rfl, hy.same s1, fun H2 s2 => ?_⟩
      exact second _ H2 (by rw [e]; rfl) (s1.trans s2)
    | false => exact iteF (second _ H1 (by rw [e]; rfl) s1)
def heldO (o : Off) : Off := ⟨o.port, modeS (sendsB o.mode) false, o.fs⟩
def spHeld : Sp := fun vs H Q _ => ∃ x o, vs = [x] ∧ OffAt H x o ∧ ∀ z H', Same H H' → OffAt H' z (heldO o) → Q z H'
theorem ok_held {P : Program} {w : World} {K : PySem.W.Frag} {mg : Str → Option Value} {base : Heap} {f : Addr} {fd : FuncData} (T : Tx K mg) (c_sends : C8.Cal P w K mg base 1 "_sends" spSends []) (c_mode : C8.Cal P w K mg base 1 "_mode" spMode [])
    (F : FunD K "held" "held" (defArgs s_held) (defBody s_held) (defScope s_held) [] [] f fd) : FnOk P w K mg base CX0 2 f fd ["offer"] spHeld := by
  refine F.ok sc_held (fun vs H Q E h => ?_) (fun cdv A outer s H vs Q E hr h => ?_)
  · obtain ⟨x, o, rfl, _⟩ := h
    rfl
  · obtain ⟨x, o, rfl, hx, k⟩ := h
    obtain ⟨p, f, rfl, e1, e2⟩ := id hx
    refine ⟨_, PSs.nox (pss_cons (ps_asg (pv 0) (pg_tup rfl (pgs_cons (pg_name (i := 1) sc_held.nd rfl (Or.inl rfl)) (pgs_cons (pg_name (i := 2) sc_held.nd rfl (Or.inl rfl)) (pgs_cons (pg_name (i := 3) sc_held.nd rfl (Or.inl rfl)) pgs_nil))))) (pss_one (ps_ret (pe_tup (pa_cons (pv 1) (pa_cons (pe_c c_mode hr (by decide) rfl (pa_cons (pe_c c_sends hr (by decide) rfl (pa_cons (pv 0) pa_nil)) (pa_cons pe_bl pa_nil))) (pa_cons (pv 3) pa_nil))))))), ?_⟩
    refine ⟨_, rfl, p, _, rfl, SqT.of e1, rfl, _, _, rfl, _, _, rfl, _, _, rfl, rfl, ?_⟩
    refine ⟨_, rfl, _, rfl, _, o, rfl, hx, fun H1 s1 => ⟨_, _, rfl, ?_⟩⟩
    refine ⟨_, rfl, by show 3 ≤ sizeLine; decide, fun q hq => ?_⟩
    exact k _ _ (s1.trans (same_upd hq)) ⟨q, f, rfl, upd_same, (same_upd hq) _ _ (s1 _ _ e2)⟩
/-- a text within a list of texts -/
theorem inV_strs (z : Str) : ∀ l : List Str, inV (.str z) (l.map V.str) = decide (z ∈ l)
  | [] => rfl
  | a :: l => by
    have ih := inV_strs z l
    unfold inV at ih ⊢
    rw [List.map_cons, List.any_cons, ih]
    show ((a == z) || decide (z ∈ l)) = decide (z ∈ a :: l)
    by_cases e : a = z
    · subst e
      simp
    · have h1 : (a == z) = false := by simpa using e
      rw [h1, Bool.false_or]
      exact decide_eq_decide.mpr ⟨fun h => List.mem_cons_of_mem _ h, fun h => by
        rcases List.mem_cons.mp h with q | q
        · exact absurd q.symm e
        · exact q⟩
theorem flat_strs : ∀ l : List Str, (l.map V.str).all flatV = true
  | [] => rfl
  | _ :: l => by
    rw [List.map_cons, List.all_cons, flat_strs l]
    rfl
def commonL (a o : Off) : List Str := o.fs.filter fun z => decide (z ∈ a.fs)
def answerO (a o : Off) : Option Off := if commonL a o = [] then none else some ⟨a.port, modeS (sendsB a.mode && takesB o.mode) (sendsB o.mode && takesB a.mode), commonL a o⟩
/-- None, or an offer -/
def OffO (H : Hp) (x : V) : Option Off → Prop
  | none => x = .non
  | some o => OffAt H x o
theorem OffO.same {H H' : Hp} {x : V} {o : Option Off} (h : OffO H x o) (s : Same H H') : OffO H' x o := by
  cases o with
  | none => exact h
  | some o => exact OffAt.same h s
theorem OffO.none_iff {H : Hp} {x : V} {o : Option Off} (h : OffO H x o) : (!decide (x = .non)) = o.isSome := by
  cases o with
  | none =>
    cases (show x = .non from h)
    rfl
  | some o =>
    obtain ⟨p, f, rfl, _⟩ := h
    rfl
def spAnswer : Sp := fun vs H Q _ => ∃ x a y o, vs = [x, y] ∧ OffAt H x a ∧ OffAt H y o ∧ o.fs.length ≤ 1000 ∧ ∀ z H', Same H H' → OffO H' z (answerO a o) → Q z H'
theorem ok_answer {P : Program} {w : World} {K : PySem.W.Frag} {mg : Str → Option Value} {base : Heap} {f : Addr} {fd : FuncData} (T : Tx K mg) (c_flows : C8.Cal P w K mg base 2 "flows" spFlows []) (c_mode : C8.Cal P w K mg base 1 "_mode" spMode [])
    (F : FunD K "answer" "answer" (defArgs s_answer) (defBody s_answer) (defScope s_answer) [] [] f fd) : FnOk P w K mg base CX0 3 f fd ["able", "offer"] spAnswer := by
  refine F.ok sc_answer (fun vs H Q E h => ?_) (fun cdv A outer s H vs Q E hr h => ?_)
  · obtain ⟨x, a, y, o, rfl, _⟩ := h
    rfl
  · obtain ⟨x, a, y, o, rfl, hx, hy, hl, k⟩ := h
    obtain ⟨p, f, rfl, e1, e2⟩ := id hx
    obtain ⟨q, g, rfl, e3, e4⟩ := id hy
    refine ⟨_, PSs.nox (pss_cons (ps_asg (pv 0) (pg_tup rfl (pgs_cons (pg_name (i := 2) sc_answer.nd rfl (Or.inl rfl)) (pgs_cons (pg_name (i := 3) sc_answer.nd rfl (Or.inl rfl)) (pgs_cons (pg_name (i := 4) sc_answer.nd rfl (Or.inr rfl)) pgs_nil))))) (pss_cons (ps_set (i := 5) sc_answer.nd rfl (Or.inl rfl) (pe_callTy call_tuple_of rfl T.f_tuple (by decide +kernel) (pa_cons (pe_lc (own := [("name", 8)]) (g := gName 8) rfl sc_answer.nd (pi_tup (pe_ix ix_tup (pv 1) pe_int (fun _ _ => rfl))) (blkOk_by (own := [("name", 8)]) (N := ["able", "offer", "port", "_", "own_formats", "formats", "sends", "takes", "name"]) (sc := defScope s_answer) (by decide +kernel)) (fun _ _ _ _ _ => pg_name (i := 8) sc_answer.nd rfl (Or.inl rfl)) (fun _ _ _ _ _ => pts_one (pt_cmpR (inSeqK K rfl) (pv 8) (pv 4) (by with_unfolding_all rfl))) (fun _ _ _ _ _ => (pv 8))) pa_nil))) (C8.pss_cut (ps_if (pt_not (pt_truth (pv 5) (fun _ => rfl))) (pss_one (ps_ret pe_non)) pss_nil) (pss_cons (ps_asg (pe_c c_flows hr (by decide) rfl (pa_cons (pv 0) (pa_cons (pv 1) pa_nil))) (pg_tup rfl (pgs_cons (pg_name (i := 6) sc_answer.nd rfl (Or.inl rfl)) (pgs_cons (pg_name (i := 7) sc_answer.nd rfl (Or.inl rfl)) pgs_nil)))) (pss_one (ps_ret (pe_tup (pa_cons (pv 2) (pa_cons (pe_c c_mode hr (by decide) rfl (pa_cons (pv 6) (pa_cons (pv 7) pa_nil))) (pa_cons (pv 5) pa_nil)))))))))), ?_⟩
    refine ⟨_, rfl, p, _, rfl, SqT.of e1, rfl, _, _, rfl, _, _, rfl, _, _, rfl, rfl, ?_⟩
    refine ⟨_, rfl, q, _, 2, _, rfl, rfl, SqT.of e3, rfl, g, rfl, ⟨_, SqT.of e4⟩, fun D hD => ?_⟩
    have st : ∀ l, Same H (upd H D l) := fun l => same_upd hD
    refine lc_filt walk_tup (fun i => V.str (o.fs.getD i Str.empty)) (fun i => decide (o.fs.getD i Str.empty ∈ a.fs)) (by rw [List.length_map]; exact Nat.le_trans hl (by decide)) (fun i hi => SqT.of (st _ _ _ e4)) (fun i v H1 kk hi yy z => ?_) (fun i v H1 kk hi hb yy z => ?_) ?_
    · obtain ⟨rfl, ev⟩ := yy
      rw [List.getElem?_map] at ev
      obtain ⟨w, ew, rfl⟩ := Option.map_eq_some_iff.mp ev
      rw [getD_at _ ew] at z
      refine ⟨rfl, _, rfl, _, rfl, f, _, rfl, .inr (SqT.of (st _ _ _ e2)), rfl, flat_strs _, _, rfl, ?_⟩
      rw [inV_strs]
      exact z
    · obtain ⟨rfl, ev⟩ := yy
      rw [List.getElem?_map] at ev
      obtain ⟨w, ew, rfl⟩ := Option.map_eq_some_iff.mp ev
      rw [getD_at _ ew] at z
      exact ⟨_, rfl, z⟩
    · have eL : ((List.range (o.fs.map V.str).length).filter fun i => decide (o.fs.getD i Str.empty ∈ a.fs)).map (fun i => V.str (o.fs.getD i Str.empty)) = (commonL a o).map V.str := by
        rw [List.length_map]
        exact range_filter_getD o.fs Str.empty (fun z => decide (z ∈ a.fs)) V.str
      rw [eL]
      refine ⟨D, _, rfl, .inl ⟨SqL.of upd_same, fun t ht => ?_⟩⟩
      have s2 : Same H (upd (upd H D (.lst ((commonL a o).map V.str))) t (.tup ((commonL a o).map V.str))) := (st _).trans (same_upd ht)
      refine ⟨fun σ' H' => σ' = [some (.ref p), some (.ref q), some (.int a.port), some (.str a.mode), some (.ref f), some (.ref t), none, none, none] ∧ Same H H' ∧ H' t = some (.tup ((commonL a o).map V.str)) ∧ commonL a o ≠ [], ?_, ?_⟩
      · refine ⟨_, rfl, !((commonL a o).map V.str).isEmpty, .inr (.inl ⟨_, SqT.of upd_same, rfl⟩), ?_⟩
        cases ec : commonL a o with
        | nil =>
          rw [ec] at s2
          refine iteT (k _ _ s2 ?_)
          unfold answerO
          rw [if_pos ec]
          rfl
        | cons c r =>
          rw [ec] at s2
          exact iteF ⟨rfl, s2, upd_same, by simp⟩
      · rintro σ' H1 ⟨rfl, s1, e5, hne⟩
        refine ⟨_, rfl, _, rfl, _, a, _, o, rfl, hx.same s1, hy.same s1, fun z H2 s3 hz => ?_⟩
        obtain ⟨b, rfl, e6⟩ := hz
        refine ⟨b, _, rfl, SqT.of e6, rfl, _, _, rfl, _, _, rfl, rfl, ?_⟩
        refine ⟨_, rfl, _, rfl, _, rfl, _, _, rfl, _, rfl, by show 3 ≤ sizeLine; decide, fun u hu => ?_⟩
        refine k _ _ ((s1.trans s3).trans (same_upd hu)) ?_
        unfold answerO
        rw [if_neg hne]
        exact ⟨u, t, rfl, upd_same, (same_upd hu) _ _ (s3 _ _ e5)⟩

end K2
set_option maxHeartbeats 4000000
namespace K2
open PySem PySem.Spec PyProof.Rows L2 SX TK TKS
open C8 (pe_c)
/-! ### offers as words -/
def wordsS (o : Off) : Str := Txt.join " " [Str.ofString (toString o.port), o.mode, Txt.join "," o.fs]
structure OffOk (o : Off) : Prop where
  p0 : 0 ≤ o.port
  p1 : o.port ≤ 65535
  m : o.mode.length ≤ 16
  n : o.fs.length ≤ 6
  f : ∀ z ∈ o.fs, z.length ≤ 16
theorem comma_len : ("," : Str).length = 1 := by decide +kernel
theorem blank_len : (" " : Str).length = 1 := by decide +kernel
theorem OffOk.join {o : Off} (h : OffOk o) : (o.fs.map (·.length)).sum + o.fs.length * ("," : Str).length ≤ 102 ∧ (Txt.join "," o.fs).length ≤ 102 := by
  have a := sum_le h.f
  have b := join_len "," o.fs
  have n := h.n
  rw [comma_len] at b ⊢
  omega
theorem OffOk.str {o : Off} (h : OffOk o) : (Str.ofString (toString o.port)).length ≤ 5 ∧ o.port.natAbs.log2 < 1920 := by
  have p0 := h.p0
  have p1 := h.p1
  refine ⟨PyProof.Rows.toString_length_le p0 (k := 5) (by decide) (by omega), log_small ?_⟩
  have : o.port.natAbs ≤ 65535 := by omega
  exact Nat.lt_of_le_of_lt this (Nat.lt_of_lt_of_le (by decide : 65535 < 2 ^ 16) (Nat.pow_le_pow_right (by decide) (by decide)))
def spWrite : Sp := fun vs H Q _ => ∃ x o, vs = [x] ∧ OffAt H x o ∧ OffOk o ∧ ∀ H', Same H H' → Q (.str (wordsS o)) H'
theorem ok_write_offer {P : Program} {w : World} {K : PySem.W.Frag} {mg : Str → Option Value} {base : Heap} {f : Addr} {fd : FuncData} (T : Tx K mg) 
    (F : FunD K "write_offer" "write_offer" (defArgs s_write_offer) (defBody s_write_offer) (defScope s_write_offer) [] [] f fd) : FnOk P w K mg base CX0 1 f fd ["offer"] spWrite := by
  refine F.ok sc_write_offer (fun vs H Q E h => ?_) (fun cdv A outer s H vs Q E hr h => ?_)
  · obtain ⟨x, o, rfl, _⟩ := h
    rfl
  · obtain ⟨x, o, rfl, ⟨p, f, rfl, e1, e2⟩, ok, k⟩ := h
    obtain ⟨j1, j2⟩ := ok.join
    obtain ⟨t1, t2⟩ := ok.str
    have lm := ok.m
    refine ⟨_, PSs.nox (pss_cons (ps_asg (pv 0) (pg_tup rfl (pgs_cons (pg_name (i := 1) sc_write_offer.nd rfl (Or.inl rfl)) (pgs_cons (pg_name (i := 2) sc_write_offer.nd rfl (Or.inl rfl)) (pgs_cons (pg_name (i := 3) sc_write_offer.nd rfl (Or.inl rfl)) pgs_nil))))) (pss_one (ps_ret (pe_join pe_str (pe_lst (pa_cons (pe_callTy call_str_int rfl T.f_str (by decide +kernel) (pa_cons (pv 1) pa_nil)) (pa_cons (pv 2) (pa_cons (pe_join pe_str (pv 3)) pa_nil)))))))), ?_⟩
    refine ⟨_, rfl, p, _, rfl, SqT.of e1, rfl, _, _, rfl, _, _, rfl, _, _, rfl, rfl, ?_⟩
    refine ⟨⟨_, rfl⟩, _, rfl, _, rfl, t2, _, rfl, ⟨_, rfl⟩, _, rfl, ",", f, o.fs, rfl, rfl, .inr (SqT.of e2), by omega, by show 3 ≤ sizeLine; decide, fun q hq => ?_⟩
    refine ⟨" ", q, [Str.ofString (toString o.port), o.mode, Txt.join "," o.fs], rfl, rfl, .inl (SqL.of upd_same), ?_, k _ (same_upd hq)⟩
    rw [blank_len]
    show (Str.ofString (toString o.port)).length + (o.mode.length + ((Txt.join "," o.fs).length + 0)) + 3 * 1 ≤ 16777216
    omega
def fmtO (z : Str) : Option (List Str) :=
  if (Txt.split z ",").length ≤ 6 ∧ (Txt.split z ",").Nodup then (if (Txt.split z ",").all nameB = true then some (Txt.split z ",") else none) else none
/-- None, or a tuple of texts -/
def TupO (H : Hp) (x : V) : Option (List Str) → Prop
  | none => x = .non
  | some l => ∃ f, x = .ref f ∧ H f = some (.tup (l.map V.str))
def spFmt : Sp := fun vs H Q _ => ∃ z : Str, vs = [.str z] ∧ z.length ≤ 1000 ∧ ∀ x H', Same H H' → TupO H' x (fmtO z) → Q x H'
theorem ok_read_formats {P : Program} {w : World} {K : PySem.W.Frag} {mg : Str → Option Value} {base : Heap} {f : Addr} {fd : FuncData} (T : Tx K mg) (c_is_name : C8.Cal P w K mg base 2 "is_name" spName [])
    (F : FunD K "_read_formats" "_read_formats" (defArgs s_read_formats) (defBody s_read_formats) (defScope s_read_formats) [] [] f fd) : FnOk P w K mg base CX0 3 f fd ["word"] spFmt := by
  refine F.ok sc_read_formats (fun vs H Q E h => ?_) (fun cdv A outer s H vs Q E hr h => ?_)
  · obtain ⟨z, rfl, _⟩ := h
    rfl
  · obtain ⟨z, rfl, hz, k⟩ := h
    have hz2 : z.length + 2 ≤ sizeLine := Nat.le_trans (Nat.add_le_add_right hz 2) (by decide)
    have hp0 : ∀ y ∈ Txt.split z ",", y.length ≤ 1000 := fun y hy => Nat.le_trans (part_len hy) hz
    have eF : fmtO z = if (Txt.split z ",").length ≤ 6 ∧ (Txt.split z ",").Nodup then (if (Txt.split z ",").all nameB = true then some (Txt.split z ",") else none) else none := rfl
    have hy1 : (Txt.split z ",").length ≤ 1002 := Nat.le_trans (PyProof.Rows.split_le z ",") (by omega)
    refine ⟨_, PSs.nox (pss_cons (ps_set (i := 1) sc_read_formats.nd rfl (Or.inl rfl) (pe_split (pv 0) pe_str)) (C8.pss_cut (ps_if (PW.pt (pw_or (pt_cmpR op_gt (pe_callB call_len_seq rfl T.f_len PySem.boot_len (pa_cons (pv 1) pa_nil)) (pgI T.g_MOST_FORMATS) (nomark _)) (pw_or1 (pt_cmpR op_lt (TKS.pe_lenSetK (pv 1) T.f_len T.f_set) (pe_callB call_len_seq rfl T.f_len PySem.boot_len (pa_cons (pv 1) pa_nil)) (nomark _))))) (pss_one (ps_ret pe_non)) pss_nil) (pss_one (ps_ret (pe_ifExp (pt_val (pe_callB (cr_all rfl) rfl T.f_all (by decide +kernel) (pa_cons (pe_lc (own := [("name", 2)]) (g := gName 2) rfl sc_read_formats.nd (pi_list (pv 1)) (blkOk_by (own := [("name", 2)]) (N := ["word", "names", "name"]) (sc := defScope s_read_formats) (by decide +kernel)) (fun _ _ _ _ _ => pg_name (i := 2) sc_read_formats.nd rfl (Or.inl rfl)) (fun _ _ _ _ _ => pts_nil) (fun _ _ _ _ _ => (pe_c c_is_name hr (by decide) rfl (pa_cons (pv 2) pa_nil)))) pa_nil))) (pe_callTy call_tuple_of rfl T.f_tuple (by decide +kernel) (pa_cons (pv 1) pa_nil)) pe_non))))), ?_⟩
    refine ⟨_, rfl, ⟨_, rfl⟩, z, ",", rfl, rfl, by decide +kernel, hz2, fun p hp => ?_⟩
    have s1 := same_upd (o := .lst ((Txt.split z ",").map V.str)) hp
    generalize Txt.split z "," = ys at hp0 eF hy1 s1 ⊢
    refine ⟨fun σ' H' => σ' = [some (.str z), some (.ref p), none] ∧ H' = upd H p (.lst (ys.map V.str)) ∧ ys.length ≤ 6 ∧ ys.Nodup, ?_, ?_⟩
    · refine ⟨_, rfl, p, _, rfl, .inl (SqL.of upd_same), _, _, rfl, rfl, _, rfl, ?_⟩
      rw [List.length_map]
      by_cases h6 : ys.length ≤ 6
      · rw [decide_eq_false (by omega)]
        refine iteF ⟨_, rfl, p, ys.map Sum.inr, rfl, SqL.of (by rw [upd_same, key_strs]), by rw [List.length_map]; omega, _, rfl, p, _, rfl, .inl (SqL.of upd_same), _, _, rfl, rfl, _, rfl, ?_⟩
        have le := metK_len (fun i => (ys.map (Sum.inr : Str → Key)).getD i (.inl 0)) (ys.map (Sum.inr : Str → Key)).length
        have nd := met_all (ys.map (Sum.inr : Str → Key))
        rw [nodup_inr] at nd
        rw [List.length_map] at le nd ⊢
        by_cases hn : ys.Nodup
        · rw [nd.mpr hn, List.length_map, decide_eq_false (by omega)]
          exact iteF ⟨rfl, rfl, h6, hn⟩
        · have ne : (metK (fun i => (ys.map (Sum.inr : Str → Key)).getD i (.inl 0)) ys.length).length ≠ ys.length := fun q => hn (nd.mp q)
          rw [List.length_map, decide_eq_true (by omega)]
          refine iteT (k _ _ s1 ?_)
          rw [eF, if_neg (fun q => hn q.2)]
          rfl
      · rw [decide_eq_true (by omega)]
        refine iteT (iteT (k _ _ s1 ?_))
        rw [eF, if_neg (fun q => h6 q.1)]
        rfl
    · rintro σ' H' ⟨rfl, rfl, h6, hn⟩
      rw [if_pos ⟨h6, hn⟩] at eF
      refine ⟨_, rfl, p, rfl, ⟨_, SqL.of upd_same⟩, fun D hD => ?_⟩
      have hpD : p ≠ D := fun e => by
        rw [e, upd_same] at hD
        cases hD
      have hD0 : H D = none := by
        rw [upd_ne hpD.symm] at hD
        exact hD
      refine lc_itN (walk_list (xs := ys.map V.str)) (fun i H' => Same (upd H p (.lst (ys.map V.str))) H' ∧ H' D = some (.lst ((ys.take i).map fun y => V.bl (nameB y)))) ⟨same_upd hD, upd_same⟩ (fun i H1 hi q => SqL.of (q.1 _ _ upd_same)) (fun i v H1 H2 hi q yy => ?_) (fun H1 q => ?_)
      · obtain ⟨sm, ed⟩ := q
        obtain ⟨rfl, ev⟩ := yy
        rw [List.getElem?_map] at ev
        obtain ⟨w, ew, rfl⟩ := Option.map_eq_some_iff.mp ev
        rw [List.length_map] at hi
        refine ⟨rfl, _, rfl, w, rfl, hp0 w (List.mem_of_getElem? ew), fun H3 s3 => ⟨_, s3 _ _ ed, ?_, same_upd2 (sm.trans s3) hD, ?_⟩⟩
        · rw [List.length_map, List.length_take]
          exact Nat.lt_of_le_of_lt (show min i ys.length ≤ 6 by omega) (by decide)
        · rw [upd_same, List.take_add_one, ew, List.map_append]
          rfl
      · obtain ⟨sm, ed⟩ := q
        rw [List.length_map, List.take_length] at ed
        refine ⟨D, ys.map nameB, rfl, SqL.of (by rw [ed, List.map_map]; rfl), _, rfl, ?_⟩
        have eA : (ys.map nameB).all id = ys.all nameB := by
          rw [List.all_map]
          rfl
        rw [eA]
        by_cases hA : ys.all nameB = true
        · rw [if_pos hA] at eF
          rw [hA]
          refine iteT ⟨_, rfl, p, _, rfl, .inl ⟨SqL.of (sm _ _ upd_same), fun t ht => k _ _ ((s1.trans sm).trans (same_upd ht)) ?_⟩⟩
          rw [eF]
          exact ⟨t, rfl, upd_same⟩
        · rw [if_neg hA] at eF
          rw [ef hA]
          refine iteF (k _ _ (s1.trans sm) ?_)
          rw [eF]
          rfl
def modesL : List Str := ["both", "send", "take", "none"]
/-- the offer that three words write -/
def readP : V → Str → Option (List Str) → Option Off
  | .int p, b, some fs => if b ∈ modesL then some ⟨p, b, fs⟩ else none
  | _, _, _ => none
def readO : List Str → Option Off
  | [a, b, c] => readP (numV a 65535) b (fmtO c)
  | _ => none
theorem readP_ok (p : Int) (b : Str) (fs : List Str) : readP (.int p) b (some fs) = if b ∈ modesL then some ⟨p, b, fs⟩ else none := rfl
theorem readO_eq (a b c : Str) : readO [a, b, c] = readP (numV a 65535) b (fmtO c) := rfl
theorem readO_len {ws : List Str} (h : ws.length ≠ 3) : readO ws = none := by
  unfold readO
  split
  · exact absurd rfl h
  · rfl
theorem numV_cases (z : Str) (m : Int) : numV z m = .non ∨ ∃ i, numV z m = .int i := by
  unfold numV
  split
  · split
    · exact .inl rfl
    · split
      · exact .inr ⟨_, rfl⟩
      · exact .inl rfl
  · exact .inl rfl
def spRead : Sp := fun vs H Q _ => ∃ l ws, vs = [.ref l] ∧ H l = some (.lst (ws.map V.str)) ∧ (∀ z ∈ ws, z.length ≤ 1000) ∧ ws.length ≤ 1000 ∧ ∀ x H', Same H H' → OffO H' x (readO ws) → Q x H'
theorem ok_read_offer {P : Program} {w : World} {K : PySem.W.Frag} {mg : Str → Option Value} {base : Heap} {f : Addr} {fd : FuncData} (T : Tx K mg) (c_read_number : C8.Cal P w K mg base 2 "read_number" spNum []) (c_read_formats : C8.Cal P w K mg base 3 "_read_formats" spFmt [])
    (F : FunD K "read_offer" "read_offer" (defArgs s_read_offer) (defBody s_read_offer) (defScope s_read_offer) [] [] f fd) : FnOk P w K mg base CX0 4 f fd ["words"] spRead := by
  refine F.ok sc_read_offer (fun vs H Q E h => ?_) (fun cdv A outer s H vs Q E hr h => ?_)
  · obtain ⟨l, ws, rfl, _⟩ := h
    rfl
  · obtain ⟨l, ws, rfl, hl, hw, hn, k⟩ := h
    refine ⟨_, PSs.nox (C8.pss_cut (ps_if (pt_cmpR op_ne (pe_callB call_len_seq rfl T.f_len PySem.boot_len (pa_cons (pv 0) pa_nil)) pe_int (nomark _)) (pss_one (ps_ret pe_non)) pss_nil) (pss_cons (ps_set (i := 1) sc_read_offer.nd rfl (Or.inl rfl) (pe_c c_read_number hr (by decide) rfl (pa_cons (pe_ix ix_list (pv 0) pe_int (fun _ _ => rfl)) (pa_cons (pgI T.g_GREATEST_PORT) pa_nil)))) (pss_cons (ps_set (i := 2) sc_read_offer.nd rfl (Or.inl rfl) (pe_ix ix_list (pv 0) pe_int (fun _ _ => rfl))) (pss_cons (ps_set (i := 3) sc_read_offer.nd rfl (Or.inl rfl) (pe_c c_read_formats hr (by decide) rfl (pa_cons (pe_ix ix_list (pv 0) pe_int (fun _ _ => rfl)) pa_nil))) (C8.pss_cut (ps_if (PW.pt (pw_or (pt_cmpR op_isN (pv 1) pe_non (nomark _)) (pw_or (pt_cmpR op_notIn_seq (pv 2) (pgR T.g_MODES) (by with_unfolding_all rfl)) (pw_or1 (pt_cmpR op_isN (pv 3) pe_non (nomark _)))))) (pss_one (ps_ret pe_non)) pss_nil) (pss_one (ps_ret (pe_tup (pa_cons (pv 1) (pa_cons (pv 2) (pa_cons (pv 3) pa_nil))))))))))), ?_⟩
    refine ⟨fun σ' H' => σ' = [some (.ref l), none, none, none] ∧ H' = H ∧ ws.length = 3, ?_, ?_⟩
    · refine ⟨_, rfl, l, _, rfl, .inl (SqL.of hl), rfl, _, rfl, ?_⟩
      rw [List.length_map]
      by_cases h3 : ws.length = 3
      · rw [h3]
        exact iteF ⟨rfl, rfl, rfl⟩
      · have e : decide (V.int (ws.length : Nat) = V.int 3) = false := decide_eq_false fun q => h3 (by
          have := V.int.inj q
          omega)
        rw [e]
        refine iteT (k _ _ (Same.refl H) ?_)
        rw [readO_len h3]
        rfl
    · rintro σ' H' ⟨rfl, rfl, h3⟩
      obtain ⟨a, b, c, rfl⟩ : ∃ a b c, ws = [a, b, c] := by
        cases ws with
        | nil => cases h3
        | cons a r => cases r with
          | nil => cases h3
          | cons b r => cases r with
            | nil => cases h3
            | cons c r => cases r with
              | nil => exact ⟨a, b, c, rfl⟩
              | cons d r => simp at h3
      refine ⟨_, rfl, l, _, 0, _, rfl, rfl, SqL.of hl, rfl, a, 65535, rfl, hw a (by simp), fun H1 s1 => ?_⟩
      refine ⟨_, rfl, l, _, 1, _, rfl, rfl, SqL.of (s1 _ _ hl), rfl, ?_⟩
      refine ⟨_, rfl, l, _, 2, _, rfl, rfl, SqL.of (s1 _ _ hl), rfl, c, rfl, hw c (by simp), fun x H2 s2 hx => ?_⟩
      have s12 := s1.trans s2
      refine ⟨fun σ' H' => σ' = [some (.ref l), some (numV a 65535), some (.str b), some x] ∧ H' = H2 ∧ (∃ p, numV a 65535 = .int p) ∧ b ∈ modesL ∧ ∃ fs, fmtO c = some fs, ?_, ?_⟩
      · refine ⟨_, rfl, rfl, _, rfl, ?_⟩
        rcases numV_cases a 65535 with e | ⟨p, e⟩
        · rw [e]
          refine iteT (iteT (k _ _ s12 ?_))
          rw [readO_eq, e]
          rfl
        · rw [e]
          refine iteF ⟨_, rfl, _, modesL.map V.str, rfl, .inr (T.v_MODES H2), rfl, rfl, _, rfl, ?_⟩
          rw [inV_strs]
          by_cases hb : b ∈ modesL
          · rw [decide_eq_true hb]
            refine iteF ⟨_, rfl, rfl, _, rfl, ?_⟩
            cases ef : fmtO c with
            | none =>
              rw [ef] at hx
              cases (show x = .non from hx)
              refine iteT (k _ _ s12 ?_)
              rw [readO_eq, e, ef]
              rfl
            | some fs =>
              rw [ef] at hx
              obtain ⟨f, rfl, _⟩ := hx
              exact iteF ⟨rfl, rfl, ⟨p, rfl⟩, hb, fs, rfl⟩
          · rw [decide_eq_false hb]
            refine iteT (iteT (k _ _ s12 ?_))
            rw [readO_eq, e]
            cases fmtO c with
            | none => rfl
            | some fs =>
              rw [readP_ok, if_neg hb]
              rfl
      · rintro σ' H3 ⟨rfl, rfl, ⟨p, e⟩, hb, fs, ef⟩
        rw [ef] at hx
        obtain ⟨f, rfl, e2⟩ := hx
        rw [e]
        refine ⟨_, rfl, _, rfl, _, rfl, by show 3 ≤ sizeLine; decide, fun q hq => k _ _ (s12.trans (same_upd hq)) ?_⟩
        rw [readO_eq, e, ef]
        rw [readP_ok, if_pos hb]
        exact ⟨q, f, rfl, upd_same, (same_upd hq) _ _ e2⟩

end K2
set_option maxHeartbeats 4000000
namespace K2
open PySem PySem.Spec PyProof.Rows L2 SX TK TKS
open C8 (pe_c)
/-! ### the law's source of draws -/
def spState (K : PySem.W.Frag) : Sp := fun vs H Q _ => ∃ (a : Addr) (ns : List Int), vs = [.ref a] ∧ SqL K H a (ns.map V.int) ∧ ns.length ≤ 63 ∧ ∀ s c H', Same H H' → H s = none → H c = none → StAt H' s c → Q (.ref s) H'
theorem ok_law_state {P : Program} {w : World} {K : PySem.W.Frag} {mg : Str → Option Value} {base : Heap} {f : Addr} {fd : FuncData} (T : Tx K mg) 
    (F : FunD K "_law_state" "_law_state" (defArgs s_law_state) (defBody s_law_state) (defScope s_law_state) [] [] f fd) : FnOk P w K mg base CX0 1 f fd ["script"] (spState K) := by
  refine F.ok sc_law_state (fun vs H Q E h => ?_) (fun cdv A outer s H vs Q E hr h => ?_)
  · obtain ⟨a, ns, rfl, _⟩ := h
    rfl
  · obtain ⟨a, ns, rfl, hS, hn, k⟩ := h
    refine ⟨_, PSs.nox (pss_cons (ps_set (i := 1) sc_law_state.nd rfl (Or.inl rfl) pe_int) (pss_cons (ps_for PassesOwn.never rfl (pi_list (pv 0)) (pg_name (i := 2) sc_law_state.nd rfl (Or.inl rfl)) (pss_one (ps_set (i := 1) sc_law_state.nd rfl (Or.inl rfl) (pe_op op_mod (pe_callTy call_int1 rfl T.f_int (by decide +kernel) (pa_cons (pe_op op_add (pe_op op_mul (pv 1) pe_int) (pv 2)) pa_nil)) pe_int)))) (pss_one (ps_ret (pe_lst (pa_cons (pe_lc (own := [("cell", 2)]) (g := gName 2) rfl sc_law_state.nd (pi_list (pv 0)) (blkOk_by (own := [("cell", 2)]) (N := ["script", "seed", "cell"]) (sc := defScope s_law_state) (by decide +kernel)) (fun _ _ _ _ _ => pg_name (i := 2) sc_law_state.nd rfl (Or.inl rfl)) (fun _ _ _ _ _ => pts_nil) (fun _ _ _ _ _ => (pe_callB call_abs rfl T.f_abs (by decide +kernel) (pa_cons (pv 2) pa_nil)))) (pa_cons (pe_op op_add (pv 1) pe_int) pa_nil))))))), ?_⟩
    refine ⟨_, rfl, a, rfl, ⟨_, hS⟩, for_list (K := K) (a := a) (xs := ns.map V.int) (fun i σ H' => H' = H ∧ ∃ (n : Int) (v : Option V), σ = [some (.ref a), some (.int n), v]) ⟨rfl, 7, none, rfl⟩ (fun i σ H' _ q => q.1 ▸ hS) ?_ ?_⟩
    · rintro i y σ H' hi ⟨rfl, n, v, rfl⟩
      obtain ⟨z, rfl⟩ : ∃ z, y = V.int z := by
        obtain ⟨z, _, e⟩ := List.mem_map.mp (List.mem_of_getElem? hi)
        exact ⟨z, e.symm⟩
      refine ⟨_, rfl, _, _, rfl, rfl, .inr ⟨by decide, by decide⟩, _, rfl, _, _, rfl, rfl, .inl ⟨_, rfl, _, _, rfl, rfl, (by show (0 : Int) < 1000003; decide), rfl, _, _, rfl⟩⟩
    · rintro σ H' ⟨rfl, n, v, rfl⟩
      refine ⟨_, rfl, a, rfl, ⟨_, hS⟩, fun D hD => ?_⟩
      have hS2 : ∀ o, SqL K (upd H' D o) a (ns.map V.int) := fun o => (same_upd hD).seq hS
      refine lc_pureN walk_list (fun i => V.int (if ns.getD i 0 < 0 then -(ns.getD i 0) else ns.getD i 0)) (by rw [List.length_map]; exact Nat.le_trans hn (by decide)) (fun _ _ => hS2 _) (fun i x H1 kk hi y q => ?_) ?_
      · obtain ⟨rfl, hx⟩ := y
        refine ⟨rfl, _, rfl, ns.getD i 0, ?_, q⟩
        rw [List.getElem?_map] at hx
        rw [List.length_map] at hi
        rw [List.getElem?_eq_getElem hi] at hx
        rw [List.getD_eq_getElem?_getD, List.getElem?_eq_getElem hi]
        exact congrArg (fun v => [v]) (Option.some.inj hx).symm
      · refine ⟨_, rfl, _, _, rfl, rfl, by show 2 ≤ sizeLine; decide, fun p hp => ?_⟩
        have npD : p ≠ D := fun e => by
          rw [e, upd_same] at hp
          cases hp
        have hp0 : H' p = none := by
          rw [upd_ne npD] at hp
          exact hp
        refine k p D _ ((same_upd hD).trans (same_upd hp)) hp0 hD ⟨npD, ⟨_, upd_same⟩, ns.map (fun i => if i < 0 then -i else i), ?_, ?_⟩
        · rw [upd_ne npD.symm, upd_same, List.length_map, List.map_map]
          exact congrArg (fun l => some (HO.lst l)) (range_map_getD ns 0 fun i => V.int (if i < 0 then -i else i))
        · rw [List.length_map]
          exact hn
def spDraw : Sp := fun vs H Q _ => ∃ (s c : Addr) (m : Int), vs = [.ref s, .int m] ∧ StAt H s c ∧ 0 < m ∧ m < 1073741824 ∧ ∀ r H', 0 ≤ r → r < m → StAt H' s c → Keep H H' s c → Q (.int r) H'
theorem ok_law_draw {P : Program} {w : World} {K : PySem.W.Frag} {mg : Str → Option Value} {base : Heap} {f : Addr} {fd : FuncData} (T : Tx K mg) 
    (F : FunD K "_law_draw" "_law_draw" (defArgs s_law_draw) (defBody s_law_draw) (defScope s_law_draw) [] [] f fd) : FnOk P w K mg base CX0 1 f fd ["state", "many"] spDraw := by
  refine F.ok sc_law_draw (fun vs H Q E h => ?_) (fun cdv A outer s0 H vs Q E hr h => ?_)
  · obtain ⟨s, c, m, rfl, _⟩ := h
    rfl
  · obtain ⟨s, c, m, rfl, ⟨ne, ⟨n, h1⟩, ns, h2, h3⟩, hm0, hm1, k⟩ := h
    refine ⟨_, PSs.nox (pss_cons (ps_set (i := 2) sc_law_draw.nd rfl (Or.inl rfl) (pe_ix ix_list (pv 0) pe_int (fun _ _ => rfl))) (C8.pss_cut (ps_while PassesOwn.never (PW.pt (pw_and (pt_cmpR op_gt (pe_callB call_len_seq rfl T.f_len PySem.boot_len (pa_cons (pv 2) pa_nil)) pe_int (nomark _)) (pw_and1 (pt_cmpR op_eq (pe_ix ix_list (pv 2) pe_int (fun _ _ => rfl)) pe_int (nomark _))))) (pss_one (ps_expr (pe_bm PySem.F.plainAttrs_list PySem.F.slot_list_pop PySem.F.type_list_pop mt_popAt (pv 2) (pa_cons pe_int pa_nil))))) (C8.pss_cut (ps_if (pt_cmpR op_gt (pe_callB call_len_seq rfl T.f_len PySem.boot_len (pa_cons (pv 2) pa_nil)) pe_int (nomark _)) (pss_cons (ps_set (i := 3) sc_law_draw.nd rfl (Or.inl rfl) (pe_ix ix_list (pv 2) pe_int (fun _ _ => rfl))) (pss_cons (ps_asg (pe_op op_fdiv (pv 3) (pv 1)) (pg_sub (pv 2) pe_int set_list)) (pss_one (ps_ret (pe_op op_mod (pe_callTy call_int1 rfl T.f_int (by decide +kernel) (pa_cons (pv 3) pa_nil)) (pv 1)))))) pss_nil) (pss_cons (ps_set (i := 4) sc_law_draw.nd rfl (Or.inl rfl) (pe_op op_mod (pe_callTy call_int1 rfl T.f_int (by decide +kernel) (pa_cons (pe_op op_add (pe_op op_mul (pe_ix ix_list (pv 0) pe_int (fun _ _ => rfl)) pe_int) pe_int) pa_nil)) pe_int)) (pss_cons (ps_asg (pv 4) (pg_sub (pv 0) pe_int set_list)) (pss_one (ps_ret (pe_op op_mod (pe_callTy call_int1 rfl T.f_int (by decide +kernel) (pa_cons (pe_op op_fdiv (pv 4) pe_int) pa_nil)) (pv 1))))))))), ?_⟩
    refine ⟨_, rfl, s, _, 0, _, rfl, rfl, SqL.of h1, rfl, ?_⟩
    let I : L2.St → Hp → List Int → Prop := fun σ H' ns' => σ = [some (.ref s), some (.int m), some (.ref c), none, none] ∧ H' s = some (.lst [.ref c, .int n]) ∧ Keep H H' s c ∧ H' c = some (.lst (ns'.map V.int)) ∧ ns'.length ≤ 63
    refine ⟨fun σ H' => ∃ ns', I σ H' ns', ?_, ?_⟩
    · refine ⟨fun l σ H' => ∃ ns', l = ns'.length ∧ I σ H' ns', ⟨ns.length, ns, rfl, rfl, h1, Keep.refl _ _ _, h2, h3⟩, ?_⟩
      rintro l σ H' ⟨ns', rfl, rfl, g1, kp, g2, g3⟩
      refine ⟨_, rfl, c, _, rfl, .inl (SqL.of g2), _, _, rfl, rfl, _, rfl, ?_⟩
      cases ns' with
      | nil => exact iteF (iteF ⟨[], rfl, g1, kp, g2, g3⟩)
      | cons v r =>
        rw [List.length_map, decide_eq_true (by rw [List.length_cons]; omega)]
        refine iteT ?_
        refine ⟨_, rfl, c, _, 0, V.int v, rfl, rfl, SqL.of g2, atC _ _, rfl, _, rfl, ?_⟩
        refine ite2 (fun h5 => ?_) (fun h5 => ⟨v :: r, rfl, g1, kp, g2, g3⟩)
        refine ⟨fun σ' H2 => ∃ l, l < (v :: r).length ∧ ∃ ns', l = ns'.length ∧ I σ' H2 ns', fun _ _ q => q, ?_⟩
        refine ⟨_, rfl, .inl ⟨rfl, _, SqL.of g2⟩, c, _, 0, 0, V.int v, rfl, rfl, g2, by decide, by decide, sqC _ _, rfl, ?_⟩
        refine ⟨r.length, Nat.lt_succ_self _, r, rfl, rfl, ?_, fun b o e q1 q2 => ?_, upd_same, Nat.le_of_succ_le g3⟩
        · rw [upd_ne ne]
          exact g1
        · rw [upd_ne q2]
          exact kp b o e q1 q2
    · rintro σ H' ⟨ns', rfl, g1, kp, g2, g3⟩
      refine ⟨fun σ' H2 => σ' = [some (.ref s), some (.int m), some (.ref c), none, none] ∧ H2 = H', ?_, ?_⟩
      · refine ⟨_, rfl, c, _, rfl, .inl (SqL.of g2), _, _, rfl, rfl, _, rfl, ?_⟩
        cases ns' with
        | nil => exact iteF ⟨rfl, rfl⟩
        | cons v r =>
          rw [List.length_map, decide_eq_true (by rw [List.length_cons]; omega)]
          refine iteT ?_
          refine ⟨_, rfl, c, _, 0, V.int v, rfl, rfl, SqL.of g2, atC _ _, ?_⟩
          refine ⟨_, rfl, _, rfl, _, _, rfl, rfl, ⟨hm0, hm1⟩, _, rfl, c, _, 0, 0, rfl, rfl, g2, ixC _ _, ?_⟩
          refine ⟨_, rfl, .inl ⟨_, rfl, _, rfl, _, _, rfl, rfl, hm0, ?_⟩⟩
          refine k _ _ (Int.emod_nonneg _ (by omega)) (Int.emod_lt_of_pos _ hm0) ⟨ne, ⟨n, ?_⟩, (v / m) :: r, upd_same, g3⟩ (fun b o e q1 q2 => ?_)
          · rw [upd_ne ne]
            exact g1
          · rw [upd_ne q2]
            exact kp b o e q1 q2
      · rintro σ' H2 ⟨rfl, rfl⟩
        refine ⟨_, rfl, s, _, 1, _, rfl, rfl, SqL.of g1, rfl, _, _, rfl, rfl, .inr ⟨by decide, by decide⟩, _, _, rfl, rfl, .inl ⟨_, rfl, _, _, rfl, rfl, (by show (0 : Int) < 2147483647; decide), ?_⟩⟩
        refine ⟨_, rfl, _, rfl, s, _, 1, 1, rfl, rfl, g1, rfl, ?_⟩
        refine ⟨_, rfl, _, _, rfl, rfl, ⟨by decide, by decide⟩, .inl ⟨_, rfl, _, rfl, _, _, rfl, rfl, hm0, ?_⟩⟩
        refine k _ _ (Int.emod_nonneg _ (by omega)) (Int.emod_lt_of_pos _ hm0) ⟨ne, ⟨_, upd_same⟩, ns', ?_, g3⟩ (fun b o e q1 q2 => ?_)
        · rw [upd_ne ne.symm]
          exact g2
        · rw [upd_ne q1]
          exact kp b o e q1 q2
/-- of a text: one of its signs; of a list: one of its items -/
def spPick : Sp := fun vs H Q _ => ∃ (s c : Addr) (x : V), vs = [.ref s, x] ∧ StAt H s c ∧
  ((∃ z : Str, x = .str z ∧ 0 < z.length ∧ z.length ≤ 1000 ∧ ∀ ch H', ch ∈ TL.tl z → StAt H' s c → Keep H H' s c → Q (.str (S [ch])) H') ∨
   (∃ a xs, x = .ref a ∧ H a = some (.lst xs) ∧ a ≠ s ∧ a ≠ c ∧ 0 < xs.length ∧ xs.length ≤ 1000 ∧ ∀ v ∈ xs, ∀ H', StAt H' s c → Keep H H' s c → Q v H'))
theorem ok_law_pick {P : Program} {w : World} {K : PySem.W.Frag} {mg : Str → Option Value} {base : Heap} {f : Addr} {fd : FuncData} (T : Tx K mg) (c_law_draw : C8.Cal P w K mg base 1 "_law_draw" spDraw [])
    (F : FunD K "_law_pick" "_law_pick" (defArgs s_law_pick) (defBody s_law_pick) (defScope s_law_pick) [] [] f fd) : FnOk P w K mg base CX0 2 f fd ["state", "row"] spPick := by
  refine F.ok sc_law_pick (fun vs H Q E h => ?_) (fun cdv A outer s0 H vs Q E hr h => ?_)
  · obtain ⟨s, c, x, rfl, _⟩ := h
    rfl
  · obtain ⟨s, c, x, rfl, hst, h⟩ := h
    refine ⟨_, PSs.nox (pss_one (ps_ret (pe_ix ix_seq (pv 1) (pe_c c_law_draw hr (by decide) rfl (pa_cons (pv 0) (pa_cons (pe_callB call_len rfl T.f_len PySem.boot_len (pa_cons (pv 1) pa_nil)) pa_nil))) (fun _ _ => rfl)))), ?_⟩
    rcases h with ⟨z, rfl, z0, z1, k⟩ | ⟨a, xs, rfl, ha, as, ac, x0, x1, k⟩
    · have hz2 : z.length ≤ sizeLine := Nat.le_trans z1 (by decide)
      refine ⟨_, rfl, _, rfl, _, rfl, _, z.length, rfl, ⟨hz2, rfl⟩, s, c, _, rfl, hst, by omega, by omega, fun r H' r0 r1 st' kp' => ?_⟩
      have hl : r < ((TL.tl z).length : Nat) := by rw [← len_eq]; exact r1
      refine .inr (.inr ⟨z, r, _, rfl, rfl, hz2, atN 0 r0 hl, ?_⟩)
      refine k _ H' ?_ st' kp'
      have hl2 : r.toNat < (TL.tl z).length := by omega
      rw [List.getD_eq_getElem?_getD, List.getElem?_eq_getElem hl2]
      exact List.getElem_mem _
    · have hx2 : xs.length ≤ sizeLine := Nat.le_trans x1 (by decide)
      refine ⟨_, rfl, _, rfl, _, rfl, _, xs.length, rfl, .inl ⟨xs, SqL.of ha, rfl⟩, s, c, _, rfl, hst, by omega, by omega, fun r H' r0 r1 st' kp' => ?_⟩
      refine .inl ⟨a, xs, r, _, rfl, rfl, SqL.of (kp' a _ ha as ac), atN .non r0 r1, ?_⟩
      refine k _ ?_ H' st' kp'
      rw [List.getD_eq_getElem?_getD, List.getElem?_eq_getElem (by omega)]
      exact List.getElem_mem _

def namesL : List Str := ["wide", "thin", "a", "b2", "plain", "g", "x9x9x9x9x9x9x9x9"]
/-- the offers that the law draws -/
structure Good (o : Off) : Prop where
  p0 : 0 ≤ o.port
  p1 : o.port ≤ 65535
  m : o.mode ∈ modesL
  ne : o.fs ≠ []
  n : o.fs.length ≤ 6
  nd : o.fs.Nodup
  f : ∀ z ∈ o.fs, z ∈ namesL
theorem modes_len : ∀ z ∈ modesL, z.length ≤ 16 := by decide +kernel
theorem names_len : ∀ z ∈ namesL, z.length ≤ 16 := by decide +kernel
theorem Good.ok {o : Off} (g : Good o) : OffOk o := ⟨g.p0, g.p1, modes_len _ g.m, g.n, fun z h => names_len z (g.f z h)⟩
def spOffer : Sp := fun vs H Q _ => ∃ s c, vs = [.ref s] ∧ StAt H s c ∧ ∀ x o H', Good o → OffAt H' x o → StAt H' s c → Keep H H' s c → Q x H'
theorem ok_law_offer {P : Program} {w : World} {K : PySem.W.Frag} {mg : Str → Option Value} {base : Heap} {f : Addr} {fd : FuncData} (T : Tx K mg) (c_law_draw : C8.Cal P w K mg base 1 "_law_draw" spDraw []) (c_law_pick : C8.Cal P w K mg base 2 "_law_pick" spPick [])
    (F : FunD K "_law_offer" "_law_offer" (defArgs s_law_offer) (defBody s_law_offer) (defScope s_law_offer) [] [] f fd) : FnOk P w K mg base CX0 3 f fd ["state"] spOffer := by
  refine F.ok sc_law_offer (fun vs H Q E h => ?_) (fun cdv A outer s0 H vs Q E hr h => ?_)
  · obtain ⟨s, c, rfl, _⟩ := h
    rfl
  · obtain ⟨s, c, rfl, st, k⟩ := h
    refine ⟨_, PSs.nox (pss_cons (ps_set (i := 1) sc_law_offer.nd rfl (Or.inl rfl) (pe_lst (pa_cons pe_str (pa_cons pe_str (pa_cons pe_str (pa_cons pe_str (pa_cons pe_str (pa_cons pe_str (pa_cons pe_str pa_nil))))))))) (pss_cons (ps_set (i := 2) sc_law_offer.nd rfl (Or.inl rfl) (pe_lst pa_nil)) (pss_cons (ps_for PassesOwn.never rfl (pi_range1 rfl T.f_range (pa_cons (pe_op op_add pe_int (pe_c c_law_draw hr (by decide) rfl (pa_cons (pv 0) (pa_cons pe_int pa_nil)))) pa_nil)) (pg_name (i := 3) sc_law_offer.nd rfl (Or.inl rfl)) (pss_cons (ps_set (i := 4) sc_law_offer.nd rfl (Or.inl rfl) (pe_c c_law_pick hr (by decide) rfl (pa_cons (pv 0) (pa_cons (pv 1) pa_nil)))) (pss_one (ps_if (pt_cmpR op_notIn_seq (pv 4) (pv 2) (by with_unfolding_all rfl)) (pss_one (ps_expr (pe_bm PySem.F.plainAttrs_list PySem.F.slot_list_append PySem.F.type_list_append mt_append (pv 2) (pa_cons (pv 4) pa_nil)))) pss_nil)))) (pss_cons (ps_set (i := 5) sc_law_offer.nd rfl (Or.inl rfl) (pe_c c_law_pick hr (by decide) rfl (pa_cons (pv 0) (pa_cons (pe_lst (pa_cons pe_int (pa_cons pe_int (pa_cons pe_int (pa_cons (pe_c c_law_draw hr (by decide) rfl (pa_cons (pv 0) (pa_cons pe_int pa_nil))) pa_nil))))) pa_nil)))) (pss_one (ps_ret (pe_tup (pa_cons (pv 5) (pa_cons (pe_c c_law_pick hr (by decide) rfl (pa_cons (pv 0) (pa_cons (pe_lst (pa_cons pe_str (pa_cons pe_str (pa_cons pe_str (pa_cons pe_str pa_nil))))) pa_nil))) (pa_cons (pe_callTy call_tuple_of rfl T.f_tuple (by decide +kernel) (pa_cons (pv 2) pa_nil)) pa_nil)))))))))), ?_⟩
    refine ⟨by show 7 ≤ sizeLine; decide, fun p hp => ?_⟩
    obtain ⟨ps, pc⟩ := st.tracked hp
    refine ⟨by show 0 ≤ sizeLine; decide, fun q hq => ?_⟩
    have pq : p ≠ q := fun e => by
      rw [← e, upd_same] at hq
      cases hq
    have hq0 : H q = none := by
      rw [upd_ne pq.symm] at hq
      exact hq
    obtain ⟨qs, qc⟩ := st.tracked hq0
    refine ⟨_, rfl, s, c, 6, rfl, (st.upd ps pc).upd qs qc, by decide, by decide, fun r H1 r0 r1 st1 kp1 => ?_⟩
    have ep1 : H1 p = some (.lst (namesL.map V.str)) := kp1 p _ (by rw [upd_ne pq, upd_same]; rfl) ps pc
    have eq1 : H1 q = some (.lst []) := kp1 q _ upd_same qs qc
    have kp0 : Keep H H1 s c := fun b o e h1 h2 => kp1 b o (by rw [upd_ne (ne_of_none e hq0), upd_ne (ne_of_none e hp)]; exact e) h1 h2
    refine ⟨_, _, rfl, rfl, _, rfl, by omega, by omega, for_it walk_range (fun i σ H' => StAt H' s c ∧ Keep H H' s c ∧ H' p = some (.lst (namesL.map V.str)) ∧ (∃ v3 v4 : Option V, σ = [some (.ref s), some (.ref p), some (.ref q), v3, v4, none]) ∧ ∃ fs : List Str, H' q = some (.lst (fs.map V.str)) ∧ fs.length ≤ i ∧ fs.Nodup ∧ (∀ z ∈ fs, z ∈ namesL) ∧ (0 < i → fs ≠ []))
      ⟨st1, kp0, ep1, ⟨none, none, rfl⟩, [], eq1, Nat.le_refl 0, List.nodup_nil, (fun z h => by cases h), fun h => absurd h (Nat.lt_irrefl 0)⟩ (fun _ _ _ _ _ => trivial) ?_ ?_⟩
    · rintro i x σ H2 H3 hi ⟨st2, kp2, ep2, ⟨v3, v4, rfl⟩, fs, eq2, l2, n2, f2, z2⟩ ⟨rfl, rfl⟩
      refine ⟨_, rfl, _, rfl, s, c, _, rfl, st2, .inr ⟨p, _, rfl, ep2, ps, pc, by decide, by decide, fun v hv H4 st4 kp4 => ?_⟩⟩
      obtain ⟨z, hz, rfl⟩ := List.mem_map.mp hv
      have eq4 := kp4 q _ eq2 qs qc
      refine ⟨_, rfl, _, rfl, q, _, rfl, .inl (SqL.of eq4), rfl, flat_strs fs, _, rfl, ?_⟩
      rw [inV_strs]
      by_cases hm : z ∈ fs
      · rw [decide_eq_true hm]
        exact iteF ⟨st4, kp2.trans kp4, kp4 p _ ep2 ps pc, ⟨_, _, rfl⟩, fs, eq4, by omega, n2, f2, fun _ e => by rw [e] at hm; cases hm⟩
      · rw [decide_eq_false hm]
        refine iteT ⟨_, rfl, .inl ⟨rfl, _, SqL.of eq4⟩, _, rfl, q, _, _, rfl, rfl, eq4, ?_, ?_⟩
        · rw [List.length_map]
          exact Nat.lt_of_le_of_lt (show fs.length ≤ 6 by omega) (by decide)
        · refine ⟨st4.upd qs qc, (kp2.trans kp4).upd hq0, ?_, ⟨_, _, rfl⟩, fs ++ [z], ?_, ?_, ?_, ?_, ?_⟩
          · rw [upd_ne pq]
            exact kp4 p _ ep2 ps pc
          · rw [upd_same, List.map_append]
            rfl
          · rw [List.length_append, List.length_singleton]
            omega
          · rw [List.nodup_append]
            refine ⟨n2, by simp, fun a ha b hb e => ?_⟩
            rw [List.mem_singleton.mp hb] at e
            exact hm (e ▸ ha)
          · intro y hy
            rcases List.mem_append.mp hy with h | h
            · exact f2 y h
            · rw [List.mem_singleton.mp h]
              exact hz
          · exact fun _ e => by simp at e
    · rintro σ H2 ⟨st2, kp2, ep2, ⟨v3, v4, rfl⟩, fs, eq2, l2, n2, f2, z2⟩
      refine ⟨_, rfl, _, rfl, s, c, 65536, rfl, st2, by decide, by decide, fun t H3 t0 t1 st3 kp3 => ⟨by show 4 ≤ sizeLine; decide, fun u hu => ?_⟩⟩
      obtain ⟨us, uc⟩ := st3.tracked hu
      have eq3 := kp3 q _ eq2 qs qc
      refine ⟨s, c, _, rfl, st3.upd us uc, .inr ⟨u, _, rfl, upd_same, us, uc, by show 0 < 4; decide, by show 4 ≤ 1000; decide, fun v hv H4 st4 kp4 => ?_⟩⟩
      obtain ⟨port, rfl, i0, i1⟩ : ∃ i : Int, v = .int i ∧ 0 ≤ i ∧ i ≤ 65535 := by
        simp only [List.mem_cons, List.not_mem_nil, or_false] at hv
        rcases hv with rfl | rfl | rfl | rfl
        · exact ⟨_, rfl, by decide, by decide⟩
        · exact ⟨_, rfl, by decide, by decide⟩
        · exact ⟨_, rfl, by decide, by decide⟩
        · exact ⟨_, rfl, t0, by omega⟩
      have kp34 : Keep H3 H4 s c := fun b o e h1 h2 => kp4 b o (by rw [upd_ne (ne_of_none e hu)]; exact e) h1 h2
      have eq4 := kp34 q _ eq3 qs qc
      refine ⟨_, rfl, _, rfl, by show 4 ≤ sizeLine; decide, fun u2 hu2 => ?_⟩
      obtain ⟨us2, uc2⟩ := st4.tracked hu2
      refine ⟨s, c, _, rfl, st4.upd us2 uc2, .inr ⟨u2, modesL.map V.str, rfl, upd_same, us2, uc2, by decide, by decide, fun v hv H5 st5 kp5 => ?_⟩⟩
      obtain ⟨m, hm, rfl⟩ := List.mem_map.mp hv
      have kp45 : Keep H4 H5 s c := fun b o e h1 h2 => kp5 b o (by rw [upd_ne (ne_of_none e hu2)]; exact e) h1 h2
      have eq5 := kp45 q _ eq4 qs qc
      refine ⟨_, rfl, q, _, rfl, .inl ⟨SqL.of eq5, fun f hf => ⟨by show 3 ≤ sizeLine; decide, fun w hw => ?_⟩⟩⟩
      have fw : f ≠ w := fun e => by
        rw [← e, upd_same] at hw
        cases hw
      have hw0 : H5 w = none := by
        rw [upd_ne fw.symm] at hw
        exact hw
      obtain ⟨fs1, fc1⟩ := st5.tracked hf
      obtain ⟨ws1, wc1⟩ := st5.tracked hw0
      have kpA : Keep H H5 s c := ((kp2.trans kp3).trans kp34).trans kp45
      refine k _ ⟨port, m, fs⟩ _ ⟨i0, i1, hm, z2 (by omega), by show fs.length ≤ 6; omega, n2, f2⟩ ⟨w, f, rfl, upd_same, by rw [upd_ne fw, upd_same]⟩ ((st5.upd fs1 fc1).upd ws1 wc1) ?_
      exact kpA.trans (Keep.of_same ((same_upd hf).trans (same_upd hw)))
def spIn (f : Str → Bool) : Sp := fun vs H Q _ => ∃ m : Str, vs = [.str m] ∧ ∀ H', Same H H' → Q (.bl (f m)) H'
theorem ok_law_sends {P : Program} {w : World} {K : PySem.W.Frag} {mg : Str → Option Value} {base : Heap} {f : Addr} {fd : FuncData} (T : Tx K mg) 
    (F : FunD K "_law_sends" "_law_sends" (defArgs s_law_sends) (defBody s_law_sends) (defScope s_law_sends) [] [] f fd) : FnOk P w K mg base CX0 1 f fd ["mode"] (spIn sendsB) := by
  refine F.ok sc_law_sends (fun vs H Q E h => ?_) (fun cdv A outer s H vs Q E hr h => ?_)
  · obtain ⟨m, rfl, _⟩ := h
    rfl
  · obtain ⟨m, rfl, k⟩ := h
    refine ⟨_, PSs.nox (pss_one (ps_ret (pe_cmpR op_in_seq (pv 0) (pe_lst (pa_cons pe_str (pa_cons pe_str pa_nil))) (by with_unfolding_all rfl)))), ?_⟩
    exact ⟨_, rfl, by show 2 ≤ sizeLine; decide, fun t ht => ⟨t, _, rfl, .inl (SqL.of upd_same), rfl, rfl, k _ (same_upd ht)⟩⟩
theorem ok_law_takes {P : Program} {w : World} {K : PySem.W.Frag} {mg : Str → Option Value} {base : Heap} {f : Addr} {fd : FuncData} (T : Tx K mg) 
    (F : FunD K "_law_takes" "_law_takes" (defArgs s_law_takes) (defBody s_law_takes) (defScope s_law_takes) [] [] f fd) : FnOk P w K mg base CX0 1 f fd ["mode"] (spIn takesB) := by
  refine F.ok sc_law_takes (fun vs H Q E h => ?_) (fun cdv A outer s H vs Q E hr h => ?_)
  · obtain ⟨m, rfl, _⟩ := h
    rfl
  · obtain ⟨m, rfl, k⟩ := h
    refine ⟨_, PSs.nox (pss_one (ps_ret (pe_cmpR op_in_seq (pv 0) (pe_lst (pa_cons pe_str (pa_cons pe_str pa_nil))) (by with_unfolding_all rfl)))), ?_⟩
    exact ⟨_, rfl, by show 2 ≤ sizeLine; decide, fun t ht => ⟨t, _, rfl, .inl (SqL.of upd_same), rfl, rfl, k _ (same_upd ht)⟩⟩
def spModeL : Sp := fun vs H Q _ => ∃ a b : Bool, vs = [.bl a, .bl b] ∧ ∀ H', Same H H' → Q (.str (modeS a b)) H'
theorem ok_law_mode {P : Program} {w : World} {K : PySem.W.Frag} {mg : Str → Option Value} {base : Heap} {f : Addr} {fd : FuncData} (T : Tx K mg) 
    (F : FunD K "_law_mode" "_law_mode" (defArgs s_law_mode) (defBody s_law_mode) (defScope s_law_mode) [] [] f fd) : FnOk P w K mg base CX0 1 f fd ["sends", "takes"] spModeL := by
  refine F.ok sc_law_mode (fun vs H Q E h => ?_) (fun cdv A outer s H vs Q E hr h => ?_)
  · obtain ⟨a, b, rfl, _⟩ := h
    rfl
  · obtain ⟨a, b, rfl, k⟩ := h
    refine ⟨_, PSs.nox (pss_one (ps_ret (pe_ix ix_list (pe_lst (pa_cons pe_str (pa_cons pe_str (pa_cons pe_str (pa_cons pe_str pa_nil))))) (pe_op op_add (pe_op op_mul pe_int (pe_callTy call_int1 rfl T.f_int (by decide +kernel) (pa_cons (pv 0) pa_nil))) (pe_callTy call_int1 rfl T.f_int (by decide +kernel) (pa_cons (pv 1) pa_nil))) (fun _ _ => rfl)))), ?_⟩
    refine ⟨by show 4 ≤ sizeLine; decide, fun p hp => ?_⟩
    have k1 := k _ (same_upd (o := .lst ((["none", "take", "send", "both"] : List Str).map V.str)) hp)
    refine ⟨_, rfl, .inr ⟨a, rfl, _, _, rfl, rfl, .inl ⟨by decide, by decide⟩, _, rfl, .inr ⟨b, rfl, _, _, rfl, rfl, p, _, _, .str (modeS a b), rfl, rfl, SqL.of upd_same, ?_, k1⟩⟩⟩
    cases a <;> cases b <;> rfl
end K2
set_option maxHeartbeats 4000000
namespace K2
open PySem PySem.Spec PyProof.Rows L2 SX TK TKS
open C8 (pe_c)
theorem ok_law_answer {P : Program} {w : World} {K : PySem.W.Frag} {mg : Str → Option Value} {base : Heap} {f : Addr} {fd : FuncData} (T : Tx K mg) (c_law_sends : C8.Cal P w K mg base 1 "_law_sends" (spIn sendsB) []) (c_law_takes : C8.Cal P w K mg base 1 "_law_takes" (spIn takesB) []) (c_law_mode : C8.Cal P w K mg base 1 "_law_mode" spModeL [])
    (F : FunD K "_law_answer" "_law_answer" (defArgs s_law_answer) (defBody s_law_answer) (defScope s_law_answer) [] [] f fd) : FnOk P w K mg base CX0 2 f fd ["able", "offer"] spAnswer := by
  refine F.ok sc_law_answer (fun vs H Q E h => ?_) (fun cdv A outer s H vs Q E hr h => ?_)
  · obtain ⟨x, a, y, o, rfl, _⟩ := h
    rfl
  · obtain ⟨x, a, y, o, rfl, hx, hy, hl, k⟩ := h
    obtain ⟨p, f, rfl, e1, e2⟩ := id hx
    obtain ⟨q, g, rfl, e3, e4⟩ := id hy
    refine ⟨_, PSs.nox (pss_cons (ps_set (i := 2) sc_law_answer.nd rfl (Or.inl rfl) (pe_callTy call_tuple_of rfl T.f_tuple (by decide +kernel) (pa_cons (pe_lc (own := [("name", 4)]) (g := gName 4) rfl sc_law_answer.nd (pi_tup (pe_ix ix_tup (pv 1) pe_int (fun _ _ => rfl))) (blkOk_by (own := [("name", 4)]) (N := ["able", "offer", "common", "sends", "name"]) (sc := defScope s_law_answer) (by decide +kernel)) (fun _ _ _ _ _ => pg_name (i := 4) sc_law_answer.nd rfl (Or.inl rfl)) (fun _ _ _ _ _ => pts_one (pt_cmpR (inSeqK K rfl) (pv 4) (pe_ix (ixTupK K rfl) (pv 0) pe_int (fun _ _ => rfl)) (by with_unfolding_all rfl))) (fun _ _ _ _ _ => (pv 4))) pa_nil))) (C8.pss_cut (ps_if (pt_cmpR op_eq (pe_callB call_len_seq rfl T.f_len PySem.boot_len (pa_cons (pv 2) pa_nil)) pe_int (nomark _)) (pss_one (ps_ret pe_non)) pss_nil) (pss_cons (ps_set (i := 3) sc_law_answer.nd rfl (Or.inl rfl) (pe_and (pe_c c_law_sends hr (by decide) rfl (pa_cons (pe_ix ix_tup (pv 0) pe_int (fun _ _ => rfl)) pa_nil)) (pe_one (pe_c c_law_takes hr (by decide) rfl (pa_cons (pe_ix ix_tup (pv 1) pe_int (fun _ _ => rfl)) pa_nil))))) (pss_one (ps_ret (pe_tup (pa_cons (pe_ix ix_tup (pv 0) pe_int (fun _ _ => rfl)) (pa_cons (pe_c c_law_mode hr (by decide) rfl (pa_cons (pv 3) (pa_cons (pe_and (pe_c c_law_takes hr (by decide) rfl (pa_cons (pe_ix ix_tup (pv 0) pe_int (fun _ _ => rfl)) pa_nil)) (pe_one (pe_c c_law_sends hr (by decide) rfl (pa_cons (pe_ix ix_tup (pv 1) pe_int (fun _ _ => rfl)) pa_nil)))) pa_nil))) (pa_cons (pv 2) pa_nil))))))))), ?_⟩
    refine ⟨_, rfl, q, _, 2, _, rfl, rfl, SqT.of e3, rfl, g, rfl, ⟨_, SqT.of e4⟩, fun D hD => ?_⟩
    have st : ∀ l, Same H (upd H D l) := fun l => same_upd hD
    refine lc_filt walk_tup (fun i => V.str (o.fs.getD i Str.empty)) (fun i => decide (o.fs.getD i Str.empty ∈ a.fs)) (by rw [List.length_map]; exact Nat.le_trans hl (by decide)) (fun i hi => SqT.of (st _ _ _ e4)) (fun i v H1 kk hi yy z => ?_) (fun i v H1 kk hi hb yy z => ?_) ?_
    · obtain ⟨rfl, ev⟩ := yy
      rw [List.getElem?_map] at ev
      obtain ⟨w, ew, rfl⟩ := Option.map_eq_some_iff.mp ev
      rw [getD_at _ ew] at z
      refine ⟨rfl, _, rfl, _, rfl, p, _, 2, _, rfl, rfl, SqT.of (st _ _ _ e1), rfl, f, _, rfl, .inr (SqT.of (st _ _ _ e2)), rfl, flat_strs _, _, rfl, ?_⟩
      rw [inV_strs]
      exact z
    · obtain ⟨rfl, ev⟩ := yy
      rw [List.getElem?_map] at ev
      obtain ⟨w, ew, rfl⟩ := Option.map_eq_some_iff.mp ev
      rw [getD_at _ ew] at z
      exact ⟨_, rfl, z⟩
    · have eL : ((List.range (o.fs.map V.str).length).filter fun i => decide (o.fs.getD i Str.empty ∈ a.fs)).map (fun i => V.str (o.fs.getD i Str.empty)) = (commonL a o).map V.str := by
        rw [List.length_map]
        exact range_filter_getD o.fs Str.empty (fun z => decide (z ∈ a.fs)) V.str
      rw [eL]
      refine ⟨D, _, rfl, .inl ⟨SqL.of upd_same, fun t ht => ?_⟩⟩
      have s2 : Same H (upd (upd H D (.lst ((commonL a o).map V.str))) t (.tup ((commonL a o).map V.str))) := (st _).trans (same_upd ht)
      refine ⟨fun σ' H' => σ' = [some (.ref p), some (.ref q), some (.ref t), none, none] ∧ Same H H' ∧ H' t = some (.tup ((commonL a o).map V.str)) ∧ commonL a o ≠ [], ?_, ?_⟩
      · refine ⟨_, rfl, t, _, rfl, .inr (SqT.of upd_same), rfl, _, rfl, ?_⟩
        cases ec : commonL a o with
        | nil =>
          rw [ec] at s2
          refine iteT (k _ _ s2 ?_)
          unfold answerO
          rw [if_pos ec]
          rfl
        | cons c r =>
          rw [ec] at s2
          have e : decide (V.int (((c :: r).map V.str).length : Nat) = V.int 0) = false := decide_eq_false fun z => by
            have := V.int.inj z
            rw [List.length_map, List.length_cons] at this
            omega
          rw [e]
          exact iteF ⟨rfl, s2, upd_same, by simp⟩
      · rintro σ' H1 ⟨rfl, s1, e5, hne⟩
        have eA : answerO a o = some ⟨a.port, modeS (sendsB a.mode && takesB o.mode) (takesB a.mode && sendsB o.mode), commonL a o⟩ := by
          unfold answerO
          rw [if_neg hne, Bool.and_comm (takesB a.mode)]
        -- sends
        refine ⟨_, rfl, p, _, 1, _, rfl, rfl, SqT.of (s1 _ _ e1), rfl, a.mode, rfl, fun H2 s2 => ⟨_, rfl, ?_⟩⟩
        have last : ∀ (b1 : Bool) (H3 : Hp), b1 = (sendsB a.mode && takesB o.mode) → Same H1 H3 → (tRet (tTup (tCons (tOp (rIxT K) (tVar 0) (tC (.int 0))) (tCons (tCall spModeL [] L2.E0 (tCons (tVar 3) (tCons (tAndV (tCall (spIn takesB) [] L2.E0 (tCons (tOp (rIxT K) (tVar 0) (tC (.int 1))) tNil)) (tCall (spIn sendsB) [] L2.E0 (tCons (tOp (rIxT K) (tVar 1) (tC (.int 1))) tNil))) tNil))) (tCons (tVar 2) tNil)))) : TS) { nx := fun _ H' => Q .non H', rt := Q } [some (.ref p), some (.ref q), some (.ref t), some (.bl b1), none] H3 := by
          rintro b1 H3 rfl s3
          have sA := s1.trans s3
          refine ⟨_, rfl, p, _, 0, _, rfl, rfl, SqT.of (sA _ _ e1), rfl, _, rfl, _, rfl, p, _, 1, _, rfl, rfl, SqT.of (sA _ _ e1), rfl, a.mode, rfl, fun H4 s4 => ⟨_, rfl, ?_⟩⟩
          cases e : takesB a.mode with
          | true =>
            refine iteT ⟨_, rfl, q, _, 1, _, rfl, rfl, SqT.of ((sA.trans s4) _ _ e3), rfl, o.mode, rfl, fun H5 s5 => ⟨_, _, rfl, fun H6 s6 => ⟨_, rfl, by show 3 ≤ sizeLine; decide, fun u hu => ?_⟩⟩⟩
            refine k _ _ ((((sA.trans s4).trans s5).trans s6).trans (same_upd hu)) ?_
            rw [eA, e]
            exact ⟨u, t, rfl, upd_same, (same_upd hu) _ _ (s6 _ _ (s5 _ _ (s4 _ _ (s3 _ _ e5))))⟩
          | false =>
            refine iteF ⟨_, _, rfl, fun H6 s6 => ⟨_, rfl, by show 3 ≤ sizeLine; decide, fun u hu => ?_⟩⟩
            refine k _ _ (((sA.trans s4).trans s6).trans (same_upd hu)) ?_
            rw [eA, e]
            exact ⟨u, t, rfl, upd_same, (same_upd hu) _ _ (s6 _ _ (s4 _ _ (s3 _ _ e5)))⟩
        cases e : sendsB a.mode with
        | true =>
          refine iteT ⟨_, rfl, q, _, 1, _, rfl, rfl, SqT.of ((s1.trans s2) _ _ e3), rfl, o.mode, rfl, fun H3 s3 => ?_⟩
          exact last _ H3 (by rw [e]; rfl) (s2.trans s3)
        | false => exact iteF (last _ H2 (by rw [e]; rfl) s2)
/-! ### wrong words -/
theorem joinL_snoc (s p : List Nat) : ∀ l : List (List Nat), l ≠ [] → TL.joinL s (l ++ [p]) = TL.joinL s l ++ (s ++ p)
  | [], h => absurd rfl h
  | [a], _ => rfl
  | a :: b :: r, _ => by
    show a ++ (s ++ TL.joinL s (b :: r ++ [p])) = (a ++ (s ++ TL.joinL s (b :: r))) ++ (s ++ p)
    rw [joinL_snoc s p (b :: r) (by simp), List.append_assoc, List.append_assoc]
theorem join_snoc (y p : Str) (l : List Str) (h : l ≠ []) : Txt.join y (l ++ [p]) = Txt.join y l ++ (y ++ p) := by
  apply TL.ext_tl
  have e : ∀ l, Txt.join y l = Str.join y l := TL.join_eq y
  rw [e, e, TL.tl_join, TL.tl_append, TL.tl_append, TL.tl_join, List.map_append]
  exact joinL_snoc _ _ _ (by simpa using h)
theorem comma_eq : ("," : Str) = S [44] := by decide +kernel
theorem blank_eq : (" " : Str) = S [32] := by decide +kernel
theorem names_plain : ∀ z ∈ namesL, 44 ∉ TL.tl z ∧ 32 ∉ TL.tl z ∧ nameB z = true := by decide +kernel
/-- names with commas between, cut at the commas -/
theorem split_names {l : List Str} (h : l ≠ []) (hp : ∀ z ∈ l, 44 ∉ TL.tl z) : Txt.split (Txt.join "," l) "," = l :=
  TL.split_join (y := ",") (s := 44) (S := []) (by decide +kernel) (by decide +kernel) h hp
theorem fmt_good {o : Off} (g : Good o) : fmtO (Txt.join "," o.fs) = some o.fs := by
  unfold fmtO
  rw [split_names g.ne (fun z h => (names_plain z (g.f z h)).1), if_pos ⟨g.n, g.nd⟩, if_pos (List.all_eq_true.mpr fun z h => (names_plain z (g.f z h)).2.2)]
theorem fmt_more {o : Off} (g : Good o) {p : Str} (hp : 44 ∉ TL.tl p) (bad : nameB p = false ∨ p ∈ o.fs) : fmtO (Txt.join "," o.fs ++ ("," ++ p)) = none := by
  rw [← join_snoc _ _ _ g.ne]
  unfold fmtO
  rw [split_names (by simp) (by
    intro z h
    rcases List.mem_append.mp h with q | q
    · exact (names_plain z (g.f z q)).1
    · rw [List.mem_singleton.mp q]
      exact hp)]
  rcases bad with b | b
  · have e : (o.fs ++ [p]).all nameB = false := by
      rw [List.all_append]
      show (o.fs.all nameB && (nameB p && true)) = false
      rw [b]
      simp
    rw [e]
    split <;> rfl
  · have e : ¬ (o.fs ++ [p]).Nodup := fun q => (List.nodup_append.mp q).2.2 p b p (by simp) rfl
    rw [if_neg fun q => e q.2]
def badPorts : List Str := ["65536", "-1", "01", "", "x"]
def badModes : List Str := ["BOTH", "", "recv", "sends"]
def badFmts : List Str := ["", ",a", "A", "a,,b", "9a", "a b", "aaaaaaaaaaaaaaaaa"]
theorem ports_bad : ∀ z ∈ badPorts, numV z 65535 = .non ∧ z.length ≤ 1000 := by decide +kernel
theorem modes_bad : ∀ z ∈ badModes, z ∉ modesL ∧ z.length ≤ 1000 := by decide +kernel
theorem fmts_bad : ∀ z ∈ badFmts, fmtO z = none ∧ z.length ≤ 1000 := by decide +kernel
theorem many_bad : fmtO "a,b,c,d,e,f,g" = none ∧ ("a,b,c,d,e,f,g" : Str).length ≤ 1000 := by decide +kernel
theorem readP_fmt (v : V) (b : Str) : readP v b none = none := by
  cases v <;> rfl
theorem readP_mode (v : V) {b : Str} (f : Option (List Str)) (h : b ∉ modesL) : readP v b f = none := by
  unfold readP
  split
  · rw [if_neg h]
  · rfl
def spWrong : Sp := fun vs H Q _ => ∃ s c x o, vs = [.ref s, x] ∧ StAt H s c ∧ OffAt H x o ∧ Good o ∧ ∀ l ws H', H' l = some (.lst (ws.map V.str)) → (∀ z ∈ ws, z.length ≤ 1000) → ws.length ≤ 1000 → readO ws = none → StAt H' s c → Keep H H' s c → Q (.ref l) H'
theorem readO_port {a b c : Str} (h : numV a 65535 = .non) : readO [a, b, c] = none := by
  rw [readO_eq, h]
  rfl
theorem readO_mode {a b c : Str} (h : b ∉ modesL) : readO [a, b, c] = none := by
  rw [readO_eq, readP_mode _ _ h]
theorem readO_fmt {a b c : Str} (h : fmtO c = none) : readO [a, b, c] = none := by
  rw [readO_eq, h, readP_fmt]
theorem ok_law_wrong_words {P : Program} {w : World} {K : PySem.W.Frag} {mg : Str → Option Value} {base : Heap} {f : Addr} {fd : FuncData} (T : Tx K mg) (c_law_draw : C8.Cal P w K mg base 1 "_law_draw" spDraw []) (c_law_pick : C8.Cal P w K mg base 2 "_law_pick" spPick [])
    (F : FunD K "_law_wrong_words" "_law_wrong_words" (defArgs s_law_wrong_words) (defBody s_law_wrong_words) (defScope s_law_wrong_words) [] [] f fd) : FnOk P w K mg base CX0 3 f fd ["state", "offer"] spWrong := by
  refine F.ok sc_law_wrong_words (fun vs H Q E h => ?_) (fun cdv A outer s0 H vs Q E hr h => ?_)
  · obtain ⟨s, c, x, o, rfl, _⟩ := h
    rfl
  · obtain ⟨s, c, x, o, rfl, st, hx, g, k⟩ := h
    obtain ⟨p, f, rfl, e1, e2⟩ := id hx
    obtain ⟨j1, j2⟩ := g.ok.join
    obtain ⟨t1, t2⟩ := g.ok.str
    have lm := g.ok.m
    refine ⟨_, PSs.nox (pss_cons (ps_set (i := 2) sc_law_wrong_words.nd rfl (Or.inl rfl) (pe_lst (pa_cons (pe_callTy call_str_int rfl T.f_str (by decide +kernel) (pa_cons (pe_ix ix_tup (pv 1) pe_int (fun _ _ => rfl)) pa_nil)) (pa_cons (pe_ix ix_tup (pv 1) pe_int (fun _ _ => rfl)) (pa_cons (pe_join pe_str (pe_ix ix_tup (pv 1) pe_int (fun _ _ => rfl))) pa_nil))))) (pss_cons (ps_set (i := 3) sc_law_wrong_words.nd rfl (Or.inl rfl) (pe_c c_law_draw hr (by decide) rfl (pa_cons (pv 0) (pa_cons pe_int pa_nil)))) (C8.pss_cut (ps_if (pt_cmpR op_eq (pv 3) pe_int (nomark _)) (pss_one (ps_ret (pe_slice sl_list (pv 2) po_none (po_some pe_int)))) pss_nil) (C8.pss_cut (ps_if (pt_cmpR op_eq (pv 3) pe_int (nomark _)) (pss_one (ps_ret (pe_op op_cat (pv 2) (pe_lst (pa_cons pe_str pa_nil))))) pss_nil) (C8.pss_cut (ps_if (pt_cmpR op_eq (pv 3) pe_int (nomark _)) (pss_one (ps_ret (pe_op op_cat (pe_lst (pa_cons (pe_c c_law_pick hr (by decide) rfl (pa_cons (pv 0) (pa_cons (pe_lst (pa_cons pe_str (pa_cons pe_str (pa_cons pe_str (pa_cons pe_str (pa_cons pe_str pa_nil)))))) pa_nil))) pa_nil)) (pe_slice sl_list (pv 2) (po_some pe_int) po_none)))) pss_nil) (C8.pss_cut (ps_if (pt_cmpR op_eq (pv 3) pe_int (nomark _)) (pss_one (ps_ret (pe_lst (pa_cons (pe_ix ix_list (pv 2) pe_int (fun _ _ => rfl)) (pa_cons (pe_c c_law_pick hr (by decide) rfl (pa_cons (pv 0) (pa_cons (pe_lst (pa_cons pe_str (pa_cons pe_str (pa_cons pe_str (pa_cons pe_str pa_nil))))) pa_nil))) (pa_cons (pe_ix ix_list (pv 2) pe_int (fun _ _ => rfl)) pa_nil)))))) pss_nil) (C8.pss_cut (ps_if (pt_cmpR op_eq (pv 3) pe_int (nomark _)) (pss_one (ps_ret (pe_op op_cat (pe_slice sl_list (pv 2) po_none (po_some pe_int)) (pe_lst (pa_cons (pe_op op_add_str (pe_ix ix_list (pv 2) pe_int (fun _ _ => rfl)) pe_str) pa_nil))))) pss_nil) (C8.pss_cut (ps_if (pt_cmpR op_eq (pv 3) pe_int (nomark _)) (pss_one (ps_ret (pe_op op_cat (pe_slice sl_list (pv 2) po_none (po_some pe_int)) (pe_lst (pa_cons (pe_op op_add_str (pe_op op_add_str (pe_ix ix_list (pv 2) pe_int (fun _ _ => rfl)) pe_str) (pe_ix ix_tup (pe_ix ix_tup (pv 1) pe_int (fun _ _ => rfl)) pe_int (fun _ _ => rfl))) pa_nil))))) pss_nil) (C8.pss_cut (ps_if (pt_cmpR op_eq (pv 3) pe_int (nomark _)) (pss_one (ps_ret (pe_op op_cat (pe_slice sl_list (pv 2) po_none (po_some pe_int)) (pe_lst (pa_cons pe_str pa_nil))))) pss_nil) (pss_one (ps_ret (pe_op op_cat (pe_slice sl_list (pv 2) po_none (po_some pe_int)) (pe_lst (pa_cons (pe_c c_law_pick hr (by decide) rfl (pa_cons (pv 0) (pa_cons (pe_lst (pa_cons pe_str (pa_cons pe_str (pa_cons pe_str (pa_cons pe_str (pa_cons pe_str (pa_cons pe_str (pa_cons pe_str pa_nil)))))))) pa_nil))) pa_nil)))))))))))))), ?_⟩
    refine ⟨_, rfl, p, _, 0, _, rfl, rfl, SqT.of e1, rfl, _, rfl, t2, _, rfl, p, _, 1, _, rfl, rfl, SqT.of e1, rfl, ⟨_, rfl⟩, _, rfl, p, _, 2, _, rfl, rfl, SqT.of e1, rfl, ",", f, o.fs, rfl, rfl, .inr (SqT.of e2), by omega, by show 3 ≤ sizeLine; decide, fun L hL => ?_⟩
    obtain ⟨Ls, Lc⟩ := st.tracked hL
    generalize ew : Str.ofString (toString o.port) = w at t1 ⊢
    generalize ej : Txt.join "," o.fs = j at j2 ⊢
    refine ⟨_, rfl, s, c, 9, rfl, st.upd Ls Lc, by decide, by decide, fun r H1 r0 r1 st1 kp1 => ?_⟩
    have eL : H1 L = some (.lst [.str w, .str o.mode, .str j]) := kp1 L _ upd_same Ls Lc
    have kp : Keep H H1 s c := fun b u e h1 h2 => kp1 b u (by rw [upd_ne (ne_of_none e hL)]; exact e) h1 h2
    have h1 := hx.keep st kp
    have fin : ∀ (l : Addr) (ws : List Str) (H' : Hp), Same H1 H' → H' l = some (.lst (ws.map V.str)) → (∀ z ∈ ws, z.length ≤ 1000) → ws.length ≤ 1000 → readO ws = none → Q (.ref l) H' := fun l ws H' sm el hz hn hr => k l ws H' el hz hn hr (st1.same sm) (kp.trans (Keep.of_same sm))
    have lw : w.length ≤ 1000 := by omega
    have lj : j.length ≤ 1000 := by omega
    have lmm : o.mode.length ≤ 1000 := by omega
    have three : ∀ {a b c : Str}, a.length ≤ 1000 → b.length ≤ 1000 → c.length ≤ 1000 → ∀ z ∈ [a, b, c], z.length ≤ 1000 := by
      intro a b c ha hb hc z hz
      simp only [List.mem_cons, List.not_mem_nil, or_false] at hz
      rcases hz with rfl | rfl | rfl
      · exact ha
      · exact hb
      · exact hc
    let Mid : L2.St → Hp → Prop := fun σ' H' => σ' = [some (.ref s), some (.ref p), some (.ref L), some (.int r)] ∧ H' = H1
    -- two words
    refine ⟨Mid, ⟨_, rfl, rfl, _, rfl, ite2 (fun _ => ?_) (fun _ => ⟨rfl, rfl⟩)⟩, ?_⟩
    · refine ⟨_, rfl, 2, rfl, L, _, rfl, SqL.of eL, fun q hq => fin q [w, o.mode] _ (same_upd hq) upd_same ?_ (by simp) (readO_len (by simp))⟩
      intro z hz
      simp only [List.mem_cons, List.not_mem_nil, or_false] at hz
      rcases hz with rfl | rfl
      · exact lw
      · exact lmm
    rintro σ' H' ⟨rfl, rfl⟩
    -- four words
    refine ⟨Mid, ⟨_, rfl, rfl, _, rfl, ite2 (fun _ => ?_) (fun _ => ⟨rfl, rfl⟩)⟩, ?_⟩
    · refine ⟨_, rfl, by show 1 ≤ sizeLine; decide, fun u hu => ⟨L, u, _, _, rfl, rfl, (same_upd hu) _ _ eL, upd_same, by show 3 + 1 ≤ sizeLine; decide, fun q hq => ?_⟩⟩
      refine fin q [w, o.mode, j, "x"] _ ((same_upd hu).trans (same_upd hq)) upd_same ?_ (by simp) (readO_len (by simp))
      intro z hz
      rcases List.mem_append.mp (show z ∈ [w, o.mode, j] ++ (["x"] : List Str) from hz) with h | h
      · exact three lw lmm lj z h
      · rw [List.mem_singleton.mp h]
        decide +kernel
    rintro σ' H2 ⟨rfl, rfl⟩
    have eL0 : H2 L = some (.lst [.str w, .str o.mode, .str j]) := eL
    have fin2 : ∀ (H4 : Hp), StAt H4 s c → Keep H2 H4 s c → ∀ (l : Addr) (ws : List Str) (H' : Hp), Same H4 H' → H' l = some (.lst (ws.map V.str)) → (∀ z ∈ ws, z.length ≤ 1000) → ws.length ≤ 1000 → readO ws = none → Q (.ref l) H' := fun H4 st4 kp4 l ws H' sm el hz hn hr => k l ws H' el hz hn hr (st4.same sm) ((kp.trans kp4).trans (Keep.of_same sm))
    have off : ∀ {H4 : Hp} {u : Addr} {o : HO}, H2 u = none → Keep (upd H2 u o) H4 s c → Keep H2 H4 s c := fun hu kq b v e h1 h2 => kq b v (by rw [upd_ne (ne_of_none e hu)]; exact e) h1 h2
    -- another port
    refine ⟨Mid, ⟨_, rfl, rfl, _, rfl, ite2 (fun _ => ?_) (fun _ => ⟨rfl, rfl⟩)⟩, ?_⟩
    · refine ⟨_, rfl, by show 5 ≤ sizeLine; decide, fun u hu => ?_⟩
      obtain ⟨us, uc⟩ := st1.tracked hu
      refine ⟨s, c, _, rfl, st1.upd us uc, .inr ⟨u, badPorts.map V.str, rfl, upd_same, us, uc, by decide, by decide, fun v hv H4 st4 kp4 => ?_⟩⟩
      obtain ⟨z, hz, rfl⟩ := List.mem_map.mp hv
      have kq := off hu kp4
      have eL4 := kq L _ eL0 Ls Lc
      refine ⟨by show 1 ≤ sizeLine; decide, fun y hy => ⟨_, rfl, 1, rfl, L, _, rfl, SqL.of ((same_upd hy) _ _ eL4), fun q hq => ?_⟩⟩
      refine ⟨y, q, _, _, rfl, rfl, (same_upd hq) _ _ upd_same, upd_same, by show 1 + 2 ≤ sizeLine; decide, fun t ht => ?_⟩
      exact fin2 H4 st4 kq t [z, o.mode, j] _ (((same_upd hy).trans (same_upd hq)).trans (same_upd ht)) upd_same (three (ports_bad z hz).2 lmm lj) (by simp) (readO_port (ports_bad z hz).1)
    rintro σ' H3 ⟨rfl, rfl⟩
    -- another mode
    refine ⟨Mid, ⟨_, rfl, rfl, _, rfl, ite2 (fun _ => ?_) (fun _ => ⟨rfl, rfl⟩)⟩, ?_⟩
    · refine ⟨_, rfl, L, _, 0, _, rfl, rfl, SqL.of eL, rfl, _, rfl, by show 4 ≤ sizeLine; decide, fun u hu => ?_⟩
      obtain ⟨us, uc⟩ := st1.tracked hu
      refine ⟨s, c, _, rfl, st1.upd us uc, .inr ⟨u, badModes.map V.str, rfl, upd_same, us, uc, by decide, by decide, fun v hv H4 st4 kp4 => ?_⟩⟩
      obtain ⟨z, hz, rfl⟩ := List.mem_map.mp hv
      have kq := off hu kp4
      have eL4 := kq L _ eL0 Ls Lc
      refine ⟨_, rfl, L, _, 2, _, rfl, rfl, SqL.of eL4, rfl, by show 3 ≤ sizeLine; decide, fun t ht => ?_⟩
      exact fin2 H4 st4 kq t [w, z, j] _ (same_upd ht) upd_same (three lw (modes_bad z hz).2 lj) (by simp) (readO_mode (modes_bad z hz).1)
    rintro σ' H4 ⟨rfl, rfl⟩
    have cc : ∀ a b c : Str, (a ++ b) ++ c = a ++ (b ++ c) := fun a b c => TL.ext_tl (by rw [TL.tl_append, TL.tl_append, TL.tl_append, TL.tl_append, List.append_assoc])
    have sz : ∀ {n : Nat}, n ≤ 1000 → n ≤ sizeLine := fun h => Nat.le_trans h (by decide)
    -- two words and another third one
    have third : ∀ (z : Str) (H8 : Hp) (st4 : StAt H8 s c) (kq : Keep H4 H8 s c) (q y : Addr), H8 q = some (.lst ([w, o.mode].map V.str)) → H8 y = some (.lst [V.str z]) → z.length ≤ 1000 → fmtO z = none →
        (fun x y H (Q : VK) => ∃ a b xs ys, x = V.ref a ∧ y = V.ref b ∧ H a = some (.lst xs) ∧ H b = some (.lst ys) ∧ xs.length + ys.length ≤ sizeLine ∧ ∀ p, H p = none → Q (.ref p) (upd H p (.lst (xs ++ ys)))) (V.ref q) (V.ref y) H8 Q := by
      intro z H8 st4 kq q y eq ey lz hz
      refine ⟨q, y, _, _, rfl, rfl, eq, ey, by show 2 + 1 ≤ sizeLine; decide, fun t ht => ?_⟩
      exact fin2 H8 st4 kq t [w, o.mode, z] _ (same_upd ht) upd_same (three lw lmm lz) (by simp) (readO_fmt hz)
    have cut2 : cutV [V.str w, V.str o.mode, V.str j] none (some 2) = [w, o.mode].map V.str := rfl
    -- a comma behind
    refine ⟨Mid, ⟨_, rfl, rfl, _, rfl, ite2 (fun _ => ?_) (fun _ => ⟨rfl, rfl⟩)⟩, ?_⟩
    · refine ⟨_, rfl, 2, rfl, L, _, rfl, SqL.of eL, fun q hq => ⟨_, rfl, L, _, 2, _, rfl, rfl, SqL.of ((same_upd hq) _ _ eL), rfl, _, _, rfl, rfl, sz (by rw [comma_len]; omega), by show 1 ≤ sizeLine; decide, fun y hy => ?_⟩⟩
      have e0 : j ++ "," = j ++ ("," ++ "") := by rw [show ("," ++ "" : Str) = "," by decide +kernel]
      refine third (j ++ ",") _ (st1.same ((same_upd hq).trans (same_upd hy))) (Keep.of_same ((same_upd hq).trans (same_upd hy))) q y ((same_upd hy) _ _ upd_same) upd_same (by rw [cat_len, comma_len]; omega) ?_
      rw [e0, ← ej]
      exact fmt_more g (by decide +kernel) (.inl (by decide +kernel))
    rintro σ' H5 ⟨rfl, rfl⟩
    -- a format twice
    refine ⟨Mid, ⟨_, rfl, rfl, _, rfl, ite2 (fun _ => ?_) (fun _ => ⟨rfl, rfl⟩)⟩, ?_⟩
    · obtain ⟨p1, f1, ep, e3, e4⟩ := h1
      cases ep
      obtain ⟨a, fr, ea⟩ : ∃ a r, o.fs = a :: r := by
        cases e : o.fs with
        | nil => exact absurd e g.ne
        | cons a r => exact ⟨a, r, rfl⟩
      have la : a.length ≤ 16 := g.ok.f a (by rw [ea]; simp)
      refine ⟨_, rfl, 2, rfl, L, _, rfl, SqL.of eL, fun q hq => ⟨_, rfl, L, _, 2, _, rfl, rfl, SqL.of ((same_upd hq) _ _ eL), rfl, _, _, rfl, rfl, sz (by rw [comma_len]; omega), _, rfl, p, _, 2, _, rfl, rfl, SqT.of ((same_upd hq) _ _ e3), rfl, f1, _, 0, V.str a, rfl, rfl, SqT.of ((same_upd hq) _ _ e4), by rw [ea]; exact atC _ _, _, _, rfl, rfl, sz (by rw [cat_len, comma_len]; omega), by show 1 ≤ sizeLine; decide, fun y hy => ?_⟩⟩
      refine third ((j ++ ",") ++ a) _ (st1.same ((same_upd hq).trans (same_upd hy))) (Keep.of_same ((same_upd hq).trans (same_upd hy))) q y ((same_upd hy) _ _ upd_same) upd_same (by rw [cat_len, cat_len, comma_len]; omega) ?_
      rw [cc, ← ej]
      exact fmt_more g (names_plain a (g.f a (by rw [ea]; simp))).1 (.inr (by rw [ea]; simp))
    rintro σ' H6 ⟨rfl, rfl⟩
    -- seven formats
    refine ⟨Mid, ⟨_, rfl, rfl, _, rfl, ite2 (fun _ => ?_) (fun _ => ⟨rfl, rfl⟩)⟩, ?_⟩
    · refine ⟨_, rfl, 2, rfl, L, _, rfl, SqL.of eL, fun q hq => ⟨by show 1 ≤ sizeLine; decide, fun y hy => ?_⟩⟩
      exact third _ _ (st1.same ((same_upd hq).trans (same_upd hy))) (Keep.of_same ((same_upd hq).trans (same_upd hy))) q y ((same_upd hy) _ _ upd_same) upd_same many_bad.2 many_bad.1
    rintro σ' H7 ⟨rfl, rfl⟩
    -- no formats
    refine ⟨_, rfl, 2, rfl, L, _, rfl, SqL.of eL, fun q hq => ⟨_, rfl, by show 7 ≤ sizeLine; decide, fun u hu => ?_⟩⟩
    have st2 := st1.same (same_upd (o := .lst (cutV [V.str w, V.str o.mode, V.str j] none (some 2))) hq)
    obtain ⟨us, uc⟩ := st2.tracked hu
    obtain ⟨qs, qc⟩ := st1.tracked hq
    refine ⟨s, c, _, rfl, st2.upd us uc, .inr ⟨u, badFmts.map V.str, rfl, upd_same, us, uc, by decide, by decide, fun v hv H8 st8 kp8 => ?_⟩⟩
    obtain ⟨z, hz, rfl⟩ := List.mem_map.mp hv
    have kq : Keep H7 H8 s c := fun b v e h1 h2 => kp8 b v ((same_upd hu) _ _ ((same_upd hq) _ _ e)) h1 h2
    refine ⟨by show 1 ≤ sizeLine; decide, fun y hy => ?_⟩
    exact third z _ (st8.same (same_upd hy)) (kq.trans (Keep.of_same (same_upd hy))) q y ((same_upd hy) _ _ (kp8 q _ ((same_upd hu) _ _ upd_same) qs qc)) upd_same (fmts_bad z hz).2 (fmts_bad z hz).1
end K2
set_option maxHeartbeats 4000000
namespace K2
open PySem PySem.Spec PyProof.Rows L2 SX TK TKS
open C8 (pe_c)
/-! ### an offer's words, read back -/
theorem numL_zero : ∀ n : Nat, (TL.numL n).getD 0 0 = 48 → n = 0 := by
  intro n
  induction n using Nat.strongRecOn with
  | _ n ih =>
    intro h
    by_cases h1 : n < 10
    · rw [TL.numL_lt h1] at h
      have : 48 + n = 48 := h
      omega
    · have h2 : 10 ≤ n := by omega
      rw [TL.numL_step h2] at h
      have h3 : (TL.numL (n / 10)).getD 0 0 = 48 := by
        cases e : TL.numL (n / 10) with
        | nil => exact absurd e (TL.numL_ne _)
        | cons a r =>
          rw [e] at h
          exact h
      have := ih (n / 10) (by omega) h3
      omega
theorem digits_in : ∀ c, 48 ≤ c → c ≤ 57 → c ∈ TL.tl zDG := by
  intro c h1 h2
  have e : TL.tl zDG = [48, 49, 50, 51, 52, 53, 54, 55, 56, 57] := by decide +kernel
  rw [e]
  simp only [List.mem_cons, List.not_mem_nil, or_false]
  omega
theorem num_back {i m : Int} (h0 : 0 ≤ i) (h1 : i ≤ m) (h2 : i ≤ 999999999) : numV (Str.ofString (toString i)) m = .int i := by
  obtain ⟨n, rfl⟩ := Int.eq_ofNat_of_zero_le h0
  rw [num_S]
  have hl : (TL.numL n).length ≤ 9 := TL.numL_len (by decide) (by omega)
  have hp : 0 < (TL.numL n).length := List.length_pos_iff.mpr (TL.numL_ne n)
  have hd := TL.numL_digits n
  have c1 : consB (S (TL.numL n)) zDG 9 = true := by
    unfold consB consL
    rw [Bool.and_eq_true, Bool.and_eq_true, decide_eq_true_eq, decide_eq_true_eq, List.all_eq_true]
    refine ⟨⟨?_, ?_⟩, fun c hc => decide_eq_true (digits_in c (hd c hc).1 (hd c hc).2)⟩
    · show (1 : Int) ≤ ((TL.numL n).length : Int)
      omega
    · show ((TL.numL n).length : Int) ≤ 9
      omega
  have c2 : (decide (V.str (S [(TL.tl (S (TL.numL n))).getD 0 0]) = V.str "0") && !decide (V.str (S (TL.numL n)) = V.str "0")) = false := by
    by_cases e : (TL.numL n).getD 0 0 = 48
    · have e0 := numL_zero n e
      subst e0
      decide +kernel
    · have e1 : decide (V.str (S [(TL.tl (S (TL.numL n))).getD 0 0]) = V.str "0") = false := decide_eq_false fun q => e (by
        have q2 := V.str.inj q
        rw [show ("0" : Str) = S [48] by decide +kernel] at q2
        exact (List.cons.inj (S_inj q2)).1)
      rw [e1]
      rfl
  unfold numV
  rw [if_pos c1, if_neg (by rw [c2]; exact Bool.false_ne_true)]
  show (if ((NumText.digitsVal (TL.numL n) : Nat) : Int) ≤ m then V.int (NumText.digitsVal (TL.numL n) : Nat) else .non) = _
  rw [TL.numL_val, if_pos h1]
theorem modes_plain : ∀ z ∈ modesL, 32 ∉ TL.tl z := by decide +kernel
theorem joinL_free {c : Nat} {s : List Nat} (hs : c ∉ s) : ∀ l : List (List Nat), (∀ p ∈ l, c ∉ p) → c ∉ TL.joinL s l
  | [], _ => by simp [TL.joinL]
  | [p], h => h p (by simp)
  | p :: q :: r, h => by
    show c ∉ p ++ (s ++ TL.joinL s (q :: r))
    rw [List.mem_append, List.mem_append]
    rintro (z | z | z)
    · exact h p (by simp) z
    · exact hs z
    · exact joinL_free hs (q :: r) (fun x hx => h x (List.mem_cons_of_mem _ hx)) z
theorem fmt_noblank {o : Off} (g : Good o) : 32 ∉ TL.tl (Txt.join "," o.fs) := by
  rw [show Txt.join "," o.fs = Str.join "," o.fs from TL.join_eq _ _, TL.tl_join]
  refine joinL_free (by decide +kernel) _ fun p hp => ?_
  obtain ⟨z, hz, rfl⟩ := List.mem_map.mp hp
  exact (names_plain z (g.f z hz)).2.1
theorem str_noblank {i : Int} (h0 : 0 ≤ i) : 32 ∉ TL.tl (Str.ofString (toString i)) := by
  obtain ⟨n, rfl⟩ := Int.eq_ofNat_of_zero_le h0
  rw [TL.tl_num]
  exact TL.numL_free (by omega)
theorem words_cut {o : Off} (g : Good o) : Txt.split (wordsS o) " " = [Str.ofString (toString o.port), o.mode, Txt.join "," o.fs] := by
  refine TL.split_join (y := " ") (s := 32) (S := []) (by decide +kernel) (by decide +kernel) (by simp) fun p hp => ?_
  simp only [List.mem_cons, List.not_mem_nil, or_false] at hp
  rcases hp with rfl | rfl | rfl
  · exact str_noblank g.p0
  · exact modes_plain _ g.m
  · exact fmt_noblank g
theorem read_good {o : Off} (g : Good o) : readO (Txt.split (wordsS o) " ") = some o := by
  have p1 := g.p1
  rw [words_cut g, readO_eq, fmt_good g, num_back g.p0 g.p1 (by omega), readP_ok, if_pos g.m]
theorem words_is (o : Off) : wordsS o = (((Str.ofString (toString o.port) ++ " ") ++ o.mode) ++ " ") ++ Txt.join "," o.fs := by
  unfold wordsS
  rw [show ∀ l, Txt.join " " l = Str.join " " l from fun l => TL.join_eq _ _]
  apply TL.ext_tl
  rw [TL.tl_join, TL.tl_append, TL.tl_append, TL.tl_append, TL.tl_append, List.append_assoc, List.append_assoc, List.append_assoc]
  rfl
/-! ### offers compared -/
def dataF (o : Off) : PyData := .tuple [.int o.port, .str o.mode, .tuple (o.fs.map PyData.str)]
def dataO : Option Off → PyData
  | none => .none
  | some o => dataF o
theorem dp_strs {K : PySem.W.Frag} {H : Hp} : ∀ l : List Str, DpAll K H (l.map V.str) (l.map PyData.str)
  | [] => .nil
  | z :: l => .cons (.str z) (dp_strs l)
theorem OffAt.dp {K : PySem.W.Frag} {H : Hp} {x : V} {o : Off} (h : OffAt H x o) : Dp K H x (dataF o) := by
  obtain ⟨p, f, rfl, e1, e2⟩ := h
  exact .tup (SqT.of e1) (.cons (.int _) (.cons (.str _) (.cons (.tup (SqT.of e2) (dp_strs _)) .nil)))
theorem OffO.dp {K : PySem.W.Frag} {H : Hp} {x : V} {o : Option Off} (h : OffO H x o) : Dp K H x (dataO o) := by
  cases o with
  | none =>
    cases (show x = .non from h)
    exact .non
  | some o => exact OffAt.dp h
theorem eqv_strs : ∀ l : List Str, PyData.eqvAll (l.map PyData.str) (l.map PyData.str) = true
  | [] => by simp [PyData.eqvAll]
  | z :: l => by simp [PyData.eqvAll, PyData.eqv, eqv_strs l]
theorem lay_strs : ∀ l : List Str, (∀ z ∈ l, PyData.strOk z = true) → PyData.canLayAll0 (l.map PyData.str) = true
  | [], _ => by simp [PyData.canLayAll0]
  | z :: l, h => by simp [PyData.canLayAll0, PyData.canLay0, h z (by simp), lay_strs l fun y hy => h y (List.mem_cons_of_mem _ hy)]
theorem depth_strs : ∀ l : List Str, PyData.depthAll (l.map PyData.str) ≤ 1
  | [] => by simp [PyData.depthAll]
  | z :: l => by
    have := depth_strs l
    simp [PyData.depthAll, PyData.depth]
    omega
theorem modes_ok : ∀ z ∈ modesL, PyData.strOk z = true := by decide +kernel
theorem names_ok : ∀ z ∈ namesL, PyData.strOk z = true := by decide +kernel
theorem modeS_in (a b : Bool) : modeS a b ∈ modesL := by
  cases a <;> cases b <;> decide +kernel
theorem dataF_ok {o : Off} (hm : o.mode ∈ modesL) (hf : ∀ z ∈ o.fs, z ∈ namesL) : SeqAt.shaped (dataF o) = true ∧ PyData.eqv (dataF o) (dataF o) = true := by
  have d := depth_strs o.fs
  refine ⟨?_, by simp [dataF, PyData.eqv, PyData.eqvAll, eqv_strs]⟩
  unfold SeqAt.shaped
  rw [Bool.and_eq_true, decide_eq_true_eq]
  refine ⟨by simp [dataF, PyData.canLay0, PyData.canLayAll0, modes_ok _ hm, lay_strs _ fun z hz => names_ok z (hf z hz)], ?_⟩
  simp [dataF, PyData.depth, PyData.depthAll]
  omega
theorem dataO_ok {a o : Off} (g : Good o) : SeqAt.shaped (dataO (answerO a o)) = true ∧ PyData.eqv (dataO (answerO a o)) (dataO (answerO a o)) = true := by
  unfold answerO
  split
  · exact ⟨rfl, rfl⟩
  · exact dataF_ok (modeS_in _ _) fun z hz => g.f z (List.mem_filter.mp hz).1
def dataB (a b : Bool) : PyData := .tuple [.bool a, .bool b]
theorem BB.dp {K : PySem.W.Frag} {H : Hp} {x : V} {a b : Bool} (h : BB H x a b) : Dp K H x (dataB a b) := by
  obtain ⟨p, rfl, e⟩ := h
  exact .tup (SqT.of e) (.cons (.bl _) (.cons (.bl _) .nil))
theorem dataB_ok (a b : Bool) : SeqAt.shaped (dataB a b) = true ∧ PyData.eqv (dataB a b) (dataB a b) = true := by
  cases a <;> cases b <;> exact ⟨rfl, by simp [dataB, PyData.eqv, PyData.eqvAll]⟩
theorem sends_mode (a b : Bool) : sendsB (modeS a b) = a ∧ takesB (modeS a b) = b := by
  cases a <;> cases b <;> decide +kernel
def spLaw (K : PySem.W.Frag) : Sp := fun vs H Q _ => ∃ (a : Addr) (ns : List Int), vs = [.ref a] ∧ SqL K H a (ns.map V.int) ∧ ns.length ≤ 63 ∧ ∀ H', Q (.bl true) H'
end K2
set_option maxHeartbeats 4000000
namespace K2
open PySem PySem.Spec PyProof.Rows L2 SX TK TKS
open C8 (pe_c)
theorem ok_law {P : Program} {w : World} {K : PySem.W.Frag} {mg : Str → Option Value} {base : Heap} {f : Addr} {fd : FuncData} (T : Tx K mg) (c_law_state : C8.Cal P w K mg base 1 "_law_state" (spState K) []) (c_law_offer : C8.Cal P w K mg base 3 "_law_offer" spOffer []) (c_law_answer : C8.Cal P w K mg base 2 "_law_answer" spAnswer []) (c_answer : C8.Cal P w K mg base 3 "answer" spAnswer []) (c_held : C8.Cal P w K mg base 2 "held" spHeld []) (c_law_mode : C8.Cal P w K mg base 1 "_law_mode" spModeL []) (c_law_sends : C8.Cal P w K mg base 1 "_law_sends" (spIn sendsB) []) (c_law_takes : C8.Cal P w K mg base 1 "_law_takes" (spIn takesB) []) (c_flows : C8.Cal P w K mg base 2 "flows" spFlows []) (c_write_offer : C8.Cal P w K mg base 1 "write_offer" spWrite []) (c_read_offer : C8.Cal P w K mg base 4 "read_offer" spRead []) (c_law_wrong_words : C8.Cal P w K mg base 3 "_law_wrong_words" spWrong [])
    (F : FunD K "law" "law" (defArgs s_law) (defBody s_law) (defScope s_law) [] [] f fd) : FnOk P w K mg base CX0 5 f fd ["script"] (spLaw K) := by
  refine F.ok sc_law (fun vs H Q E h => ?_) (fun cdv A outer s0 H vs Q E hr h => ?_)
  · obtain ⟨a, ns, rfl, _⟩ := h
    rfl
  · obtain ⟨a, ns, rfl, hS, hn, k⟩ := h
    refine ⟨_, PSs.nox (pss_cons (ps_set (i := 1) sc_law.nd rfl (Or.inl rfl) (pe_c c_law_state hr (by decide) rfl (pa_cons (pv 0) pa_nil))) (pss_cons (ps_for PassesOwn.never rfl (pi_range1 rfl T.f_range (pa_cons (pe_op op_add pe_int (pe_callB call_len_seq rfl T.f_len PySem.boot_len (pa_cons (pe_slice sl_list (pv 0) po_none (po_some pe_int)) pa_nil))) pa_nil)) (pg_name (i := 2) sc_law.nd rfl (Or.inl rfl)) (pss_cons (ps_set (i := 3) sc_law.nd rfl (Or.inl rfl) (pe_c c_law_offer hr (by decide) rfl (pa_cons (pv 1) pa_nil))) (pss_cons (ps_set (i := 4) sc_law.nd rfl (Or.inl rfl) (pe_c c_law_offer hr (by decide) rfl (pa_cons (pv 1) pa_nil))) (pss_cons (ps_set (i := 5) sc_law.nd rfl (Or.inl rfl) (pe_c c_law_answer hr (by decide) rfl (pa_cons (pv 3) (pa_cons (pv 4) pa_nil)))) (pss_cons (ps_set (i := 6) sc_law.nd rfl (Or.inl rfl) (pe_c c_answer hr (by decide) rfl (pa_cons (pv 3) (pa_cons (pv 4) pa_nil)))) (C8.pss_cut (ps_if (PW.pt (pw_or (pt_cmpR (op_neD hr.units) (pv 6) (pv 5) (nomark _)) (pw_or1 (PW.pt (pw_and (pt_cmpR op_notN (pv 6) pe_non (nomark _)) (pw_and1 (pt_not (pt_val (pe_callB call_isi rfl T.f_isinstance (by decide +kernel) (pa_cons (pe_ix ix_tup (pv 6) pe_int (fun _ _ => rfl)) (pa_cons (pe_bltn (v := .ty "tuple") rfl T.f_tuple (by decide +kernel) rfl) pa_nil))))))))))) (pss_one (ps_ret pe_bl)) pss_nil) (C8.pss_cut (ps_if (pt_cmpR (op_neD hr.units) (pe_c c_held hr (by decide) rfl (pa_cons (pv 3) pa_nil)) (pe_tup (pa_cons (pe_ix ix_tup (pv 3) pe_int (fun _ _ => rfl)) (pa_cons (pe_c c_law_mode hr (by decide) rfl (pa_cons (pe_c c_law_sends hr (by decide) rfl (pa_cons (pe_ix ix_tup (pv 3) pe_int (fun _ _ => rfl)) pa_nil)) (pa_cons pe_bl pa_nil))) (pa_cons (pe_ix ix_tup (pv 3) pe_int (fun _ _ => rfl)) pa_nil)))) (nomark _)) (pss_one (ps_ret pe_bl)) pss_nil) (pss_cons (ps_set (i := 7) sc_law.nd rfl (Or.inl rfl) (pe_tup (pa_cons (pe_cut (pe_and (pe_c c_law_sends hr (by decide) rfl (pa_cons (pe_ix ix_tup (pv 4) pe_int (fun _ _ => rfl)) pa_nil)) (pe_one (pe_c c_law_takes hr (by decide) rfl (pa_cons (pe_ix ix_tup (pv 3) pe_int (fun _ _ => rfl)) pa_nil))))) (pa_cons (pe_cut (pe_and (pe_c c_law_sends hr (by decide) rfl (pa_cons (pe_ix ix_tup (pv 3) pe_int (fun _ _ => rfl)) pa_nil)) (pe_one (pe_c c_law_takes hr (by decide) rfl (pa_cons (pe_ix ix_tup (pv 4) pe_int (fun _ _ => rfl)) pa_nil))))) pa_nil)))) (C8.pss_cut (ps_if (pt_cut (PW.pt (pw_or (pt_cmpR (op_neD hr.units) (pe_c c_flows hr (by decide) rfl (pa_cons (pv 4) (pa_cons (pv 3) pa_nil))) (pv 7) (nomark _)) (pw_or1 (pt_cmpR (op_neD hr.units) (pe_lc (own := [("one", 9)]) (g := gName 9) rfl sc_law.nd (pi_tup (pe_c c_flows hr (by decide) rfl (pa_cons (pv 4) (pa_cons (pv 3) pa_nil)))) (blkOk_by (own := [("one", 9)]) (N := ["script", "state", "k", "able", "offer", "due", "told", "both", "words", "one"]) (sc := defScope s_law) (by decide +kernel)) (fun _ _ _ _ _ => pg_name (i := 9) sc_law.nd rfl (Or.inl rfl)) (fun _ _ _ _ _ => pts_one (pt_not (pt_val (pe_callB (isiK K rfl) rfl T.f_isinstance (by decide +kernel) (pa_cons (pv 9) (pa_cons (pe_bltn (v := .ty "bool") rfl T.f_bool (by decide +kernel) rfl) pa_nil)))))) (fun _ _ _ _ _ => (pv 9))) (pe_lst pa_nil) (nomark _)))))) (pss_one (ps_ret pe_bl)) pss_nil) (pss_cons (ps_set (i := 8) sc_law.nd rfl (Or.inl rfl) (pe_c c_write_offer hr (by decide) rfl (pa_cons (pv 4) pa_nil))) (C8.pss_cut (ps_if (pt_cmpR op_ne (pv 8) (pe_op op_add_str (pe_op op_add_str (pe_op op_add_str (pe_op op_add_str (pe_callTy call_str_int rfl T.f_str (by decide +kernel) (pa_cons (pe_ix ix_tup (pv 4) pe_int (fun _ _ => rfl)) pa_nil)) pe_str) (pe_ix ix_tup (pv 4) pe_int (fun _ _ => rfl))) pe_str) (pe_join pe_str (pe_ix ix_tup (pv 4) pe_int (fun _ _ => rfl)))) (nomark _)) (pss_one (ps_ret pe_bl)) pss_nil) (C8.pss_cut (ps_if (PW.pt (pw_or (pt_cmpR (op_neD hr.units) (pe_c c_read_offer hr (by decide) rfl (pa_cons (pe_split (pv 8) pe_str) pa_nil)) (pv 4) (nomark _)) (pw_or1 (pt_cmpR op_notN (pe_c c_read_offer hr (by decide) rfl (pa_cons (pe_c c_law_wrong_words hr (by decide) rfl (pa_cons (pv 1) (pa_cons (pv 4) pa_nil))) pa_nil)) pe_non (nomark _))))) (pss_one (ps_ret pe_bl)) pss_nil) (pss_one (ps_if (PW.pt (pw_and (pt_cmpR op_notN (pv 5) pe_non (nomark _)) (pw_and1 (pt_cmpR (op_neD hr.units) (pe_c c_flows hr (by decide) rfl (pa_cons (pv 4) (pa_cons (pv 5) pa_nil))) (pv 7) (nomark _))))) (pss_one (ps_ret pe_bl)) pss_nil)))))))))))))) (pss_one (ps_ret pe_bl)))), ?_⟩
    refine ⟨_, rfl, a, ns, rfl, hS, hn, fun s c H1 s1 hs hc st1 => ?_⟩
    refine ⟨_, rfl, 40, rfl, a, _, rfl, s1.seq hS, fun p hp => ⟨p, _, rfl, .inl (SqL.of upd_same), _, _, rfl, rfl, _, rfl, ?_, ?_, ?_⟩⟩
    · omega
    · have : (cutV (ns.map V.int) none (some 40)).length ≤ 63 := by
        unfold cutV
        rw [List.length_take, List.length_drop, List.length_map]
        omega
      omega
    obtain ⟨ps, pc⟩ := st1.tracked hp
    refine for_it walk_range (fun i σ H' => StAt H' s c ∧ ∃ v2 v3 v4 v5 v6 v7 v8 : Option V, σ = [some (.ref a), some (.ref s), v2, v3, v4, v5, v6, v7, v8, none]) ⟨st1.upd ps pc, none, none, none, none, none, none, none, rfl⟩ (fun _ _ _ _ _ => trivial) ?_ (fun σ H' q => ?_)
    · rintro i x σ H2 H3 hi ⟨st, v2, v3, v4, v5, v6, v7, v8, rfl⟩ ⟨rfl, rfl⟩
      -- two offers, the answer by both
      refine ⟨_, rfl, s, c, rfl, st, fun x1 a1 H4 g1 h1 st4 kp4 => ?_⟩
      refine ⟨_, rfl, s, c, rfl, st4, fun x2 o2 H5 g2 h2 st5 kp5 => ?_⟩
      have h1 := h1.keep st4 kp5
      have l2 : o2.fs.length ≤ 1000 := by have := g2.n; omega
      refine ⟨_, rfl, _, rfl, x1, a1, x2, o2, rfl, h1, h2, l2, fun x3 H6 s6 h3 => ?_⟩
      refine ⟨_, rfl, _, rfl, x1, a1, x2, o2, rfl, h1.same s6, h2.same s6, l2, fun x4 H7 s7 h4 => ?_⟩
      have st7 := (st5.same s6).same s7
      have h1 := (h1.same s6).same s7
      have h2 := (h2.same s6).same s7
      have h3 := h3.same s7
      refine ⟨fun σ' H' => σ' = [some (.ref a), some (.ref s), some (.int (0 + (i : Nat))), some x1, some x2, some x3, some x4, v7, v8, none] ∧ H' = H7, ?_, ?_⟩
      · refine ⟨_, rfl, _, rfl, _, _, h4.dp, h3.dp, (dataO_ok g2).1, (dataO_ok g2).1, _, rfl, ?_⟩
        rw [(dataO_ok g2).2]
        refine iteF ⟨_, rfl, rfl, _, rfl, ?_⟩
        rw [h4.none_iff]
        cases e : answerO a1 o2 with
        | none => exact iteF (iteF ⟨rfl, rfl⟩)
        | some o =>
          rw [e] at h4
          obtain ⟨p4, f4, rfl, e1, e2⟩ := h4
          refine iteT ⟨_, rfl, p4, _, 2, _, rfl, rfl, SqT.of e1, rfl, _, _, _, _, true, rfl, ClsV.ty "tuple", TyX.base (TyOf.tup e2), kit_ty (by decide +kernel), _, rfl, ?_⟩
          exact iteF ⟨rfl, rfl⟩
      rintro σ' H' ⟨rfl, rfl⟩
      -- held
      refine ⟨fun σ' H8 => σ' = [some (.ref a), some (.ref s), some (.int (0 + (i : Nat))), some x1, some x2, some x3, some x4, v7, v8, none] ∧ Same H' H8, ?_, ?_⟩
      · refine ⟨_, rfl, x1, a1, rfl, h1, fun z H8 s8 hz => ?_⟩
        obtain ⟨p1, f1, rfl, e1, e2⟩ := h1.same s8
        refine ⟨_, rfl, p1, _, 0, _, rfl, rfl, SqT.of e1, rfl, _, rfl, p1, _, 1, _, rfl, rfl, SqT.of e1, rfl, a1.mode, rfl, fun H9 s9 => ⟨_, _, rfl, fun H10 s10 => ?_⟩⟩
        have s810 := s9.trans s10
        refine ⟨_, rfl, p1, _, 2, _, rfl, rfl, SqT.of (s810 _ _ e1), rfl, by show 3 ≤ sizeLine; decide, fun t ht => ?_⟩
        have s811 := s810.trans (same_upd (o := .tup [.int a1.port, .str (modeS (sendsB a1.mode) false), .ref f1]) ht)
        have hd : OffAt _ (.ref t) (heldO a1) := ⟨t, f1, rfl, upd_same, s811 _ _ e2⟩
        have ok : SeqAt.shaped (dataF (heldO a1)) = true ∧ PyData.eqv (dataF (heldO a1)) (dataF (heldO a1)) = true := dataF_ok (modeS_in _ _) g1.f
        refine ⟨_, _, (hz.same s811).dp, hd.dp, ok.1, ok.1, _, rfl, ?_⟩
        rw [ok.2]
        exact iteF ⟨rfl, s8.trans s811⟩
      rintro σ' H8 ⟨rfl, s8⟩
      have h1 := h1.same s8
      have h2 := h2.same s8
      have h3 := h3.same s8
      have st8 := st7.same s8
      -- both
      obtain ⟨p2, f2, rfl, e1, e2⟩ := id h2
      obtain ⟨p1, f1, rfl, e3, e4⟩ := id h1
      refine ⟨fun v H' => v = .bl (sendsB o2.mode && takesB a1.mode) ∧ Same H8 H', ?_, ?_⟩
      · refine ⟨_, rfl, p2, _, 1, _, rfl, rfl, SqT.of e1, rfl, o2.mode, rfl, fun H9 s9 => ⟨_, rfl, ?_⟩⟩
        cases e : sendsB o2.mode with
        | true => exact iteT ⟨_, rfl, p1, _, 1, _, rfl, rfl, SqT.of (s9 _ _ e3), rfl, a1.mode, rfl, fun H10 s10 => ⟨rfl, s9.trans s10⟩⟩
        | false => exact iteF ⟨rfl, s9⟩
      rintro v H9 ⟨rfl, s9⟩
      refine ⟨fun v H' => v = .bl (sendsB a1.mode && takesB o2.mode) ∧ Same H8 H', ?_, ?_⟩
      · refine ⟨_, rfl, p1, _, 1, _, rfl, rfl, SqT.of (s9 _ _ e3), rfl, a1.mode, rfl, fun H10 s10 => ⟨_, rfl, ?_⟩⟩
        cases e : sendsB a1.mode with
        | true => exact iteT ⟨_, rfl, p2, _, 1, _, rfl, rfl, SqT.of ((s9.trans s10) _ _ e1), rfl, o2.mode, rfl, fun H11 s11 => ⟨rfl, (s9.trans s10).trans s11⟩⟩
        | false => exact iteF ⟨rfl, s9.trans s10⟩
      rintro v H10 ⟨rfl, s10⟩
      refine ⟨by show 2 ≤ sizeLine; decide, fun t ht => ?_⟩
      have sT := s10.trans (same_upd (o := .tup [.bl (sendsB o2.mode && takesB a1.mode), .bl (sendsB a1.mode && takesB o2.mode)]) ht)
      have hB : BB (upd H10 t (.tup [.bl (sendsB o2.mode && takesB a1.mode), .bl (sendsB a1.mode && takesB o2.mode)])) (.ref t) (sendsB o2.mode && takesB a1.mode) (sendsB a1.mode && takesB o2.mode) := ⟨t, rfl, upd_same⟩
      have h1 := h1.same sT
      have h2 := h2.same sT
      have h3 := h3.same sT
      have st11 := st8.same sT
      generalize upd H10 t _ = H11 at sT hB h1 h2 h3 st11 ⊢
      have okB := dataB_ok (sendsB o2.mode && takesB a1.mode) (sendsB a1.mode && takesB o2.mode)
      -- flows
      refine ⟨fun σ' H' => σ' = [some (.ref a), some (.ref s), some (.int (0 + (i : Nat))), some (.ref p1), some (.ref p2), some x3, some x4, some (.ref t), v8, none] ∧ Same H11 H', ⟨fun b H' => b = false ∧ Same H11 H', ?_, ?_⟩, ?_⟩
      · refine ⟨_, rfl, _, rfl, _, o2, _, a1, rfl, h2, h1, fun z H12 s12 hz => ?_⟩
        have hB12 : BB H12 (.ref t) (sendsB o2.mode && takesB a1.mode) (sendsB a1.mode && takesB o2.mode) := by
          obtain ⟨q, e, e5⟩ := hB
          exact ⟨q, e, s12 _ _ e5⟩
        refine ⟨_, rfl, _, _, hz.dp, hB12.dp, okB.1, okB.1, _, rfl, ?_⟩
        rw [okB.2]
        refine iteF ⟨_, rfl, _, rfl, _, o2, _, a1, rfl, h2.same s12, h1.same s12, fun z H13 s13 hz => ?_⟩
        obtain ⟨q, rfl, eq⟩ := hz
        refine ⟨q, rfl, ⟨_, SqT.of eq⟩, fun D hD => ?_⟩
        refine lc_filt (walk_tup (xs := [.bl (sendsB o2.mode && takesB a1.mode), .bl (sendsB a1.mode && takesB o2.mode)])) (fun _ => .non) (fun _ => false) (by show 2 ≤ sizeLine; decide) (fun i hi => SqT.of ((same_upd hD) _ _ eq)) (fun i v H1 kk hi yy zz => ?_) (fun i v H1 kk hi hb yy zz => nomatch hb) ?_
        · obtain ⟨rfl, ev⟩ := yy
          obtain ⟨b, rfl⟩ : ∃ b, v = .bl b := by
            have m := List.mem_of_getElem? ev
            simp only [List.mem_cons, List.not_mem_nil, or_false] at m
            rcases m with rfl | rfl <;> exact ⟨_, rfl⟩
          exact ⟨rfl, _, rfl, _, _, _, _, true, rfl, ClsV.ty "bool", TyX.base (TyOf.bl b), kit_ty (by decide +kernel), _, rfl, zz⟩
        · refine ⟨by show 0 ≤ sizeLine; decide, fun y hy => ?_⟩
          refine ⟨.list [], .list [], .lst (SqL.of ((same_upd hy) _ _ upd_same)) .nil, .lst (SqL.of upd_same) .nil, rfl, rfl, _, rfl, ?_⟩
          exact ⟨by simp [PyData.eqv, PyData.eqvAll], ((s12.trans s13).trans (same_upd hD)).trans (same_upd hy)⟩
      · rintro b H' ⟨rfl, s12⟩
        exact iteF ⟨rfl, s12⟩
      rintro σ' H12 ⟨rfl, s12⟩
      have h1 := h1.same s12
      have h2 := h2.same s12
      have h3 := h3.same s12
      have st12 := st11.same s12
      have hB : BB H12 (.ref t) (sendsB o2.mode && takesB a1.mode) (sendsB a1.mode && takesB o2.mode) := by
        obtain ⟨q, e, e5⟩ := hB
        exact ⟨q, e, s12 _ _ e5⟩
      -- its words
      refine ⟨_, rfl, _, o2, rfl, h2, g2.ok, fun H13 s13 => ?_⟩
      have h2 := h2.same s13
      have h3 := h3.same s13
      have st13 := st12.same s13
      have hB : BB H13 (.ref t) (sendsB o2.mode && takesB a1.mode) (sendsB a1.mode && takesB o2.mode) := by
        obtain ⟨q, e, e5⟩ := hB
        exact ⟨q, e, s13 _ _ e5⟩
      obtain ⟨j1, j2⟩ := g2.ok.join
      obtain ⟨t1, t2⟩ := g2.ok.str
      have lm := g2.ok.m
      have sz : ∀ {n : Nat}, n ≤ 1000 → n ≤ sizeLine := fun h => Nat.le_trans h (by decide)
      have lW : (wordsS o2).length ≤ 1000 := by
        rw [words_is, cat_len, cat_len, cat_len, cat_len, blank_len]
        omega
      refine ⟨fun σ' H' => σ' = [some (.ref a), some (.ref s), some (.int (0 + (i : Nat))), some (.ref p1), some (.ref p2), some x3, some x4, some (.ref t), some (.str (wordsS o2)), none] ∧ H' = H13, ?_, ?_⟩
      · obtain ⟨p2', f2', ep, e5, e6⟩ := h2
        cases ep
        refine ⟨_, rfl, _, rfl, p2, _, 0, _, rfl, rfl, SqT.of e5, rfl, o2.port, rfl, t2, _, _, rfl, rfl, sz (by rw [blank_len]; omega), ?_⟩
        refine ⟨_, rfl, p2, _, 1, _, rfl, rfl, SqT.of e5, rfl, _, _, rfl, rfl, sz (by rw [cat_len, blank_len]; omega), _, _, rfl, rfl, sz (by rw [cat_len, cat_len, blank_len]; omega), ?_⟩
        refine ⟨⟨_, rfl⟩, _, rfl, p2, _, 2, _, rfl, rfl, SqT.of e5, rfl, ",", f2', o2.fs, rfl, rfl, .inr (SqT.of e6), by omega, _, _, rfl, rfl, sz (by rw [cat_len, cat_len, cat_len, blank_len]; omega), rfl, _, rfl, ?_⟩
        rw [← words_is]
        exact iteNS rfl ⟨rfl, rfl⟩
      rintro σ' H' ⟨rfl, rfl⟩
      -- read back; wrong words
      refine ⟨fun σ' H14 => σ' = [some (.ref a), some (.ref s), some (.int (0 + (i : Nat))), some (.ref p1), some (.ref p2), some x3, some x4, some (.ref t), some (.str (wordsS o2)), none] ∧ StAt H14 s c ∧ Keep H' H14 s c, ?_, ?_⟩
      · refine ⟨_, rfl, ⟨_, rfl⟩, wordsS o2, " ", rfl, rfl, by decide +kernel, Nat.le_trans (Nat.add_le_add_right lW 2) (by decide), fun q hq => ?_⟩
        refine ⟨q, _, rfl, upd_same, fun z hz => Nat.le_trans (part_len hz) lW, by rw [words_cut g2]; simp, fun z H14 s14 hz => ?_⟩
        rw [read_good g2] at hz
        have s15 := (same_upd hq).trans s14
        have ok := dataF_ok g2.m g2.f
        refine ⟨_, rfl, _, _, OffAt.dp hz, (h2.same s15).dp, ok.1, ok.1, _, rfl, ?_⟩
        rw [ok.2]
        refine iteF ⟨_, rfl, _, rfl, s, c, _, o2, rfl, st13.same s15, h2.same s15, g2, fun l ws H16 el hw hn hr st16 kp16 => ⟨l, ws, rfl, el, hw, hn, fun z H17 s17 hz => ⟨rfl, _, rfl, ?_⟩⟩⟩
        rw [hr] at hz
        cases (show z = .non from hz)
        exact iteF ⟨rfl, st16.same s17, ((Keep.of_same s15).trans kp16).trans (Keep.of_same s17)⟩
      rintro σ' H14 ⟨rfl, st14, kp14⟩
      have h2 := h2.keep st13 kp14
      obtain ⟨_, ⟨n0, g1'⟩, ns0, g2', _⟩ := id st13
      have hB : BB H14 (.ref t) (sendsB o2.mode && takesB a1.mode) (sendsB a1.mode && takesB o2.mode) := by
        obtain ⟨q, e, e5⟩ := hB
        exact ⟨q, e, kp14 _ _ e5 (ne_of e5 g1' (by intro z; cases z)) (ne_of e5 g2' (by intro z; cases z))⟩
      -- the flows of the answer
      refine ⟨_, rfl, rfl, _, rfl, ?_⟩
      rw [h3.none_iff]
      cases e : answerO a1 o2 with
      | none => exact iteF (iteF ⟨st14, _, _, _, _, _, _, _, rfl⟩)
      | some d =>
        rw [e] at h3
        have h3 := OffAt.keep h3 st13 kp14
        have em : d.mode = modeS (sendsB a1.mode && takesB o2.mode) (sendsB o2.mode && takesB a1.mode) := by
          unfold answerO at e
          split at e
          · cases e
          · cases e
            rfl
        refine iteT ⟨_, rfl, _, rfl, _, o2, _, d, rfl, h2, h3, fun z H15 s15 hz => ?_⟩
        have e1 : (sendsB o2.mode && takesB d.mode) = (sendsB o2.mode && takesB a1.mode) := by
          rw [em, (sends_mode _ _).2]
          cases sendsB o2.mode <;> rfl
        have e2 : (sendsB d.mode && takesB o2.mode) = (sendsB a1.mode && takesB o2.mode) := by
          rw [em, (sends_mode _ _).1]
          cases sendsB a1.mode <;> cases takesB o2.mode <;> rfl
        rw [e1, e2] at hz
        have hB : BB H15 (.ref t) (sendsB o2.mode && takesB a1.mode) (sendsB a1.mode && takesB o2.mode) := by
          obtain ⟨q, e, e5⟩ := hB
          exact ⟨q, e, s15 _ _ e5⟩
        refine ⟨_, rfl, _, _, hz.dp, hB.dp, okB.1, okB.1, _, rfl, ?_⟩
        rw [okB.2]
        exact iteF ⟨st14.same s15, _, _, _, _, _, _, _, rfl⟩
    · obtain ⟨_, _, _, _, _, _, _, _, rfl⟩ := q
      exact k H'
end K2
set_option maxHeartbeats 0
namespace K2
open PySem PySem.Spec PyProof.Rows L2 SX TK TKS
/-! ### the head: facts by names, the run -/
def d_is_name : He.DefD := ⟨("is_name", none), "is_name", "is_name", defArgs s_is_name, defBody s_is_name, defScope s_is_name, [], []⟩
def d_read_number : He.DefD := ⟨("read_number", none), "read_number", "read_number", defArgs s_read_number, defBody s_read_number, defScope s_read_number, [], []⟩
def d_consists_of : He.DefD := ⟨("_consists_of", none), "_consists_of", "_consists_of", defArgs s_consists_of, defBody s_consists_of, defScope s_consists_of, [], []⟩
def d_read_offer : He.DefD := ⟨("read_offer", none), "read_offer", "read_offer", defArgs s_read_offer, defBody s_read_offer, defScope s_read_offer, [], []⟩
def d_write_offer : He.DefD := ⟨("write_offer", none), "write_offer", "write_offer", defArgs s_write_offer, defBody s_write_offer, defScope s_write_offer, [], []⟩
def d_answer : He.DefD := ⟨("answer", none), "answer", "answer", defArgs s_answer, defBody s_answer, defScope s_answer, [], []⟩
def d_held : He.DefD := ⟨("held", none), "held", "held", defArgs s_held, defBody s_held, defScope s_held, [], []⟩
def d_flows : He.DefD := ⟨("flows", none), "flows", "flows", defArgs s_flows, defBody s_flows, defScope s_flows, [], []⟩
def d_read_formats : He.DefD := ⟨("_read_formats", none), "_read_formats", "_read_formats", defArgs s_read_formats, defBody s_read_formats, defScope s_read_formats, [], []⟩
def d_sends : He.DefD := ⟨("_sends", none), "_sends", "_sends", defArgs s_sends, defBody s_sends, defScope s_sends, [], []⟩
def d_takes : He.DefD := ⟨("_takes", none), "_takes", "_takes", defArgs s_takes, defBody s_takes, defScope s_takes, [], []⟩
def d_mode : He.DefD := ⟨("_mode", none), "_mode", "_mode", defArgs s_mode, defBody s_mode, defScope s_mode, [], []⟩
def d_law_state : He.DefD := ⟨("_law_state", none), "_law_state", "_law_state", defArgs s_law_state, defBody s_law_state, defScope s_law_state, [], []⟩
def d_law_draw : He.DefD := ⟨("_law_draw", none), "_law_draw", "_law_draw", defArgs s_law_draw, defBody s_law_draw, defScope s_law_draw, [], []⟩
def d_law_pick : He.DefD := ⟨("_law_pick", none), "_law_pick", "_law_pick", defArgs s_law_pick, defBody s_law_pick, defScope s_law_pick, [], []⟩
def d_law_offer : He.DefD := ⟨("_law_offer", none), "_law_offer", "_law_offer", defArgs s_law_offer, defBody s_law_offer, defScope s_law_offer, [], []⟩
def d_law_sends : He.DefD := ⟨("_law_sends", none), "_law_sends", "_law_sends", defArgs s_law_sends, defBody s_law_sends, defScope s_law_sends, [], []⟩
def d_law_takes : He.DefD := ⟨("_law_takes", none), "_law_takes", "_law_takes", defArgs s_law_takes, defBody s_law_takes, defScope s_law_takes, [], []⟩
def d_law_mode : He.DefD := ⟨("_law_mode", none), "_law_mode", "_law_mode", defArgs s_law_mode, defBody s_law_mode, defScope s_law_mode, [], []⟩
def d_law_answer : He.DefD := ⟨("_law_answer", none), "_law_answer", "_law_answer", defArgs s_law_answer, defBody s_law_answer, defScope s_law_answer, [], []⟩
def d_law_wrong_words : He.DefD := ⟨("_law_wrong_words", none), "_law_wrong_words", "_law_wrong_words", defArgs s_law_wrong_words, defBody s_law_wrong_words, defScope s_law_wrong_words, [], []⟩
def d_law : He.DefD := ⟨("law", none), "law", "law", defArgs s_law, defBody s_law, defScope s_law, [], []⟩
def fnL : List He.DefD := [d_is_name, d_read_number, d_consists_of, d_read_offer, d_write_offer, d_answer, d_held, d_flows, d_read_formats, d_sends, d_takes, d_mode, d_law_state, d_law_draw, d_law_pick, d_law_offer, d_law_sends, d_law_takes, d_law_mode, d_law_answer, d_law_wrong_words, d_law]
def faL : List He.Fa := [.str "DIGITS" "0123456789", .int "GREATEST_PORT" 65535, .int "LONGEST_NUMBER" 9, .int "LONGEST_WORD" 16, .glo "MODES", .int "MOST_FORMATS" 6, .str "NAME_MARKS" "abcdefghijklmnopqrstuvwxyz0123456789", .str "SMALL_LETTERS" "abcdefghijklmnopqrstuvwxyz", .free "abs", .free "all", .free "bool", .free "int", .free "isinstance", .free "len", .free "range", .free "set", .free "str", .free "tuple", .glo "is_name", .glo "read_number", .glo "_consists_of", .glo "read_offer", .glo "write_offer", .glo "answer", .glo "held", .glo "flows", .glo "_read_formats", .glo "_sends", .glo "_takes", .glo "_mode", .glo "_law_state", .glo "_law_draw", .glo "_law_pick", .glo "_law_offer", .glo "_law_sends", .glo "_law_takes", .glo "_law_mode", .glo "_law_answer", .glo "_law_wrong_words", .glo "law"]
def loose0 : List Str := ["SMALL_LETTERS", "DIGITS", "NAME_MARKS", "LONGEST_WORD", "LONGEST_NUMBER", "MODES", "GREATEST_PORT", "MOST_FORMATS", "is_name", "read_number", "_consists_of", "read_offer", "write_offer", "answer", "held", "flows", "_read_formats", "_sends", "_takes", "_mode", "_law_state", "_law_draw", "_law_pick", "_law_offer", "_law_sends", "_law_takes", "_law_mode", "_law_answer", "_law_wrong_words"]
abbrev R : PySem.W.OpenRow := PySem.W.OpenLaw.row PySem.Challenge.rw_trunkland_k02_offers
def exL (K : PySem.W.Frag) : List Bool := [He.tupB K "MODES" [.str "both", .str "send", .str "take", .str "none"]]
abbrev hk : PySem.W.Hook := TK.hookX 4 faL fnL exL
def ob (s : PySem.W.SharedT) : He.AlD := TK.obsX 4 faL fnL exL (HandSHeadRun.getT s)
theorem ob_eq (s : PySem.W.SharedT) : ob s = hk.obs s.abs := TK.obsX_eq (HandSHeadRun.getT_eq s)
theorem run (w : World) : HandSHeadRun.RunEq R (PySem.W.view R.prog [32]) hk ob 4000 (loose0) w := by
  intro os
  kernel_rfl
theorem facts {P : Program} {w : World} {K : PySem.W.Frag} {h : Heap} {mg : Str → Option Value} {f : Addr} (X : K.In h) (G : h.Ns mainGlobals mg) (hfa : mg ("law" : Str) = some (.ref f)) (c : He.SaysD faL fnL K) (cx : (exL K).all id = true) :
    ∃ fd : FuncData, (∀ (s : Shared) (v : Value), BindsTo s fd ⟨[v], []⟩ [("script", v)]) ∧ ∀ base : Heap, K.In base → base.Ns mainGlobals mg → FnOk P w K mg base CX0 5 f fd ["script"] (spLaw K) := by
  have x_0 := He.tupB_ok (TK.exAt cx 0 rfl)
  have T : Tx K mg := ⟨He.str_ok X G (c.fact 0 (f := .str "DIGITS" "0123456789") rfl), He.int_ok X G (c.fact 1 (f := .int "GREATEST_PORT" 65535) rfl), He.int_ok X G (c.fact 2 (f := .int "LONGEST_NUMBER" 9) rfl), He.int_ok X G (c.fact 3 (f := .int "LONGEST_WORD" 16) rfl), He.glo_ok X G (c.fact 4 (f := .glo "MODES") rfl), x_0, He.int_ok X G (c.fact 5 (f := .int "MOST_FORMATS" 6) rfl), He.str_ok X G (c.fact 6 (f := .str "NAME_MARKS" "abcdefghijklmnopqrstuvwxyz0123456789") rfl), He.str_ok X G (c.fact 7 (f := .str "SMALL_LETTERS" "abcdefghijklmnopqrstuvwxyz") rfl), He.free_ok X G (c.fact 8 (f := .free "abs") rfl), He.free_ok X G (c.fact 9 (f := .free "all") rfl), He.free_ok X G (c.fact 10 (f := .free "bool") rfl), He.free_ok X G (c.fact 11 (f := .free "int") rfl), He.free_ok X G (c.fact 12 (f := .free "isinstance") rfl), He.free_ok X G (c.fact 13 (f := .free "len") rfl), He.free_ok X G (c.fact 14 (f := .free "range") rfl), He.free_ok X G (c.fact 15 (f := .free "set") rfl), He.free_ok X G (c.fact 16 (f := .free "str") rfl), He.free_ok X G (c.fact 17 (f := .free "tuple") rfl)⟩
  obtain ⟨fd_is_name, F_is_name⟩ := c.def_ 0 (d := d_is_name) rfl
  obtain ⟨fd_read_number, F_read_number⟩ := c.def_ 1 (d := d_read_number) rfl
  obtain ⟨fd_consists_of, F_consists_of⟩ := c.def_ 2 (d := d_consists_of) rfl
  obtain ⟨fd_read_offer, F_read_offer⟩ := c.def_ 3 (d := d_read_offer) rfl
  obtain ⟨fd_write_offer, F_write_offer⟩ := c.def_ 4 (d := d_write_offer) rfl
  obtain ⟨fd_answer, F_answer⟩ := c.def_ 5 (d := d_answer) rfl
  obtain ⟨fd_held, F_held⟩ := c.def_ 6 (d := d_held) rfl
  obtain ⟨fd_flows, F_flows⟩ := c.def_ 7 (d := d_flows) rfl
  obtain ⟨fd_read_formats, F_read_formats⟩ := c.def_ 8 (d := d_read_formats) rfl
  obtain ⟨fd_sends, F_sends⟩ := c.def_ 9 (d := d_sends) rfl
  obtain ⟨fd_takes, F_takes⟩ := c.def_ 10 (d := d_takes) rfl
  obtain ⟨fd_mode, F_mode⟩ := c.def_ 11 (d := d_mode) rfl
  obtain ⟨fd_law_state, F_law_state⟩ := c.def_ 12 (d := d_law_state) rfl
  obtain ⟨fd_law_draw, F_law_draw⟩ := c.def_ 13 (d := d_law_draw) rfl
  obtain ⟨fd_law_pick, F_law_pick⟩ := c.def_ 14 (d := d_law_pick) rfl
  obtain ⟨fd_law_offer, F_law_offer⟩ := c.def_ 15 (d := d_law_offer) rfl
  obtain ⟨fd_law_sends, F_law_sends⟩ := c.def_ 16 (d := d_law_sends) rfl
  obtain ⟨fd_law_takes, F_law_takes⟩ := c.def_ 17 (d := d_law_takes) rfl
  obtain ⟨fd_law_mode, F_law_mode⟩ := c.def_ 18 (d := d_law_mode) rfl
  obtain ⟨fd_law_answer, F_law_answer⟩ := c.def_ 19 (d := d_law_answer) rfl
  obtain ⟨fd_law_wrong_words, F_law_wrong_words⟩ := c.def_ 20 (d := d_law_wrong_words) rfl
  obtain ⟨fd_law, F_law⟩ := c.def_ 21 (d := d_law) rfl
  have e := hfa.symm.trans (He.glo_ok X G (c.fact 39 (f := .glo "law") rfl))
  cases e
  have b := FunD.bindsA (ps := ["script"]) F_law fun _ _ _ _ _ _ us hl => match us, hl with | [_], _ => rfl
  refine ⟨fd_law, fun s v => b s [v] rfl, fun base _ _ => ?_⟩
  have c_consists_of := cal_of (P := P) (w := w) (base := base) F_consists_of (ok_consists_of T  F_consists_of) (He.glo_ok X G (c.fact 20 (f := .glo "_consists_of") rfl)) fun _ _ _ _ _ _ us hl => match us, hl with | [_, _, _], _ => rfl
  have c_is_name := cal_of (P := P) (w := w) (base := base) F_is_name (ok_is_name T c_consists_of F_is_name) (He.glo_ok X G (c.fact 18 (f := .glo "is_name") rfl)) fun _ _ _ _ _ _ us hl => match us, hl with | [_], _ => rfl
  have c_read_number := cal_of (P := P) (w := w) (base := base) F_read_number (ok_read_number T c_consists_of F_read_number) (He.glo_ok X G (c.fact 19 (f := .glo "read_number") rfl)) fun _ _ _ _ _ _ us hl => match us, hl with | [_, _], _ => rfl
  have c_sends := cal_of (P := P) (w := w) (base := base) F_sends (ok_sends T  F_sends) (He.glo_ok X G (c.fact 27 (f := .glo "_sends") rfl)) fun _ _ _ _ _ _ us hl => match us, hl with | [_], _ => rfl
  have c_takes := cal_of (P := P) (w := w) (base := base) F_takes (ok_takes T  F_takes) (He.glo_ok X G (c.fact 28 (f := .glo "_takes") rfl)) fun _ _ _ _ _ _ us hl => match us, hl with | [_], _ => rfl
  have c_mode := cal_of (P := P) (w := w) (base := base) F_mode (ok_mode T  F_mode) (He.glo_ok X G (c.fact 29 (f := .glo "_mode") rfl)) fun _ _ _ _ _ _ us hl => match us, hl with | [_, _], _ => rfl
  have c_flows := cal_of (P := P) (w := w) (base := base) F_flows (ok_flows T c_sends c_takes F_flows) (He.glo_ok X G (c.fact 25 (f := .glo "flows") rfl)) fun _ _ _ _ _ _ us hl => match us, hl with | [_, _], _ => rfl
  have c_held := cal_of (P := P) (w := w) (base := base) F_held (ok_held T c_sends c_mode F_held) (He.glo_ok X G (c.fact 24 (f := .glo "held") rfl)) fun _ _ _ _ _ _ us hl => match us, hl with | [_], _ => rfl
  have c_answer := cal_of (P := P) (w := w) (base := base) F_answer (ok_answer T c_flows c_mode F_answer) (He.glo_ok X G (c.fact 23 (f := .glo "answer") rfl)) fun _ _ _ _ _ _ us hl => match us, hl with | [_, _], _ => rfl
  have c_write_offer := cal_of (P := P) (w := w) (base := base) F_write_offer (ok_write_offer T  F_write_offer) (He.glo_ok X G (c.fact 22 (f := .glo "write_offer") rfl)) fun _ _ _ _ _ _ us hl => match us, hl with | [_], _ => rfl
  have c_read_formats := cal_of (P := P) (w := w) (base := base) F_read_formats (ok_read_formats T c_is_name F_read_formats) (He.glo_ok X G (c.fact 26 (f := .glo "_read_formats") rfl)) fun _ _ _ _ _ _ us hl => match us, hl with | [_], _ => rfl
  have c_read_offer := cal_of (P := P) (w := w) (base := base) F_read_offer (ok_read_offer T c_read_number c_read_formats F_read_offer) (He.glo_ok X G (c.fact 21 (f := .glo "read_offer") rfl)) fun _ _ _ _ _ _ us hl => match us, hl with | [_], _ => rfl
  have c_law_state := cal_of (P := P) (w := w) (base := base) F_law_state (ok_law_state T  F_law_state) (He.glo_ok X G (c.fact 30 (f := .glo "_law_state") rfl)) fun _ _ _ _ _ _ us hl => match us, hl with | [_], _ => rfl
  have c_law_draw := cal_of (P := P) (w := w) (base := base) F_law_draw (ok_law_draw T  F_law_draw) (He.glo_ok X G (c.fact 31 (f := .glo "_law_draw") rfl)) fun _ _ _ _ _ _ us hl => match us, hl with | [_, _], _ => rfl
  have c_law_pick := cal_of (P := P) (w := w) (base := base) F_law_pick (ok_law_pick T c_law_draw F_law_pick) (He.glo_ok X G (c.fact 32 (f := .glo "_law_pick") rfl)) fun _ _ _ _ _ _ us hl => match us, hl with | [_, _], _ => rfl
  have c_law_offer := cal_of (P := P) (w := w) (base := base) F_law_offer (ok_law_offer T c_law_draw c_law_pick F_law_offer) (He.glo_ok X G (c.fact 33 (f := .glo "_law_offer") rfl)) fun _ _ _ _ _ _ us hl => match us, hl with | [_], _ => rfl
  have c_law_sends := cal_of (P := P) (w := w) (base := base) F_law_sends (ok_law_sends T  F_law_sends) (He.glo_ok X G (c.fact 34 (f := .glo "_law_sends") rfl)) fun _ _ _ _ _ _ us hl => match us, hl with | [_], _ => rfl
  have c_law_takes := cal_of (P := P) (w := w) (base := base) F_law_takes (ok_law_takes T  F_law_takes) (He.glo_ok X G (c.fact 35 (f := .glo "_law_takes") rfl)) fun _ _ _ _ _ _ us hl => match us, hl with | [_], _ => rfl
  have c_law_mode := cal_of (P := P) (w := w) (base := base) F_law_mode (ok_law_mode T  F_law_mode) (He.glo_ok X G (c.fact 36 (f := .glo "_law_mode") rfl)) fun _ _ _ _ _ _ us hl => match us, hl with | [_, _], _ => rfl
  have c_law_answer := cal_of (P := P) (w := w) (base := base) F_law_answer (ok_law_answer T c_law_sends c_law_takes c_law_mode F_law_answer) (He.glo_ok X G (c.fact 37 (f := .glo "_law_answer") rfl)) fun _ _ _ _ _ _ us hl => match us, hl with | [_, _], _ => rfl
  have c_law_wrong_words := cal_of (P := P) (w := w) (base := base) F_law_wrong_words (ok_law_wrong_words T c_law_draw c_law_pick F_law_wrong_words) (He.glo_ok X G (c.fact 38 (f := .glo "_law_wrong_words") rfl)) fun _ _ _ _ _ _ us hl => match us, hl with | [_, _], _ => rfl
  exact ok_law T c_law_state c_law_offer c_law_answer c_answer c_held c_law_mode c_law_sends c_law_takes c_flows c_write_offer c_read_offer c_law_wrong_words F_law
end K2
open PySem PySem.W PySem.Calls PyProof.Rows
theorem PySem.Challenge.cw_trunkland_k02_offers_holds : PySem.Challenge.rw_trunkland_k02_offers.Holds := by
  w_on; o_law
  refine HandSHeadRun.head_any (r := OpenLaw.row PySem.Challenge.rw_trunkland_k02_offers) (q := view (OpenLaw.row PySem.Challenge.rw_trunkland_k02_offers).prog [32]) (H := K2.hk) (ob := K2.ob) (M := 4000) (loose := K2.loose0) (d := HandSHeadRun.topDef (OpenLaw.row PySem.Challenge.rw_trunkland_k02_offers).prog 32) (kwd := []) K2.ob_eq
    (by kernel_rfl) (fun s => by kernel_rfl) K2.run (by kernel_rfl) (by kernel_rfl) (by kernel_rfl) (by rfl) (by first | assumption | decide +kernel) (by decide +kernel) ⟨rfl, rfl, rfl, rfl, rfl, by decide +kernel⟩ ?hw ?hc
  case hw => w_witness2
  case hc =>
    refine L2.walk_ofE (l := PySem.Challenge.rw_trunkland_k02_offers) (n := 63) (k := 5) (x := "script") (CX := L2.CX0) rfl (by decide) (by kernel_rfl) ⟨rfl, by decide, by decide⟩ ?F (fun _ _ _ _ z => z)
    intro w mg fa h Y G hmg0
    obtain ⟨K, KX, c, cx⟩ := Y
    have hmg : mg ("law" : PySem.Str) = some (.ref fa) := by
      have e : (HandSHeadRun.topDef (OpenLaw.row PySem.Challenge.rw_trunkland_k02_offers).prog 32).name = ("law" : PySem.Str) := by kernel_rfl
      rw [← e]
      exact hmg0
    obtain ⟨fd, hb, hF⟩ := K2.facts (P := (PySem.Challenge.rw_trunkland_k02_offers).prog) (w := w) KX G hmg c cx
    exact ⟨K, fd, K2.spLaw K, KX, hb, fun H a ns hl _ hS => ⟨a, ns, rfl, hS, hl, fun _ => rfl⟩, hF⟩
