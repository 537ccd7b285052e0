import PyProof.Rows.All
import Wide.All
import OpenK.AllK
import Wide.FinOn
import HandS.ForMost
import HandS.Defaults
import HandS.Codes
import HandS.IsInst
import HandS.NoneIn
import HandS.Replace
import HandS.Walk
import HandS.Head0
import HandS.Head1
import HandS.Head2
import HandS.HeadEnd
import HandS.HeadHook1
import HandS.HeadHook2
import HandS.MakeKw
import HandS.MakeKwOnly
import HandS.FStr
import HandS.Deep
import HandS.Ends
import PyProof.ReprRoads
import PyProof.Rows.RegFStrParts
import HandS.Iter
import PySem.Challenge.RW_trunkland_k15_call_model
set_option Elab.async false
set_option linter.all false
set_option maxRecDepth 100000
set_option maxHeartbeats 4000000
/-! Helpers of mine over the hand layer, the same for every law of this program. -/
namespace TK
open PySem PySem.Spec PyProof.Rows L2 C8 SX
section
variable {X : Cx} {x : Str} {pos p : Pos} {k j : Nat} {sp : Sp} {dvs : List V}
theorem pgI {i : Int} (h : ∃ t, X.mg x = some (.int i t)) (hg : Gl X x := by rfl) (hd : (x == ("__debug__" : Str)) = false := by decide) : PE X (.Name x pos) (tC (.int i)) := by
  obtain ⟨t, e⟩ := h
  exact pe_glob hg e ⟨t, rfl⟩ hd
theorem pgS {z : Str} (h : ∃ t, X.mg x = some (.str z t)) (hg : Gl X x := by rfl) (hd : (x == ("__debug__" : Str)) = false := by decide) : PE X (.Name x pos) (tC (.str z)) := by
  obtain ⟨t, e⟩ := h
  exact pe_glob hg e ⟨t, rfl⟩ hd
theorem pgR {a : Addr} (h : X.mg x = some (.ref a)) (hg : Gl X x := by rfl) (hd : (x == ("__debug__" : Str)) = false := by decide) : PE X (.Name x pos) (tC (.ref a)) := pe_glob hg h rfl hd
theorem pe_c0 (c : Cal X.prog X.w X.K X.mg X.base k x sp dvs) (hr : Room j X.A) (hk : k ≤ j) (hg : Gl X x) (hdb : (x == ("__debug__" : Str)) = false := by decide) :
    PE X (.Call (.Name x p) [] [] pos) (tCall sp dvs L2.E0 tNil) := by
  obtain ⟨f, fd, ps, ds, F, hm, kp, b, d⟩ := c.ex
  exact pe_call0 F (hr.mono hk) hg hm kp b d L2.pass0 hdb
end
section
variable {P : Program} {w : World} {K : PySem.W.Frag} {mg : Str → Option Value} {base : Heap}
/-- a def without defaults, as callers want it -/
theorem cal_of {x qual : Str} {params : Arguments} {body : List Stmt} {scope : Scope} {f : Addr} {fd : FuncData} {ps : List Str} {k : Nat} {sp : Sp} (F : FunD K x qual params body scope [] [] f fd) (G : FnOk P w K mg base L2.CX0 k f fd ps sp) (hm : mg x = some (.ref f))
    (h : ∀ (kV doc pm : Value) (an : Option Addr) (cdv ct : Value) (us : List Value), us.length = ps.length → bindArgs (PySem.W.fnOf x qual params body scope .none kV doc pm an cdv ct) ⟨us, []⟩ = pure (ps.zip us)) : Cal P w K mg base k x sp [] :=
  ⟨f, fd, ps, [], G, hm, F.kp, F.bindsN h, .nil⟩
end
/-! ### heaps -/
/-- all that was tracked is as it was, but what stands at two places -/
def Keep (H H' : Hp) (a c : Addr) : Prop := ∀ b o, H b = some o → b ≠ a → b ≠ c → H' b = some o
theorem Keep.refl (H : Hp) (a c : Addr) : Keep H H a c := fun _ _ h _ _ => h
theorem Keep.trans {H H1 H2 : Hp} {a c : Addr} (h : Keep H H1 a c) (k : Keep H1 H2 a c) : Keep H H2 a c := fun b o e h1 h2 => k b o (h b o e h1 h2) h1 h2
theorem Keep.of_same {H H' : Hp} {a c : Addr} (h : Same H H') : Keep H H' a c := fun b o e _ _ => h b o e
theorem same_upd {H : Hp} {p : Addr} {o : HO} (h : H p = none) : Same H (upd H p o) := fun b u e => by
  rw [upd_ne (ne_of_none e h)]
  exact e
/-- the law's source of draws: a list of a list of cells and a seed -/
structure StAt (H : Hp) (s c : Addr) : Prop where
  ne : s ≠ c
  at_ : ∃ n : Int, H s = some (.lst [.ref c, .int n])
  cells : ∃ ns : List Int, H c = some (.lst (ns.map V.int)) ∧ ns.length ≤ 63
theorem StAt.same {H H' : Hp} {s c : Addr} (h : StAt H s c) (e : Same H H') : StAt H' s c := by
  obtain ⟨ne, ⟨n, h1⟩, ns, h2, h3⟩ := h
  exact ⟨ne, ⟨n, e _ _ h1⟩, ns, e _ _ h2, h3⟩
end TK
namespace TK
open PySem PySem.Spec PyProof.Rows L2 C8 SX
/-! ### comprehensions whose elements leave the heap alone -/
theorem lc_pure {J : It} {n : Nat} {G : Hp → Prop} {Y : Nat → Hp → V → Hp → Prop} (w : Walk J n G Y) (f : Nat → V) {g : TG} {tt : TT} {te : TE} {vs : List Nat} {σ : L2.St} {H1 : Hp} {D : Addr} {Qd : Hp → Prop} (hn : n ≤ sizeLine)
    (hG : ∀ i, i ≤ n → G (upd H1 D (.lst ((List.range i).map f))))
    (hs : ∀ (i : Nat) (x : V) (H' : Hp) (k : V → Hp → Prop), i < n → Y i (upd H1 D (.lst ((List.range i).map f))) x H' → k (f i) (upd H1 D (.lst ((List.range i).map f))) →
      g x (wipe σ vs) H' fun σ2 H2 => wipe σ2 vs = wipe σ vs ∧ tt σ2 H2 fun b H3 => b = true ∧ te σ2 H3 k)
    (ht : ∀ σ H Q Q', (∀ b H', Q b H' → Q' b H') → tt σ H Q → tt σ H Q') (hg : ∀ x σ H Q Q', (∀ σ' H', Q σ' H' → Q' σ' H') → g x σ H Q → g x σ H Q')
    (hd : Qd (upd H1 D (.lst ((List.range n).map f)))) :
    ∃ W : Nat → Nat → Hp → Prop, (∃ m, W 0 m (upd H1 D (.lst []))) ∧ ∀ i m H, W i m H →
      (J.stop i H ∧ Qd H) ∨ (J.go i H ∧ ∃ Nx : Hp → Prop, (∀ H', Nx H' → ∃ m', m' < m ∧ W (i + 1) m' H') ∧ ∀ x H', J.yld i H x H' → g x (wipe σ vs) H' fun σ2 H2 => wipe σ2 vs = wipe σ vs ∧ tt σ2 H2 fun b H3 =>
        if b = true then te σ2 H3 fun y H4 => ∃ acc, H4 D = some (.lst acc) ∧ acc.length < sizeLine ∧ Nx (upd H4 D (.lst (acc ++ [y]))) else Nx H3) := by
  refine lc_it w (fun i H => H = upd H1 D (.lst ((List.range i).map f))) rfl (fun i H hi e => e ▸ hG i hi) (fun i x H H' hi e y => ?_) (fun H e => e ▸ hd)
  subst e
  refine hg _ _ _ _ _ (fun σ2 H2 q => ⟨q.1, ht _ _ _ _ (fun b H3 r => ?_) q.2⟩) (hs i x H' (fun y H4 => ∃ acc, H4 D = some (.lst acc) ∧ acc.length < sizeLine ∧ upd H4 D (.lst (acc ++ [y])) = upd H1 D (.lst ((List.range (i + 1)).map f))) hi y ⟨_, upd_same, ?_, ?_⟩)
  · rw [if_pos r.1]
    exact r.2
  · rw [List.length_map, List.length_range]
    omega
  · rw [upd_upd, List.range_succ, List.map_append]
    rfl
/-- the usual target and no test -/
theorem lc_pureN {J : It} {n : Nat} {G : Hp → Prop} {Y : Nat → Hp → V → Hp → Prop} (w : Walk J n G Y) (f : Nat → V) {j : Nat} {te : TE} {vs : List Nat} {σ : L2.St} {H1 : Hp} {D : Addr} {Qd : Hp → Prop} (hn : n ≤ sizeLine)
    (hG : ∀ i, i ≤ n → G (upd H1 D (.lst ((List.range i).map f))))
    (hs : ∀ (i : Nat) (x : V) (H' : Hp) (k : V → Hp → Prop), i < n → Y i (upd H1 D (.lst ((List.range i).map f))) x H' → k (f i) (upd H1 D (.lst ((List.range i).map f))) →
      wipe ((wipe σ vs).set j (some x)) vs = wipe σ vs ∧ te ((wipe σ vs).set j (some x)) H' k)
    (hd : Qd (upd H1 D (.lst ((List.range n).map f)))) :
    ∃ W : Nat → Nat → Hp → Prop, (∃ m, W 0 m (upd H1 D (.lst []))) ∧ ∀ i m H, W i m H →
      (J.stop i H ∧ Qd H) ∨ (J.go i H ∧ ∃ Nx : Hp → Prop, (∀ H', Nx H' → ∃ m', m' < m ∧ W (i + 1) m' H') ∧ ∀ x H', J.yld i H x H' → gName j x (wipe σ vs) H' fun σ2 H2 => wipe σ2 vs = wipe σ vs ∧ tYes σ2 H2 fun b H3 =>
        if b = true then te σ2 H3 fun y H4 => ∃ acc, H4 D = some (.lst acc) ∧ acc.length < sizeLine ∧ Nx (upd H4 D (.lst (acc ++ [y]))) else Nx H3) :=
  lc_pure w f hn hG (fun i x H' k hi y q => ⟨(hs i x H' k hi y q).1, rfl, (hs i x H' k hi y q).2⟩) (fun _ _ _ _ h q => h _ _ q) (fun _ _ _ _ _ h q => h _ _ q) hd
theorem size_tl (z : Str) : z.cps.size = (TL.tl z).length := by simp [TL.tl]
theorem len_eq (z : Str) : z.length = (TL.tl z).length := TL.len_tl z
theorem range_map_getD {α β : Type} (l : List α) (d : α) (f : α → β) : (List.range l.length).map (fun i => f (l.getD i d)) = l.map f := by
  apply List.ext_getElem
  · simp
  · intro i h1 h2
    simp at h1
    simp [h1]
end TK
namespace TK
open PySem PySem.Spec PyProof.Rows L2 SX
theorem ef {b : Bool} (h : ¬ b = true) : b = false := Bool.eq_false_iff.mpr h
/-! ### places in texts -/
theorem at0 {α : Type} {l : List α} (d : α) (h : 0 < l.length) : atI l 0 = some (l.getD 0 d) := by
  cases l with
  | nil => exact absurd h (Nat.lt_irrefl 0)
  | cons a r =>
    show ((if (0 : Int) ≤ 0 then (if (0 : Int) < ((a :: r).length : Nat) then some (0 : Int).toNat else none) else _) : Option Nat).bind _ = _
    rw [if_pos (Int.le_refl 0), if_pos (by rw [List.length_cons]; omega)]
    rfl
theorem atN {α : Type} {l : List α} {i : Int} (d : α) (h0 : 0 ≤ i) (h : i < l.length) : atI l i = some (l.getD i.toNat d) := by
  show ((if (0 : Int) ≤ i then (if i < (l.length : Nat) then some i.toNat else none) else _) : Option Nat).bind _ = _
  rw [if_pos h0, if_pos h]
  show l[i.toNat]? = _
  rw [List.getD_eq_getElem?_getD, List.getElem?_eq_getElem (by omega)]
  rfl
theorem atC {α : Type} (a : α) (r : List α) : atI (a :: r) 0 = some a := at0 a (by simp)
theorem ixP {n : Nat} {i : Int} (h0 : 0 ≤ i) (h : i < n) : ixN n i = some i.toNat := by
  unfold ixN
  rw [if_pos h0, if_pos h]
theorem sqP {n : Nat} {i : Int} (h0 : 0 ≤ i) (h : i < n) : seqIndex? i n = some i.toNat := (ixN_seq (ixP h0 h)).1
theorem ixC {α : Type} (a : α) (r : List α) : ixN (a :: r).length 0 = some 0 := ixP (by decide) (by rw [List.length_cons]; omega)
theorem sqC {α : Type} (a : α) (r : List α) : seqIndex? 0 (a :: r).length = some 0 := sqP (by decide) (by rw [List.length_cons]; omega)
/-- the first place of a sign -/
theorem occ_first1 {l : List Nat} {c : Nat} (h : c ∈ l) : ∃ rest, Builtin.Str.occurrences (S l) (S [c]) 0 (S l).length 1 = l.idxOf c :: rest := by
  have at_iff : ∀ i, StrLaws.At (S l) (S [c]) (S l).length i ↔ l[i]? = some c := by
    intro i
    have e := TL.at_iff (x := S l) (y := S [c]) (by show [c] ≠ []; simp) i
    refine e.trans ?_
    show (((l.drop i).take 1 == [c]) = true) ↔ _
    rw [beq_iff_eq]
    constructor
    · intro q
      cases e2 : l.drop i with
      | nil =>
        rw [e2] at q
        cases q
      | cons a r =>
        rw [e2] at q
        have e3 : a = c := by
          simpa using q
        rw [← e3]
        have e4 : (l.drop i)[0]? = some a := by rw [e2]; rfl
        rw [List.getElem?_drop] at e4
        exact e4
    · intro q
      have hi : i < l.length := (List.getElem?_eq_some_iff.mp q).1
      rw [List.drop_eq_getElem_cons hi]
      have e3 : l[i] = c := (List.getElem?_eq_some_iff.mp q).2
      rw [e3]
      rfl
  rcases StrLaws.occ_head (S l) (S [c]) 1 (Nat.le_refl 1) with ⟨_, hn⟩ | ⟨i, r, e, ha, hn⟩
  · obtain ⟨i, hi, e⟩ := List.mem_iff_getElem.mp h
    exact absurd ((at_iff i).mpr (by rw [List.getElem?_eq_getElem hi, e])) (hn i)
  · refine ⟨r, ?_⟩
    rw [e]
    congr 1
    have h1 := (at_iff i).mp ha
    have hi : i < l.length := (List.getElem?_eq_some_iff.mp h1).1
    have e1 : l[i] = c := (List.getElem?_eq_some_iff.mp h1).2
    have hj : l.idxOf c < l.length := List.idxOf_lt_length_iff.mpr h
    have e2 : l[l.idxOf c] = c := List.getElem_idxOf hj
    rcases Nat.lt_trichotomy i (l.idxOf c) with z | z | z
    · exfalso
      have := List.not_of_lt_findIdx (p := (· == c)) (xs := l) (i := i) z
      simp [e1] at this
    · exact z
    · exfalso
      exact hn _ z ((at_iff _).mpr (by rw [List.getElem?_eq_getElem hj, e2]))
/-- a list cut at the first sign c -/
theorem cut_first {l : List Nat} {c : Nat} (h : c ∈ l) : l = l.take (l.idxOf c) ++ c :: l.drop (l.idxOf c + 1) ∧ c ∉ l.take (l.idxOf c) := by
  have hj : l.idxOf c < l.length := List.idxOf_lt_length_iff.mpr h
  refine ⟨?_, ?_⟩
  · have e2 : l[l.idxOf c] = c := List.getElem_idxOf hj
    have e3 := List.drop_eq_getElem_cons hj
    rw [e2] at e3
    rw [← e3, List.take_append_drop]
  · intro hm
    obtain ⟨i, hi, e⟩ := List.mem_iff_getElem.mp hm
    rw [List.length_take] at hi
    have hi1 : i < l.idxOf c := by omega
    have := List.not_of_lt_findIdx (p := (· == c)) (xs := l) (i := i) hi1
    rw [List.getElem_take] at e
    simp [e] at this
theorem cut_unique {a b a' b' : List Nat} {c : Nat} (h : a ++ c :: b = a' ++ c :: b') (ha : c ∉ a) (ha' : c ∉ a') : a = a' ∧ b = b' := by
  induction a generalizing a' with
  | nil =>
    cases a' with
    | nil => exact ⟨rfl, by simpa using h⟩
    | cons d r =>
      have e : c = d := by simpa using (List.cons.inj h).1
      exact absurd (List.mem_cons.mpr (.inl e)) ha'
  | cons d r ih =>
    cases a' with
    | nil =>
      have e : d = c := by simpa using (List.cons.inj h).1
      exact absurd (List.mem_cons.mpr (.inl e.symm)) ha
    | cons d' r' =>
      obtain ⟨e1, e2⟩ := List.cons.inj h
      obtain ⟨e3, e4⟩ := ih e2 (fun z => ha (List.mem_cons_of_mem _ z)) (fun z => ha' (List.mem_cons_of_mem _ z))
      exact ⟨by rw [e1, e3], e4⟩
end TK
namespace TK
open PySem PySem.Spec PyProof.Rows L2 SX
theorem Keep.upd {H H' : Hp} {s c D : Addr} {o : HO} (k : Keep H H' s c) (hD : H D = none) : Keep H (upd H' D o) s c := fun b u e h1 h2 => by
  rw [upd_ne (ne_of_none e hD)]
  exact k b u e h1 h2
theorem StAt.upd {H : Hp} {s c D : Addr} {o : HO} (h : StAt H s c) (h1 : D ≠ s) (h2 : D ≠ c) : StAt (upd H D o) s c := by
  obtain ⟨ne, ⟨n, a⟩, ns, b, l⟩ := h
  exact ⟨ne, ⟨n, by rw [upd_ne h1.symm]; exact a⟩, ns, by rw [upd_ne h2.symm]; exact b, l⟩
theorem StAt.tracked {H : Hp} {s c D : Addr} (h : StAt H s c) (hD : H D = none) : D ≠ s ∧ D ≠ c := by
  obtain ⟨ne, ⟨n, a⟩, ns, b, l⟩ := h
  exact ⟨fun e => (by rw [e, a] at hD; cases hD), fun e => (by rw [e, b] at hD; cases hD)⟩
theorem Keep.none {H H' : Hp} {s c b : Addr} (k : Keep H H' s c) (h : H' b = Option.none) (h1 : b ≠ s) (h2 : b ≠ c) : H b = Option.none := by
  cases e : H b with
  | none => rfl
  | some o =>
    rw [k b o e h1 h2] at h
    cases h
theorem joinL_nil : ∀ l : List (List Nat), TL.joinL [] l = l.flatten
  | [] => rfl
  | [p] => by simp [TL.joinL]
  | p :: q :: r => by
    show p ++ ([] ++ TL.joinL [] (q :: r)) = _
    rw [joinL_nil (q :: r)]
    rfl
/-- texts of one sign, joined -/
theorem join_ones {ys : List Str} (h : ∀ z ∈ ys, z.length = 1) : (Txt.join "" ys).length = ys.length := by
  have e : (Txt.join ("" : Str) ys) = Str.join "" ys := TL.join_eq "" ys
  rw [e, len_eq, TL.tl_join, show TL.tl ("" : Str) = [] by decide +kernel, joinL_nil]
  induction ys with
  | nil => rfl
  | cons a r ih =>
    have h1 := h a (List.mem_cons_self ..)
    rw [len_eq] at h1
    rw [List.map_cons, List.flatten_cons, List.length_append, ih (fun z hz => h z (List.mem_cons_of_mem _ hz)) (TL.join_eq "" r), List.length_cons, h1]
    omega
theorem sum_ones {ys : List Str} (h : ∀ z ∈ ys, z.length = 1) : (ys.map (·.length)).sum = ys.length := by
  induction ys with
  | nil => rfl
  | cons a r ih =>
    rw [List.map_cons, List.sum_cons, ih (fun z hz => h z (List.mem_cons_of_mem _ hz)), h a (List.mem_cons_self ..), List.length_cons]
    omega
theorem cat_len (a b : Str) : (a ++ b).length = a.length + b.length := by
  rw [len_eq, TL.tl_append, List.length_append, ← len_eq, ← len_eq]
end TK
namespace TK
open PySem PySem.Spec PyProof.Rows L2 SX
/-- lc_it with a plain name as target and no test -/
theorem lc_itN {J : It} {n : Nat} {G : Hp → Prop} {Y : Nat → Hp → V → Hp → Prop} (w : Walk J n G Y) {j : Nat} {te : TE} {vs : List Nat} {σ : L2.St} {H1 : Hp} {D : Addr} {Qd : Hp → Prop} (Pv : Nat → Hp → Prop) (h0 : Pv 0 (upd H1 D (.lst []))) (hG : ∀ i H, i ≤ n → Pv i H → G H)
    (hs : ∀ i x H H', i < n → Pv i H → Y i H x H' → wipe ((wipe σ vs).set j (some x)) vs = wipe σ vs ∧ te ((wipe σ vs).set j (some x)) H' fun y H4 => ∃ acc, H4 D = some (.lst acc) ∧ acc.length < sizeLine ∧ Pv (i + 1) (upd H4 D (.lst (acc ++ [y])))) (hd : ∀ H, Pv n H → Qd H) :
    ∃ W : Nat → Nat → Hp → Prop, (∃ m, W 0 m (upd H1 D (.lst []))) ∧ ∀ i m H, W i m H →
      (J.stop i H ∧ Qd H) ∨ (J.go i H ∧ ∃ Nx : Hp → Prop, (∀ H', Nx H' → ∃ m', m' < m ∧ W (i + 1) m' H') ∧ ∀ x H', J.yld i H x H' → gName j x (wipe σ vs) H' fun σ2 H2 => wipe σ2 vs = wipe σ vs ∧ tYes σ2 H2 fun b H3 =>
        if b = true then te σ2 H3 fun y H4 => ∃ acc, H4 D = some (.lst acc) ∧ acc.length < sizeLine ∧ Nx (upd H4 D (.lst (acc ++ [y]))) else Nx H3) :=
  lc_it w Pv h0 hG (fun i x H H' hi p y => ⟨(hs i x H H' hi p y).1, (hs i x H H' hi p y).2⟩) hd
end TK
namespace TK
open PySem PySem.Spec PyProof.Rows L2 SX
theorem slTo (z : Str) {i : Int} (h : 0 ≤ i) : Txt.slice z none (some i) = S ((TL.tl z).take i.toNat) := slice_to (a := TL.tl z) h
theorem slFrom (z : Str) {i : Int} (h : 0 ≤ i) : Txt.slice z (some i) none = S ((TL.tl z).drop i.toNat) := slice_from (a := TL.tl z) h
theorem log_small {i : Int} (h : i.natAbs < 2 ^ 1900) : i.natAbs.log2 < 1920 := by
  by_cases h0 : i.natAbs = 0
  · rw [h0]
    decide
  · exact (Nat.log2_lt h0).mpr (Nat.lt_of_lt_of_le h (Nat.pow_le_pow_right (by decide) (by decide)))
end TK
namespace TK
open PySem PySem.Spec PyProof.Rows L2 SX
/-! ### comprehensions with a test, the heap left alone -/
theorem lc_filt {J : It} {n : Nat} {G : Hp → Prop} {Y : Nat → Hp → V → Hp → Prop} (w : Walk J n G Y) (f : Nat → V) (b : Nat → Bool) {j : Nat} {tt : TT} {te : TE} {vs : List Nat} {σ : L2.St} {H1 : Hp} {D : Addr} {Qd : Hp → Prop} (hn : n ≤ sizeLine)
    (hG : ∀ i, i ≤ n → G (upd H1 D (.lst (((List.range i).filter b).map f))))
    (ht : ∀ (i : Nat) (x : V) (H' : Hp) (k : Bool → Hp → Prop), i < n → Y i (upd H1 D (.lst (((List.range i).filter b).map f))) x H' → k (b i) (upd H1 D (.lst (((List.range i).filter b).map f))) →
      wipe ((wipe σ vs).set j (some x)) vs = wipe σ vs ∧ tt ((wipe σ vs).set j (some x)) H' k)
    (he : ∀ (i : Nat) (x : V) (H' : Hp) (k : V → Hp → Prop), i < n → b i = true → Y i (upd H1 D (.lst (((List.range i).filter b).map f))) x H' → k (f i) (upd H1 D (.lst (((List.range i).filter b).map f))) →
      te ((wipe σ vs).set j (some x)) (upd H1 D (.lst (((List.range i).filter b).map f))) k)
    (hd : Qd (upd H1 D (.lst (((List.range n).filter b).map f)))) :
    ∃ W : Nat → Nat → Hp → Prop, (∃ m, W 0 m (upd H1 D (.lst []))) ∧ ∀ i m H, W i m H →
      (J.stop i H ∧ Qd H) ∨ (J.go i H ∧ ∃ Nx : Hp → Prop, (∀ H', Nx H' → ∃ m', m' < m ∧ W (i + 1) m' H') ∧ ∀ x H', J.yld i H x H' → gName j x (wipe σ vs) H' fun σ2 H2 => wipe σ2 vs = wipe σ vs ∧ tt σ2 H2 fun b H3 =>
        if b = true then te σ2 H3 fun y H4 => ∃ acc, H4 D = some (.lst acc) ∧ acc.length < sizeLine ∧ Nx (upd H4 D (.lst (acc ++ [y]))) else Nx H3) := by
  refine lc_it w (fun i H => H = upd H1 D (.lst (((List.range i).filter b).map f))) rfl (fun i H hi e => e ▸ hG i hi) (fun i x H H' hi e y => ?_) (fun H e => e ▸ hd)
  subst e
  refine ht i x H' _ hi y ?_
  cases hb : b i with
  | true =>
    refine iteT (he i x H' _ hi hb y ⟨_, upd_same, ?_, ?_⟩)
    · rw [List.length_map]
      exact Nat.lt_of_le_of_lt (List.length_filter_le _ _) (by rw [List.length_range]; omega)
    · rw [upd_upd, List.range_succ, List.filter_append, List.map_append, List.filter_cons_of_pos hb]
      rfl
  | false =>
    refine iteF ?_
    rw [List.range_succ, List.filter_append, List.filter_cons_of_neg (by rw [hb]; exact Bool.false_ne_true), List.filter_nil, List.append_nil]
theorem range_filter_getD {α β : Type} (l : List α) (d : α) (p : α → Bool) (f : α → β) : ((List.range l.length).filter (fun i => p (l.getD i d))).map (fun i => f (l.getD i d)) = (l.filter p).map f := by
  have e := range_map_getD l d (fun x => x)
  rw [List.map_id'] at e
  have h : (l.filter p).map f = (((List.range l.length).map (fun i => l.getD i d)).filter p).map f := by rw [e]
  rw [h, List.filter_map, List.map_map]
  rfl
theorem getD_at {α : Type} {l : List α} {i : Nat} {x : α} (d : α) (h : l[i]? = some x) : l.getD i d = x := by
  rw [List.getD_eq_getElem?_getD, h]
  rfl
/-! ### heads with tables -/
def obsX (n : Nat) (fa : List He.Fa) (fn : List He.DefD) (ex : PySem.W.Frag → List Bool) (g : Addr → Option Obj) : He.AlD :=
  ((He.obsD fa fn (He.frG g (He.asD g n))).1 && (ex (He.frG g (He.asD g n))).all id, (He.obsD fa fn (He.frG g (He.asD g n))).2)
def hookX (n : Nat) (fa : List He.Fa) (fn : List He.DefD) (ex : PySem.W.Frag → List Bool) : PySem.W.Hook where
  α := He.AlD
  obs s := obsX n fa fn ex s.heap.get?
  val _ := He.valD fn
  says _ h := ∃ K : PySem.W.Frag, K.In h ∧ He.SaysD fa fn K ∧ (ex K).all id = true
  of _ _ e := by
    have e1 := congrArg (fun z : He.AlD => z.1) e
    have e2 := congrArg (fun z : He.AlD => z.2) e
    obtain ⟨a, b⟩ := Bool.and_eq_true_iff.mp e1
    exact ⟨_, He.frG_in, Prod.ext a e2, b⟩
  keeps _ _ _ c k := let ⟨K, hK, c1, c2⟩ := c; ⟨K, PySem.W.Frag.In.keeps hK k, c1, c2⟩
theorem obsX_eq {n : Nat} {fa : List He.Fa} {fn : List He.DefD} {ex : PySem.W.Frag → List Bool} {g : Addr → Option Obj} {s : Shared} (h : ∀ a, g a = s.heap.get? a) : obsX n fa fn ex g = (hookX n fa fn ex).obs s := by
  obtain rfl : g = s.heap.get? := funext h
  rfl
theorem exAt {l : List Bool} (h : l.all id = true) (i : Nat) {b : Bool} (e : l[i]? = some b) : b = true := List.all_eq_true.mp h b (List.mem_of_getElem? e)
end TK
namespace TK
open PySem PySem.Spec PyProof.Rows L2 SX
/-! ### rules that name the written part, for use within a comprehension -/
section
variable {X : Cx}
theorem inSeqK (K : PySem.W.Frag) (e : X.K = K) : OpR X (compareOp .In) (rIn K false) := by
  subst e
  exact op_in_seq
theorem notInSeqK (K : PySem.W.Frag) (e : X.K = K) : OpR X (compareOp .NotIn) (rIn K true) := by
  subst e
  exact op_notIn_seq
theorem ixListK (K : PySem.W.Frag) (e : X.K = K) : IxR X (rIxL K) := by
  subst e
  exact ix_list
theorem ixTupK (K : PySem.W.Frag) (e : X.K = K) : IxR X (rIxT K) := by
  subst e
  exact ix_tup
theorem isiK (K : PySem.W.Frag) (e : X.K = K) : CallR X (.builtin "isinstance") (rIsi K) := by
  subst e
  exact call_isi
end
end TK
set_option maxHeartbeats 4000000
namespace TK
open PySem PySem.Spec PyProof.Rows L2 SX
theorem same_upd2 {H H' : Hp} {D : Addr} {o : HO} (s : Same H H') (hD : H D = none) : Same H (upd H' D o) := fun b u e => by
  rw [upd_ne (ne_of_none e hD)]
  exact s b u e
theorem joinL_len (y : List Nat) : ∀ l : List (List Nat), (TL.joinL y l).length ≤ (l.map (·.length)).sum + l.length * y.length
  | [] => by simp [TL.joinL]
  | [p] => by simp [TL.joinL]
  | p :: q :: r => by
    have ih := joinL_len y (q :: r)
    show (p ++ (y ++ TL.joinL y (q :: r))).length ≤ _
    rw [List.length_append, List.length_append, List.map_cons, List.sum_cons, List.length_cons (a := p), Nat.succ_mul]
    omega
theorem join_len (y : Str) (ys : List Str) : (Txt.join y ys).length ≤ (ys.map (·.length)).sum + ys.length * y.length := by
  rw [show Txt.join y ys = Str.join y ys from TL.join_eq y ys, len_eq, TL.tl_join]
  have q := joinL_len (TL.tl y) (ys.map TL.tl)
  rw [List.length_map, List.map_map] at q
  have e : (ys.map (fun x : Str => x.length)) = ys.map ((fun x : List Nat => x.length) ∘ TL.tl) := List.map_congr_left fun x _ => len_eq x
  rw [e, len_eq y]
  exact q
theorem sum_le {m : Nat} : ∀ {ys : List Str}, (∀ z ∈ ys, z.length ≤ m) → (ys.map (·.length)).sum ≤ ys.length * m
  | [], _ => Nat.zero_le _
  | a :: r, h => by
    have ih := sum_le (ys := r) fun z hz => h z (List.mem_cons_of_mem _ hz)
    have h1 := h a (List.mem_cons_self ..)
    rw [List.map_cons, List.sum_cons, List.length_cons, Nat.succ_mul]
    omega
theorem nodup_inr : ∀ ys : List Str, (ys.map (Sum.inr : Str → Key)).Nodup ↔ ys.Nodup
  | [] => by simp
  | a :: r => by
    rw [List.map_cons, List.nodup_cons, List.nodup_cons, nodup_inr r, List.mem_map]
    constructor
    · intro q
      exact ⟨fun m => q.1 ⟨a, m, rfl⟩, q.2⟩
    · intro q
      exact ⟨fun ⟨b, m, e⟩ => q.1 (Sum.inr.inj e ▸ m), q.2⟩
theorem key_strs (ys : List Str) : (ys.map (Sum.inr : Str → Key)).map kV = ys.map V.str := by
  rw [List.map_map]
  rfl
/-- the parts of a text are no longer than the text -/
theorem part_len {z y p : Str} (h : p ∈ Txt.split z y) : p.length ≤ z.length := by
  have j := StrLaws.join_split z y
  have sub : ∀ (l : List (List Nat)) (s : List Nat), ∀ x ∈ l, x.length ≤ (TL.joinL s l).length := by
    intro l s
    induction l with
    | nil => exact fun x hx => nomatch hx
    | cons a r ih =>
      intro x hx
      cases r with
      | nil =>
        rw [List.mem_singleton.mp hx]
        exact Nat.le_refl _
      | cons b r =>
        show x.length ≤ (a ++ (s ++ TL.joinL s (b :: r))).length
        rw [List.length_append, List.length_append]
        rcases List.mem_cons.mp hx with q | q
        · rw [q]
          omega
        · have := ih x q
          omega
  have q := sub ((Txt.split z y).map TL.tl) (TL.tl y) (TL.tl p) (List.mem_map.mpr ⟨p, h, rfl⟩)
  rw [← TL.tl_join, j] at q
  rw [len_eq, len_eq]
  exact q
end TK
namespace TK
open PySem PySem.Spec PyProof.Rows L2 SX
/-! ### a word between an expression and what follows -/
def tCutE (t : TE) : TE := fun σ H Q => ∃ Mid : VK, t σ H Mid ∧ ∀ v H', Mid v H' → Q v H'
def tCutT (t : TT) : TT := fun σ H Q => ∃ Mid : Bool → Hp → Prop, t σ H Mid ∧ ∀ b H', Mid b H' → Q b H'
section
variable {X : Cx} {e : Expr}
theorem pe_cut {t : TE} (h : PE X e t) : PE X e (tCutE t) := ⟨fun pins s σ H _ I ⟨Mid, hm, hq⟩ => thn (h.run pins s σ H Mid I hm) fun _ _ ⟨v, H', I', r, q⟩ => ⟨v, H', I', r, hq v H' q⟩⟩
theorem pt_cut {t : TT} (h : PT X e t) : PT X e (tCutT t) := ⟨fun pins s σ H _ I ⟨Mid, hm, hq⟩ => thn (h.run pins s σ H Mid I hm) fun b _ ⟨H', I', q⟩ => ⟨H', I', hq b H' q⟩⟩
end
end TK
set_option maxHeartbeats 4000000
/-! Own classes: rules that name the class, makers and methods by their promises. -/
namespace TK
open PySem PySem.Spec PyProof.Rows L2 SX
def tFldC (C : Addr) (ta : TE) (f : Str) : TE := fun σ H Q => ta σ H fun x H1 => ∃ a dx fs v, x = .ref a ∧ H1 a = some (.ins C dx fs) ∧ fs.lookup f = some v ∧ Q v H1
def sFldC (C : Addr) (ta tv : TE) (f : Str) : TS := fun D σ H => tv σ H fun y H1 => ta σ H1 fun x H2 => ∃ a dx fs, x = .ref a ∧ H2 a = some (.ins C dx fs) ∧ fs.length < 1000 ∧ D.nx σ (upd H2 a (.ins C dx (putF f y fs)))
section
variable {X : Cx} {K : PySem.W.Frag} {C : Addr} {e o value : Expr} {f : Str} {pos pos' : Pos} {ta tv : TE}
theorem pe_fldC (eK : X.K = K) (c : Cls K C) (n : NoAttr K C f) (he : PE X e ta) (hb : attributeBase e f X.env (eval e X.env) = eval e X.env) : PE X (.Attribute e f pos) (tFldC C ta f) := by
  subst eK
  exact ⟨fun pins s σ H Q I h => (pe_fld (pe_cut he) hb).run pins s σ H Q I ⟨_, h, fun v H' ⟨a, dx, fs, w, e1, e2, e3, q⟩ => ⟨a, C, dx, fs, w, e1, e2, c, n, e3, q⟩⟩⟩
theorem ps_fldC (eK : X.K = K) (c : Cls K C) (n : NoAttr K C f) (ha : PE X o ta) (hv : PE X value tv) (hs : swapsWith value (some (.Attribute o f pos')) pos.line X.env = pure false) : PS X (.Assign [.Attribute o f pos'] value pos) (sFldC C ta tv f) := by
  subst eK
  exact ⟨fun pins s σ H D I h => (ps_fld (pe_cut ha) (pe_cut hv) hs).run pins s σ H D I ⟨_, h, fun v H' h2 => ⟨_, h2, fun x H2 ⟨a, dx, fs, e1, e2, e3, q⟩ => ⟨a, C, dx, fs, e1, e2, c, n, e3, q⟩⟩⟩⟩
end
/-! ### few attributes -/
class SmallF (fs : List (Str × V)) (n : outParam Nat) : Prop where
  le : fs.length ≤ n
instance : SmallF [] 0 := ⟨Nat.le_refl _⟩
instance {x : Str × V} {l : List (Str × V)} {n : Nat} [h : SmallF l n] : SmallF (x :: l) (n + 1) := ⟨Nat.succ_le_succ h.le⟩
theorem putF_len {f : Str} {v : V} : ∀ fs : List (Str × V), (putF f v fs).length ≤ fs.length + 1
  | [] => Nat.le_refl _
  | (g, x) :: r => by
    show (if g = f then (g, v) :: r else (g, x) :: putF f v r).length ≤ _
    by_cases h : g = f
    · rw [if_pos h]
      exact Nat.le_succ _
    · rw [if_neg h]
      exact Nat.succ_le_succ (putF_len r)
instance {f : Str} {v : V} {l : List (Str × V)} {n : Nat} [h : SmallF l n] : SmallF (putF f v l) (n + 1) := ⟨Nat.le_trans (putF_len l) (Nat.succ_le_succ h.le)⟩
theorem sm {fs : List (Str × V)} {n : Nat} [h : SmallF fs n] (hn : n < 1000 := by decide) : fs.length < 1000 := Nat.lt_of_le_of_lt h.le hn
/-! ### makers -/
section
variable {P : Program} {w : World} {K : PySem.W.Frag} {mg : Str → Option Value} {base : Heap}
structure MakK (P : Program) (w : World) (K : PySem.W.Frag) (mg : Str → Option Value) (base : Heap) (k : Nat) (x : Str) (C : Addr) (sp : Sp) (n : Nat) (ks : List Str) (gV : List V → List V → List V) : Prop where
  ex : ∃ (f : Addr) (fd : FuncData) (ps : List Str) (g : List Value → List Value → List Value), Mk K C f ∧ FnOk P w K mg base L2.CX0 k f fd ps sp ∧ mg x = some (.ref C) ∧ KBn K fd ps (n + 1) ks g gV
theorem mak_of {C : Addr} {x n qual : Str} {params : Arguments} {body : List Stmt} {scope : Scope} {f : Addr} {fd : FuncData} {ps : List Str} {k : Nat} {sp : Sp} (M : Mk K C f) (hm : mg x = some (.ref C)) (F : FunD K n qual params body scope [] [] f fd) (G : FnOk P w K mg base L2.CX0 k f fd ps sp)
    (h : ∀ (kV doc pm : Value) (an : Option Addr) (cdv ct : Value) (us : List Value), us.length = ps.length → bindArgs (PySem.W.fnOf n qual params body scope .none kV doc pm an cdv ct) ⟨us, []⟩ = pure (ps.zip us)) : C8.Mak P w K mg base k x C sp [] :=
  ⟨f, fd, ps, [], M, G, hm, F.bindsN h, .nil⟩
theorem met_of {C : Addr} {n qual : Str} {params : Arguments} {body : List Stmt} {scope : Scope} {f : Addr} {fd : FuncData} {ps : List Str} {k : Nat} {sp : Sp} (c : Cls K C) (m : Meth K C n f) (F : FunD K n qual params body scope [] [] f fd) (G : FnOk P w K mg base L2.CX0 k f fd ps sp)
    (h : ∀ (kV doc pm : Value) (an : Option Addr) (cdv ct : Value) (us : List Value), us.length = ps.length → bindArgs (PySem.W.fnOf n qual params body scope .none kV doc pm an cdv ct) ⟨us, []⟩ = pure (ps.zip us)) : C8.Met P w K mg base k C n sp [] :=
  ⟨f, fd, ps, [], c, m, G, F.bindsN h, .nil⟩
theorem metD_of {C : Addr} {n qual : Str} {params : Arguments} {body : List Stmt} {scope : Scope} {dvs : List V} {f : Addr} {fd : FuncData} {ps : List Str} {k : Nat} {sp : Sp} (c : Cls K C) (m : Meth K C n f) (F : FunD K n qual params body scope dvs [] f fd) (G : FnOk P w K mg base L2.CX0 k f fd ps sp) (hd : dvs ≠ []) (hn : dvs.length ≤ ps.length)
    (h : ∀ (T : Addr) (kV doc pm : Value) (an : Option Addr) (cdv ct : Value) (us its : List Value), us.length = ps.length - dvs.length → its.length = dvs.length →
      ∃ k, bindArgs (PySem.W.fnOf n qual params body scope (.ref T) kV doc pm an cdv ct) ⟨us, []⟩ = seqItems? (.ref T) >>= k ∧ k (some its.toArray) = pure (ps.zip (us ++ its.drop 0))) : C8.Met P w K mg base k C n sp dvs := by
  obtain ⟨ds, h1, h2⟩ := F.binds1 (ps := ps) (ps.length - dvs.length) 0 hd (by omega) h
  exact ⟨f, fd, ps, ds, c, m, G, h2, by simpa using h1⟩
end
section
variable {X : Cx} {k j n : Nat} {C : Addr} {x : Str} {sp : Sp} {p pos : Pos} {e : Expr} {es : List Expr} {kws : List Keyword} {ks : List Str} {t tk : TA} {gV : List V → List V → List V}
theorem pe_mk0 {dvs : List V} (c : C8.Mak X.prog X.w X.K X.mg X.base k x C sp dvs) (hr : Room j X.A) (hk : k + 1 ≤ j) (hg : Gl X x) (hdb : (x == ("__debug__" : Str)) = false := by decide) : PE X (.Call (.Name x p) [] [] pos) (tMake C sp dvs L2.E0 tNil) := by
  obtain ⟨f, fd, ps, ds, M, F, hm, b, d⟩ := c.ex
  exact pe_make0 M F (hr.mono hk) hg hm b d L2.pass0 hdb
theorem pe_mkK0 (c : MakK X.prog X.w X.K X.mg X.base k x C sp 0 ks gV) (hr : Room j X.A) (hk : k + 1 ≤ j) (hg : Gl X x) (hkw : PK X kws tk)
    (hall : (backToKw pos (keywordEach kws X.env)).all (·.1.isSome) = true := by rfl) (hks : (backToKw pos (keywordEach kws X.env)).filterMap (·.1) = ks := by rfl) (hdb : (x == ("__debug__" : Str)) = false := by decide)
    (hpl : ((backTo pos (starEach [] X.env)).any (·.1) || (backToKw pos (keywordEach kws X.env)).any (·.1.isNone)) = false := by rfl) :
    PE X (.Call (.Name x p) [] kws pos) (tMakeK C 0 ks.length sp gV L2.E0 tNil tk) := by
  obtain ⟨f, fd, ps, g, M, F, hm, b⟩ := c.ex
  exact pe_makeK0 M F (hr.mono hk) hg hm b L2.pass0 hkw hall hks hdb hpl
end
/-! ### new objects -/
theorem same_own {H : Hp} {x dx C : Addr} {fs : List (Str × V)} (hx : H x = none) (hd : H dx = none) : Same H (upd (upd H dx (.own x)) x (.ins C dx fs)) := fun b o e => by
  rw [upd_ne (ne_of_none e hx), upd_ne (ne_of_none e hd)]
  exact e
theorem Same.upd_of {H H' : Hp} {a : Addr} {o : HO} (s : Same H H') (h : H a = none) : Same H (upd H' a o) := fun b u e => by
  rw [upd_ne (ne_of_none e h)]
  exact s b u e
/-! ### texts that can be laid -/
theorem ok_iff {z : Str} : PyData.strOk z = true ↔ ∀ c ∈ TL.tl z, c < 0x110000 := by
  unfold PyData.strOk TL.tl
  rw [Array.all_eq_true']
  constructor
  · intro h c hc
    simpa using h c (by simpa using hc)
  · intro h c hc
    simpa using h c (by simpa using hc)
theorem ok_cat {a b : Str} (ha : PyData.strOk a = true) (hb : PyData.strOk b = true) : PyData.strOk (a ++ b) = true := by
  rw [ok_iff] at *
  intro c hc
  rw [TL.tl_append, List.mem_append] at hc
  exact hc.elim (ha c) (hb c)
theorem joinL_mem {s : List Nat} {c : Nat} : ∀ l : List (List Nat), c ∈ TL.joinL s l → c ∈ s ∨ ∃ p ∈ l, c ∈ p
  | [], h => by simp [TL.joinL] at h
  | [p], h => .inr ⟨p, List.mem_singleton.mpr rfl, by simpa [TL.joinL] using h⟩
  | p :: q :: r, h => by
    have h2 : c ∈ p ++ (s ++ TL.joinL s (q :: r)) := h
    rw [List.mem_append, List.mem_append] at h2
    rcases h2 with h2 | h2 | h2
    · exact .inr ⟨p, List.mem_cons_self .., h2⟩
    · exact .inl h2
    · rcases joinL_mem (q :: r) h2 with h3 | ⟨x, h3, h4⟩
      · exact .inl h3
      · exact .inr ⟨x, List.mem_cons_of_mem _ h3, h4⟩
theorem ok_join {y : Str} {l : List Str} (hy : PyData.strOk y = true) (hl : ∀ z ∈ l, PyData.strOk z = true) : PyData.strOk (Txt.join y l) = true := by
  rw [TL.join_eq, ok_iff]
  intro c hc
  rw [TL.tl_join] at hc
  rcases joinL_mem _ hc with h | ⟨p, hp, h⟩
  · exact ok_iff.mp hy c h
  · obtain ⟨z, hz, rfl⟩ := List.mem_map.mp hp
    exact ok_iff.mp (hl z hz) c h
def numS (i : Int) : Str := Str.ofString (toString i)
theorem numS_tl {i : Int} (h : 0 ≤ i) : TL.tl (numS i) = TL.numL i.toNat := by
  have e : i = ((i.toNat : Nat) : Int) := (Int.toNat_of_nonneg h).symm
  rw [e]
  exact TL.tl_num _
theorem ok_num {i : Int} (h : 0 ≤ i) : PyData.strOk (numS i) = true := by
  rw [ok_iff, numS_tl h]
  intro c hc
  exact Nat.lt_of_not_le fun q => TL.numL_free (n := i.toNat) (s := c) (.inr (by omega)) hc
theorem numS_len {i : Int} (h : i.natAbs < 1000000000) : (numS i).length ≤ 10 := by
  have e := int_text_length_le10 (a := i) (k := 9) (by decide) (by omega)
  show (Str.ofString (toString i)).length ≤ 10
  rw [PySem.ofString_length]
  omega
theorem numS_log {i : Int} (h : i.natAbs < 1000000000) : i.natAbs.log2 < 1920 := log_small (Nat.lt_of_lt_of_le h (by decide))
theorem szl {z : Str} (h : z.length ≤ 100000) : z.length ≤ sizeLine := Nat.le_trans h (by decide)
theorem ne_ins {H : Hp} {a b C C' dx dx' : Addr} {fs fs' : List (Str × V)} (h : H a = some (.ins C dx fs)) (h' : H b = some (.ins C' dx' fs')) (n : fs.length ≠ fs'.length) : a ≠ b :=
  ne_of h h' fun e => by
    injection e with _ _ e2
    exact n (congrArg List.length e2)
/-- only what stands at A has changed -/
def Fr (A : List Addr) (H H' : Hp) : Prop := ∀ b o, H b = some o → b ∉ A → H' b = some o
theorem Fr.of_same {A : List Addr} {H H' : Hp} (s : Same H H') : Fr A H H' := fun b o e _ => s b o e
theorem Fr.refl (A : List Addr) (H : Hp) : Fr A H H := fun _ _ e _ => e
theorem Fr.trans {A : List Addr} {H H1 H2 : Hp} (s : Fr A H H1) (t : Fr A H1 H2) : Fr A H H2 := fun b o e n => t b o (s b o e n) n
theorem Fr.trans_new {A A' : List Addr} {H H1 H2 : Hp} (s : Fr A H H1) (t : Fr A' H1 H2) (n : ∀ b ∈ A', b ∈ A ∨ H b = none) : Fr A H H2 := fun b o e hn => t b o (s b o e hn) fun m => (n b m).elim hn fun z => by rw [e] at z; cases z
end TK
set_option maxHeartbeats 1000000
/-! The law's own def at its caller alone, where it is known that no repr is under way; repr of lists and tuples there. -/
namespace TKR
open PySem PySem.Spec PyProof.Rows L2
section
variable {P : Program} {w : World} {K : PySem.W.Frag} {mg : Str → Option Value} {base : Heap}
/-- what FnOk says, but of the law's caller only -/
structure FnC (P : Program) (w : World) (K : PySem.W.Frag) (mg : Str → Option Value) (base : Heap) (f : Addr) (fd : FuncData) (ps : List Str) (sp : Sp) : Prop where
  go : ∀ (s : Shared) (H : Hp) (args : Args) (us : List Value) (vs : List V) (Q : VK), Env0 P w K mg base callerA [] s H → BindsTo s fd args (ps.zip us) → Vals vs us → sp vs H Q (fun _ _ _ => False) → codeAny (model P w) callerA (.call (.ref f) args) (CR CX0 [] P w H s Q fun _ _ _ => False) s
theorem fnC_of {x qual : Str} {params : Arguments} {body : List Stmt} {scope : Scope} {dvs : List V} {kws : List (Str × V)} {f : Addr} {fd : FuncData} {N ps : List Str} {k : Nat} {sp : Sp} (F : FunD K x qual params body scope dvs kws f fd) (S : FnScope N ps scope) (hr : Room (k + 1) callerA)
    (len : ∀ vs H Q E, sp vs H Q E → vs.length = ps.length)
    (hb : ∀ (cdv : Value) (s : Shared) (H : Hp) (vs : List V) (Q : VK) (E : XK), Room k (callerA.deeper (envOfC qual scope s.heap.objs.size f cdv)) → sp vs H Q E →
      ∃ t, PSs (cxOf CX0 P w K mg base N qual scope f cdv callerA [] s H E) body t ∧ t { nx := fun _ H' => Q .non H', rt := Q } (start N vs) H) : FnC P w K mg base f fd ps sp := by
  obtain ⟨oc, od, dV, kV, doc, pm, an, cdv, ct, osl, rfl, lk, hcd, _, _⟩ := F.ex
  constructor
  intro s H args us vs Q ee hbi rv hsp
  have kin : K.In s.heap := ee.mod.kin.keeps fun b o e => (ee.bs b o e).1
  have lim : s.heap.NoLimit := ee.mod.nolimit.keeps fun b o e => (ee.bs b o e).1
  have kinds : ∀ y ∈ ps.zip us, scope.names.lookup y.1 = some .local ∨ (scope.names.lookup y.1 = some .cell ∧ ((cellsFrom (s.heap.objs.size + 1) scope.names []).lookup y.1).isSome = true) := by
    rintro ⟨n, v⟩ hy
    have hn := (List.of_mem_zip hy).1
    exact (S.par n hn).imp (fun q => q) fun q => ⟨q, PySem.W.cellsFrom_some _ _ _ (.inl q)⟩
  refine codeAny_call_function hr.depth (kin _ _ lk) rfl S.co S.gen rfl (PySem.W.codeRec_of kin hcd) (hbi _ _ _ _ (wpAny_newFunctionEnv_cells S.kind kinds fun env he s1 x => ?_))
  subst he
  refine ⟨lim.keeps x.toInCall.keep, codeAny_func ?_⟩
  obtain ⟨t, ht, hq⟩ := hb cdv s H vs Q _ (hr.deeper _) hsp
  have I := inv_start (CX := CX0) (E := fun _ _ _ => False) S hr.hd ee (len _ _ _ _ hsp) rv x
  refine wpAny_mono (ht.run [] s1 _ H _ I hq) (fun fl s' hs => ?_) fun _ _ z => z
  match fl, hs with
  | .ret u, hs =>
    obtain ⟨v, σ', H', J, r, q⟩ := hs
    exact ⟨v, H', J.os, J.bare, J.base, J.hok, r, q⟩
  | .next, hs =>
    obtain ⟨σ', H', J, q⟩ := hs
    exact ⟨V.non, H', J.os, J.bare, J.base, J.hok, rfl, q⟩
  | .brk, hs =>
    obtain ⟨_, _, _, z⟩ := hs
    cases z
  | .cont, hs =>
    obtain ⟨_, _, _, z⟩ := hs
    cases z
theorem call_ofC {mb : Str → Option Value} {fa a : Addr} {fd : FuncData} {x : Str} {sp : Sp} {st : Shared} {us : List Value} {ns : List Int}
    (kx : K.In st.heap) (gm : st.heap.Ns mainGlobals mg) (gb : st.heap.Ns builtinsNs mb) (bb : ∀ y : Str, y ≠ "__name__" → mb y = bootBuiltins y) (nl : st.heap.NoLimit) (ng : st.gens = #[])
    (obj : st.heap.get? a = some { cls := .type "list", data := .seq us.toArray }) (iri : IntsAre us ns) (few : ns.length ≤ sizeLine)
    (F : ∀ base : Heap, K.In base → base.Ns mainGlobals mg → FnC P w K mg base fa fd [x] sp) (bind : ∀ (s : Shared) (u : Value), BindsTo s fd ⟨[u], []⟩ [(x, u)])
    (told : ∀ H : Hp, Only H → SqL K H a (ns.map V.int) → sp [.ref a] H (fun v _ => v = .bl true) fun _ _ _ => False) :
    codeAny (model P w) callerA (.call (.ref fa) ⟨[.ref a], []⟩) (fun r s' => r = .ok (.ret (.bool true)) ∧ OldK st.heap s'.heap ∧ s'.os = st.os ∧ AllBare s'.gens) st := by
  have rel := vals_ints iri
  have size := iri.length
  have main : ∀ H : Hp, Only H → SqL K H a (ns.map V.int) → HOk P w H st.heap → (∀ c, H c ≠ none → c = a) → (H a ≠ none → K.lookup a = none) →
      codeAny (model P w) callerA (.call (.ref fa) ⟨[.ref a], []⟩) (fun r s' => r = .ok (.ret (.bool true)) ∧ OldK st.heap s'.heap ∧ s'.os = st.os ∧ AllBare s'.gens) st := by
    intro H only sq hok one free
    have back : ∀ {c : Addr} {o : Obj}, st.heap.get? c = some o → H c = none → (hidT st.heap H).get? c = some o := fun e n => hidT_get e n
    have dicts : ∀ {c : Addr} {o : Obj} {es : Array DictEntry} {ep : Nat}, st.heap.get? c = some o → o.data = .dict es ep → H c = none := by
      intro c o es ep e d
      by_cases q : H c = none
      · exact q
      · have ec := one c q
        subst ec
        rw [obj] at e
        cases e
        exact Data.noConfusion d
    have names : ∀ {c : Addr} {m : Str → Option Value}, st.heap.Ns c m → (hidT st.heap H).Ns c m := by
      rintro c m ⟨o, es, ep, e, d, r⟩
      exact ⟨o, es, ep, back e (dicts e d), d, r⟩
    have inb : K.In (hidT st.heap H) := by
      intro c o e
      refine back (kx c o e) ?_
      by_cases q : H c = none
      · exact q
      · have ec := one c q
        subst ec
        rw [free q] at e
        cases e
    have md : Mod K mg (hidT st.heap H) := ⟨inb, names gm, ⟨mb, names gb, bb⟩, nl.elim fun mc z => ⟨mc, names z.1, z.2⟩⟩
    have ee : Env0 P w K mg (hidT st.heap H) callerA [] st H := ⟨rfl, md, fun _ _ e => of_hidT e, Nat.le_of_eq (hidT_size _ _), trivial, (fun c hc => nomatch hc), hok, .of_eq ng⟩
    refine codeAny_mono ((F _ inb (names gm)).go st H ⟨[.ref a], []⟩ [.ref a] [.ref a] _ ee (bind st (.ref a)) (.cons rfl .nil) (told H only sq)) (fun r s' h => ?_)
    match r, h with
    | .error e, h => exact False.elim h
    | .ok .next, h => exact False.elim h
    | .ok .brk, h => exact False.elim h
    | .ok .cont, h => exact False.elim h
    | .ok (.ret u), h =>
      obtain ⟨v, H', eo, bare, un, ok2, rv, ev⟩ := h
      have ev' : v = .bl true := ev
      subst ev'
      obtain rfl : u = Value.bool true := rv
      refine ⟨rfl, OldK.of_keep (fun c o e => ?_), eo, bare⟩
      rcases only c with z | ⟨oc, xs, z⟩
      · exact un.keep c o e z (fun q => nomatch q) (fun q => nomatch q)
      · have e1 := (hok c _ z).1
        have e2 := (ok2 c _ (un.frzs c oc _ z)).1
        rw [e] at e1
        cases e1
        exact e2
  by_cases hk : K.lookup a = none
  · refine main (fun c => if c = a then some (.frz { cls := .type "list", data := .seq us.toArray } (.lst (ns.map V.int))) else none) (fun c => ?_) (.inl (.inr ⟨_, if_pos rfl⟩)) (fun c u z => ?_) (fun c z => ?_) (fun _ => hk)
    · by_cases h : c = a
      · exact .inr ⟨_, _, if_pos h⟩
      · exact .inl (if_neg h)
    · by_cases h : c = a
      · subst h
        dsimp only at z
        rw [if_pos rfl] at z
        cases z
        exact ⟨obj, by rw [List.length_map]; exact few, us, _, rel, obj⟩
      · dsimp only at z
        rw [if_neg h] at z
        cases z
    · by_cases h : c = a
      · exact h
      · rw [if_neg h] at z
        exact absurd rfl z
  · obtain ⟨o, ho⟩ := Option.ne_none_iff_exists'.mp hk
    have e := kx a o ho
    rw [obj] at e
    cases e
    exact main (fun _ => none) (fun _ => .inl rfl) (.inr ⟨_, us.toArray, _, ho, rfl, rfl, rfl, by rw [List.size_toArray, size]; exact few, by simpa using rel⟩) (fun _ _ z => nomatch z) (fun _ z => absurd rfl z) (fun z => absurd rfl z)
end
theorem walk_ofC {l : PySem.W.OpenLaw} {n : Nat} {q : Program} {loose : List Str} {XP : (Str → Option Value) → Heap → Prop} {YP : World → Heap → Prop} {d : DefRec} {x : Str} (hn : l.most = some n) (hz : n ≤ sizeLine) (hdf : d.params.defaults = [])
    (F : ∀ (w : World) (mg : Str → Option Value) (fa : Addr) (h : Heap), YP w h → h.Ns mainGlobals mg → mg d.name = some (.ref fa) →
      ∃ (K : PySem.W.Frag) (fd : FuncData) (sp : Sp), K.In h ∧ (∀ (s : Shared) (u : Value), BindsTo s fd ⟨[u], []⟩ [(x, u)]) ∧
        (∀ (H : Hp) (a : Addr) (ns : List Int), ns.length ≤ n → Only H → SqL K H a (ns.map V.int) → sp [.ref a] H (fun v _ => v = .bl true) fun _ _ _ => False) ∧ ∀ base : Heap, K.In base → base.Ns mainGlobals mg → FnC l.prog w K mg base fa fd [x] sp) :
    PySem.W.WalkO q loose XP YP l.row.toRowW d [] (fun f vs => PySem.call f vs) := by
  refine Att.attach_call hn hdf (fun w _ st mg mb fa o pm cd doc a us ns G Y _ _ _ hm obj iri hl hg => ?_)
  obtain ⟨K, fd, sp, kx, hb, hs, hF⟩ := F w mg fa _ Y G.T.g hm
  exact call_ofC kx G.T.g G.T.b G.T.builtins G.T.nolimit hg obj iri (Nat.le_trans hl hz) hF hb (fun H ho hq => hs H a ns hl ho hq)
/-! ### repr -/
def rRep (K : PySem.W.Frag) : List V → Hp → VK → Prop := fun xs H Q => ∃ (a : Addr) (d : PyData), xs = [.ref a] ∧ Dp K H (.ref a) d ∧ d.showable = true ∧ d.hasDict = false ∧ d.depth ≤ 8 ∧ d.shown.length ≤ sizeLine ∧ Q (.str d.shown) H
theorem call_repr {X : Cx} (hg : X.A.guards = some []) (hu : X.A.units + 64 < cLine) : CallR X (.builtin "repr") (rRep X.K) := by
  intro pins s σ H xs us Q I r h
  obtain ⟨a, d, rfl, hd, hs, hn, hp, hz, q⟩ := h
  obtain ⟨u, rfl, ru⟩ := r.one
  obtain rfl : u = Value.ref a := ru
  obtain ⟨as, rd⟩ := Dp.reads I d _ _ hd rfl
  exact PySem.repr_of_reads' rd hs (fun z => by rw [hn] at z; cases z) hg (by omega) (fun _ _ e => e) (fun h' u tk kk => ⟨.str d.shown, H, I.kept kk, ⟨u, rfl⟩, q⟩) hz
end TKR
set_option maxHeartbeats 1000000
/-! for i, x in enumerate(xs) with an invariant. -/
namespace TK
open PySem PySem.Spec PyProof.Rows L2 SX
theorem for_enum {K : PySem.W.Frag} {a : Addr} {xs : List V} {g : TG} {tb : TS} {D : Ends} {σ : L2.St} {H : Hp} (Pv : Nat → L2.St → Hp → Prop) (h0 : Pv 0 σ H) (hl : ∀ i σ H, i ≤ xs.length → Pv i σ H → SqL K H a xs)
    (hs : ∀ i x T σ H, xs[i]? = some x → Pv i σ H → H T = none → g (.ref T) σ (upd H T (.tup [.int (i : Nat), x])) fun σ2 H2 => tb { D with nx := Pv (i + 1), ct := Pv (i + 1), bk := D.nx } σ2 H2) (hd : ∀ σ H, Pv xs.length σ H → D.nx σ H) :
    ∃ W : Nat → Nat → L2.St → Hp → Prop, (∃ m, W 0 m σ H) ∧ ∀ i m σ H, W i m σ H →
      ((Ite K a).stop i H ∧ D.nx σ H) ∨ ((Ite K a).go i H ∧ ∃ N : L2.St → Hp → Prop, (∀ σ' H', N σ' H' → ∃ m', m' < m ∧ W (i + 1) m' σ' H') ∧ ∀ x H', (Ite K a).yld i H x H' → g x σ H' fun σ2 H2 => tb { D with nx := N, ct := N, bk := D.nx } σ2 H2) := by
  refine ⟨fun i m σ H => m + i = xs.length ∧ Pv i σ H, ⟨xs.length, rfl, h0⟩, fun i m σ H q => ?_⟩
  obtain ⟨e, p⟩ := q
  have sq := hl i σ H (by omega) p
  by_cases lt : i < xs.length
  · refine .inr ⟨⟨xs, xs[i], sq, List.getElem?_eq_getElem lt⟩, Pv (i + 1), fun σ' H' z => ⟨m - 1, by omega, by omega, z⟩, fun x H' y => ?_⟩
    obtain ⟨T, v, rfl, hT, rfl, hx⟩ := y
    exact hs i v T σ H (hx xs sq) p hT
  · obtain rfl : i = xs.length := by omega
    exact .inl ⟨⟨xs, sq, Nat.le_refl _⟩, hd σ H p⟩
end TK
namespace TKE
open PySem PySem.Spec PyProof.Rows L2
def rTupOf (K : PySem.W.Frag) : List V → Hp → VK → Prop := fun xs H Q => ∃ p ys, xs = [.ref p] ∧ ((SqL K H p ys ∧ ∀ l, H l = none → Q (.ref l) (upd H l (.tup ys))) ∨ (SqT K H p ys ∧ Q (.ref p) H))
theorem tupOfK {X : Cx} (K : PySem.W.Frag) (e : X.K = K) : CallR X (.type "tuple") (rTupOf K) := by
  subst e
  exact call_tuple_of
end TKE
set_option maxHeartbeats 1000000
namespace K15
open PySem PySem.Spec PyProof.Rows L2 SX TK
open C8 (pe_c)
def top (i : Nat) : Stmt := PySem.Challenge.pw_trunkland_k15_call_model.main.body.getD i (.Pass ⟨0, 0, 0, 0⟩)
abbrev s_Told___init : Stmt := inClass (top 1) 0
abbrev s_Told_parts : Stmt := inClass (top 1) 1
abbrev s_Told_allows : Stmt := inClass (top 1) 2
abbrev s_Told_take : Stmt := inClass (top 1) 3
abbrev s_tell : Stmt := top 2
abbrev s_stands : Stmt := top 3
abbrev s_take : Stmt := top 4
abbrev s_law_state : Stmt := top 6
abbrev s_law_draw : Stmt := top 7
abbrev s_law_pick : Stmt := top 8
abbrev s_law_event : Stmt := top 9
abbrev s_law_stands : Stmt := top 10
abbrev s_law_apply : Stmt := top 11
abbrev s_law : Stmt := top 12
theorem sc_Told___init : FnScope ["self", "begun", "number", "caller", "callee"] ["self", "begun", "number", "caller", "callee"] (defScope s_Told___init) := ⟨rfl, rfl, rfl, by decide +kernel, rfl, by decide +kernel, by decide +kernel⟩
theorem sc_Told_parts : FnScope ["self"] ["self"] (defScope s_Told_parts) := ⟨rfl, rfl, rfl, by decide +kernel, rfl, by decide +kernel, by decide +kernel⟩
theorem sc_Told_allows : FnScope ["self", "event", "name"] ["self", "event"] (defScope s_Told_allows) := ⟨rfl, rfl, rfl, by decide +kernel, rfl, by decide +kernel, by decide +kernel⟩
theorem sc_Told_take : FnScope ["self", "event", "name", "now"] ["self", "event"] (defScope s_Told_take) := ⟨rfl, rfl, rfl, by decide +kernel, rfl, by decide +kernel, by decide +kernel⟩
theorem sc_tell : FnScope ["events", "calls", "wrong", "latest", "index", "event", "call"] ["events"] (defScope s_tell) := ⟨rfl, rfl, rfl, by decide +kernel, rfl, by decide +kernel, by decide +kernel⟩
theorem sc_stands : FnScope ["calls", "event", "number"] ["calls", "event"] (defScope s_stands) := ⟨rfl, rfl, rfl, by decide +kernel, rfl, by decide +kernel, by decide +kernel⟩
theorem sc_take : FnScope ["calls", "event", "_", "now", "number", "caller", "callee"] ["calls", "event"] (defScope s_take) := ⟨rfl, rfl, rfl, by decide +kernel, rfl, by decide +kernel, by decide +kernel⟩
theorem sc_law_state : FnScope ["script", "seed", "cell"] ["script"] (defScope s_law_state) := ⟨rfl, rfl, rfl, by decide +kernel, rfl, by decide +kernel, by decide +kernel⟩
theorem sc_law_draw : FnScope ["state", "many", "cells", "value", "mixed"] ["state", "many"] (defScope s_law_draw) := ⟨rfl, rfl, rfl, by decide +kernel, rfl, by decide +kernel, by decide +kernel⟩
theorem sc_law_pick : FnScope ["state", "row"] ["state", "row"] (defScope s_law_pick) := ⟨rfl, rfl, rfl, by decide +kernel, rfl, by decide +kernel, by decide +kernel⟩
theorem sc_law_event : FnScope ["state", "now", "numbers", "number", "kind", "next_one", "side"] ["state", "now", "numbers"] (defScope s_law_event) := ⟨rfl, rfl, rfl, by decide +kernel, rfl, by decide +kernel, by decide +kernel⟩
theorem sc_law_stands : FnScope ["event", "calls", "now", "call"] ["event", "calls", "now"] (defScope s_law_stands) := ⟨rfl, rfl, rfl, by decide +kernel, rfl, by decide +kernel, by decide +kernel⟩
theorem sc_law_apply : FnScope ["event", "calls", "now", "call"] ["event", "calls", "now"] (defScope s_law_apply) := ⟨rfl, rfl, rfl, by decide +kernel, rfl, by decide +kernel, by decide +kernel⟩
theorem sc_law : FnScope ["script", "state", "events", "calls", "wrong", "now", "tick", "k", "event", "before", "told", "call"] ["script"] (defScope s_law) := ⟨rfl, rfl, rfl, by decide +kernel, rfl, by decide +kernel, by decide +kernel⟩
structure Tx (K : PySem.W.Frag) (mg : Str → Option Value) : Prop where
  f_abs : mg "abs" = none
  f_enumerate : mg "enumerate" = none
  f_int : mg "int" = none
  f_isinstance : mg "isinstance" = none
  f_len : mg "len" = none
  f_max : mg "max" = none
  f_range : mg "range" = none
  f_repr : mg "repr" = none
  f_tuple : mg "tuple" = none
  cl_Told : Cls K (He.ga K "Told")
  na_Told_number : NoAttr K (He.ga K "Told") "number"
  na_Told_caller : NoAttr K (He.ga K "Told") "caller"
  na_Told_callee : NoAttr K (He.ga K "Told") "callee"
  na_Told_begun : NoAttr K (He.ga K "Told") "begun"
  na_Told_rang : NoAttr K (He.ga K "Told") "rang"
  na_Told_answered : NoAttr K (He.ga K "Told") "answered"
  na_Told_ended : NoAttr K (He.ga K "Told") "ended"
  na_Told_why : NoAttr K (He.ga K "Told") "why"
  na_Told_modes : NoAttr K (He.ga K "Told") "modes"
  na_Told_moves : NoAttr K (He.ga K "Told") "moves"
/-! ### the law's source of draws -/
def spState (K : PySem.W.Frag) : Sp := fun vs H Q _ => ∃ (a : Addr) (ns : List Int), vs = [.ref a] ∧ SqL K H a (ns.map V.int) ∧ ns.length ≤ 63 ∧ ∀ s c H', Same H H' → H s = none → H c = none → StAt H' s c → Q (.ref s) H'
theorem ok_law_state {P : Program} {w : World} {K : PySem.W.Frag} {mg : Str → Option Value} {base : Heap} {f : Addr} {fd : FuncData} (T : Tx K mg) 
    (F : FunD K "_law_state" "_law_state" (defArgs s_law_state) (defBody s_law_state) (defScope s_law_state) [] [] f fd) : FnOk P w K mg base CX0 1 f fd ["script"] (spState K) := by
  refine F.ok sc_law_state (fun vs H Q E h => ?_) (fun cdv A outer s H vs Q E hr h => ?_)
  · obtain ⟨a, ns, rfl, _⟩ := h
    rfl
  · obtain ⟨a, ns, rfl, hS, hn, k⟩ := h
    refine ⟨_, PSs.nox (pss_cons (ps_set (i := 1) sc_law_state.nd rfl (Or.inl rfl) pe_int) (pss_cons (ps_for PassesOwn.never rfl (pi_list (pv 0)) (pg_name (i := 2) sc_law_state.nd rfl (Or.inl rfl)) (pss_one (ps_set (i := 1) sc_law_state.nd rfl (Or.inl rfl) (pe_op op_mod (pe_callTy call_int1 rfl T.f_int (by decide +kernel) (pa_cons (pe_op op_add (pe_op op_mul (pv 1) pe_int) (pv 2)) pa_nil)) pe_int)))) (pss_one (ps_ret (pe_lst (pa_cons (pe_lc (own := [("cell", 2)]) (g := gName 2) rfl sc_law_state.nd (pi_list (pv 0)) (blkOk_by (own := [("cell", 2)]) (N := ["script", "seed", "cell"]) (sc := defScope s_law_state) (by decide +kernel)) (fun _ _ _ _ _ => pg_name (i := 2) sc_law_state.nd rfl (Or.inl rfl)) (fun _ _ _ _ _ => pts_nil) (fun _ _ _ _ _ => (pe_callB call_abs rfl T.f_abs (by decide +kernel) (pa_cons (pv 2) pa_nil)))) (pa_cons (pe_op op_add (pv 1) pe_int) pa_nil))))))), ?_⟩
    refine ⟨_, rfl, a, rfl, ⟨_, hS⟩, for_list (K := K) (a := a) (xs := ns.map V.int) (fun i σ H' => H' = H ∧ ∃ (n : Int) (v : Option V), σ = [some (.ref a), some (.int n), v]) ⟨rfl, 7, none, rfl⟩ (fun i σ H' _ q => q.1 ▸ hS) ?_ ?_⟩
    · rintro i y σ H' hi ⟨rfl, n, v, rfl⟩
      obtain ⟨z, rfl⟩ : ∃ z, y = V.int z := by
        obtain ⟨z, _, e⟩ := List.mem_map.mp (List.mem_of_getElem? hi)
        exact ⟨z, e.symm⟩
      refine ⟨_, rfl, _, _, rfl, rfl, .inr ⟨by decide, by decide⟩, _, rfl, _, _, rfl, rfl, .inl ⟨_, rfl, _, _, rfl, rfl, (by show (0 : Int) < 1000003; decide), rfl, _, _, rfl⟩⟩
    · rintro σ H' ⟨rfl, n, v, rfl⟩
      refine ⟨_, rfl, a, rfl, ⟨_, hS⟩, fun D hD => ?_⟩
      have hS2 : ∀ o, SqL K (upd H' D o) a (ns.map V.int) := fun o => (same_upd hD).seq hS
      refine lc_pureN walk_list (fun i => V.int (if ns.getD i 0 < 0 then -(ns.getD i 0) else ns.getD i 0)) (by rw [List.length_map]; exact Nat.le_trans hn (by decide)) (fun _ _ => hS2 _) (fun i x H1 kk hi y q => ?_) ?_
      · obtain ⟨rfl, hx⟩ := y
        refine ⟨rfl, _, rfl, ns.getD i 0, ?_, q⟩
        rw [List.getElem?_map] at hx
        rw [List.length_map] at hi
        rw [List.getElem?_eq_getElem hi] at hx
        rw [List.getD_eq_getElem?_getD, List.getElem?_eq_getElem hi]
        exact congrArg (fun v => [v]) (Option.some.inj hx).symm
      · refine ⟨_, rfl, _, _, rfl, rfl, by show 2 ≤ sizeLine; decide, fun p hp => ?_⟩
        have npD : p ≠ D := fun e => by
          rw [e, upd_same] at hp
          cases hp
        have hp0 : H' p = none := by
          rw [upd_ne npD] at hp
          exact hp
        refine k p D _ ((same_upd hD).trans (same_upd hp)) hp0 hD ⟨npD, ⟨_, upd_same⟩, ns.map (fun i => if i < 0 then -i else i), ?_, ?_⟩
        · rw [upd_ne npD.symm, upd_same, List.length_map, List.map_map]
          exact congrArg (fun l => some (HO.lst l)) (range_map_getD ns 0 fun i => V.int (if i < 0 then -i else i))
        · rw [List.length_map]
          exact hn
def spDraw : Sp := fun vs H Q _ => ∃ (s c : Addr) (m : Int), vs = [.ref s, .int m] ∧ StAt H s c ∧ 0 < m ∧ m < 1073741824 ∧ ∀ r H', 0 ≤ r → r < m → StAt H' s c → Keep H H' s c → Q (.int r) H'
theorem ok_law_draw {P : Program} {w : World} {K : PySem.W.Frag} {mg : Str → Option Value} {base : Heap} {f : Addr} {fd : FuncData} (T : Tx K mg) 
    (F : FunD K "_law_draw" "_law_draw" (defArgs s_law_draw) (defBody s_law_draw) (defScope s_law_draw) [] [] f fd) : FnOk P w K mg base CX0 1 f fd ["state", "many"] spDraw := by
  refine F.ok sc_law_draw (fun vs H Q E h => ?_) (fun cdv A outer s0 H vs Q E hr h => ?_)
  · obtain ⟨s, c, m, rfl, _⟩ := h
    rfl
  · obtain ⟨s, c, m, rfl, ⟨ne, ⟨n, h1⟩, ns, h2, h3⟩, hm0, hm1, k⟩ := h
    refine ⟨_, PSs.nox (pss_cons (ps_set (i := 2) sc_law_draw.nd rfl (Or.inl rfl) (pe_ix ix_list (pv 0) pe_int (fun _ _ => rfl))) (C8.pss_cut (ps_while PassesOwn.never (PW.pt (pw_and (pt_cmpR op_gt (pe_callB call_len_seq rfl T.f_len PySem.boot_len (pa_cons (pv 2) pa_nil)) pe_int (nomark _)) (pw_and1 (pt_cmpR op_eq (pe_ix ix_list (pv 2) pe_int (fun _ _ => rfl)) pe_int (nomark _))))) (pss_one (ps_expr (pe_bm PySem.F.plainAttrs_list PySem.F.slot_list_pop PySem.F.type_list_pop mt_popAt (pv 2) (pa_cons pe_int pa_nil))))) (C8.pss_cut (ps_if (pt_cmpR op_gt (pe_callB call_len_seq rfl T.f_len PySem.boot_len (pa_cons (pv 2) pa_nil)) pe_int (nomark _)) (pss_cons (ps_set (i := 3) sc_law_draw.nd rfl (Or.inl rfl) (pe_ix ix_list (pv 2) pe_int (fun _ _ => rfl))) (pss_cons (ps_asg (pe_op op_fdiv (pv 3) (pv 1)) (pg_sub (pv 2) pe_int set_list)) (pss_one (ps_ret (pe_op op_mod (pe_callTy call_int1 rfl T.f_int (by decide +kernel) (pa_cons (pv 3) pa_nil)) (pv 1)))))) pss_nil) (pss_cons (ps_set (i := 4) sc_law_draw.nd rfl (Or.inl rfl) (pe_op op_mod (pe_callTy call_int1 rfl T.f_int (by decide +kernel) (pa_cons (pe_op op_add (pe_op op_mul (pe_ix ix_list (pv 0) pe_int (fun _ _ => rfl)) pe_int) pe_int) pa_nil)) pe_int)) (pss_cons (ps_asg (pv 4) (pg_sub (pv 0) pe_int set_list)) (pss_one (ps_ret (pe_op op_mod (pe_callTy call_int1 rfl T.f_int (by decide +kernel) (pa_cons (pe_op op_fdiv (pv 4) pe_int) pa_nil)) (pv 1))))))))), ?_⟩
    refine ⟨_, rfl, s, _, 0, _, rfl, rfl, SqL.of h1, rfl, ?_⟩
    let I : L2.St → Hp → List Int → Prop := fun σ H' ns' => σ = [some (.ref s), some (.int m), some (.ref c), none, none] ∧ H' s = some (.lst [.ref c, .int n]) ∧ Keep H H' s c ∧ H' c = some (.lst (ns'.map V.int)) ∧ ns'.length ≤ 63
    refine ⟨fun σ H' => ∃ ns', I σ H' ns', ?_, ?_⟩
    · refine ⟨fun l σ H' => ∃ ns', l = ns'.length ∧ I σ H' ns', ⟨ns.length, ns, rfl, rfl, h1, Keep.refl _ _ _, h2, h3⟩, ?_⟩
      rintro l σ H' ⟨ns', rfl, rfl, g1, kp, g2, g3⟩
      refine ⟨_, rfl, c, _, rfl, .inl (SqL.of g2), _, _, rfl, rfl, _, rfl, ?_⟩
      cases ns' with
      | nil => exact iteF (iteF ⟨[], rfl, g1, kp, g2, g3⟩)
      | cons v r =>
        rw [List.length_map, decide_eq_true (by rw [List.length_cons]; omega)]
        refine iteT ?_
        refine ⟨_, rfl, c, _, 0, V.int v, rfl, rfl, SqL.of g2, atC _ _, rfl, _, rfl, ?_⟩
        refine ite2 (fun h5 => ?_) (fun h5 => ⟨v :: r, rfl, g1, kp, g2, g3⟩)
        refine ⟨fun σ' H2 => ∃ l, l < (v :: r).length ∧ ∃ ns', l = ns'.length ∧ I σ' H2 ns', fun _ _ q => q, ?_⟩
        refine ⟨_, rfl, .inl ⟨rfl, _, SqL.of g2⟩, c, _, 0, 0, V.int v, rfl, rfl, g2, by decide, by decide, sqC _ _, rfl, ?_⟩
        refine ⟨r.length, Nat.lt_succ_self _, r, rfl, rfl, ?_, fun b o e q1 q2 => ?_, upd_same, Nat.le_of_succ_le g3⟩
        · rw [upd_ne ne]
          exact g1
        · rw [upd_ne q2]
          exact kp b o e q1 q2
    · rintro σ H' ⟨ns', rfl, g1, kp, g2, g3⟩
      refine ⟨fun σ' H2 => σ' = [some (.ref s), some (.int m), some (.ref c), none, none] ∧ H2 = H', ?_, ?_⟩
      · refine ⟨_, rfl, c, _, rfl, .inl (SqL.of g2), _, _, rfl, rfl, _, rfl, ?_⟩
        cases ns' with
        | nil => exact iteF ⟨rfl, rfl⟩
        | cons v r =>
          rw [List.length_map, decide_eq_true (by rw [List.length_cons]; omega)]
          refine iteT ?_
          refine ⟨_, rfl, c, _, 0, V.int v, rfl, rfl, SqL.of g2, atC _ _, ?_⟩
          refine ⟨_, rfl, _, rfl, _, _, rfl, rfl, ⟨hm0, hm1⟩, _, rfl, c, _, 0, 0, rfl, rfl, g2, ixC _ _, ?_⟩
          refine ⟨_, rfl, .inl ⟨_, rfl, _, rfl, _, _, rfl, rfl, hm0, ?_⟩⟩
          refine k _ _ (Int.emod_nonneg _ (by omega)) (Int.emod_lt_of_pos _ hm0) ⟨ne, ⟨n, ?_⟩, (v / m) :: r, upd_same, g3⟩ (fun b o e q1 q2 => ?_)
          · rw [upd_ne ne]
            exact g1
          · rw [upd_ne q2]
            exact kp b o e q1 q2
      · rintro σ' H2 ⟨rfl, rfl⟩
        refine ⟨_, rfl, s, _, 1, _, rfl, rfl, SqL.of g1, rfl, _, _, rfl, rfl, .inr ⟨by decide, by decide⟩, _, _, rfl, rfl, .inl ⟨_, rfl, _, _, rfl, rfl, (by show (0 : Int) < 2147483647; decide), ?_⟩⟩
        refine ⟨_, rfl, _, rfl, s, _, 1, 1, rfl, rfl, g1, rfl, ?_⟩
        refine ⟨_, rfl, _, _, rfl, rfl, ⟨by decide, by decide⟩, .inl ⟨_, rfl, _, rfl, _, _, rfl, rfl, hm0, ?_⟩⟩
        refine k _ _ (Int.emod_nonneg _ (by omega)) (Int.emod_lt_of_pos _ hm0) ⟨ne, ⟨_, upd_same⟩, ns', ?_, g3⟩ (fun b o e q1 q2 => ?_)
        · rw [upd_ne ne.symm]
          exact g2
        · rw [upd_ne q1]
          exact kp b o e q1 q2
/-- of a text: one of its signs; of a list: one of its items -/
def spPick : Sp := fun vs H Q _ => ∃ (s c : Addr) (x : V), vs = [.ref s, x] ∧ StAt H s c ∧
  ((∃ z : Str, x = .str z ∧ 0 < z.length ∧ z.length ≤ 1000 ∧ ∀ ch H', ch ∈ TL.tl z → StAt H' s c → Keep H H' s c → Q (.str (S [ch])) H') ∨
   (∃ a xs, x = .ref a ∧ H a = some (.lst xs) ∧ a ≠ s ∧ a ≠ c ∧ 0 < xs.length ∧ xs.length ≤ 1000 ∧ ∀ v ∈ xs, ∀ H', StAt H' s c → Keep H H' s c → Q v H'))
theorem ok_law_pick {P : Program} {w : World} {K : PySem.W.Frag} {mg : Str → Option Value} {base : Heap} {f : Addr} {fd : FuncData} (T : Tx K mg) (c_law_draw : C8.Cal P w K mg base 1 "_law_draw" spDraw [])
    (F : FunD K "_law_pick" "_law_pick" (defArgs s_law_pick) (defBody s_law_pick) (defScope s_law_pick) [] [] f fd) : FnOk P w K mg base CX0 2 f fd ["state", "row"] spPick := by
  refine F.ok sc_law_pick (fun vs H Q E h => ?_) (fun cdv A outer s0 H vs Q E hr h => ?_)
  · obtain ⟨s, c, x, rfl, _⟩ := h
    rfl
  · obtain ⟨s, c, x, rfl, hst, h⟩ := h
    refine ⟨_, PSs.nox (pss_one (ps_ret (pe_ix ix_seq (pv 1) (pe_c c_law_draw hr (by decide) rfl (pa_cons (pv 0) (pa_cons (pe_callB call_len rfl T.f_len PySem.boot_len (pa_cons (pv 1) pa_nil)) pa_nil))) (fun _ _ => rfl)))), ?_⟩
    rcases h with ⟨z, rfl, z0, z1, k⟩ | ⟨a, xs, rfl, ha, as, ac, x0, x1, k⟩
    · have hz2 : z.length ≤ sizeLine := Nat.le_trans z1 (by decide)
      refine ⟨_, rfl, _, rfl, _, rfl, _, z.length, rfl, ⟨hz2, rfl⟩, s, c, _, rfl, hst, by omega, by omega, fun r H' r0 r1 st' kp' => ?_⟩
      have hl : r < ((TL.tl z).length : Nat) := by rw [← len_eq]; exact r1
      refine .inr (.inr ⟨z, r, _, rfl, rfl, hz2, atN 0 r0 hl, ?_⟩)
      refine k _ H' ?_ st' kp'
      have hl2 : r.toNat < (TL.tl z).length := by omega
      rw [List.getD_eq_getElem?_getD, List.getElem?_eq_getElem hl2]
      exact List.getElem_mem _
    · have hx2 : xs.length ≤ sizeLine := Nat.le_trans x1 (by decide)
      refine ⟨_, rfl, _, rfl, _, rfl, _, xs.length, rfl, .inl ⟨xs, SqL.of ha, rfl⟩, s, c, _, rfl, hst, by omega, by omega, fun r H' r0 r1 st' kp' => ?_⟩
      refine .inl ⟨a, xs, r, _, rfl, rfl, SqL.of (kp' a _ ha as ac), atN .non r0 r1, ?_⟩
      refine k _ ?_ H' st' kp'
      rw [List.getD_eq_getElem?_getD, List.getElem?_eq_getElem (by omega)]
      exact List.getElem_mem _

end K15
set_option maxHeartbeats 1000000
set_option pp.maxSteps 500
namespace K15
open PySem PySem.Spec PyProof.Rows L2 SX TK
open C8 (pe_c)
inductive Ev where
  | bgn (now n : Int) (who : Str)
  | ring (now n : Int)
  | ans (now n : Int) (p : Str)
  | turn (now n side : Int) (m : Str)
  | move (now n side : Int)
  | moved (now n side : Int)
  | fin (now n : Int) (why : Str)
def Ev.nm : Ev → Str
  | .bgn .. => "begin"
  | .ring .. => "ring"
  | .ans .. => "answer"
  | .turn .. => "turn"
  | .move .. => "move"
  | .moved .. => "moved"
  | .fin .. => "end"
def Ev.now : Ev → Int
  | .bgn t .. => t
  | .ring t .. => t
  | .ans t .. => t
  | .turn t .. => t
  | .move t .. => t
  | .moved t .. => t
  | .fin t .. => t
def Ev.n : Ev → Int
  | .bgn _ n _ => n
  | .ring _ n => n
  | .ans _ n _ => n
  | .turn _ n .. => n
  | .move _ n _ => n
  | .moved _ n _ => n
  | .fin _ n _ => n
def Ev.r : Ev → List V
  | .bgn _ _ w => [.str "ann@x", .str w]
  | .ring .. => []
  | .ans _ _ p => [.str p]
  | .turn _ _ s m => [.int s, .str m]
  | .move _ _ s => [.int s, .str "joe@x"]
  | .moved _ _ s => [.int s]
  | .fin _ _ w => [.str w]
def Ev.v (e : Ev) : List V := .str e.nm :: .int e.now :: .int e.n :: e.r
structure Cl where
  n : Int
  who : Str
  begun : Int
  rang : Option Int
  ans : Option Int
  ended : Option Int
  why : Option Str
  m0 : Str
  m1 : Str
  mv : Int
def oI : Option Int → V
  | none => .non
  | some i => .int i
def oS : Option Str → V
  | none => .non
  | some z => .str z
def Cl.v (c : Cl) : List V := [.int c.n, .str "ann@x", .str c.who, .int c.begun, oI c.rang, oI c.ans, oI c.ended, oS c.why, .str c.m0, .str c.m1, .int c.mv]
def mkC (now n : Int) (who : Str) : Cl := ⟨n, who, now, none, none, none, none, "both", "both", 0⟩
def alw2 (c : Cl) : Ev → Bool
  | .bgn .. => false
  | .ring .. => c.rang.isNone && c.ans.isNone
  | .ans .. => c.ans.isNone
  | .turn _ _ s _ => c.ans.isSome && (s == 0 || s == 1)
  | .move _ _ s => c.ans.isSome && (s == 0 || s == 1)
  | .moved _ _ s => c.ans.isSome && (s == 0 || s == 1)
  | .fin .. => true
def alw (c : Cl) (e : Ev) : Bool := if c.ended.isSome = true then false else alw2 c e
def takeC (c : Cl) : Ev → Cl
  | .bgn .. => c
  | .ring t _ => { c with rang := some t }
  | .ans t _ _ => { c with ans := some t }
  | .turn _ _ s m => if s = 0 then { c with m0 := m } else { c with m1 := m }
  | .move .. => c
  | .moved .. => { c with m0 := "both", m1 := "both", mv := c.mv + 1 }
  | .fin t _ w => { c with ended := some t, why := some w }
def tdl (c : Cl) (q : Addr) : List (Str × V) := [("number", .int c.n), ("caller", .str "ann@x"), ("callee", .str c.who), ("begun", .int c.begun), ("rang", oI c.rang), ("answered", oI c.ans), ("ended", oI c.ended), ("why", oS c.why), ("modes", .ref q), ("moves", .int c.mv)]
instance {c : Cl} {q : Addr} : SmallF (tdl c q) 10 := ⟨Nat.le_refl _⟩
def TdAt (K : PySem.W.Frag) (H : Hp) (p q : Addr) (c : Cl) : Prop := (∃ dx, H p = some (.ins (He.ga K "Told") dx (tdl c q))) ∧ H q = some (.lst [.str c.m0, .str c.m1])
theorem TdAt.same {K : PySem.W.Frag} {H H' : Hp} {p q : Addr} {c : Cl} (h : TdAt K H p q c) (s : Same H H') : TdAt K H' p q c := ⟨h.1.elim fun dx e => ⟨dx, s _ _ e⟩, s _ _ h.2⟩
def spTInit (K : PySem.W.Frag) : Sp := fun vs H Q _ => ∃ (p dx : Addr) (now n : Int) (who : Str), vs = [.ref p, .int now, .int n, .str "ann@x", .str who] ∧ H p = some (.ins (He.ga K "Told") dx []) ∧ ∀ q H', H q = none → TdAt K H' p q (mkC now n who) → (∀ b o, H b = some o → b ≠ p → H' b = some o) → Q .non H'
theorem ok_Told___init {P : Program} {w : World} {K : PySem.W.Frag} {mg : Str → Option Value} {base : Heap} {f : Addr} {fd : FuncData} (T : Tx K mg) 
    (F : FunD K "__init__" "Told.__init__" (defArgs s_Told___init) (defBody s_Told___init) (defScope s_Told___init) [] [] f fd) : FnOk P w K mg base CX0 1 f fd ["self", "begun", "number", "caller", "callee"] (spTInit K) := by
  refine F.ok sc_Told___init (fun vs H Q E h => ?_) (fun cdv A outer s0 H vs Q E hr h => ?_)
  · obtain ⟨p, dx, now, n, who, rfl, _⟩ := h
    rfl
  · obtain ⟨p, dx, now, n, who, rfl, hp, k⟩ := h
    refine ⟨_, PSs.nox (pss_cons (ps_fldC rfl T.cl_Told T.na_Told_number (pv 0) (pv 2) rfl) (pss_cons (ps_fldC rfl T.cl_Told T.na_Told_caller (pv 0) (pv 3) rfl) (pss_cons (ps_fldC rfl T.cl_Told T.na_Told_callee (pv 0) (pv 4) rfl) (pss_cons (ps_fldC rfl T.cl_Told T.na_Told_begun (pv 0) (pv 1) rfl) (pss_cons (ps_fldC rfl T.cl_Told T.na_Told_rang (pv 0) pe_non rfl) (pss_cons (ps_fldC rfl T.cl_Told T.na_Told_answered (pv 0) pe_non rfl) (pss_cons (ps_fldC rfl T.cl_Told T.na_Told_ended (pv 0) pe_non rfl) (pss_cons (ps_fldC rfl T.cl_Told T.na_Told_why (pv 0) pe_non rfl) (pss_cons (ps_fldC rfl T.cl_Told T.na_Told_modes (pv 0) (pe_lst (pa_cons pe_str (pa_cons pe_str pa_nil))) rfl) (pss_one (ps_fldC rfl T.cl_Told T.na_Told_moves (pv 0) pe_int rfl))))))))))), ?_⟩
    refine ⟨_, rfl, _, rfl, p, dx, _, rfl, hp, sm, ?_⟩
    refine ⟨_, rfl, _, rfl, p, dx, _, rfl, upd_same, sm, ?_⟩
    rw [upd_upd]
    refine ⟨_, rfl, _, rfl, p, dx, _, rfl, upd_same, sm, ?_⟩
    rw [upd_upd]
    refine ⟨_, rfl, _, rfl, p, dx, _, rfl, upd_same, sm, ?_⟩
    rw [upd_upd]
    refine ⟨_, rfl, p, dx, _, rfl, upd_same, sm, ?_⟩
    rw [upd_upd]
    refine ⟨_, rfl, p, dx, _, rfl, upd_same, sm, ?_⟩
    rw [upd_upd]
    refine ⟨_, rfl, p, dx, _, rfl, upd_same, sm, ?_⟩
    rw [upd_upd]
    refine ⟨_, rfl, p, dx, _, rfl, upd_same, sm, ?_⟩
    rw [upd_upd]
    refine ⟨by show 2 ≤ sizeLine; decide, fun q hq => ?_⟩
    have pq : q ≠ p := fun z => by rw [z, upd_same] at hq; cases hq
    have hq0 : H q = none := by rw [upd_ne pq] at hq; exact hq
    refine ⟨_, rfl, p, dx, _, rfl, (upd_ne pq.symm).trans upd_same, sm, ?_⟩
    refine ⟨_, rfl, p, dx, _, rfl, upd_same, sm, ?_⟩
    rw [upd_upd]
    refine k q _ hq0 ⟨⟨dx, upd_same⟩, (upd_ne pq).trans upd_same⟩ fun b o e hb => ?_
    exact (upd_ne hb).trans ((upd_ne (ne_of_none e hq0)).trans ((upd_ne hb).trans e))
def spParts (K : PySem.W.Frag) : Sp := fun vs H Q _ => ∃ (p q : Addr) (c : Cl), vs = [.ref p] ∧ TdAt K H p q c ∧ ∀ t, H t = none → Q (.ref t) (upd H t (.tup c.v))
theorem ok_Told_parts {P : Program} {w : World} {K : PySem.W.Frag} {mg : Str → Option Value} {base : Heap} {f : Addr} {fd : FuncData} (T : Tx K mg) 
    (F : FunD K "parts" "Told.parts" (defArgs s_Told_parts) (defBody s_Told_parts) (defScope s_Told_parts) [] [] f fd) : FnOk P w K mg base CX0 1 f fd ["self"] (spParts K) := by
  refine F.ok sc_Told_parts (fun vs H Q E h => ?_) (fun cdv A outer s0 H vs Q E hr h => ?_)
  · obtain ⟨p, q, c, rfl, _⟩ := h
    rfl
  · obtain ⟨p, q, c, rfl, ⟨⟨dx, hp⟩, hq⟩, k⟩ := h
    refine ⟨_, PSs.nox (pss_one (ps_ret (pe_tup (pa_cons (pe_fldC rfl T.cl_Told T.na_Told_number (pv 0) rfl) (pa_cons (pe_fldC rfl T.cl_Told T.na_Told_caller (pv 0) rfl) (pa_cons (pe_fldC rfl T.cl_Told T.na_Told_callee (pv 0) rfl) (pa_cons (pe_fldC rfl T.cl_Told T.na_Told_begun (pv 0) rfl) (pa_cons (pe_fldC rfl T.cl_Told T.na_Told_rang (pv 0) rfl) (pa_cons (pe_fldC rfl T.cl_Told T.na_Told_answered (pv 0) rfl) (pa_cons (pe_fldC rfl T.cl_Told T.na_Told_ended (pv 0) rfl) (pa_cons (pe_fldC rfl T.cl_Told T.na_Told_why (pv 0) rfl) (pa_cons (pe_ix ix_list (pe_fldC rfl T.cl_Told T.na_Told_modes (pv 0) rfl) pe_int (fun _ _ => rfl)) (pa_cons (pe_ix ix_list (pe_fldC rfl T.cl_Told T.na_Told_modes (pv 0) rfl) pe_int (fun _ _ => rfl)) (pa_cons (pe_fldC rfl T.cl_Told T.na_Told_moves (pv 0) rfl) pa_nil)))))))))))))), ?_⟩
    refine ⟨_, rfl, p, dx, _, _, rfl, hp, rfl, _, rfl, p, dx, _, _, rfl, hp, rfl, _, rfl, p, dx, _, _, rfl, hp, rfl, _, rfl, p, dx, _, _, rfl, hp, rfl, _, rfl, p, dx, _, _, rfl, hp, rfl, _, rfl, p, dx, _, _, rfl, hp, rfl, ?_⟩
    refine ⟨_, rfl, p, dx, _, _, rfl, hp, rfl, _, rfl, p, dx, _, _, rfl, hp, rfl, _, rfl, p, dx, _, _, rfl, hp, rfl, q, _, 0, _, rfl, rfl, SqL.of hq, rfl, _, rfl, p, dx, _, _, rfl, hp, rfl, q, _, 1, _, rfl, rfl, SqL.of hq, rfl, _, rfl, p, dx, _, _, rfl, hp, rfl, ?_⟩
    exact ⟨by show 11 ≤ sizeLine; decide, fun t ht => k t ht⟩
end K15
set_option maxHeartbeats 1000000
set_option pp.maxSteps 500
namespace K15
open PySem PySem.Spec PyProof.Rows L2 SX TK
open C8 (pe_c)
theorem str_ne {a b : Str} (h : a ≠ b) : decide (V.str a = V.str b) = false := decide_eq_false fun z => h (by injection z)
theorem str_eq {a b : Str} (h : a = b) : decide (V.str a = V.str b) = true := decide_eq_true (by rw [h])
theorem nm_ring {e : Ev} (h : e.nm = "ring") : ∃ t n, e = .ring t n := by
  cases e <;> first | exact ⟨_, _, rfl⟩ | exact absurd h (by dsimp only [Ev.nm]; decide +kernel)
theorem nm_ans {e : Ev} (h : e.nm = "answer") : ∃ t n p, e = .ans t n p := by
  cases e <;> first | exact ⟨_, _, _, rfl⟩ | exact absurd h (by dsimp only [Ev.nm]; decide +kernel)
theorem nm_fin {e : Ev} (h : e.nm = "end") : ∃ t n w, e = .fin t n w := by
  cases e <;> first | exact ⟨_, _, _, rfl⟩ | exact absurd h (by dsimp only [Ev.nm]; decide +kernel)
theorem nm_bgn {e : Ev} (h : e.nm = "begin") : ∃ t n w, e = .bgn t n w := by
  cases e <;> first | exact ⟨_, _, _, rfl⟩ | exact absurd h (by dsimp only [Ev.nm]; decide +kernel)
abbrev tn : List V := [.str "turn", .str "move", .str "moved"]
theorem in_tn (e : Ev) : inV (.str e.nm) tn = (match e with | .turn .. => true | .move .. => true | .moved .. => true | _ => false) := by
  cases e <;> (dsimp only [Ev.nm]; decide +kernel)
theorem in_01 (s : Int) : inV (.int s) [.int 0, .int 1] = (s == 0 || s == 1) := by
  show ((0 : Int) == s || ((1 : Int) == s || false)) = _
  rw [Bool.or_false, Bool.eq_iff_iff]
  simp only [Bool.or_eq_true, beq_iff_eq]
  omega
theorem dn_I (o : Option Int) : decide (oI o = V.non) = o.isNone := by
  cases o with
  | none => exact decide_eq_true rfl
  | some i => exact decide_eq_false (fun z => by cases z)
theorem at_0 (e : Ev) : atI e.v 0 = some (.str e.nm) := by cases e <;> rfl
theorem at_1 (e : Ev) : atI e.v 1 = some (.int e.now) := by cases e <;> rfl
theorem at_2 (e : Ev) : atI e.v 2 = some (.int e.n) := by cases e <;> rfl
def spAllows (K : PySem.W.Frag) : Sp := fun vs H Q _ => ∃ (p q t : Addr) (c : Cl) (e : Ev), vs = [.ref p, .ref t] ∧ TdAt K H p q c ∧ H t = some (.tup e.v) ∧ ∀ H', Same H H' → Q (.bl (alw c e)) H'
theorem ok_Told_allows {P : Program} {w : World} {K : PySem.W.Frag} {mg : Str → Option Value} {base : Heap} {f : Addr} {fd : FuncData} (T : Tx K mg) 
    (F : FunD K "allows" "Told.allows" (defArgs s_Told_allows) (defBody s_Told_allows) (defScope s_Told_allows) [] [] f fd) : FnOk P w K mg base CX0 1 f fd ["self", "event"] (spAllows K) := by
  refine F.ok sc_Told_allows (fun vs H Q E h => ?_) (fun cdv A outer s0 H vs Q E hr h => ?_)
  · obtain ⟨p, q, t, c, e, rfl, _⟩ := h
    rfl
  · obtain ⟨p, q, t, c, e, rfl, ⟨⟨dx, hp⟩, hq⟩, ht, k⟩ := h
    refine ⟨_, PSs.nox (pss_cons (ps_set (i := 2) sc_Told_allows.nd rfl (Or.inl rfl) (pe_ix ix_tup (pv 1) pe_int (fun _ _ => rfl))) (C8.pss_cut (ps_if (pt_cmpR op_notN (pe_fldC rfl T.cl_Told T.na_Told_ended (pv 0) rfl) pe_non (nomark _)) (pss_one (ps_ret pe_bl)) pss_nil) (C8.pss_cut (ps_if (pt_cmpR op_eq (pv 2) pe_str (nomark _)) (pss_one (ps_ret (pe_and (pe_cmpR op_isN (pe_fldC rfl T.cl_Told T.na_Told_rang (pv 0) rfl) pe_non (nomark _)) (pe_one (pe_cmpR op_isN (pe_fldC rfl T.cl_Told T.na_Told_answered (pv 0) rfl) pe_non (nomark _)))))) pss_nil) (C8.pss_cut (ps_if (pt_cmpR op_eq (pv 2) pe_str (nomark _)) (pss_one (ps_ret (pe_cmpR op_isN (pe_fldC rfl T.cl_Told T.na_Told_answered (pv 0) rfl) pe_non (nomark _)))) pss_nil) (C8.pss_cut (ps_if (pt_cmpR op_in_seq (pv 2) (pe_tup (pa_cons pe_str (pa_cons pe_str (pa_cons pe_str pa_nil)))) (by with_unfolding_all rfl)) (pss_one (ps_ret (pe_and (pe_cmpR op_notN (pe_fldC rfl T.cl_Told T.na_Told_answered (pv 0) rfl) pe_non (nomark _)) (pe_one (pe_cmpR op_in_seq (pe_ix ix_tup (pv 1) pe_int (fun _ _ => rfl)) (pe_tup (pa_cons pe_int (pa_cons pe_int pa_nil))) (by with_unfolding_all rfl)))))) pss_nil) (pss_one (ps_ret (pe_cmpR op_eq (pv 2) pe_str (nomark _))))))))), ?_⟩
    refine ⟨_, rfl, t, _, 0, _, rfl, rfl, SqT.of ht, at_0 e, ?_⟩
    refine ⟨fun σ' H' => c.ended = none ∧ σ' = [some (.ref p), some (.ref t), some (.str e.nm)] ∧ H' = H, ?_, ?_⟩
    · refine ⟨_, rfl, p, dx, _, _, rfl, hp, rfl, ?_⟩
      have kF : c.ended.isSome = true → Q (.bl false) H := fun z => by
        have q := k H fun _ _ e => e
        unfold alw at q
        rw [if_pos z] at q
        exact q
      refine ⟨rfl, _, rfl, ?_⟩
      rw [dn_I]
      cases ce : c.ended with
      | none => exact iteF ⟨rfl, rfl, rfl⟩
      | some i => exact iteT (kF (by rw [ce]; rfl))
    · rintro σ' H' ⟨ce, rfl, rfl⟩
      have k9 : ∀ H2, Same H' H2 → ∀ b, alw c e = b → Q (.bl b) H2 := fun H2 s b z => by rw [← z]; exact k H2 s
      have e9 : alw c e = alw2 c e := by
        unfold alw
        rw [if_neg (by rw [ce]; decide)]
      refine ⟨fun σ' H2 => e.nm ≠ "ring" ∧ σ' = [some (.ref p), some (.ref t), some (.str e.nm)] ∧ H2 = H', ?_, ?_⟩
      · refine ⟨_, rfl, rfl, _, rfl, ?_⟩
        by_cases h : e.nm = "ring"
        · rw [str_eq h]
          obtain ⟨tt, n, rfl⟩ := nm_ring h
          refine iteT ⟨_, rfl, p, dx, _, _, rfl, hp, rfl, rfl, _, rfl, ?_⟩
          rw [dn_I]
          cases cr : c.rang.isNone with
          | true =>
            refine iteT ⟨_, rfl, p, dx, _, _, rfl, hp, rfl, rfl, ?_⟩
            rw [dn_I]
            exact k9 _ (fun _ _ e => e) _ (by rw [e9]; show (c.rang.isNone && c.ans.isNone) = _; rw [cr]; rfl)
          | false => exact iteF (k9 _ (fun _ _ e => e) _ (by rw [e9]; show (c.rang.isNone && c.ans.isNone) = _; rw [cr]; rfl))
        · rw [str_ne h]
          exact iteF ⟨h, rfl, rfl⟩
      · rintro σ' H2 ⟨h1, rfl, rfl⟩
        refine ⟨fun σ' H3 => e.nm ≠ "answer" ∧ σ' = [some (.ref p), some (.ref t), some (.str e.nm)] ∧ H3 = H2, ?_, ?_⟩
        · refine ⟨_, rfl, rfl, _, rfl, ?_⟩
          by_cases h : e.nm = "answer"
          · rw [str_eq h]
            obtain ⟨tt, n, pp, rfl⟩ := nm_ans h
            refine iteT ⟨_, rfl, p, dx, _, _, rfl, hp, rfl, rfl, ?_⟩
            rw [dn_I]
            exact k9 _ (fun _ _ e => e) _ e9
          · rw [str_ne h]
            exact iteF ⟨h, rfl, rfl⟩
        · rintro σ' H3 ⟨h2, rfl, rfl⟩
          refine ⟨fun σ' H4 => inV (.str e.nm) tn = false ∧ σ' = [some (.ref p), some (.ref t), some (.str e.nm)] ∧ Same H3 H4, ?_, ?_⟩
          · refine ⟨_, rfl, by show 3 ≤ sizeLine; decide, fun a ha => ⟨a, tn, rfl, .inr (SqT.of upd_same), rfl, by decide +kernel, _, rfl, ?_⟩⟩
            have sa := same_upd (o := .tup tn) ha
            show if inV (.str e.nm) tn = true then _ else _
            cases h : inV (.str e.nm) tn with
            | false => exact iteF ⟨rfl, rfl, sa⟩
            | true =>
              have hside : ∃ s : Int, atI e.v 3 = some (.int s) ∧ alw c e = (c.ans.isSome && (s == 0 || s == 1)) := by
                rw [in_tn] at h
                rw [e9]
                cases e with
                | bgn => cases h
                | ring => cases h
                | ans => cases h
                | fin => cases h
                | turn t n s m => exact ⟨s, rfl, rfl⟩
                | move t n s => exact ⟨s, rfl, rfl⟩
                | moved t n s => exact ⟨s, rfl, rfl⟩
              obtain ⟨s, hs, ea⟩ := hside
              refine iteT ⟨_, rfl, p, dx, _, _, rfl, sa _ _ hp, rfl, rfl, _, rfl, ?_⟩
              rw [dn_I]
              cases cr : c.ans with
              | none => exact iteF (k9 _ sa _ (by rw [ea, cr]; rfl))
              | some i =>
                refine iteT ⟨_, rfl, t, _, 3, _, rfl, rfl, SqT.of (sa _ _ ht), hs, by show 2 ≤ sizeLine; decide, fun b hb => ⟨b, [.int 0, .int 1], rfl, .inr (SqT.of upd_same), rfl, by decide +kernel, ?_⟩⟩
                show Q (.bl (inV (.int s) [.int 0, .int 1])) _
                rw [in_01]
                exact k9 _ (sa.trans (same_upd hb)) _ (by rw [ea, cr]; rfl)
          · rintro σ' H4 ⟨h3, rfl, s4⟩
            refine ⟨_, rfl, rfl, ?_⟩
            by_cases h : e.nm = "end"
            · rw [str_eq h]
              obtain ⟨tt, n, w1, rfl⟩ := nm_fin h
              exact k9 _ s4 _ e9
            · rw [str_ne h]
              refine k9 _ s4 _ ?_
              rw [e9]
              rw [in_tn] at h3
              cases e with
              | bgn => rfl
              | ring => exact absurd rfl h1
              | ans => exact absurd rfl h2
              | fin => exact absurd rfl h
              | turn t n s m => cases h3
              | move t n s => cases h3
              | moved t n s => cases h3
end K15
set_option maxHeartbeats 1000000
set_option pp.maxSteps 500
namespace K15
open PySem PySem.Spec PyProof.Rows L2 SX TK
open C8 (pe_c)
def spTake (K : PySem.W.Frag) : Sp := fun vs H Q _ => ∃ (p q t : Addr) (c : Cl) (e : Ev), vs = [.ref p, .ref t] ∧ TdAt K H p q c ∧ H t = some (.tup e.v) ∧ alw c e = true ∧ ∀ q' H', TdAt K H' p q' (takeC c e) → (q' = q ∨ H q' = none) → (∀ b o, H b = some o → b ≠ p → b ≠ q → H' b = some o) → Q .non H'
theorem ok_Told_take {P : Program} {w : World} {K : PySem.W.Frag} {mg : Str → Option Value} {base : Heap} {f : Addr} {fd : FuncData} (T : Tx K mg) 
    (F : FunD K "take" "Told.take" (defArgs s_Told_take) (defBody s_Told_take) (defScope s_Told_take) [] [] f fd) : FnOk P w K mg base CX0 1 f fd ["self", "event"] (spTake K) := by
  refine F.ok sc_Told_take (fun vs H Q E h => ?_) (fun cdv A outer s0 H vs Q E hr h => ?_)
  · obtain ⟨p, q, t, c, e, rfl, _⟩ := h
    rfl
  · obtain ⟨p, q, t, c, e, rfl, ⟨⟨dx, hp⟩, hq⟩, ht, ha, k⟩ := h
    refine ⟨_, PSs.nox (pss_cons (ps_par (i := 2) (j := 3) (by rfl) sc_Told_take.nd rfl rfl (by decide) rfl rfl (pa_cons (pe_ix ix_tup (pv 1) pe_int (fun _ _ => rfl)) (pa_cons (pe_ix ix_tup (pv 1) pe_int (fun _ _ => rfl)) pa_nil)) (by rfl)) (pss_one (ps_if (pt_cmpR op_eq (pv 2) pe_str (nomark _)) (pss_one (ps_fldC rfl T.cl_Told T.na_Told_rang (pv 0) (pv 3) rfl)) (pss_one (ps_if (pt_cmpR op_eq (pv 2) pe_str (nomark _)) (pss_one (ps_fldC rfl T.cl_Told T.na_Told_answered (pv 0) (pv 3) rfl)) (pss_one (ps_if (pt_cmpR op_eq (pv 2) pe_str (nomark _)) (pss_one (ps_asg (pe_ix ix_tup (pv 1) pe_int (fun _ _ => rfl)) (pg_sub (pe_fldC rfl T.cl_Told T.na_Told_modes (pv 0) rfl) (pe_ix ix_tup (pv 1) pe_int (fun _ _ => rfl)) set_list))) (pss_one (ps_if (pt_cmpR op_eq (pv 2) pe_str (nomark _)) (pss_cons (ps_fldC rfl T.cl_Told T.na_Told_modes (pv 0) (pe_lst (pa_cons pe_str (pa_cons pe_str pa_nil))) rfl) (pss_one (ps_fldaug (pv 0) pe_int in_add))) (pss_one (ps_if (pt_cmpR op_eq (pv 2) pe_str (nomark _)) (pss_cons (ps_fldC rfl T.cl_Told T.na_Told_ended (pv 0) (pv 3) rfl) (pss_one (ps_fldC rfl T.cl_Told T.na_Told_why (pv 0) (pe_ix ix_tup (pv 1) pe_int (fun _ _ => rfl)) rfl))) pss_nil))))))))))), ?_⟩
    have pq : q ≠ p := ne_of hq hp (by intro z; cases z)
    refine ⟨_, rfl, t, _, 0, _, rfl, rfl, SqT.of ht, at_0 e, _, rfl, t, _, 1, _, rfl, rfl, SqT.of ht, at_1 e, _, _, rfl, ?_⟩
    have one : ∀ c' : Cl, takeC c e = c' → c'.m0 = c.m0 → c'.m1 = c.m1 → ∀ fs, fs = tdl c' q → Q .non (upd H p (.ins (He.ga K "Told") dx fs)) := by
      rintro c' rfl h0 h1 fs rfl
      refine k q _ ⟨⟨dx, upd_same⟩, ?_⟩ (.inl rfl) fun b o eb n1 _ => (upd_ne n1).trans eb
      rw [h0, h1]
      exact (upd_ne pq).trans hq
    cases e with
    | bgn now n w =>
      exfalso
      unfold alw alw2 at ha
      split at ha <;> cases ha
    | ring now n =>
      refine ⟨_, rfl, rfl, _, rfl, ?_⟩
      rw [str_eq (a := (Ev.ring now n).nm) (b := "ring") rfl]
      exact iteT ⟨_, rfl, _, rfl, p, dx, _, rfl, hp, sm, one _ rfl rfl rfl _ rfl⟩
    | ans now n w =>
      refine ⟨_, rfl, rfl, _, rfl, ?_⟩
      rw [str_ne (a := (Ev.ans now n w).nm) (b := "ring") (by dsimp only [Ev.nm]; decide +kernel)]
      refine iteF ⟨_, rfl, rfl, _, rfl, ?_⟩
      rw [str_eq (a := (Ev.ans now n w).nm) (b := "answer") rfl]
      exact iteT ⟨_, rfl, _, rfl, p, dx, _, rfl, hp, sm, one _ rfl rfl rfl _ rfl⟩
    | turn now n s m =>
      refine ⟨_, rfl, rfl, _, rfl, ?_⟩
      rw [str_ne (a := (Ev.turn now n s m).nm) (b := "ring") (by dsimp only [Ev.nm]; decide +kernel)]
      refine iteF ⟨_, rfl, rfl, _, rfl, ?_⟩
      rw [str_ne (a := (Ev.turn now n s m).nm) (b := "answer") (by dsimp only [Ev.nm]; decide +kernel)]
      refine iteF ⟨_, rfl, rfl, _, rfl, ?_⟩
      rw [str_eq (a := (Ev.turn now n s m).nm) (b := "turn") rfl]
      have hs : s = 0 ∨ s = 1 := by
        unfold alw alw2 at ha
        split at ha
        · cases ha
        · simp only [Bool.and_eq_true, Bool.or_eq_true, beq_iff_eq] at ha
          exact ha.2
      refine iteT ⟨_, rfl, t, _, 4, .str m, rfl, rfl, SqT.of ht, rfl, _, rfl, p, dx, _, _, rfl, hp, rfl, _, rfl, t, _, 3, .int s, rfl, rfl, SqT.of ht, rfl, ?_⟩
      rcases hs with rfl | rfl
      · refine ⟨q, _, 0, 0, rfl, rfl, hq, rfl, ?_⟩
        refine k q _ ⟨⟨dx, (upd_ne pq.symm).trans hp⟩, upd_same⟩ (.inl rfl) fun b o eb _ n2 => (upd_ne n2).trans eb
      · refine ⟨q, _, 1, 1, rfl, rfl, hq, rfl, ?_⟩
        refine k q _ ⟨⟨dx, (upd_ne pq.symm).trans hp⟩, upd_same⟩ (.inl rfl) fun b o eb _ n2 => (upd_ne n2).trans eb
    | move now n s =>
      refine ⟨_, rfl, rfl, _, rfl, ?_⟩
      rw [str_ne (a := (Ev.move now n s).nm) (b := "ring") (by dsimp only [Ev.nm]; decide +kernel)]
      refine iteF ⟨_, rfl, rfl, _, rfl, ?_⟩
      rw [str_ne (a := (Ev.move now n s).nm) (b := "answer") (by dsimp only [Ev.nm]; decide +kernel)]
      refine iteF ⟨_, rfl, rfl, _, rfl, ?_⟩
      rw [str_ne (a := (Ev.move now n s).nm) (b := "turn") (by dsimp only [Ev.nm]; decide +kernel)]
      refine iteF ⟨_, rfl, rfl, _, rfl, ?_⟩
      rw [str_ne (a := (Ev.move now n s).nm) (b := "moved") (by dsimp only [Ev.nm]; decide +kernel)]
      refine iteF ⟨_, rfl, rfl, _, rfl, ?_⟩
      rw [str_ne (a := (Ev.move now n s).nm) (b := "end") (by dsimp only [Ev.nm]; decide +kernel)]
      exact iteF (k q _ ⟨⟨dx, hp⟩, hq⟩ (.inl rfl) fun b o eb _ _ => eb)
    | moved now n s =>
      refine ⟨_, rfl, rfl, _, rfl, ?_⟩
      rw [str_ne (a := (Ev.moved now n s).nm) (b := "ring") (by dsimp only [Ev.nm]; decide +kernel)]
      refine iteF ⟨_, rfl, rfl, _, rfl, ?_⟩
      rw [str_ne (a := (Ev.moved now n s).nm) (b := "answer") (by dsimp only [Ev.nm]; decide +kernel)]
      refine iteF ⟨_, rfl, rfl, _, rfl, ?_⟩
      rw [str_ne (a := (Ev.moved now n s).nm) (b := "turn") (by dsimp only [Ev.nm]; decide +kernel)]
      refine iteF ⟨_, rfl, rfl, _, rfl, ?_⟩
      rw [str_eq (a := (Ev.moved now n s).nm) (b := "moved") rfl]
      refine iteT ⟨by show 2 ≤ sizeLine; decide, fun q2 hq2 => ?_⟩
      have p2 : p ≠ q2 := ne_of_none hp hq2
      refine ⟨_, rfl, p, dx, _, rfl, (upd_ne p2).trans hp, sm, ?_⟩
      refine ⟨_, rfl, p, He.ga K "Told", dx, _, _, rfl, upd_same, T.cl_Told, T.na_Told_moves, rfl, _, _, rfl, rfl, dx, _, upd_same, sm, ?_⟩
      rw [upd_upd]
      refine k q2 _ ⟨⟨dx, upd_same⟩, (upd_ne p2.symm).trans upd_same⟩ (.inr hq2) fun b o eb n1 _ => (upd_ne n1).trans ((upd_ne (ne_of_none eb hq2)).trans eb)
    | fin now n w =>
      refine ⟨_, rfl, rfl, _, rfl, ?_⟩
      rw [str_ne (a := (Ev.fin now n w).nm) (b := "ring") (by dsimp only [Ev.nm]; decide +kernel)]
      refine iteF ⟨_, rfl, rfl, _, rfl, ?_⟩
      rw [str_ne (a := (Ev.fin now n w).nm) (b := "answer") (by dsimp only [Ev.nm]; decide +kernel)]
      refine iteF ⟨_, rfl, rfl, _, rfl, ?_⟩
      rw [str_ne (a := (Ev.fin now n w).nm) (b := "turn") (by dsimp only [Ev.nm]; decide +kernel)]
      refine iteF ⟨_, rfl, rfl, _, rfl, ?_⟩
      rw [str_ne (a := (Ev.fin now n w).nm) (b := "moved") (by dsimp only [Ev.nm]; decide +kernel)]
      refine iteF ⟨_, rfl, rfl, _, rfl, ?_⟩
      rw [str_eq (a := (Ev.fin now n w).nm) (b := "end") rfl]
      refine iteT ⟨_, rfl, _, rfl, p, dx, _, rfl, hp, sm, _, rfl, t, _, 3, .str w, rfl, rfl, SqT.of ((upd_ne (ne_of ht hp (by intro z; cases z))).trans ht), rfl, _, rfl, p, dx, _, rfl, upd_same, sm, ?_⟩
      rw [upd_upd]
      exact one _ rfl rfl rfl _ rfl
end K15
set_option maxHeartbeats 1000000
set_option pp.maxSteps 500
namespace K15
open PySem PySem.Spec PyProof.Rows L2 SX TK
open C8 (pe_c)
abbrev Tr : Type := Addr × Addr × Cl
def c0 : Cl := mkC 0 0 ""
def cls (L : List Tr) : List Cl := L.map (·.2.2)
structure CsAt (K : PySem.W.Frag) (H : Hp) (cl : Addr) (L : List Tr) : Prop where
  l : H cl = some (.lst (L.map fun x => V.ref x.1))
  td : ∀ x ∈ L, TdAt K H x.1 x.2.1 x.2.2
  n1 : (L.map (·.1)).Nodup
  n2 : (L.map (·.2.1)).Nodup
  n3 : ∀ x ∈ L, x.2.1 ≠ cl
theorem CsAt.same {K : PySem.W.Frag} {H H' : Hp} {cl : Addr} {L : List Tr} (h : CsAt K H cl L) (s : Same H H') : CsAt K H' cl L := ⟨s _ _ h.l, fun x hx => (h.td x hx).same s, h.n1, h.n2, h.n3⟩
def stdN (cs : List Cl) (e : Ev) : Bool := if 1 ≤ e.n ∧ e.n ≤ cs.length then alw (cs.getD (e.n - 1).toNat c0) e else false
def std (cs : List Cl) (e : Ev) : Bool := if e.nm = "begin" then e.n == (cs.length : Int) + 1 else stdN cs e
theorem getD_cls {L : List Tr} {i : Nat} (h : i < L.length) : (cls L).getD i c0 = L[i].2.2 := by
  unfold cls
  rw [List.getD_eq_getElem?_getD, List.getElem?_map, List.getElem?_eq_getElem h]
  rfl
theorem at_L {L : List Tr} {i : Int} (h0 : 1 ≤ i) (h1 : i ≤ L.length) : ∃ h : (i - 1).toNat < L.length, atI (L.map fun x => V.ref x.1) (i - 1) = some (.ref L[(i - 1).toNat].1) := by
  refine ⟨by omega, ?_⟩
  rw [atN V.non (by omega) (by rw [List.length_map]; omega), List.getD_eq_getElem?_getD, List.getElem?_map, List.getElem?_eq_getElem (by omega)]
  rfl
def spStands (K : PySem.W.Frag) : Sp := fun vs H Q _ => ∃ (cl t : Addr) (L : List Tr) (e : Ev), vs = [.ref cl, .ref t] ∧ CsAt K H cl L ∧ H t = some (.tup e.v) ∧ ∀ H', Same H H' → Q (.bl (std (cls L) e)) H'
theorem ok_stands {P : Program} {w : World} {K : PySem.W.Frag} {mg : Str → Option Value} {base : Heap} {f : Addr} {fd : FuncData} (T : Tx K mg) (c_Told_allows : C8.Met P w K mg base 1 (He.ga K "Told") "allows" (spAllows K) [])
    (F : FunD K "_stands" "_stands" (defArgs s_stands) (defBody s_stands) (defScope s_stands) [] [] f fd) : FnOk P w K mg base CX0 2 f fd ["calls", "event"] (spStands K) := by
  refine F.ok sc_stands (fun vs H Q E h => ?_) (fun cdv A outer s0 H vs Q E hr h => ?_)
  · obtain ⟨cl, t, L, e, rfl, _⟩ := h
    rfl
  · obtain ⟨cl, t, L, e, rfl, hL, ht, k⟩ := h
    refine ⟨_, PSs.nox (pss_cons (ps_set (i := 2) sc_stands.nd rfl (Or.inl rfl) (pe_ix ix_tup (pv 1) pe_int (fun _ _ => rfl))) (C8.pss_cut (ps_if (pt_cmpR op_eq (pe_ix ix_tup (pv 1) pe_int (fun _ _ => rfl)) pe_str (nomark _)) (pss_one (ps_ret (pe_cmpR op_eq (pv 2) (pe_op op_add (pe_callB call_len_seq rfl T.f_len PySem.boot_len (pa_cons (pv 0) pa_nil)) pe_int) (nomark _)))) pss_nil) (pss_one (ps_ret (pe_and (pe_chain op_le op_le pe_int (pv 2) (pe_callB call_len_seq rfl T.f_len PySem.boot_len (pa_cons (pv 0) pa_nil))) (pe_one (C8.pe_mt c_Told_allows hr (by decide) (pe_ix ix_list (pv 0) (pe_op op_sub (pv 2) pe_int) (fun _ _ => rfl)) (pa_cons (pv 1) pa_nil)))))))), ?_⟩
    have ll : (cls L).length = L.length := List.length_map ..
    refine ⟨_, rfl, t, _, 2, _, rfl, rfl, SqT.of ht, at_2 e, ?_⟩
    refine ⟨fun σ' H' => e.nm ≠ "begin" ∧ σ' = [some (.ref cl), some (.ref t), some (.int e.n)] ∧ H' = H, ?_, ?_⟩
    · refine ⟨_, rfl, t, _, 0, _, rfl, rfl, SqT.of ht, at_0 e, rfl, _, rfl, ?_⟩
      by_cases h : e.nm = "begin"
      · rw [str_eq h]
        refine iteT ⟨_, rfl, _, rfl, cl, _, rfl, .inl (SqL.of hL.l), _, _, rfl, rfl, rfl, ?_⟩
        have q := k H fun _ _ e => e
        unfold std at q
        rw [if_pos h, ll] at q
        rw [dec_int, List.length_map]
        exact q
      · rw [str_ne h]
        exact iteF ⟨h, rfl, rfl⟩
    · rintro σ' H' ⟨h, rfl, rfl⟩
      have kN : ∀ H2, Same H' H2 → ∀ b, stdN (cls L) e = b → Q (.bl b) H2 := fun H2 s b z => by
        have q := k H2 s
        unfold std at q
        rw [if_neg h, z] at q
        exact q
      refine ⟨_, rfl, _, _, rfl, rfl, _, rfl, ?_⟩
      by_cases c1 : 1 ≤ e.n
      · rw [decide_eq_true c1]
        refine iteT ⟨_, rfl, cl, _, rfl, .inl (SqL.of hL.l), _, _, rfl, rfl, _, rfl, ?_⟩
        rw [List.length_map]
        by_cases c2 : e.n ≤ L.length
        · rw [decide_eq_true c2]
          obtain ⟨hi, ea⟩ := at_L c1 c2
          obtain ⟨⟨dx, hp⟩, hq⟩ := hL.td _ (List.getElem_mem hi)
          refine iteT ⟨_, rfl, _, rfl, _, _, rfl, rfl, cl, _, _, _, rfl, rfl, SqL.of hL.l, ea, _, dx, _, rfl, hp, rfl, _, rfl, _, _, t, _, e, rfl, ⟨⟨dx, hp⟩, hq⟩, ht, fun H2 s2 => kN H2 s2 _ ?_⟩
          unfold stdN
          rw [if_pos ⟨c1, by rw [ll]; exact c2⟩, getD_cls hi]
        · rw [decide_eq_false c2]
          refine iteF (kN _ (fun _ _ e => e) _ ?_)
          unfold stdN
          rw [if_neg (by rw [ll]; omega)]
      · rw [decide_eq_false c1]
        refine iteF ⟨_, rfl, iteF (kN _ (fun _ _ e => e) _ ?_)⟩
        unfold stdN
        rw [if_neg (by omega)]
theorem nodup_set {l : List Addr} {i : Nat} {a : Addr} (h : l.Nodup) (ha : ∀ (j : Nat) (hj : j < l.length), j ≠ i → l[j] ≠ a) : (l.set i a).Nodup := by
  refine List.pairwise_iff_getElem.mpr fun j k hj hk hjk => ?_
  rw [List.length_set] at hj hk
  have hp := List.pairwise_iff_getElem.mp h j k hj hk hjk
  rw [List.getElem_set, List.getElem_set]
  by_cases e1 : i = j
  · rw [if_pos e1, if_neg (by omega)]
    exact (ha k hk (by omega)).symm
  · rw [if_neg e1]
    by_cases e2 : i = k
    · rw [if_pos e2]
      exact ha j hj (by omega)
    · rw [if_neg e2]
      exact hp
theorem map_set_same {α β : Type} (f : α → β) {l : List α} {i : Nat} {x : α} (h : i < l.length) (e : f x = f l[i]) : (l.set i x).map f = l.map f := by
  rw [List.map_set, e]
  have hi : i < (l.map f).length := by rw [List.length_map]; exact h
  have : f l[i] = (l.map f)[i] := by rw [List.getElem_map]
  rw [this, List.set_getElem_self]
def app (cs : List Cl) : Ev → List Cl
  | .bgn t n w => cs ++ [mkC t n w]
  | e => cs.set (e.n - 1).toNat (takeC (cs.getD (e.n - 1).toNat c0) e)
theorem app_ne {cs : List Cl} {e : Ev} (h : e.nm ≠ "begin") : app cs e = cs.set (e.n - 1).toNat (takeC (cs.getD (e.n - 1).toNat c0) e) := by
  cases e <;> first | rfl | exact absurd rfl h
def spTk (K : PySem.W.Frag) : Sp := fun vs H Q _ => ∃ (cl t : Addr) (L : List Tr) (e : Ev), vs = [.ref cl, .ref t] ∧ CsAt K H cl L ∧ H t = some (.tup e.v) ∧ std (cls L) e = true ∧ L.length ≤ 1000 ∧
  ∀ L' H', CsAt K H' cl L' → cls L' = app (cls L) e → (∀ b o, H b = some o → b ≠ cl → (∀ x ∈ L, b ≠ x.1 ∧ b ≠ x.2.1) → H' b = some o) → (∀ x ∈ L', (x.1 ∈ L.map (·.1) ∨ H x.1 = none) ∧ (x.2.1 ∈ L.map (·.2.1) ∨ H x.2.1 = none)) → Q .non H'
theorem ok_take {P : Program} {w : World} {K : PySem.W.Frag} {mg : Str → Option Value} {base : Heap} {f : Addr} {fd : FuncData} (T : Tx K mg) (c_Told_take : C8.Met P w K mg base 1 (He.ga K "Told") "take" (spTake K) []) (c_mk_Told : C8.Mak P w K mg base 1 "Told" (He.ga K "Told") (spTInit K) [])
    (F : FunD K "_take" "_take" (defArgs s_take) (defBody s_take) (defScope s_take) [] [] f fd) : FnOk P w K mg base CX0 3 f fd ["calls", "event"] (spTk K) := by
  refine F.ok sc_take (fun vs H Q E h => ?_) (fun cdv A outer s0 H vs Q E hr h => ?_)
  · obtain ⟨cl, t, L, e, rfl, _⟩ := h
    rfl
  · obtain ⟨cl, t, L, e, rfl, hL, ht, hs, hz, k⟩ := h
    refine ⟨_, PSs.nox (pss_one (ps_if (pt_cmpR op_eq (pe_ix ix_tup (pv 1) pe_int (fun _ _ => rfl)) pe_str (nomark _)) (pss_cons (ps_asg (pv 1) (pg_tup rfl (pgs_cons (pg_name (i := 2) sc_take.nd rfl (Or.inl rfl)) (pgs_cons (pg_name (i := 3) sc_take.nd rfl (Or.inl rfl)) (pgs_cons (pg_name (i := 4) sc_take.nd rfl (Or.inl rfl)) (pgs_cons (pg_name (i := 5) sc_take.nd rfl (Or.inl rfl)) (pgs_cons (pg_name (i := 6) sc_take.nd rfl (Or.inl rfl)) pgs_nil))))))) (pss_one (ps_expr (pe_bm PySem.F.plainAttrs_list PySem.F.slot_list_append PySem.F.type_list_append mt_append (pv 0) (pa_cons (C8.pe_mk c_mk_Told hr (by decide) rfl (pa_cons (pv 3) (pa_cons (pv 4) (pa_cons (pv 5) (pa_cons (pv 6) pa_nil))))) pa_nil))))) (pss_one (ps_expr (C8.pe_mt c_Told_take hr (by decide) (pe_ix ix_list (pv 0) (pe_op op_sub (pe_ix ix_tup (pv 1) pe_int (fun _ _ => rfl)) pe_int) (fun _ _ => rfl)) (pa_cons (pv 1) pa_nil)))))), ?_⟩
    refine ⟨_, rfl, t, _, 0, _, rfl, rfl, SqT.of ht, at_0 e, rfl, _, rfl, ?_⟩
    by_cases h : e.nm = "begin"
    · rw [str_eq h]
      obtain ⟨now, n, w, rfl⟩ := nm_bgn h
      refine iteT ⟨_, rfl, t, _, rfl, SqT.of ht, rfl, _, _, rfl, _, _, rfl, _, _, rfl, _, _, rfl, _, _, rfl, rfl, ?_⟩
      refine ⟨_, rfl, .inl ⟨rfl, _, SqL.of hL.l⟩, _, rfl, _, rfl, _, rfl, _, rfl, fun x dx hx hdx ne => ?_⟩
      have so := same_own (C := He.ga K "Told") (fs := []) hx hdx
      refine ⟨x, dx, now, n, w, rfl, upd_same, fun q H1 hq td fr => ⟨rfl, cl, _, _, rfl, rfl, fr _ _ (so _ _ hL.l) (ne_of_none hL.l hx), ?_, ?_⟩⟩
      · rw [List.length_map, sizeLine_eq]
        omega
      have fr1 : Same H H1 := fun b o e => fr b o (so _ _ e) (ne_of_none e hx)
      have hq0 : ∀ {b o}, H b = some o → q ≠ b := fun {b o} e z => by rw [z, so _ _ e] at hq; cases hq
      have l1 := fr1 _ _ hL.l
      obtain ⟨⟨dx1, tp⟩, tq⟩ := td
      refine k (L ++ [(x, q, mkC now n w)]) _ ⟨?_, fun y hy => ?_, ?_, ?_, fun y hy => ?_⟩ ?_ (fun b o eb nb _ => (upd_ne nb).trans (fr1 _ _ eb)) fun y hy => ?_
      · rw [upd_same, List.map_append]
        rfl
      · rcases List.mem_append.mp hy with z | z
        · obtain ⟨⟨d, e1⟩, e2⟩ := (hL.td y z).same fr1
          exact ⟨⟨d, (upd_ne (ne_of e1 l1 (by intro z; cases z))).trans e1⟩, (upd_ne (hL.n3 y z)).trans e2⟩
        · rw [List.mem_singleton.mp z]
          exact ⟨⟨dx1, (upd_ne (ne_of tp l1 (by intro z; cases z))).trans tp⟩, (upd_ne (hq0 hL.l)).trans tq⟩
      · rw [List.map_append, List.nodup_append]
        refine ⟨hL.n1, by simp, fun a ha b hb => ?_⟩
        obtain ⟨y, hy, rfl⟩ := List.mem_map.mp ha
        obtain ⟨⟨d, e1⟩, _⟩ := hL.td y hy
        have : b = x := by simpa using hb
        rw [this]
        exact ne_of_none e1 hx
      · rw [List.map_append, List.nodup_append]
        refine ⟨hL.n2, by simp, fun a ha b hb => ?_⟩
        obtain ⟨y, hy, rfl⟩ := List.mem_map.mp ha
        have : b = q := by simpa using hb
        rw [this]
        exact (hq0 (hL.td y hy).2).symm
      · rcases List.mem_append.mp hy with z | z
        · exact hL.n3 y z
        · rw [List.mem_singleton.mp z]
          exact hq0 hL.l
      · show List.map _ _ = _
        rw [List.map_append]
        rfl
      · rcases List.mem_append.mp hy with z | z
        · exact ⟨.inl (List.mem_map.mpr ⟨y, z, rfl⟩), .inl (List.mem_map.mpr ⟨y, z, rfl⟩)⟩
        · rw [List.mem_singleton.mp z]
          refine ⟨.inr hx, .inr ?_⟩
          cases eq : H q with
          | none => rfl
          | some o => exact absurd rfl (hq0 eq)
    · rw [str_ne h]
      have hs' : stdN (cls L) e = true := by
        unfold std at hs
        rw [if_neg h] at hs
        exact hs
      have ll : (cls L).length = L.length := List.length_map ..
      unfold stdN at hs'
      by_cases cc : 1 ≤ e.n ∧ e.n ≤ (cls L).length
      · rw [if_pos cc] at hs'
        rw [ll] at cc
        obtain ⟨hi, ea⟩ := at_L cc.1 cc.2
        have ae := app_ne (cs := cls L) h
        rw [getD_cls hi] at hs' ae
        generalize hii : (e.n - 1).toNat = i at *
        have htd := hL.td _ (List.getElem_mem hi)
        obtain ⟨dx, hp⟩ := htd.1
        refine iteF ⟨_, rfl, _, rfl, t, _, 2, _, rfl, rfl, SqT.of ht, at_2 e, _, _, rfl, rfl, cl, _, _, _, rfl, rfl, SqL.of hL.l, ea, _, dx, _, rfl, hp, rfl, _, rfl, _, _, t, _, e, rfl, htd, ht, hs', fun q' H1 td1 hq fr => ?_⟩
        have hcl := fr _ _ hL.l (ne_of hL.l hp (by intro z; cases z)) (hL.n3 _ (List.getElem_mem hi)).symm
        have qcl : q' ≠ cl := by
          rcases hq with z | z
          · rw [z]
            exact hL.n3 _ (List.getElem_mem hi)
          · exact (ne_of_none hL.l z).symm
        have oth : ∀ (j : Nat) (hj : j < L.length), j ≠ i → L[j].1 ≠ L[i].1 ∧ L[j].2.1 ≠ L[i].2.1 := fun j hj hne => by
          have a1 := List.pairwise_iff_getElem.mp hL.n1
          have a2 := List.pairwise_iff_getElem.mp hL.n2
          have b1 : ∀ k (hk : k < L.length), (L.map (·.1))[k]'(by rw [List.length_map]; exact hk) = L[k].1 := fun k hk => List.getElem_map ..
          have b2 : ∀ k (hk : k < L.length), (L.map (·.2.1))[k]'(by rw [List.length_map]; exact hk) = L[k].2.1 := fun k hk => List.getElem_map ..
          rcases Nat.lt_or_gt_of_ne hne with z | z
          · have c1 := a1 j i (by rw [List.length_map]; exact hj) (by rw [List.length_map]; exact hi) z
            have c2 := a2 j i (by rw [List.length_map]; exact hj) (by rw [List.length_map]; exact hi) z
            rw [b1 j hj, b1 i hi] at c1
            rw [b2 j hj, b2 i hi] at c2
            exact ⟨c1, c2⟩
          · have c1 := a1 i j (by rw [List.length_map]; exact hi) (by rw [List.length_map]; exact hj) z
            have c2 := a2 i j (by rw [List.length_map]; exact hi) (by rw [List.length_map]; exact hj) z
            rw [b1 j hj, b1 i hi] at c1
            rw [b2 j hj, b2 i hi] at c2
            exact ⟨c1.symm, c2.symm⟩
        have el : ∀ y ∈ L.set i (L[i].1, q', takeC L[i].2.2 e), y = (L[i].1, q', takeC L[i].2.2 e) ∨ ∃ (j : Nat) (hj : j < L.length), j ≠ i ∧ y = L[j] := fun y hy => by
          obtain ⟨j, hj, rfl⟩ := List.mem_iff_getElem.mp hy
          rw [List.length_set] at hj
          rw [List.getElem_set]
          by_cases e1 : i = j
          · rw [if_pos e1]
            exact .inl rfl
          · rw [if_neg e1]
            exact .inr ⟨j, hj, fun z => e1 z.symm, rfl⟩
        have m1 : (L.set i (L[i].1, q', takeC L[i].2.2 e)).map (·.1) = L.map (·.1) := map_set_same (fun x : Tr => x.1) (x := (L[i].1, q', takeC L[i].2.2 e)) hi rfl
        refine k (L.set i (L[i].1, q', takeC L[i].2.2 e)) H1 ⟨?_, fun y hy => ?_, by rw [m1]; exact hL.n1, ?_, fun y hy => ?_⟩ ?_ (fun b o eb _ nx => ?_) fun y hy => ?_
        · rw [hcl]
          congr 2
          exact (map_set_same (fun x : Tr => V.ref x.1) (x := (L[i].1, q', takeC L[i].2.2 e)) hi rfl).symm
        · rcases el y hy with rfl | ⟨j, hj, hne, rfl⟩
          · exact td1
          · obtain ⟨⟨d, g1⟩, g2⟩ := hL.td _ (List.getElem_mem hj)
            obtain ⟨o1, o2⟩ := oth j hj hne
            exact ⟨⟨d, fr _ _ g1 o1 (ne_of g1 htd.2 (by intro z; cases z))⟩, fr _ _ g2 (ne_of g2 hp (by intro z; cases z)) o2⟩
        · rw [List.map_set]
          refine nodup_set hL.n2 fun j hj hne => ?_
          have hj2 : j < L.length := by rw [List.length_map] at hj; exact hj
          rw [List.getElem_map]
          rcases hq with z | z
          · rw [z]
            exact (oth j hj2 hne).2
          · exact ne_of_none (hL.td _ (List.getElem_mem hj2)).2 z
        · rcases el y hy with rfl | ⟨j, hj, hne, rfl⟩
          · exact qcl
          · exact hL.n3 _ (List.getElem_mem hj)
        · rw [ae]
          unfold cls
          rw [List.map_set]
        · have := nx _ (List.getElem_mem hi)
          exact fr b o eb this.1 this.2
        · rcases el y hy with rfl | ⟨j, hj, hne, rfl⟩
          · refine ⟨.inl (List.mem_map.mpr ⟨_, List.getElem_mem hi, rfl⟩), ?_⟩
            rcases hq with z | z
            · exact .inl (List.mem_map.mpr ⟨_, List.getElem_mem hi, z.symm⟩)
            · exact .inr z
          · exact ⟨.inl (List.mem_map.mpr ⟨_, List.getElem_mem hj, rfl⟩), .inl (List.mem_map.mpr ⟨_, List.getElem_mem hj, rfl⟩)⟩
      · rw [if_neg cc] at hs'
        cases hs'
end K15
set_option maxHeartbeats 1000000
set_option pp.maxSteps 500
namespace K15
open PySem PySem.Spec PyProof.Rows L2 SX TK
open C8 (pe_c)
def TsAt (H : Hp) : List Addr → List (List V) → Prop
  | [], [] => True
  | t :: ts, b :: bs => H t = some (.tup b) ∧ TsAt H ts bs
  | _, _ => False
theorem TsAt.mono {H H' : Hp} (s : ∀ x b, H x = some (.tup b) → H' x = some (.tup b)) : ∀ {ts : List Addr} {bs : List (List V)}, TsAt H ts bs → TsAt H' ts bs
  | [], [], _ => trivial
  | t :: ts, b :: bs, h => ⟨s _ _ h.1, TsAt.mono s h.2⟩
  | [], _ :: _, h => h
  | _ :: _, [], h => h
theorem TsAt.snoc {H : Hp} {t : Addr} {b : List V} (ht : H t = some (.tup b)) : ∀ {ts : List Addr} {bs : List (List V)}, TsAt H ts bs → TsAt H (ts ++ [t]) (bs ++ [b])
  | [], [], _ => ⟨ht, trivial⟩
  | _ :: _, _ :: _, h => ⟨h.1, TsAt.snoc ht h.2⟩
  | [], _ :: _, h => h.elim
  | _ :: _, [], h => h.elim
theorem TsAt.len {H : Hp} : ∀ {ts : List Addr} {bs : List (List V)}, TsAt H ts bs → ts.length = bs.length
  | [], [], _ => rfl
  | _ :: _, _ :: _, h => congrArg Nat.succ (TsAt.len h.2)
  | [], _ :: _, h => h.elim
  | _ :: _, [], h => h.elim
theorem TsAt.at_ {H : Hp} : ∀ {ts : List Addr} {bs : List (List V)}, TsAt H ts bs → ∀ (i : Nat) (x : V), (ts.map V.ref)[i]? = some x → ∃ t b, x = .ref t ∧ bs[i]? = some b ∧ H t = some (.tup b)
  | [], [], _, i, x, h => by cases h
  | t :: _, b :: _, h, 0, x, e => ⟨t, b, (Option.some.inj e).symm, rfl, h.1⟩
  | _ :: ts, _ :: bs, h, i + 1, x, e => TsAt.at_ h.2 i x e
  | [], _ :: _, h, _, _, _ => h.elim
  | _ :: _, [], h, _, _, _ => h.elim
structure Rs where
  cs : List Cl
  ws : List Int
  lat : Int
def stepR (r : Rs) (i : Nat) (e : Ev) : Rs := if r.lat ≤ e.now ∧ std r.cs e = true then ⟨app r.cs e, r.ws, e.now⟩ else ⟨r.cs, r.ws ++ [(i : Int)], r.lat⟩
def runN (es : List Ev) : Nat → Rs
  | 0 => ⟨[], [], 0⟩
  | i + 1 => match es[i]? with
    | some e => stepR (runN es i) i e
    | none => runN es i
theorem app_len (cs : List Cl) (e : Ev) : (app cs e).length ≤ cs.length + 1 := by
  cases e <;> simp [app]
theorem run_len (es : List Ev) : ∀ i, (runN es i).cs.length ≤ i ∧ (runN es i).ws.length ≤ i
  | 0 => ⟨Nat.le_refl _, Nat.le_refl _⟩
  | i + 1 => by
    have ih := run_len es i
    unfold runN
    cases es[i]? with
    | none =>
      show (runN es i).cs.length ≤ _ ∧ (runN es i).ws.length ≤ _
      exact ⟨by omega, by omega⟩
    | some e =>
      show (stepR (runN es i) i e).cs.length ≤ _ ∧ (stepR (runN es i) i e).ws.length ≤ _
      unfold stepR
      split
      · have := app_len (runN es i).cs e
        exact ⟨by show (app _ _).length ≤ _; omega, by show (runN es i).ws.length ≤ _; omega⟩
      · exact ⟨by show (runN es i).cs.length ≤ _; omega, by show ((runN es i).ws ++ _).length ≤ _; rw [List.length_append]; show _ + 1 ≤ _; omega⟩
def spTell (K : PySem.W.Frag) : Sp := fun vs H Q _ => ∃ (ev : Addr) (ts : List Addr) (es : List Ev), vs = [.ref ev] ∧ H ev = some (.lst (ts.map V.ref)) ∧ TsAt H ts (es.map Ev.v) ∧ es.length ≤ 100 ∧
  ∀ r pa wr us H', Same H H' → H' r = some (.tup [.ref pa, .ref wr]) → H' pa = some (.lst (us.map V.ref)) → TsAt H' us ((runN es es.length).cs.map Cl.v) → H' wr = some (.lst ((runN es es.length).ws.map V.int)) → Q (.ref r) H'
theorem ok_tell {P : Program} {w : World} {K : PySem.W.Frag} {mg : Str → Option Value} {base : Heap} {f : Addr} {fd : FuncData} (T : Tx K mg) (c_stands : C8.Cal P w K mg base 2 "_stands" (spStands K) []) (c_take : C8.Cal P w K mg base 3 "_take" (spTk K) []) (c_Told_parts : C8.Met P w K mg base 1 (He.ga K "Told") "parts" (spParts K) [])
    (F : FunD K "tell" "tell" (defArgs s_tell) (defBody s_tell) (defScope s_tell) [] [] f fd) : FnOk P w K mg base CX0 4 f fd ["events"] (spTell K) := by
  refine F.ok sc_tell (fun vs H Q E h => ?_) (fun cdv A outer s0 H vs Q E hr h => ?_)
  · obtain ⟨ev, ts, es, rfl, _⟩ := h
    rfl
  · obtain ⟨ev, ts, es, rfl, hev, hts, hn, k⟩ := h
    refine ⟨_, PSs.nox (pss_cons (ps_set (i := 1) sc_tell.nd rfl (Or.inl rfl) (pe_lst pa_nil)) (pss_cons (ps_set (i := 2) sc_tell.nd rfl (Or.inl rfl) (pe_lst pa_nil)) (pss_cons (ps_set (i := 3) sc_tell.nd rfl (Or.inl rfl) pe_int) (pss_cons (ps_for PassesOwn.never rfl (pi_enum (by rfl) T.f_enumerate (pa_cons (pv 0) pa_nil)) (pg_tup rfl (pgs_cons (pg_name (i := 4) sc_tell.nd rfl (Or.inl rfl)) (pgs_cons (pg_name (i := 5) sc_tell.nd rfl (Or.inl rfl)) pgs_nil))) (pss_one (ps_if (PW.pt (pw_and (pt_cmpR op_ge (pe_ix ix_tup (pv 5) pe_int (fun _ _ => rfl)) (pv 3) (nomark _)) (pw_and1 (pt_val (pe_c c_stands hr (by decide) rfl (pa_cons (pv 1) (pa_cons (pv 5) pa_nil))))))) (pss_cons (ps_set (i := 3) sc_tell.nd rfl (Or.inl rfl) (pe_ix ix_tup (pv 5) pe_int (fun _ _ => rfl))) (pss_one (ps_expr (pe_c c_take hr (by decide) rfl (pa_cons (pv 1) (pa_cons (pv 5) pa_nil)))))) (pss_one (ps_expr (pe_bm PySem.F.plainAttrs_list PySem.F.slot_list_append PySem.F.type_list_append mt_append (pv 2) (pa_cons (pv 4) pa_nil))))))) (pss_one (ps_ret (pe_tup (pa_cons (pe_lc (own := [("call", 6)]) (g := gName 6) rfl sc_tell.nd (pi_list (pv 1)) (blkOk_by (own := [("call", 6)]) (N := ["events", "calls", "wrong", "latest", "index", "event", "call"]) (sc := defScope s_tell) (by decide +kernel)) (fun _ _ _ _ _ => pg_name (i := 6) sc_tell.nd rfl (Or.inl rfl)) (fun _ _ _ _ _ => pts_nil) (fun _ _ _ _ _ => (C8.pe_mt0 c_Told_parts hr (by decide) (pv 6)))) (pa_cons (pv 2) pa_nil))))))))), ?_⟩
    have lts : ts.length = es.length := by rw [hts.len, List.length_map]
    refine ⟨by show 0 ≤ sizeLine; decide, fun cl hcl => ⟨by show 0 ≤ sizeLine; decide, fun wr hwr => ?_⟩⟩
    have s1 := same_upd (o := .lst []) hcl
    have s2 := same_upd (o := .lst []) hwr
    have ncw : wr ≠ cl := fun z => by rw [z, upd_same] at hwr; cases hwr
    have hwr0 : H wr = none := by rw [upd_ne ncw] at hwr; exact hwr
    have ecl : (upd (upd H cl (.lst [])) wr (.lst [])) cl = some (.lst []) := (upd_ne ncw.symm).trans upd_same
    have ewr : (upd (upd H cl (.lst [])) wr (.lst [])) wr = some (.lst []) := upd_same
    have s12 := s1.trans s2
    clear s1 s2 hwr
    generalize upd (upd H cl (.lst [])) wr (.lst []) = H1 at *
    refine ⟨_, rfl, ev, _, rfl, SqL.of (s12 _ _ hev), for_enum (K := K) (a := ev) (xs := ts.map V.ref) (fun i σ H' => Same H H' ∧ ∃ (L : List Tr) (v4 v5 : Option V), σ = [some (.ref ev), some (.ref cl), some (.ref wr), some (.int (runN es i).lat), v4, v5, none] ∧ CsAt K H' cl L ∧ cls L = (runN es i).cs ∧ H' wr = some (.lst ((runN es i).ws.map V.int)) ∧
        (∀ x ∈ L, x.2.1 ≠ wr) ∧ ∀ x ∈ L, H x.1 = none ∧ H x.2.1 = none)
      ⟨s12, [], none, none, rfl, ⟨ecl, (fun _ h => nomatch h), by simp, by simp, fun _ h => nomatch h⟩, rfl, ewr, (fun _ h => nomatch h), fun _ h => nomatch h⟩ (fun i σ H' _ q => SqL.of (q.1 _ _ hev)) ?_ ?_⟩
    · rintro i y TT σ H2 hi ⟨sH, L, v4, v5, rfl, hL, ec, ew, hw, hf⟩ hT
      obtain ⟨t, b, rfl, hb, ht⟩ := (hts.mono fun x b ex => sH _ _ ex).at_ i y hi
      rw [List.getElem?_map] at hb
      obtain ⟨e, he, rfl⟩ := Option.map_eq_some_iff.mp hb
      have er : runN es (i + 1) = stepR (runN es i) i e := by
        show (match es[i]? with
          | some e => stepR (runN es i) i e
          | none => runN es i) = _
        rw [he]
      have rl := run_len es i
      have hi9 : i < es.length := (List.getElem?_eq_some_iff.mp he).1
      rw [er]
      generalize runN es i = r at *
      have sT := same_upd (o := .tup [.int (i : Nat), .ref t]) hT
      have hLt := hL.same sT
      have ht2 := sT _ _ ht
      have ew2 := sT _ _ ew
      have sH2 := sH.trans sT
      have eT : (upd H2 TT (.tup [.int (i : Nat), .ref t])) TT = some (.tup [.int (i : Nat), .ref t]) := upd_same
      clear sH hL ht ew sT hT
      generalize upd H2 TT (.tup [.int (i : Nat), .ref t]) = H3 at *
      have lL : L.length ≤ 200 := by
        have : (cls L).length = L.length := List.length_map ..
        rw [ec] at this
        omega
      refine ⟨TT, _, rfl, SqT.of eT, rfl, _, _, rfl, _, _, rfl, rfl, ?_⟩
      have bad : ¬ (r.lat ≤ e.now ∧ std r.cs e = true) → ∀ H4, Same H3 H4 → Same H (upd H4 wr (.lst (r.ws.map V.int ++ [.int (i : Nat)]))) ∧ ∃ (L : List Tr) (w4 w5 : Option V), [some (.ref ev), some (.ref cl), some (.ref wr), some (.int r.lat), some (.int (i : Nat)), some (.ref t), none] = [some (.ref ev), some (.ref cl), some (.ref wr), some (.int (stepR r i e).lat), w4, w5, none] ∧ CsAt K (upd H4 wr (.lst (r.ws.map V.int ++ [.int (i : Nat)]))) cl L ∧ cls L = (stepR r i e).cs ∧ (upd H4 wr (.lst (r.ws.map V.int ++ [.int (i : Nat)]))) wr = some (.lst ((stepR r i e).ws.map V.int)) ∧
          (∀ x ∈ L, x.2.1 ≠ wr) ∧ ∀ x ∈ L, H x.1 = none ∧ H x.2.1 = none := fun nb H4 s4 => by
        have es' : stepR r i e = ⟨r.cs, r.ws ++ [(i : Int)], r.lat⟩ := by unfold stepR; rw [if_neg nb]
        rw [es']
        have hL4 := hLt.same s4
        have ew4 := s4 _ _ ew2
        refine ⟨fun b o eb => (upd_ne (ne_of_none eb hwr0)).trans (s4 _ _ (sH2 _ _ eb)), L, _, _, rfl, ⟨(upd_ne ncw.symm).trans hL4.l, fun x hx => ?_, hL4.n1, hL4.n2, hL4.n3⟩, ec, ?_, hw, hf⟩
        · obtain ⟨⟨d, g1⟩, g2⟩ := hL4.td x hx
          exact ⟨⟨d, (upd_ne (ne_of g1 ew4 (by intro z; cases z))).trans g1⟩, (upd_ne (hw x hx)).trans g2⟩
        · rw [upd_same, List.map_append]
          rfl
      have lw : (r.ws.map V.int).length < sizeLine := by
        rw [List.length_map, sizeLine_eq]
        omega
      refine ⟨_, rfl, t, _, 1, _, rfl, rfl, SqT.of ht2, at_1 e, _, rfl, _, _, rfl, rfl, _, rfl, ?_⟩
      by_cases c1 : r.lat ≤ e.now
      · rw [decide_eq_true c1]
        refine iteT ⟨_, rfl, _, rfl, cl, t, L, e, rfl, hLt, ht2, fun H4 s4 => ⟨_, rfl, ?_⟩⟩
        rw [ec]
        by_cases c2 : std r.cs e = true
        · rw [c2]
          refine iteT ⟨_, rfl, t, _, 1, _, rfl, rfl, SqT.of (s4 _ _ ht2), at_1 e, _, rfl, _, rfl, cl, t, L, e, rfl, hLt.same s4, s4 _ _ ht2, by rw [ec]; exact c2, by omega, fun L' H5 hL5 ec5 fr el => ?_⟩
          have es' : stepR r i e = ⟨app r.cs e, r.ws, e.now⟩ := by unfold stepR; rw [if_pos ⟨c1, c2⟩]
          rw [es']
          have nw : ∀ {b o}, H b = some o → H5 b = some o := fun {b o} eb => fr b o (s4 _ _ (sH2 _ _ eb)) (ne_of_none eb hcl) fun x hx => ⟨ne_of_none eb (hf x hx).1, ne_of_none eb (hf x hx).2⟩
          have back : ∀ {x : Addr}, H4 x = none → H x = none := fun {x} z => by
            cases eq : H x with
            | none => rfl
            | some o => rw [s4 _ _ (sH2 _ _ eq)] at z; cases z
          refine ⟨fun b o eb => nw eb, L', _, _, rfl, hL5, by rw [ec5, ec], ?_, fun x hx => ?_, fun x hx => ?_⟩
          · refine fr _ _ (s4 _ _ ew2) ncw fun x hx => ⟨?_, (hw x hx).symm⟩
            obtain ⟨⟨d, g1⟩, _⟩ := hLt.td x hx
            exact (ne_of g1 ew2 (by intro z; cases z)).symm
          · rcases (el x hx).2 with z | z
            · obtain ⟨y, hy, e1⟩ := List.mem_map.mp z
              have e1' : y.2.1 = x.2.1 := e1
              rw [← e1']
              exact hw y hy
            · exact (ne_of_none (s4 _ _ ew2) z).symm
          · refine ⟨?_, ?_⟩
            · rcases (el x hx).1 with z | z
              · obtain ⟨y, hy, e1⟩ := List.mem_map.mp z
                have e1' : y.1 = x.1 := e1
                rw [← e1']
                exact (hf y hy).1
              · exact back z
            · rcases (el x hx).2 with z | z
              · obtain ⟨y, hy, e1⟩ := List.mem_map.mp z
                have e1' : y.2.1 = x.2.1 := e1
                rw [← e1']
                exact (hf y hy).2
              · exact back z
        · rw [ef c2]
          exact iteF ⟨_, rfl, .inl ⟨rfl, _, SqL.of (s4 _ _ ew2)⟩, _, rfl, wr, _, _, rfl, rfl, s4 _ _ ew2, lw, bad (fun z => c2 z.2) H4 s4⟩
      · rw [decide_eq_false c1]
        exact iteF (iteF ⟨_, rfl, .inl ⟨rfl, _, SqL.of ew2⟩, _, rfl, wr, _, _, rfl, rfl, ew2, lw, bad (fun z => c1 z.1) H3 fun _ _ e => e⟩)
    · rintro σ H2 ⟨sH, L, v4, v5, rfl, hL, ec, ew, hw, hf⟩
      rw [List.length_map, lts] at ec ew
      have ll : (cls L).length = L.length := List.length_map ..
      have rl := run_len es es.length
      refine ⟨_, rfl, cl, rfl, ⟨_, SqL.of hL.l⟩, fun D hD => ?_⟩
      refine lc_itN walk_list (fun i H' => Same H2 H' ∧ ∃ us : List Addr, H' D = some (.lst (us.map V.ref)) ∧ TsAt H' us (((cls L).take i).map Cl.v)) ⟨same_upd hD, [], upd_same, trivial⟩ (fun i H' _ q => SqL.of (q.1 _ _ hL.l)) (fun i x H3 H4 hi p y => ?_) (fun H3 p => ?_)
      · obtain ⟨s3, us, e1, e2⟩ := p
        obtain ⟨rfl, hx⟩ := y
        rw [List.length_map] at hi
        rw [List.getElem?_map, List.getElem?_eq_getElem hi] at hx
        obtain rfl := Option.some.inj hx
        have td := (hL.td _ (List.getElem_mem hi)).same s3
        obtain ⟨dx, hp⟩ := td.1
        refine ⟨rfl, _, rfl, _, dx, _, rfl, hp, rfl, _, _, _, rfl, td, fun t ht => ?_⟩
        have tD : t ≠ D := fun z => by rw [z, e1] at ht; cases ht
        refine ⟨_, (upd_ne tD.symm).trans e1, ?_, fun b o eb => ?_, us ++ [t], ?_, ?_⟩
        · have := e2.len
          have l9 : (cls L).length ≤ 100 := by rw [ec]; omega
          rw [List.length_map, List.length_take] at this
          rw [List.length_map, sizeLine_eq]
          omega
        · exact (upd_ne (ne_of_none eb hD)).trans ((same_upd ht) _ _ (s3 _ _ eb))
        · rw [upd_same, List.map_append]
          rfl
        · have tk : (cls L).take (i + 1) = (cls L).take i ++ [L[i].2.2] := by
            rw [List.take_add_one, List.getElem?_eq_getElem (by rw [ll]; exact hi)]
            unfold cls
            rw [List.getElem_map]
            rfl
          rw [tk, List.map_append]
          refine TsAt.snoc ((upd_ne tD).trans upd_same) (e2.mono fun x b ex => ?_)
          exact (upd_ne (ne_of ex e1 (by intro z; cases z))).trans ((same_upd ht) _ _ ex)
      · obtain ⟨s3, us, e1, e2⟩ := p
        rw [List.length_map, ← ll, List.take_length, ec] at e2
        refine ⟨_, rfl, by show 2 ≤ sizeLine; decide, fun r hr0 => ?_⟩
        have s4 := same_upd (o := .tup [.ref D, .ref wr]) hr0
        exact k r D wr us _ (sH.trans (s3.trans s4)) upd_same (s4 _ _ e1) (e2.mono fun x b ex => s4 _ _ ex) (s4 _ _ (s3 _ _ ew))
end K15
set_option maxHeartbeats 1000000
set_option pp.maxSteps 500
namespace K15
open PySem PySem.Spec PyProof.Rows L2 SX TK
open C8 (pe_c)
def wdS (z : Str) : Prop := z = "bob@x" ∨ z = "eve@x" ∨ z = "p" ∨ z = "q" ∨ z = "both" ∨ z = "send" ∨ z = "none" ∨ z = "caller" ∨ z = "lost" ∨ z = "refused"
def small (i : Int) : Prop := -1000000 < i ∧ i < 1000000
def EvOk : Ev → Prop
  | .bgn t n w => small t ∧ small n ∧ wdS w
  | .ring t n => small t ∧ small n
  | .ans t n p => small t ∧ small n ∧ wdS p
  | .turn t n s m => small t ∧ small n ∧ small s ∧ wdS m
  | .move t n s => small t ∧ small n ∧ small s
  | .moved t n s => small t ∧ small n ∧ small s
  | .fin t n w => small t ∧ small n ∧ wdS w
def spEvent : Sp := fun vs H Q _ => ∃ (s c nb : Addr) (now m : Int), vs = [.ref s, .int now, .ref nb] ∧ StAt H s c ∧ H nb = some (.lst [.int m]) ∧ nb ≠ s ∧ nb ≠ c ∧ 0 ≤ m ∧ m ≤ 1000 ∧ 0 ≤ now ∧ now ≤ 100000 ∧
  ∀ t (e : Ev) H', H' t = some (.tup e.v) → EvOk e → StAt H' s c → Keep H H' s c → Q (.ref t) H'
theorem ok_law_event {P : Program} {w : World} {K : PySem.W.Frag} {mg : Str → Option Value} {base : Heap} {f : Addr} {fd : FuncData} (T : Tx K mg) (c_law_draw : C8.Cal P w K mg base 1 "_law_draw" spDraw []) (c_law_pick : C8.Cal P w K mg base 2 "_law_pick" spPick [])
    (F : FunD K "_law_event" "_law_event" (defArgs s_law_event) (defBody s_law_event) (defScope s_law_event) [] [] f fd) : FnOk P w K mg base CX0 3 f fd ["state", "now", "numbers"] spEvent := by
  refine F.ok sc_law_event (fun vs H Q E h => ?_) (fun cdv A outer s0 H vs Q E hr h => ?_)
  · obtain ⟨s, c, nb, now, m, rfl, _⟩ := h
    rfl
  · obtain ⟨s, c, nb, now, m, rfl, hst, hnb, n1, n2, m0, m1, t0, t1, k⟩ := h
    refine ⟨_, PSs.nox (pss_cons (ps_set (i := 3) sc_law_event.nd rfl (Or.inl rfl) (pe_c c_law_pick hr (by decide) rfl (pa_cons (pv 0) (pa_cons (pe_lst (pa_cons (pe_ix ix_list (pv 2) pe_int (fun _ _ => rfl)) (pa_cons (pe_ix ix_list (pv 2) pe_int (fun _ _ => rfl)) (pa_cons (pe_c c_law_draw hr (by decide) rfl (pa_cons (pv 0) (pa_cons (pe_op op_add (pe_ix ix_list (pv 2) pe_int (fun _ _ => rfl)) pe_int) pa_nil))) pa_nil)))) pa_nil)))) (pss_cons (ps_set (i := 4) sc_law_event.nd rfl (Or.inl rfl) (pe_c c_law_draw hr (by decide) rfl (pa_cons (pv 0) (pa_cons pe_int pa_nil)))) (C8.pss_cut (ps_if (pt_cmpR op_lt (pv 4) pe_int (nomark _)) (pss_cons (ps_set (i := 5) sc_law_event.nd rfl (Or.inl rfl) (pe_c c_law_pick hr (by decide) rfl (pa_cons (pv 0) (pa_cons (pe_lst (pa_cons (pe_op op_add (pe_ix ix_list (pv 2) pe_int (fun _ _ => rfl)) pe_int) (pa_cons (pe_op op_add (pe_ix ix_list (pv 2) pe_int (fun _ _ => rfl)) pe_int) (pa_cons (pe_op op_add (pe_ix ix_list (pv 2) pe_int (fun _ _ => rfl)) pe_int) (pa_cons (pv 3) pa_nil))))) pa_nil)))) (pss_one (ps_ret (pe_tup (pa_cons pe_str (pa_cons (pv 1) (pa_cons (pv 5) (pa_cons pe_str (pa_cons (pe_c c_law_pick hr (by decide) rfl (pa_cons (pv 0) (pa_cons (pe_lst (pa_cons pe_str (pa_cons pe_str pa_nil))) pa_nil))) pa_nil))))))))) pss_nil) (C8.pss_cut (ps_if (pt_cmpR op_lt (pv 4) pe_int (nomark _)) (pss_one (ps_ret (pe_tup (pa_cons pe_str (pa_cons (pv 1) (pa_cons (pv 3) pa_nil)))))) pss_nil) (C8.pss_cut (ps_if (pt_cmpR op_lt (pv 4) pe_int (nomark _)) (pss_one (ps_ret (pe_tup (pa_cons pe_str (pa_cons (pv 1) (pa_cons (pv 3) (pa_cons (pe_c c_law_pick hr (by decide) rfl (pa_cons (pv 0) (pa_cons (pe_lst (pa_cons pe_str (pa_cons pe_str pa_nil))) pa_nil))) pa_nil))))))) pss_nil) (pss_cons (ps_set (i := 6) sc_law_event.nd rfl (Or.inl rfl) (pe_c c_law_pick hr (by decide) rfl (pa_cons (pv 0) (pa_cons (pe_lst (pa_cons pe_int (pa_cons pe_int (pa_cons pe_int (pa_cons pe_int (pa_cons pe_int pa_nil)))))) pa_nil)))) (C8.pss_cut (ps_if (pt_cmpR op_eq (pv 4) pe_int (nomark _)) (pss_one (ps_ret (pe_tup (pa_cons pe_str (pa_cons (pv 1) (pa_cons (pv 3) (pa_cons (pv 6) (pa_cons (pe_c c_law_pick hr (by decide) rfl (pa_cons (pv 0) (pa_cons (pe_lst (pa_cons pe_str (pa_cons pe_str (pa_cons pe_str pa_nil)))) pa_nil))) pa_nil)))))))) pss_nil) (C8.pss_cut (ps_if (pt_cmpR op_eq (pv 4) pe_int (nomark _)) (pss_one (ps_ret (pe_tup (pa_cons pe_str (pa_cons (pv 1) (pa_cons (pv 3) (pa_cons (pv 6) (pa_cons pe_str pa_nil)))))))) pss_nil) (C8.pss_cut (ps_if (pt_cmpR op_eq (pv 4) pe_int (nomark _)) (pss_one (ps_ret (pe_tup (pa_cons pe_str (pa_cons (pv 1) (pa_cons (pv 3) (pa_cons (pv 6) pa_nil))))))) pss_nil) (pss_one (ps_ret (pe_tup (pa_cons pe_str (pa_cons (pv 1) (pa_cons (pv 3) (pa_cons (pe_c c_law_pick hr (by decide) rfl (pa_cons (pv 0) (pa_cons (pe_lst (pa_cons pe_str (pa_cons pe_str (pa_cons pe_str pa_nil)))) pa_nil))) pa_nil)))))))))))))))), ?_⟩
    have st : small now := ⟨by omega, by omega⟩
    refine ⟨_, rfl, _, rfl, nb, _, 0, _, rfl, rfl, SqL.of hnb, rfl, _, rfl, nb, _, 0, _, rfl, rfl, SqL.of hnb, rfl, _, rfl, _, rfl, nb, _, 0, _, rfl, rfl, SqL.of hnb, rfl, _, _, rfl, rfl, s, c, _, rfl, hst, by omega, by omega, fun d H1 d0 d1 st1 kp1 => ⟨by show 3 ≤ sizeLine; decide, fun p hp => ?_⟩⟩
    obtain ⟨ps, pc⟩ := st1.tracked hp
    refine ⟨s, c, _, rfl, st1.upd ps pc, .inr ⟨p, _, rfl, upd_same, ps, pc, by simp, by simp, fun v hv H2 st2 kp2 => ?_⟩⟩
    obtain ⟨n, rfl, hn⟩ : ∃ n : Int, v = .int n ∧ small n := by
      simp only [List.mem_cons, List.not_mem_nil, or_false] at hv
      rcases hv with rfl | rfl | rfl
      · exact ⟨_, rfl, by omega, by omega⟩
      · exact ⟨_, rfl, by omega, by omega⟩
      · exact ⟨_, rfl, by omega, by omega⟩
    have k2 := (kp1.trans (Keep.of_same (same_upd hp))).trans kp2
    have hnb2 := k2 _ _ hnb n1 n2
    clear hv kp1 kp2 hp st1 hst hnb
    refine ⟨_, rfl, s, c, 12, rfl, st2, by decide, by decide, fun kd H3 _ _ st3 kp3 => ?_⟩
    have k3 := k2.trans kp3
    have hnb3 := kp3 _ _ hnb2 n1 n2
    clear k2 kp3 hnb2 st2
    have tupQ : ∀ (e : Ev) (H4 : Hp) (q : Addr), EvOk e → StAt H4 s c → Keep H H4 s c → H4 q = none → Q (.ref q) (upd H4 q (.tup e.v)) := fun e H4 q he st4 k4 hq => by
      obtain ⟨qs, qc⟩ := st4.tracked hq
      exact k q e _ upd_same he (st4.upd qs qc) (k4.trans (Keep.of_same (same_upd hq)))
    refine ⟨fun σ' H4 => σ' = [some (.ref s), some (.int now), some (.ref nb), some (.int n), some (.int kd), none, none] ∧ H4 = H3, ?_, ?_⟩
    · refine ⟨_, rfl, _, _, rfl, rfl, _, rfl, ?_⟩
      by_cases c1 : kd < 3
      · rw [decide_eq_true c1]
        refine iteT ⟨_, rfl, _, rfl, nb, _, 0, _, rfl, rfl, SqL.of hnb3, rfl, _, _, rfl, rfl, _, rfl, nb, _, 0, _, rfl, rfl, SqL.of hnb3, rfl, _, _, rfl, rfl, _, rfl, nb, _, 0, _, rfl, rfl, SqL.of hnb3, rfl, _, _, rfl, rfl, _, rfl, by show 4 ≤ sizeLine; decide, fun q hq => ?_⟩
        obtain ⟨qs, qc⟩ := st3.tracked hq
        refine ⟨s, c, _, rfl, st3.upd qs qc, .inr ⟨q, _, rfl, upd_same, qs, qc, by simp, by simp, fun v hv H4 st4 kp4 => ?_⟩⟩
        obtain ⟨n5, rfl, hn5⟩ : ∃ n : Int, v = .int n ∧ small n := by
          simp only [List.mem_cons, List.not_mem_nil, or_false] at hv
          rcases hv with rfl | rfl | rfl | rfl
          · exact ⟨_, rfl, by omega, by omega⟩
          · exact ⟨_, rfl, by omega, by omega⟩
          · exact ⟨_, rfl, by omega, by omega⟩
          · exact ⟨_, rfl, hn⟩
        have k4 := (k3.trans (Keep.of_same (same_upd hq))).trans kp4
        refine ⟨_, rfl, _, rfl, _, rfl, by show 2 ≤ sizeLine; decide, fun q2 hq2 => ?_⟩
        obtain ⟨qs2, qc2⟩ := st4.tracked hq2
        refine ⟨s, c, _, rfl, st4.upd qs2 qc2, .inr ⟨q2, _, rfl, upd_same, qs2, qc2, by simp, by simp, fun v hv H5 st5 kpn => ?_⟩⟩
        obtain ⟨z, rfl, hz⟩ : ∃ z : Str, v = .str z ∧ wdS z := by
          simp only [List.mem_cons, List.not_mem_nil, or_false] at hv
          rcases hv with rfl | rfl <;> exact ⟨_, rfl, by simp [wdS]⟩
        have k5 := (k4.trans (Keep.of_same (same_upd hq2))).trans kpn
        exact ⟨by show 5 ≤ sizeLine; decide, fun t ht => tupQ (.bgn now n5 z) H5 t ⟨st, hn5, hz⟩ st5 k5 ht⟩
      · rw [decide_eq_false c1]
        exact iteF ⟨rfl, rfl⟩
    · rintro σ' H4 ⟨rfl, rfl⟩
      refine ⟨fun σ' H5 => σ' = [some (.ref s), some (.int now), some (.ref nb), some (.int n), some (.int kd), none, none] ∧ H5 = H4, ?_, ?_⟩
      · refine ⟨_, rfl, _, _, rfl, rfl, _, rfl, ?_⟩
        by_cases c1 : kd < 5
        · rw [decide_eq_true c1]
          exact iteT ⟨_, rfl, _, rfl, by show 3 ≤ sizeLine; decide, fun t ht => tupQ (.ring now n) H4 t ⟨st, hn⟩ st3 k3 ht⟩
        · rw [decide_eq_false c1]
          exact iteF ⟨rfl, rfl⟩
      · rintro σ' H5 ⟨rfl, rfl⟩
        refine ⟨fun σ' H6 => σ' = [some (.ref s), some (.int now), some (.ref nb), some (.int n), some (.int kd), none, none] ∧ H6 = H5, ?_, ?_⟩
        · refine ⟨_, rfl, _, _, rfl, rfl, _, rfl, ?_⟩
          by_cases c1 : kd < 7
          · rw [decide_eq_true c1]
            refine iteT ⟨_, rfl, _, rfl, _, rfl, by show 2 ≤ sizeLine; decide, fun q2 hq2 => ?_⟩
            obtain ⟨qs2, qc2⟩ := st3.tracked hq2
            refine ⟨s, c, _, rfl, st3.upd qs2 qc2, .inr ⟨q2, _, rfl, upd_same, qs2, qc2, by simp, by simp, fun v hv H6 st6 kpn => ?_⟩⟩
            obtain ⟨z, rfl, hz⟩ : ∃ z : Str, v = .str z ∧ wdS z := by
              simp only [List.mem_cons, List.not_mem_nil, or_false] at hv
              rcases hv with rfl | rfl <;> exact ⟨_, rfl, by simp [wdS]⟩
            have k6 := (k3.trans (Keep.of_same (same_upd hq2))).trans kpn
            exact ⟨by show 4 ≤ sizeLine; decide, fun t ht => tupQ (.ans now n z) H6 t ⟨st, hn, hz⟩ st6 k6 ht⟩
          · rw [decide_eq_false c1]
            exact iteF ⟨rfl, rfl⟩
        · rintro σ' H6 ⟨rfl, rfl⟩
          refine ⟨_, rfl, by show 5 ≤ sizeLine; decide, fun q hq => ?_⟩
          obtain ⟨qs, qc⟩ := st3.tracked hq
          refine ⟨s, c, _, rfl, st3.upd qs qc, .inr ⟨q, _, rfl, upd_same, qs, qc, by simp, by simp, fun v hv H7 st7 kp7 => ?_⟩⟩
          obtain ⟨sd, rfl, hsd⟩ : ∃ n : Int, v = .int n ∧ small n := by
            simp only [List.mem_cons, List.not_mem_nil, or_false] at hv
            rcases hv with rfl | rfl | rfl | rfl | rfl <;> exact ⟨_, rfl, by decide, by decide⟩
          have k7 := (k3.trans (Keep.of_same (same_upd hq))).trans kp7
          clear kp7 hv hq k3 st3 hnb3
          refine ⟨fun σ' H8 => σ' = [some (.ref s), some (.int now), some (.ref nb), some (.int n), some (.int kd), none, some (.int sd)] ∧ H8 = H7, ?_, ?_⟩
          · refine ⟨_, rfl, rfl, _, rfl, ?_⟩
            rw [dec_int]
            cases kd == 7 with
            | true =>
              refine iteT ⟨_, rfl, _, rfl, _, rfl, _, rfl, by show 3 ≤ sizeLine; decide, fun q2 hq2 => ?_⟩
              obtain ⟨qs2, qc2⟩ := st7.tracked hq2
              refine ⟨s, c, _, rfl, st7.upd qs2 qc2, .inr ⟨q2, _, rfl, upd_same, qs2, qc2, by simp, by simp, fun v hv H8 st8 kpn => ?_⟩⟩
              obtain ⟨z, rfl, hz⟩ : ∃ z : Str, v = .str z ∧ wdS z := by
                simp only [List.mem_cons, List.not_mem_nil, or_false] at hv
                rcases hv with rfl | rfl | rfl <;> exact ⟨_, rfl, by simp [wdS]⟩
              have k8 := (k7.trans (Keep.of_same (same_upd hq2))).trans kpn
              exact ⟨by show 5 ≤ sizeLine; decide, fun t ht => tupQ (.turn now n sd z) H8 t ⟨st, hn, hsd, hz⟩ st8 k8 ht⟩
            | false => exact iteF ⟨rfl, rfl⟩
          · rintro σ' H8 ⟨rfl, rfl⟩
            refine ⟨fun σ' H9 => σ' = [some (.ref s), some (.int now), some (.ref nb), some (.int n), some (.int kd), none, some (.int sd)] ∧ H9 = H8, ?_, ?_⟩
            · refine ⟨_, rfl, rfl, _, rfl, ?_⟩
              rw [dec_int]
              cases kd == 8 with
              | true => exact iteT ⟨_, rfl, _, rfl, _, rfl, by show 5 ≤ sizeLine; decide, fun t ht => tupQ (.move now n sd) H8 t ⟨st, hn, hsd⟩ st7 k7 ht⟩
              | false => exact iteF ⟨rfl, rfl⟩
            · rintro σ' H9 ⟨rfl, rfl⟩
              refine ⟨fun σ' Ha => σ' = [some (.ref s), some (.int now), some (.ref nb), some (.int n), some (.int kd), none, some (.int sd)] ∧ Ha = H9, ?_, ?_⟩
              · refine ⟨_, rfl, rfl, _, rfl, ?_⟩
                rw [dec_int]
                cases kd == 9 with
                | true => exact iteT ⟨_, rfl, _, rfl, _, rfl, by show 4 ≤ sizeLine; decide, fun t ht => tupQ (.moved now n sd) H9 t ⟨st, hn, hsd⟩ st7 k7 ht⟩
                | false => exact iteF ⟨rfl, rfl⟩
              · rintro σ' Ha ⟨rfl, rfl⟩
                refine ⟨_, rfl, _, rfl, _, rfl, by show 3 ≤ sizeLine; decide, fun q2 hq2 => ?_⟩
                obtain ⟨qs2, qc2⟩ := st7.tracked hq2
                refine ⟨s, c, _, rfl, st7.upd qs2 qc2, .inr ⟨q2, _, rfl, upd_same, qs2, qc2, by simp, by simp, fun v hv Hb stb kpn => ?_⟩⟩
                obtain ⟨z, rfl, hz⟩ : ∃ z : Str, v = .str z ∧ wdS z := by
                  simp only [List.mem_cons, List.not_mem_nil, or_false] at hv
                  rcases hv with rfl | rfl | rfl <;> exact ⟨_, rfl, by simp [wdS]⟩
                have kb := (k7.trans (Keep.of_same (same_upd hq2))).trans kpn
                exact ⟨by show 4 ≤ sizeLine; decide, fun t ht => tupQ (.fin now n z) Hb t ⟨st, hn, hz⟩ stb kb ht⟩
end K15
set_option maxHeartbeats 1000000
set_option pp.maxSteps 500
namespace K15
open PySem PySem.Spec PyProof.Rows L2 SX TK
open C8 (pe_c)
abbrev Ar : Type := Addr × Cl
def clA (A : List Ar) : List Cl := A.map (·.2)
structure ClAt (H : Hp) (cl : Addr) (A : List Ar) : Prop where
  l : H cl = some (.lst (A.map fun x => V.ref x.1))
  r : ∀ x ∈ A, H x.1 = some (.lst x.2.v)
  n : (A.map (·.1)).Nodup
  d : ∀ x ∈ A, x.1 ≠ cl
theorem ClAt.same {H H' : Hp} {cl : Addr} {A : List Ar} (h : ClAt H cl A) (s : Same H H') : ClAt H' cl A := ⟨s _ _ h.l, fun x hx => s _ _ (h.r x hx), h.n, h.d⟩
theorem getD_clA {A : List Ar} {i : Nat} (h : i < A.length) : (clA A).getD i c0 = A[i].2 := by
  unfold clA
  rw [List.getD_eq_getElem?_getD, List.getElem?_map, List.getElem?_eq_getElem h]
  rfl
theorem at_A {A : List Ar} {i : Int} (h0 : 1 ≤ i) (h1 : i ≤ A.length) : ∃ h : (i - 1).toNat < A.length, atI (A.map fun x => V.ref x.1) (i - 1) = some (.ref A[(i - 1).toNat].1) := by
  refine ⟨by omega, ?_⟩
  rw [atN V.non (by omega) (by rw [List.length_map]; omega), List.getD_eq_getElem?_getD, List.getElem?_map, List.getElem?_eq_getElem (by omega)]
  rfl
def spLSt (K : PySem.W.Frag) : Sp := fun vs H Q _ => ∃ (cl t nw : Addr) (A : List Ar) (e : Ev) (lat : Int), vs = [.ref t, .ref cl, .ref nw] ∧ ClAt H cl A ∧ H t = some (.tup e.v) ∧ H nw = some (.lst [.int lat]) ∧ ∀ H', Same H H' → Q (.bl (if lat ≤ e.now then std (clA A) e else false)) H'
theorem ok_law_stands {P : Program} {w : World} {K : PySem.W.Frag} {mg : Str → Option Value} {base : Heap} {f : Addr} {fd : FuncData} (T : Tx K mg) 
    (F : FunD K "_law_stands" "_law_stands" (defArgs s_law_stands) (defBody s_law_stands) (defScope s_law_stands) [] [] f fd) : FnOk P w K mg base CX0 1 f fd ["event", "calls", "now"] (spLSt K) := by
  refine F.ok sc_law_stands (fun vs H Q E h => ?_) (fun cdv A outer s0 H vs Q E hr h => ?_)
  · obtain ⟨cl, t, nw, A, e, lat, rfl, _⟩ := h
    rfl
  · obtain ⟨cl, t, nw, A, e, lat, rfl, hA, ht, hw, k⟩ := h
    refine ⟨_, PSs.nox (C8.pss_cut (ps_if (pt_cmpR op_lt (pe_ix ix_tup (pv 0) pe_int (fun _ _ => rfl)) (pe_ix ix_list (pv 2) pe_int (fun _ _ => rfl)) (nomark _)) (pss_one (ps_ret pe_bl)) pss_nil) (C8.pss_cut (ps_if (pt_cmpR op_eq (pe_ix ix_tup (pv 0) pe_int (fun _ _ => rfl)) pe_str (nomark _)) (pss_one (ps_ret (pe_cmpR op_eq (pe_ix ix_tup (pv 0) pe_int (fun _ _ => rfl)) (pe_op op_add (pe_callB call_len_seq rfl T.f_len PySem.boot_len (pa_cons (pv 1) pa_nil)) pe_int) (nomark _)))) pss_nil) (C8.pss_cut (ps_if (pt_not (pt_chain op_le op_le pe_int (pe_ix ix_tup (pv 0) pe_int (fun _ _ => rfl)) (pe_callB call_len_seq rfl T.f_len PySem.boot_len (pa_cons (pv 1) pa_nil)))) (pss_one (ps_ret pe_bl)) pss_nil) (pss_cons (ps_set (i := 3) sc_law_stands.nd rfl (Or.inl rfl) (pe_ix ix_list (pv 1) (pe_op op_sub (pe_ix ix_tup (pv 0) pe_int (fun _ _ => rfl)) pe_int) (fun _ _ => rfl))) (C8.pss_cut (ps_if (pt_cmpR op_notN (pe_ix ix_list (pv 3) pe_int (fun _ _ => rfl)) pe_non (nomark _)) (pss_one (ps_ret pe_bl)) pss_nil) (C8.pss_cut (ps_if (pt_cmpR op_eq (pe_ix ix_tup (pv 0) pe_int (fun _ _ => rfl)) pe_str (nomark _)) (pss_one (ps_ret (pe_and (pe_cmpR op_isN (pe_ix ix_list (pv 3) pe_int (fun _ _ => rfl)) pe_non (nomark _)) (pe_one (pe_cmpR op_isN (pe_ix ix_list (pv 3) pe_int (fun _ _ => rfl)) pe_non (nomark _)))))) pss_nil) (C8.pss_cut (ps_if (pt_cmpR op_eq (pe_ix ix_tup (pv 0) pe_int (fun _ _ => rfl)) pe_str (nomark _)) (pss_one (ps_ret (pe_cmpR op_isN (pe_ix ix_list (pv 3) pe_int (fun _ _ => rfl)) pe_non (nomark _)))) pss_nil) (pss_one (ps_ret (pe_or (pe_cmpR op_eq (pe_ix ix_tup (pv 0) pe_int (fun _ _ => rfl)) pe_str (nomark _)) (pe_one (pe_and (pe_cmpR op_notN (pe_ix ix_list (pv 3) pe_int (fun _ _ => rfl)) pe_non (nomark _)) (pe_one (pe_cmpR op_in_seq (pe_ix ix_tup (pv 0) pe_int (fun _ _ => rfl)) (pe_lst (pa_cons pe_int (pa_cons pe_int pa_nil))) (by with_unfolding_all rfl))))))))))))))), ?_⟩
    have ll : (clA A).length = A.length := List.length_map ..
    refine ⟨fun σ' H' => lat ≤ e.now ∧ σ' = [some (.ref t), some (.ref cl), some (.ref nw), none] ∧ H' = H, ?_, ?_⟩
    · refine ⟨_, rfl, t, _, 1, _, rfl, rfl, SqT.of ht, at_1 e, _, rfl, nw, _, 0, _, rfl, rfl, SqL.of hw, rfl, _, _, rfl, rfl, _, rfl, ?_⟩
      by_cases c1 : lat ≤ e.now
      · rw [decide_eq_false (by omega)]
        exact iteF ⟨c1, rfl, rfl⟩
      · rw [decide_eq_true (by omega)]
        have q := k H fun _ _ e => e
        rw [if_neg c1] at q
        exact iteT q
    · rintro σ' H' ⟨c1, rfl, rfl⟩
      rw [if_pos c1] at k
      refine ⟨fun σ' H2 => e.nm ≠ "begin" ∧ σ' = [some (.ref t), some (.ref cl), some (.ref nw), none] ∧ H2 = H', ?_, ?_⟩
      · refine ⟨_, rfl, t, _, 0, _, rfl, rfl, SqT.of ht, at_0 e, rfl, _, rfl, ?_⟩
        by_cases h : e.nm = "begin"
        · rw [str_eq h]
          refine iteT ⟨_, rfl, t, _, 2, _, rfl, rfl, SqT.of ht, at_2 e, _, rfl, cl, _, rfl, .inl (SqL.of hA.l), _, _, rfl, rfl, rfl, ?_⟩
          have q := k H' fun _ _ e => e
          unfold std at q
          rw [if_pos h, ll] at q
          rw [dec_int, List.length_map]
          exact q
        · rw [str_ne h]
          exact iteF ⟨h, rfl, rfl⟩
      · rintro σ' H2 ⟨h, rfl, rfl⟩
        have kN : ∀ H3, Same H2 H3 → ∀ b, stdN (clA A) e = b → Q (.bl b) H3 := fun H3 s b z => by
          have q := k H3 s
          unfold std at q
          rw [if_neg h, z] at q
          exact q
        refine ⟨fun σ' H3 => (1 ≤ e.n ∧ e.n ≤ A.length) ∧ σ' = [some (.ref t), some (.ref cl), some (.ref nw), none] ∧ H3 = H2, ?_, ?_⟩
        · have no : ¬ (1 ≤ e.n ∧ e.n ≤ A.length) → Q (.bl false) H2 := fun z => kN _ (fun _ _ e => e) _ (by unfold stdN; rw [ll, if_neg z])
          refine ⟨_, rfl, t, _, 2, _, rfl, rfl, SqT.of ht, at_2 e, _, _, rfl, rfl, _, rfl, ?_⟩
          by_cases d1 : 1 ≤ e.n
          · rw [decide_eq_true d1]
            refine iteT ⟨_, rfl, cl, _, rfl, .inl (SqL.of hA.l), _, _, rfl, rfl, _, rfl, ?_⟩
            rw [List.length_map]
            by_cases d2 : e.n ≤ A.length
            · rw [decide_eq_true d2]
              exact iteF ⟨⟨d1, d2⟩, rfl, rfl⟩
            · rw [decide_eq_false d2]
              exact iteT (no fun z => d2 z.2)
          · rw [decide_eq_false d1]
            exact iteF ⟨_, rfl, iteT (no fun z => d1 z.1)⟩
        · rintro σ' H3 ⟨⟨d1, d2⟩, rfl, rfl⟩
          obtain ⟨hi, ea⟩ := at_A d1 d2
          have eS : stdN (clA A) e = alw A[(e.n - 1).toNat].2 e := by unfold stdN; rw [ll, if_pos ⟨d1, d2⟩, getD_clA hi]
          have hp := hA.r _ (List.getElem_mem hi)
          generalize A[(e.n - 1).toNat] = x at *
          obtain ⟨p, c⟩ := x
          dsimp only at *
          rw [eS] at kN
          refine ⟨_, rfl, _, rfl, t, _, 2, _, rfl, rfl, SqT.of ht, at_2 e, _, _, rfl, rfl, cl, _, _, _, rfl, rfl, SqL.of hA.l, ea, ?_⟩
          refine ⟨fun σ' H4 => c.ended = none ∧ σ' = [some (.ref t), some (.ref cl), some (.ref nw), some (.ref p)] ∧ H4 = H3, ?_, ?_⟩
          · refine ⟨_, rfl, p, _, 6, oI c.ended, rfl, rfl, SqL.of hp, rfl, rfl, _, rfl, ?_⟩
            rw [dn_I]
            cases ce : c.ended with
            | none => exact iteF ⟨rfl, rfl, rfl⟩
            | some i => exact iteT (kN _ (fun _ _ e => e) _ (by unfold alw; rw [if_pos (by rw [ce]; rfl)]))
          · rintro σ' H4 ⟨ce, rfl, rfl⟩
            have eA : alw c e = alw2 c e := by unfold alw; rw [if_neg (by rw [ce]; decide)]
            rw [eA] at kN
            refine ⟨fun σ' H5 => e.nm ≠ "ring" ∧ σ' = [some (.ref t), some (.ref cl), some (.ref nw), some (.ref p)] ∧ H5 = H4, ?_, ?_⟩
            · refine ⟨_, rfl, t, _, 0, _, rfl, rfl, SqT.of ht, at_0 e, rfl, _, rfl, ?_⟩
              by_cases g : e.nm = "ring"
              · rw [str_eq g]
                obtain ⟨tt, n, rfl⟩ := nm_ring g
                refine iteT ⟨_, rfl, p, _, 4, oI c.rang, rfl, rfl, SqL.of hp, rfl, rfl, _, rfl, ?_⟩
                rw [dn_I]
                cases cr : c.rang.isNone with
                | true =>
                  refine iteT ⟨_, rfl, p, _, 5, oI c.ans, rfl, rfl, SqL.of hp, rfl, rfl, ?_⟩
                  rw [dn_I]
                  exact kN _ (fun _ _ e => e) _ (by show (c.rang.isNone && c.ans.isNone) = _; rw [cr]; rfl)
                | false => exact iteF (kN _ (fun _ _ e => e) _ (by show (c.rang.isNone && c.ans.isNone) = _; rw [cr]; rfl))
              · rw [str_ne g]
                exact iteF ⟨g, rfl, rfl⟩
            · rintro σ' H5 ⟨g1, rfl, rfl⟩
              refine ⟨fun σ' H6 => e.nm ≠ "answer" ∧ σ' = [some (.ref t), some (.ref cl), some (.ref nw), some (.ref p)] ∧ H6 = H5, ?_, ?_⟩
              · refine ⟨_, rfl, t, _, 0, _, rfl, rfl, SqT.of ht, at_0 e, rfl, _, rfl, ?_⟩
                by_cases g : e.nm = "answer"
                · rw [str_eq g]
                  obtain ⟨tt, n, pp, rfl⟩ := nm_ans g
                  refine iteT ⟨_, rfl, p, _, 5, oI c.ans, rfl, rfl, SqL.of hp, rfl, rfl, ?_⟩
                  rw [dn_I]
                  exact kN _ (fun _ _ e => e) _ rfl
                · rw [str_ne g]
                  exact iteF ⟨g, rfl, rfl⟩
              · rintro σ' H6 ⟨g2, rfl, rfl⟩
                refine ⟨_, rfl, t, _, 0, _, rfl, rfl, SqT.of ht, at_0 e, rfl, _, rfl, ?_⟩
                by_cases g : e.nm = "end"
                · rw [str_eq g]
                  obtain ⟨tt, n, w1, rfl⟩ := nm_fin g
                  exact iteT (kN _ (fun _ _ e => e) _ rfl)
                · rw [str_ne g]
                  have hside : ∃ s : Int, atI e.v 3 = some (.int s) ∧ alw2 c e = (c.ans.isSome && (s == 0 || s == 1)) := by
                    cases e with
                    | bgn => exact absurd rfl h
                    | ring => exact absurd rfl g1
                    | ans => exact absurd rfl g2
                    | fin => exact absurd rfl g
                    | turn t n s m => exact ⟨s, rfl, rfl⟩
                    | move t n s => exact ⟨s, rfl, rfl⟩
                    | moved t n s => exact ⟨s, rfl, rfl⟩
                  obtain ⟨s, hs, e7⟩ := hside
                  refine iteF ⟨_, rfl, p, _, 5, oI c.ans, rfl, rfl, SqL.of hp, rfl, rfl, _, rfl, ?_⟩
                  rw [dn_I]
                  cases cr : c.ans with
                  | none => exact iteF (kN _ (fun _ _ e => e) _ (by rw [e7, cr]; rfl))
                  | some i =>
                    refine iteT ⟨_, rfl, t, _, 3, _, rfl, rfl, SqT.of ht, hs, by show 2 ≤ sizeLine; decide, fun b hb => ⟨b, [.int 0, .int 1], rfl, .inl (SqL.of upd_same), rfl, by decide +kernel, ?_⟩⟩
                    show Q (.bl (inV (.int s) [.int 0, .int 1])) _
                    rw [in_01]
                    exact kN _ (same_upd hb) _ (by rw [e7, cr]; rfl)
end K15
set_option maxHeartbeats 1000000
set_option pp.maxSteps 500
namespace K15
open PySem PySem.Spec PyProof.Rows L2 SX TK
open C8 (pe_c)
def spLAp (K : PySem.W.Frag) : Sp := fun vs H Q _ => ∃ (cl t nw : Addr) (A : List Ar) (e : Ev) (lat : Int), vs = [.ref t, .ref cl, .ref nw] ∧ ClAt H cl A ∧ H t = some (.tup e.v) ∧ H nw = some (.lst [.int lat]) ∧ std (clA A) e = true ∧ nw ≠ cl ∧ (∀ x ∈ A, x.1 ≠ nw) ∧ A.length ≤ 1000 ∧
  ∀ A' H', ClAt H' cl A' → clA A' = app (clA A) e → H' nw = some (.lst [.int e.now]) → (∀ b o, H b = some o → b ≠ cl → b ≠ nw → (∀ x ∈ A, b ≠ x.1) → H' b = some o) → (∀ x ∈ A', x.1 ∈ A.map (·.1) ∨ H x.1 = none) → Q .non H'
theorem ok_law_apply {P : Program} {w : World} {K : PySem.W.Frag} {mg : Str → Option Value} {base : Heap} {f : Addr} {fd : FuncData} (T : Tx K mg) 
    (F : FunD K "_law_apply" "_law_apply" (defArgs s_law_apply) (defBody s_law_apply) (defScope s_law_apply) [] [] f fd) : FnOk P w K mg base CX0 1 f fd ["event", "calls", "now"] (spLAp K) := by
  refine F.ok sc_law_apply (fun vs H Q E h => ?_) (fun cdv A outer s0 H vs Q E hr h => ?_)
  · obtain ⟨cl, t, nw, A, e, lat, rfl, _⟩ := h
    rfl
  · obtain ⟨cl, t, nw, A, e, lat, rfl, hA0, ht0, hw, hs, nc, nA, hz, k0⟩ := h
    refine ⟨_, PSs.nox (pss_cons (ps_asg (pe_ix ix_tup (pv 0) pe_int (fun _ _ => rfl)) (pg_sub (pv 2) pe_int set_list)) (C8.pss_cut (ps_if (pt_cmpR op_eq (pe_ix ix_tup (pv 0) pe_int (fun _ _ => rfl)) pe_str (nomark _)) (pss_cons (ps_expr (pe_bm PySem.F.plainAttrs_list PySem.F.slot_list_append PySem.F.type_list_append mt_append (pv 1) (pa_cons (pe_lst (pa_cons (pe_ix ix_tup (pv 0) pe_int (fun _ _ => rfl)) (pa_cons (pe_ix ix_tup (pv 0) pe_int (fun _ _ => rfl)) (pa_cons (pe_ix ix_tup (pv 0) pe_int (fun _ _ => rfl)) (pa_cons (pe_ix ix_tup (pv 0) pe_int (fun _ _ => rfl)) (pa_cons pe_non (pa_cons pe_non (pa_cons pe_non (pa_cons pe_non (pa_cons pe_str (pa_cons pe_str (pa_cons pe_int pa_nil)))))))))))) pa_nil))) (pss_one ps_retN)) pss_nil) (pss_cons (ps_set (i := 3) sc_law_apply.nd rfl (Or.inl rfl) (pe_ix ix_list (pv 1) (pe_op op_sub (pe_ix ix_tup (pv 0) pe_int (fun _ _ => rfl)) pe_int) (fun _ _ => rfl))) (pss_one (ps_if (pt_cmpR op_eq (pe_ix ix_tup (pv 0) pe_int (fun _ _ => rfl)) pe_str (nomark _)) (pss_one (ps_asg (pe_ix ix_tup (pv 0) pe_int (fun _ _ => rfl)) (pg_sub (pv 3) pe_int set_list))) (pss_one (ps_if (pt_cmpR op_eq (pe_ix ix_tup (pv 0) pe_int (fun _ _ => rfl)) pe_str (nomark _)) (pss_one (ps_asg (pe_ix ix_tup (pv 0) pe_int (fun _ _ => rfl)) (pg_sub (pv 3) pe_int set_list))) (pss_one (ps_if (pt_cmpR op_eq (pe_ix ix_tup (pv 0) pe_int (fun _ _ => rfl)) pe_str (nomark _)) (pss_cons (ps_asg (pe_ix ix_tup (pv 0) pe_int (fun _ _ => rfl)) (pg_sub (pv 3) pe_int set_list)) (pss_one (ps_asg (pe_ix ix_tup (pv 0) pe_int (fun _ _ => rfl)) (pg_sub (pv 3) pe_int set_list)))) (pss_one (ps_if (pt_cmpR op_eq (pe_ix ix_tup (pv 0) pe_int (fun _ _ => rfl)) pe_str (nomark _)) (pss_one (ps_asg (pe_ix ix_tup (pv 0) pe_int (fun _ _ => rfl)) (pg_sub (pv 3) (pe_op op_add pe_int (pe_ix ix_tup (pv 0) pe_int (fun _ _ => rfl))) set_list))) (pss_one (ps_if (pt_cmpR op_eq (pe_ix ix_tup (pv 0) pe_int (fun _ _ => rfl)) pe_str (nomark _)) (pss_cons (ps_asg pe_str (pg_sub (pv 3) pe_int set_list)) (pss_cons (ps_asg pe_str (pg_sub (pv 3) pe_int set_list)) (pss_one (ps_asg (pe_op op_add (pe_ix ix_list (pv 3) pe_int (fun _ _ => rfl)) pe_int) (pg_sub (pv 3) pe_int set_list))))) pss_nil))))))))))))), ?_⟩
    refine ⟨_, rfl, t, _, 1, _, rfl, rfl, SqT.of ht0, at_1 e, _, rfl, nw, _, 0, 0, rfl, rfl, hw, rfl, ?_⟩
    have fr0 : ∀ {b o}, H b = some o → b ≠ nw → (upd H nw (.lst [.int e.now])) b = some o := fun eb nb => (upd_ne nb).trans eb
    have hA : ClAt (upd H nw (.lst [.int e.now])) cl A := ⟨fr0 hA0.l nc.symm, fun x hx => fr0 (hA0.r x hx) (nA x hx), hA0.n, hA0.d⟩
    have ht := fr0 ht0 (ne_of ht0 hw (by intro z; cases z))
    have hnw : (upd H nw (.lst [.int e.now])) nw = some (.lst [.int e.now]) := upd_same
    have bk : ∀ {b}, (upd H nw (.lst [.int e.now])) b = none → H b = none := fun {b} z => by
      cases eq : H b with
      | none => rfl
      | some o =>
        by_cases q : b = nw
        · rw [q, upd_same] at z; cases z
        · rw [upd_ne q, eq] at z; cases z
    have k : ∀ A' H', ClAt H' cl A' → clA A' = app (clA A) e → H' nw = some (.lst [.int e.now]) → (∀ b o, (upd H nw (.lst [.int e.now])) b = some o → b ≠ cl → b ≠ nw → (∀ x ∈ A, b ≠ x.1) → H' b = some o) → (∀ x ∈ A', x.1 ∈ A.map (·.1) ∨ (upd H nw (.lst [.int e.now])) x.1 = none) → Q .non H' := fun A' H' q1 q2 q3 q4 q5 =>
      k0 A' H' q1 q2 q3 (fun b o eb b1 b2 b3 => q4 b o (fr0 eb b2) b1 b2 b3) fun x hx => (q5 x hx).imp id bk
    change C8.tCut _ _ _ _ (upd H nw (.lst [.int e.now]))
    clear k0 bk fr0 hA0 ht0 hw
    generalize upd H nw (.lst [.int e.now]) = H1 at *
    refine ⟨fun σ' H2 => e.nm ≠ "begin" ∧ σ' = [some (.ref t), some (.ref cl), some (.ref nw), none] ∧ H2 = H1, ?_, ?_⟩
    · refine ⟨_, rfl, t, _, 0, _, rfl, rfl, SqT.of ht, at_0 e, rfl, _, rfl, ?_⟩
      by_cases h : e.nm = "begin"
      · rw [str_eq h]
        obtain ⟨now, n, w, rfl⟩ := nm_bgn h
        refine iteT ⟨_, rfl, .inl ⟨rfl, _, SqL.of hA.l⟩, _, rfl, t, _, 2, .int n, rfl, rfl, SqT.of ht, rfl, _, rfl, t, _, 3, .str "ann@x", rfl, rfl, SqT.of ht, rfl, _, rfl, t, _, 4, .str w, rfl, rfl, SqT.of ht, rfl, _, rfl, t, _, 1, .int now, rfl, rfl, SqT.of ht, rfl, by show 11 ≤ sizeLine; decide, fun x hx => ⟨cl, _, _, rfl, rfl, (same_upd hx) _ _ hA.l, ?_, ?_⟩⟩
        · rw [List.length_map, sizeLine_eq]
          omega
        have sx := same_upd (o := .lst (mkC now n w).v) hx
        have xcl : x ≠ cl := (ne_of_none hA.l hx).symm
        refine k (A ++ [(x, mkC now n w)]) _ ⟨?_, fun y hy => ?_, ?_, fun y hy => ?_⟩ ?_ ?_ (fun b o eb n1 _ _ => (upd_ne n1).trans (sx _ _ eb)) fun y hy => ?_
        · rw [upd_same, List.map_append]
          rfl
        · rcases List.mem_append.mp hy with z | z
          · exact (upd_ne (hA.d y z)).trans (sx _ _ (hA.r y z))
          · rw [List.mem_singleton.mp z]
            exact (upd_ne xcl).trans upd_same
        · rw [List.map_append, List.nodup_append]
          refine ⟨hA.n, by simp, fun a ha b hb => ?_⟩
          obtain ⟨y, hy, rfl⟩ := List.mem_map.mp ha
          have : b = x := by simpa using hb
          rw [this]
          exact ne_of_none (hA.r y hy) hx
        · rcases List.mem_append.mp hy with z | z
          · exact hA.d y z
          · rw [List.mem_singleton.mp z]
            exact xcl
        · show List.map _ _ = _
          rw [List.map_append]
          rfl
        · exact (upd_ne nc).trans (sx _ _ hnw)
        · rcases List.mem_append.mp hy with z | z
          · exact .inl (List.mem_map.mpr ⟨y, z, rfl⟩)
          · rw [List.mem_singleton.mp z]
            exact .inr hx
      · rw [str_ne h]
        exact iteF ⟨h, rfl, rfl⟩
    · rintro σ' H2 ⟨h, rfl, rfl⟩
      have hs' : stdN (clA A) e = true := by
        unfold std at hs
        rw [if_neg h] at hs
        exact hs
      have ll : (clA A).length = A.length := List.length_map ..
      unfold stdN at hs'
      by_cases cc : 1 ≤ e.n ∧ e.n ≤ (clA A).length
      · rw [if_pos cc] at hs'
        rw [ll] at cc
        obtain ⟨hi, ea⟩ := at_A cc.1 cc.2
        have ae := app_ne (cs := clA A) h
        rw [getD_clA hi] at hs' ae
        generalize hii : (e.n - 1).toNat = i at *
        have hp := hA.r _ (List.getElem_mem hi)
        have pcl := hA.d _ (List.getElem_mem hi)
        have pnw := nA _ (List.getElem_mem hi)
        generalize hx : A[i] = x at *
        obtain ⟨p, c⟩ := x
        dsimp only at *
        have don : ∀ H3, H3 p = some (.lst (takeC c e).v) → (∀ b o, H2 b = some o → b ≠ p → H3 b = some o) → Q .non H3 := fun H3 h3 fr => by
          have oth : ∀ (j : Nat) (hj : j < A.length), j ≠ i → A[j].1 ≠ p := fun j hj hne => by
            have a1 := List.pairwise_iff_getElem.mp hA.n
            have b1 : ∀ m (hm : m < A.length), (A.map (·.1))[m]'(by rw [List.length_map]; exact hm) = A[m].1 := fun m hm => List.getElem_map ..
            have pi : A[i].1 = p := by rw [hx]
            rcases Nat.lt_or_gt_of_ne hne with z | z
            · have c1 := a1 j i (by rw [List.length_map]; exact hj) (by rw [List.length_map]; exact hi) z
              rw [b1 j hj, b1 i hi, pi] at c1
              exact c1
            · have c1 := a1 i j (by rw [List.length_map]; exact hi) (by rw [List.length_map]; exact hj) z
              rw [b1 j hj, b1 i hi, pi] at c1
              exact c1.symm
          have el : ∀ y ∈ A.set i (p, takeC c e), y = (p, takeC c e) ∨ ∃ (j : Nat) (hj : j < A.length), j ≠ i ∧ y = A[j] := fun y hy => by
            obtain ⟨j, hj, rfl⟩ := List.mem_iff_getElem.mp hy
            rw [List.length_set] at hj
            rw [List.getElem_set]
            by_cases e1 : i = j
            · rw [if_pos e1]
              exact .inl rfl
            · rw [if_neg e1]
              exact .inr ⟨j, hj, fun z => e1 z.symm, rfl⟩
          have m1 : (A.set i (p, takeC c e)).map (·.1) = A.map (·.1) := map_set_same (fun x : Ar => x.1) (x := (p, takeC c e)) hi (by rw [hx])
          refine k (A.set i (p, takeC c e)) H3 ⟨?_, fun y hy => ?_, by rw [m1]; exact hA.n, fun y hy => ?_⟩ ?_ (fr _ _ hnw pnw.symm) (fun b o eb _ _ nx => ?_) fun y hy => ?_
          · rw [fr _ _ hA.l pcl.symm]
            congr 2
            exact (map_set_same (fun x : Ar => V.ref x.1) (x := (p, takeC c e)) hi (by rw [hx])).symm
          · rcases el y hy with rfl | ⟨j, hj, hne, rfl⟩
            · exact h3
            · exact fr _ _ (hA.r _ (List.getElem_mem hj)) (oth j hj hne)
          · rcases el y hy with rfl | ⟨j, hj, hne, rfl⟩
            · exact pcl
            · exact hA.d _ (List.getElem_mem hj)
          · rw [ae]
            unfold clA
            rw [List.map_set]
          · have := nx _ (List.getElem_mem hi)
            rw [hx] at this
            exact fr b o eb this
          · rcases el y hy with rfl | ⟨j, hj, hne, rfl⟩
            · exact .inl (List.mem_map.mpr ⟨A[i], List.getElem_mem hi, by rw [hx]⟩)
            · exact .inl (List.mem_map.mpr ⟨_, List.getElem_mem hj, rfl⟩)
        have pt : t ≠ p := ne_of ht hp (by intro z; cases z)
        refine ⟨_, rfl, _, rfl, t, _, 2, _, rfl, rfl, SqT.of ht, at_2 e, _, _, rfl, rfl, cl, _, _, _, rfl, rfl, SqL.of hA.l, ea, ?_⟩
        refine ⟨_, rfl, t, _, 0, _, rfl, rfl, SqT.of ht, at_0 e, rfl, _, rfl, ?_⟩
        clear k
        cases e with
        | bgn now n w => exact absurd rfl h
        | ring now n =>
          rw [str_eq (a := (Ev.ring now n).nm) (b := "ring") rfl]
          exact iteT ⟨_, rfl, t, _, 1, .int now, rfl, rfl, SqT.of ht, rfl, _, rfl, p, _, 4, 4, rfl, rfl, hp, rfl, don _ (by rw [upd_same]; rfl) (fun b o eb nb => (upd_ne nb).trans eb)⟩
        | ans now n w =>
          rw [str_ne (a := (Ev.ans now n w).nm) (b := "ring") (by dsimp only [Ev.nm]; decide +kernel)]
          refine iteF ⟨_, rfl, t, _, 0, _, rfl, rfl, SqT.of ht, at_0 _, rfl, _, rfl, ?_⟩
          rw [str_eq (a := (Ev.ans now n w).nm) (b := "answer") rfl]
          exact iteT ⟨_, rfl, t, _, 1, .int now, rfl, rfl, SqT.of ht, rfl, _, rfl, p, _, 5, 5, rfl, rfl, hp, rfl, don _ (by rw [upd_same]; rfl) (fun b o eb nb => (upd_ne nb).trans eb)⟩
        | turn now n s m =>
          rw [str_ne (a := (Ev.turn now n s m).nm) (b := "ring") (by dsimp only [Ev.nm]; decide +kernel)]
          refine iteF ⟨_, rfl, t, _, 0, _, rfl, rfl, SqT.of ht, at_0 _, rfl, _, rfl, ?_⟩
          rw [str_ne (a := (Ev.turn now n s m).nm) (b := "answer") (by dsimp only [Ev.nm]; decide +kernel)]
          refine iteF ⟨_, rfl, t, _, 0, _, rfl, rfl, SqT.of ht, at_0 _, rfl, _, rfl, ?_⟩
          rw [str_ne (a := (Ev.turn now n s m).nm) (b := "end") (by dsimp only [Ev.nm]; decide +kernel)]
          refine iteF ⟨_, rfl, t, _, 0, _, rfl, rfl, SqT.of ht, at_0 _, rfl, _, rfl, ?_⟩
          rw [str_eq (a := (Ev.turn now n s m).nm) (b := "turn") rfl]
          have hs : s = 0 ∨ s = 1 := by
            unfold alw alw2 at hs'
            split at hs'
            · cases hs'
            · simp only [Bool.and_eq_true, Bool.or_eq_true, beq_iff_eq] at hs'
              exact hs'.2
          refine iteT ⟨_, rfl, t, _, 4, .str m, rfl, rfl, SqT.of ht, rfl, _, rfl, _, rfl, t, _, 3, .int s, rfl, rfl, SqT.of ht, rfl, _, _, rfl, rfl, ?_⟩
          rcases hs with rfl | rfl
          · exact ⟨p, _, 8, 8, rfl, rfl, hp, rfl, don _ (by rw [upd_same]; rfl) (fun b o eb nb => (upd_ne nb).trans eb)⟩
          · exact ⟨p, _, 9, 9, rfl, rfl, hp, rfl, don _ (by rw [upd_same]; rfl) (fun b o eb nb => (upd_ne nb).trans eb)⟩
        | move now n s =>
          rw [str_ne (a := (Ev.move now n s).nm) (b := "ring") (by dsimp only [Ev.nm]; decide +kernel)]
          refine iteF ⟨_, rfl, t, _, 0, _, rfl, rfl, SqT.of ht, at_0 _, rfl, _, rfl, ?_⟩
          rw [str_ne (a := (Ev.move now n s).nm) (b := "answer") (by dsimp only [Ev.nm]; decide +kernel)]
          refine iteF ⟨_, rfl, t, _, 0, _, rfl, rfl, SqT.of ht, at_0 _, rfl, _, rfl, ?_⟩
          rw [str_ne (a := (Ev.move now n s).nm) (b := "end") (by dsimp only [Ev.nm]; decide +kernel)]
          refine iteF ⟨_, rfl, t, _, 0, _, rfl, rfl, SqT.of ht, at_0 _, rfl, _, rfl, ?_⟩
          rw [str_ne (a := (Ev.move now n s).nm) (b := "turn") (by dsimp only [Ev.nm]; decide +kernel)]
          refine iteF ⟨_, rfl, t, _, 0, _, rfl, rfl, SqT.of ht, at_0 _, rfl, _, rfl, ?_⟩
          rw [str_ne (a := (Ev.move now n s).nm) (b := "moved") (by dsimp only [Ev.nm]; decide +kernel)]
          exact iteF (don _ hp fun b o eb _ => eb)
        | moved now n s =>
          rw [str_ne (a := (Ev.moved now n s).nm) (b := "ring") (by dsimp only [Ev.nm]; decide +kernel)]
          refine iteF ⟨_, rfl, t, _, 0, _, rfl, rfl, SqT.of ht, at_0 _, rfl, _, rfl, ?_⟩
          rw [str_ne (a := (Ev.moved now n s).nm) (b := "answer") (by dsimp only [Ev.nm]; decide +kernel)]
          refine iteF ⟨_, rfl, t, _, 0, _, rfl, rfl, SqT.of ht, at_0 _, rfl, _, rfl, ?_⟩
          rw [str_ne (a := (Ev.moved now n s).nm) (b := "end") (by dsimp only [Ev.nm]; decide +kernel)]
          refine iteF ⟨_, rfl, t, _, 0, _, rfl, rfl, SqT.of ht, at_0 _, rfl, _, rfl, ?_⟩
          rw [str_ne (a := (Ev.moved now n s).nm) (b := "turn") (by dsimp only [Ev.nm]; decide +kernel)]
          refine iteF ⟨_, rfl, t, _, 0, _, rfl, rfl, SqT.of ht, at_0 _, rfl, _, rfl, ?_⟩
          rw [str_eq (a := (Ev.moved now n s).nm) (b := "moved") rfl]
          refine iteT ⟨_, rfl, p, _, 8, 8, rfl, rfl, hp, rfl, _, rfl, p, _, 9, 9, rfl, rfl, upd_same, rfl, ?_⟩
          rw [upd_upd]
          refine ⟨_, rfl, p, _, 10, .int c.mv, rfl, rfl, SqL.of upd_same, rfl, _, _, rfl, rfl, _, rfl, p, _, 10, 10, rfl, rfl, upd_same, rfl, ?_⟩
          rw [upd_upd]
          exact don _ (by rw [upd_same]; rfl) (fun b o eb nb => (upd_ne nb).trans eb)
        | fin now n w =>
          rw [str_ne (a := (Ev.fin now n w).nm) (b := "ring") (by dsimp only [Ev.nm]; decide +kernel)]
          refine iteF ⟨_, rfl, t, _, 0, _, rfl, rfl, SqT.of ht, at_0 _, rfl, _, rfl, ?_⟩
          rw [str_ne (a := (Ev.fin now n w).nm) (b := "answer") (by dsimp only [Ev.nm]; decide +kernel)]
          refine iteF ⟨_, rfl, t, _, 0, _, rfl, rfl, SqT.of ht, at_0 _, rfl, _, rfl, ?_⟩
          rw [str_eq (a := (Ev.fin now n w).nm) (b := "end") rfl]
          refine iteT ⟨_, rfl, t, _, 1, .int now, rfl, rfl, SqT.of ht, rfl, _, rfl, p, _, 6, 6, rfl, rfl, hp, rfl, _, rfl, t, _, 3, .str w, rfl, rfl, SqT.of ((upd_ne pt).trans ht), rfl, _, rfl, p, _, 7, 7, rfl, rfl, upd_same, rfl, ?_⟩
          rw [upd_upd]
          exact don _ (by rw [upd_same]; rfl) (fun b o eb nb => (upd_ne nb).trans eb)
      · rw [if_neg cc] at hs'
        cases hs'
end K15
set_option maxHeartbeats 1000000
set_option pp.maxSteps 500
namespace K15
open PySem PySem.Spec PyProof.Rows L2 SX TK
open C8 (pe_c)
def vD : V → PyData
  | .int i => .int i
  | .str z => .str z
  | .bl b => .bool b
  | _ => .none
def okV : V → Prop
  | .non => True
  | .int i => small i
  | .str z => PyData.strOk z = true ∧ z.length ≤ 30
  | _ => False
def tupD (b : List V) : PyData := .tuple (b.map vD)
def rowsD (bs : List (List V)) : PyData := .list (bs.map tupD)
structure FlatD (d : PyData) : Prop where
  c : d.canLay0 = true
  w : d.weight ≤ 40
  i : d.intsShort 13 = true
  s : d.showable = true
  h : d.hasDict = false
  p : d.depth ≤ 0
theorem okV.flat {v : V} (h : okV v) : FlatD (vD v) := by
  cases v with
  | non => exact ⟨by simp [vD, PyData.canLay0], by simp [vD, PyData.weight], by simp [vD, PyData.intsShort], by simp [vD, PyData.showable], by simp [vD, PyData.hasDict], by simp [vD, PyData.depth]⟩
  | int i =>
    have hi : small i := h
    have hn : i.natAbs < 1000000 := by unfold small at hi; omega
    have hl : i.natAbs.log2 < 21 := by
      by_cases z : i.natAbs = 0
      · rw [z]; decide
      · exact (Nat.log2_lt z).mpr (by omega)
    refine ⟨by simp [vD, PyData.canLay0], ?_, ?_, by simp only [vD, PyData.showable]; exact decide_eq_true (by omega), by simp [vD, PyData.hasDict], by simp [vD, PyData.depth]⟩
    · simp only [vD, PyData.weight]
      split
      · omega
      · omega
    · simp only [vD, PyData.intsShort]
      refine decide_eq_true ?_
      have := numS_len (i := i) (by omega)
      rw [PyData.shown_int]
      unfold numS at this
      omega
  | str z =>
    have hz : PyData.strOk z = true ∧ z.length ≤ 30 := h
    refine ⟨by simp [vD, PyData.canLay0, hz.1], ?_, by simp [vD, PyData.intsShort], by simp [vD, PyData.showable], by simp [vD, PyData.hasDict], by simp [vD, PyData.depth]⟩
    simp only [vD, PyData.weight]
    have : z.cps.size = z.length := rfl
    omega
  | _ => exact h.elim
theorem dp_v {K : PySem.W.Frag} {H : Hp} {v : V} (h : okV v) : Dp K H v (vD v) := by
  cases v with
  | non => exact .non
  | int i => exact .int i
  | str z => exact .str z
  | _ => exact h.elim
theorem dp_vs {K : PySem.W.Frag} {H : Hp} : ∀ {b : List V}, (∀ v ∈ b, okV v) → DpAll K H b (b.map vD)
  | [], _ => .nil
  | v :: r, h => .cons (dp_v (h v (List.mem_cons_self ..))) (dp_vs fun x hx => h x (List.mem_cons_of_mem _ hx))
theorem dp_rows {K : PySem.W.Frag} {H : Hp} : ∀ {ts : List Addr} {bs : List (List V)}, TsAt H ts bs → (∀ b ∈ bs, ∀ v ∈ b, okV v) → DpAll K H (ts.map V.ref) (bs.map tupD)
  | [], [], _, _ => .nil
  | t :: ts, b :: bs, h, hb => .cons (.tup (SqT.of h.1) (dp_vs (hb b (List.mem_cons_self ..)))) (dp_rows h.2 fun x hx => hb x (List.mem_cons_of_mem _ hx))
  | [], _ :: _, h, _ => h.elim
  | _ :: _, [], h, _ => h.elim
theorem rowsD_dp {K : PySem.W.Frag} {H : Hp} {a : Addr} {ts : List Addr} {bs : List (List V)} (e : H a = some (.lst (ts.map V.ref))) (h : TsAt H ts bs) (hb : ∀ b ∈ bs, ∀ v ∈ b, okV v) : Dp K H (.ref a) (rowsD bs) := .lst (SqL.of e) (dp_rows h hb)
theorem flats : ∀ {b : List V}, (∀ v ∈ b, okV v) → PyData.canLayAll0 (b.map vD) = true ∧ PyData.weightAll (b.map vD) ≤ 41 * b.length ∧ PyData.intsShortAll 13 (b.map vD) = true ∧ PyData.showableAll (b.map vD) = true ∧ PyData.hasDictAll (b.map vD) = false ∧ PyData.depthAll (b.map vD) ≤ 1
  | [], _ => ⟨by simp [PyData.canLayAll0], by simp [PyData.weightAll], by simp [PyData.intsShortAll], by simp [PyData.showableAll], by simp [PyData.hasDictAll], by simp [PyData.depthAll]⟩
  | v :: r, h => by
    obtain ⟨a1, a2, a3, a4, a5, a6⟩ := flats (b := r) fun x hx => h x (List.mem_cons_of_mem _ hx)
    obtain ⟨b1, b2, b3, b4, b5, b6⟩ := (h v (List.mem_cons_self ..)).flat
    refine ⟨by simp [PyData.canLayAll0, a1, b1], ?_, by simp [PyData.intsShortAll, a3, b3], by simp [PyData.showableAll, a4, b4], by simp [PyData.hasDictAll, a5, b5], ?_⟩
    · rw [List.map_cons, List.length_cons]
      simp only [PyData.weightAll]
      omega
    · rw [List.map_cons]
      simp only [PyData.depthAll]
      omega
theorem rows {n : Nat} : ∀ {bs : List (List V)}, (∀ b ∈ bs, ∀ v ∈ b, okV v) → (∀ b ∈ bs, b.length ≤ 11) → PyData.canLayAll0 (bs.map tupD) = true ∧ PyData.weightAll (bs.map tupD) ≤ 500 * bs.length ∧ PyData.intsShortAll 13 (bs.map tupD) = true ∧ PyData.showableAll (bs.map tupD) = true ∧ PyData.hasDictAll (bs.map tupD) = false ∧ PyData.depthAll (bs.map tupD) ≤ 3
  | [], _, _ => ⟨by simp [PyData.canLayAll0], by simp [PyData.weightAll], by simp [PyData.intsShortAll], by simp [PyData.showableAll], by simp [PyData.hasDictAll], by simp [PyData.depthAll]⟩
  | b :: r, h, hl => by
    obtain ⟨a1, a2, a3, a4, a5, a6⟩ := rows (n := n) (bs := r) (fun x hx => h x (List.mem_cons_of_mem _ hx)) fun x hx => hl x (List.mem_cons_of_mem _ hx)
    obtain ⟨b1, b2, b3, b4, b5, b6⟩ := flats (h b (List.mem_cons_self ..))
    have lb := hl b (List.mem_cons_self ..)
    refine ⟨by simp [PyData.canLayAll0, PyData.canLay0, tupD, a1, b1], ?_, by simp [PyData.intsShortAll, PyData.intsShort, tupD, a3, b3], by simp [PyData.showableAll, PyData.showable, tupD, a4, b4], by simp [PyData.hasDictAll, PyData.hasDict, tupD, a5, b5], ?_⟩
    · rw [List.map_cons, List.length_cons]
      simp only [PyData.weightAll, tupD, PyData.weight]
      have : PyData.weightAll (List.map tupD r) ≤ 500 * r.length := a2
      unfold tupD at this
      omega
    · rw [List.map_cons]
      simp only [PyData.depthAll, tupD, PyData.depth]
      have a7 := a6
      unfold tupD at a7
      omega
theorem rowsD_ok {bs : List (List V)} (h : ∀ b ∈ bs, ∀ v ∈ b, okV v) (hl : ∀ b ∈ bs, b.length ≤ 11) : SeqAt.shaped (rowsD bs) = true ∧ PyData.eqv (rowsD bs) (rowsD bs) = true := by
  obtain ⟨a1, a2, a3, a4, a5, a6⟩ := rows (n := 0) h hl
  have c : (rowsD bs).canLay0 = true := by unfold rowsD; simp [PyData.canLay0, a1]
  refine ⟨?_, SeqAt.eqv_refl _ c⟩
  unfold SeqAt.shaped
  rw [c, Bool.true_and, decide_eq_true_eq]
  simp only [rowsD, PyData.depth]
  omega
theorem rowsD_rep {bs : List (List V)} (h : ∀ b ∈ bs, ∀ v ∈ b, okV v) (hl : ∀ b ∈ bs, b.length ≤ 11) (hn : bs.length ≤ 100) : (rowsD bs).showable = true ∧ (rowsD bs).hasDict = false ∧ (rowsD bs).depth ≤ 8 ∧ (rowsD bs).shown.length ≤ sizeLine := by
  obtain ⟨a1, a2, a3, a4, a5, a6⟩ := rows (n := 0) h hl
  have c : (rowsD bs).canLay0 = true := by unfold rowsD; simp [PyData.canLay0, a1]
  have d : (rowsD bs).depth ≤ 8 := by
    simp only [rowsD, PyData.depth]
    omega
  refine ⟨by simp [rowsD, PyData.showable, a4], by simp [rowsD, PyData.hasDict, a5], d, ?_⟩
  have w : (rowsD bs).weight ≤ 2 ^ 20 := by
    simp only [rowsD, PyData.weight]
    omega
  have q := shown_le13 (d := rowsD bs) (by unfold PyData.layable0; rw [c, decide_eq_true (show (rowsD bs).depth ≤ 64 by omega), decide_eq_true w]; rfl) (by simp [rowsD, PyData.intsShort, a3])
  rw [sizeLine_eq]
  omega
theorem wdS.ok {z : Str} (h : wdS z) : okV (.str z) := by
  unfold wdS at h
  rcases h with rfl | rfl | rfl | rfl | rfl | rfl | rfl | rfl | rfl | rfl <;> exact ⟨by decide +kernel, by decide +kernel⟩
theorem Ev.ok {e : Ev} (h : EvOk e) : ∀ v ∈ e.v, okV v := by
  have lit : ∀ z : Str, z ∈ ([("begin" : Str), "ring", "answer", "turn", "move", "moved", "end", "ann@x", "joe@x"] : List Str) → okV (.str z) := by
    intro z hz
    simp only [List.mem_cons, List.not_mem_nil, or_false] at hz
    rcases hz with rfl | rfl | rfl | rfl | rfl | rfl | rfl | rfl | rfl <;> exact ⟨by decide +kernel, by decide +kernel⟩
  intro v hv
  cases e with
  | bgn t n w =>
    simp only [Ev.v, Ev.r, Ev.nm, Ev.now, Ev.n, List.mem_cons, List.not_mem_nil, or_false] at hv
    rcases hv with rfl | rfl | rfl | rfl | rfl
    · exact lit _ (by simp)
    · exact h.1
    · exact h.2.1
    · exact lit _ (by simp)
    · exact h.2.2.ok
  | ring t n =>
    simp only [Ev.v, Ev.r, Ev.nm, Ev.now, Ev.n, List.mem_cons, List.not_mem_nil, or_false] at hv
    rcases hv with rfl | rfl | rfl
    · exact lit _ (by simp)
    · exact h.1
    · exact h.2
  | ans t n w =>
    simp only [Ev.v, Ev.r, Ev.nm, Ev.now, Ev.n, List.mem_cons, List.not_mem_nil, or_false] at hv
    rcases hv with rfl | rfl | rfl | rfl
    · exact lit _ (by simp)
    · exact h.1
    · exact h.2.1
    · exact h.2.2.ok
  | turn t n s w =>
    simp only [Ev.v, Ev.r, Ev.nm, Ev.now, Ev.n, List.mem_cons, List.not_mem_nil, or_false] at hv
    rcases hv with rfl | rfl | rfl | rfl | rfl
    · exact lit _ (by simp)
    · exact h.1
    · exact h.2.1
    · exact h.2.2.1
    · exact h.2.2.2.ok
  | move t n s =>
    simp only [Ev.v, Ev.r, Ev.nm, Ev.now, Ev.n, List.mem_cons, List.not_mem_nil, or_false] at hv
    rcases hv with rfl | rfl | rfl | rfl | rfl
    · exact lit _ (by simp)
    · exact h.1
    · exact h.2.1
    · exact h.2.2
    · exact lit _ (by simp)
  | moved t n s =>
    simp only [Ev.v, Ev.r, Ev.nm, Ev.now, Ev.n, List.mem_cons, List.not_mem_nil, or_false] at hv
    rcases hv with rfl | rfl | rfl | rfl
    · exact lit _ (by simp)
    · exact h.1
    · exact h.2.1
    · exact h.2.2
  | fin t n w =>
    simp only [Ev.v, Ev.r, Ev.nm, Ev.now, Ev.n, List.mem_cons, List.not_mem_nil, or_false] at hv
    rcases hv with rfl | rfl | rfl | rfl
    · exact lit _ (by simp)
    · exact h.1
    · exact h.2.1
    · exact h.2.2.ok
theorem Ev.len (e : Ev) : e.v.length ≤ 11 := by cases e <;> simp [Ev.v, Ev.r]
end K15
set_option maxHeartbeats 1000000
set_option pp.maxSteps 500
namespace K15
open PySem PySem.Spec PyProof.Rows L2 SX TK
open C8 (pe_c)
def soI (o : Option Int) : Prop := ∀ i, o = some i → small i
structure ClOk (k : Nat) (c : Cl) : Prop where
  n : small c.n
  w : wdS c.who
  b : small c.begun
  r : soI c.rang
  a : soI c.ans
  e : soI c.ended
  y : ∀ z, c.why = some z → wdS z
  m0 : wdS c.m0
  m1 : wdS c.m1
  v : 0 ≤ c.mv ∧ c.mv ≤ k
theorem ClOk.mono {k : Nat} {c : Cl} (h : ClOk k c) : ClOk (k + 1) c := ⟨h.n, h.w, h.b, h.r, h.a, h.e, h.y, h.m0, h.m1, h.v.1, by have := h.v.2; omega⟩
theorem oI_ok {o : Option Int} (h : soI o) : okV (oI o) := by
  cases o with
  | none => trivial
  | some i => exact h i rfl
theorem oS_ok {o : Option Str} (h : ∀ z, o = some z → wdS z) : okV (oS o) := by
  cases o with
  | none => trivial
  | some z => exact (h z rfl).ok
theorem ClOk.ok {k : Nat} {c : Cl} (h : ClOk k c) (hk : k ≤ 1000) : ∀ v ∈ c.v, okV v := by
  intro v hv
  simp only [Cl.v, List.mem_cons, List.not_mem_nil, or_false] at hv
  rcases hv with rfl | rfl | rfl | rfl | rfl | rfl | rfl | rfl | rfl | rfl | rfl
  · exact h.n
  · exact ⟨by decide +kernel, by decide +kernel⟩
  · exact h.w.ok
  · exact h.b
  · exact oI_ok h.r
  · exact oI_ok h.a
  · exact oI_ok h.e
  · exact oS_ok h.y
  · exact h.m0.ok
  · exact h.m1.ok
  · have := h.v
    exact ⟨by omega, by omega⟩
theorem wboth : wdS "both" := by simp [wdS]
theorem take_ok {k : Nat} {c : Cl} {e : Ev} (h : ClOk k c) (he : EvOk e) : ClOk (k + 1) (takeC c e) := by
  have m := h.mono
  cases e with
  | bgn t n w => exact m
  | ring t n => exact { m with r := fun i hi => by cases hi; exact he.1 }
  | ans t n p => exact { m with a := fun i hi => by cases hi; exact he.1 }
  | turn t n s w =>
    show ClOk (k + 1) (if s = 0 then { c with m0 := w } else { c with m1 := w })
    split
    · exact { m with m0 := he.2.2.2 }
    · exact { m with m1 := he.2.2.2 }
  | move t n s => exact m
  | moved t n s => exact { m with m0 := wboth, m1 := wboth, v := ⟨by have := h.v.1; show 0 ≤ c.mv + 1; omega, by have := h.v.2; show c.mv + 1 ≤ ((k + 1 : Nat) : Int); omega⟩ }
  | fin t n w => exact { m with e := fun i hi => by cases hi; exact he.1, y := fun z hz => by cases hz; exact he.2.2 }
theorem app_ok {k : Nat} {cs : List Cl} {e : Ev} (h : ∀ c ∈ cs, ClOk k c) (he : EvOk e) : ∀ c ∈ app cs e, ClOk (k + 1) c := by
  have st : ∀ c ∈ cs.set (e.n - 1).toNat (takeC (cs.getD (e.n - 1).toNat c0) e), ClOk (k + 1) c := by
    intro y hy
    obtain ⟨j, hj, rfl⟩ := List.mem_iff_getElem.mp hy
    rw [List.length_set] at hj
    rw [List.getElem_set]
    by_cases e1 : (e.n - 1).toNat = j
    · rw [if_pos e1, e1, List.getD_eq_getElem?_getD, List.getElem?_eq_getElem hj]
      exact take_ok (h _ (List.getElem_mem hj)) he
    · rw [if_neg e1]
      exact (h _ (List.getElem_mem hj)).mono
  cases e with
  | bgn t n w =>
    intro c hc
    rcases List.mem_append.mp hc with z | z
    · exact (h c z).mono
    · rw [List.mem_singleton.mp z]
      exact ⟨he.2.1, he.2.2, he.1, fun i hi => (by cases hi), fun i hi => (by cases hi), fun i hi => (by cases hi), fun i hi => (by cases hi), wboth, wboth, Int.le_refl _, by show (0 : Int) ≤ _; omega⟩
  | _ => exact st
theorem runN_app (es : List Ev) (e : Ev) : ∀ j, j ≤ es.length → runN (es ++ [e]) j = runN es j
  | 0, _ => rfl
  | j + 1, h => by
    have ih := runN_app es e j (by omega)
    have e1 : (es ++ [e])[j]? = es[j]? := List.getElem?_append_left (by omega)
    show (match (es ++ [e])[j]? with | some x => stepR (runN (es ++ [e]) j) j x | none => runN (es ++ [e]) j) = _
    rw [e1, ih]
    rfl
theorem run_snoc (es : List Ev) (e : Ev) : runN (es ++ [e]) (es ++ [e]).length = stepR (runN es es.length) es.length e := by
  rw [List.length_append]
  have e1 : (es ++ [e])[es.length]? = some e := by rw [List.getElem?_append_right (Nat.le_refl _), Nat.sub_self]; rfl
  show (match (es ++ [e])[es.length]? with | some x => stepR (runN (es ++ [e]) es.length) es.length x | none => runN (es ++ [e]) es.length) = _
  rw [e1, runN_app es e es.length (Nat.le_refl _)]
theorem run_ok {es : List Ev} (h : ∀ e ∈ es, EvOk e) : ∀ i, (∀ c ∈ (runN es i).cs, ClOk i c) ∧ ∀ w ∈ (runN es i).ws, 0 ≤ w ∧ w < i
  | 0 => ⟨(fun _ z => nomatch z), fun _ z => nomatch z⟩
  | i + 1 => by
    obtain ⟨a, b⟩ := run_ok h i
    have er : runN es (i + 1) = (match es[i]? with | some x => stepR (runN es i) i x | none => runN es i) := rfl
    rw [er]
    cases he : es[i]? with
    | none => exact ⟨fun c hc => (a c hc).mono, fun w hw => ⟨(b w hw).1, by have := (b w hw).2; omega⟩⟩
    | some e =>
      show (∀ c ∈ (stepR (runN es i) i e).cs, _) ∧ ∀ w ∈ (stepR (runN es i) i e).ws, _
      unfold stepR
      split
      · exact ⟨app_ok a (h e (List.mem_of_getElem? he)), fun w hw => ⟨(b w hw).1, by have := (b w hw).2; omega⟩⟩
      · refine ⟨fun c hc => (a c hc).mono, fun w hw => ?_⟩
        rcases List.mem_append.mp hw with z | z
        · exact ⟨(b w z).1, by have := (b w z).2; omega⟩
        · have : w = (i : Int) := List.mem_singleton.mp z
          omega
structure LW (H : Hp) (s c ev cl wr nw : Addr) (ts : List Addr) (es : List Ev) (A : List Ar) : Prop where
  st : StAt H s c
  evl : H ev = some (.lst (ts.map V.ref))
  tv : TsAt H ts (es.map Ev.v)
  ca : ClAt H cl A
  wl : H wr = some (.lst ((runN es es.length).ws.map V.int))
  nl : H nw = some (.lst [.int (runN es es.length).lat])
theorem LW.same {H H' : Hp} {s c ev cl wr nw : Addr} {ts : List Addr} {es : List Ev} {A : List Ar} (h : LW H s c ev cl wr nw ts es A) (e : Same H H') : LW H' s c ev cl wr nw ts es A :=
  ⟨h.st.same e, e _ _ h.evl, h.tv.mono fun x b q => e _ _ q, h.ca.same e, e _ _ h.wl, e _ _ h.nl⟩
def NE (s c ev cl wr nw : Addr) : Prop := ev ≠ s ∧ ev ≠ c ∧ cl ≠ s ∧ cl ≠ c ∧ wr ≠ s ∧ wr ≠ c ∧ nw ≠ s ∧ nw ≠ c ∧ ev ≠ cl ∧ ev ≠ wr ∧ ev ≠ nw ∧ cl ≠ wr ∧ cl ≠ nw ∧ wr ≠ nw
def NA (s c ev wr nw : Addr) (A : List Ar) : Prop := ∀ x ∈ A, x.1 ≠ s ∧ x.1 ≠ c ∧ x.1 ≠ ev ∧ x.1 ≠ wr ∧ x.1 ≠ nw
theorem LW.keep {H H' : Hp} {s c ev cl wr nw : Addr} {ts : List Addr} {es : List Ev} {A : List Ar} (h : LW H s c ev cl wr nw ts es A) (n : NE s c ev cl wr nw) (na : NA s c ev wr nw A) (st : StAt H' s c) (k : Keep H H' s c) : LW H' s c ev cl wr nw ts es A := by
  obtain ⟨a1, a2, a3, a4, a5, a6, a7, a8, _⟩ := n
  obtain ⟨_, ⟨m, hm⟩, ns, hc, _⟩ := id h.st
  exact ⟨st, k _ _ h.evl a1 a2, h.tv.mono fun x b q => k _ _ q (ne_of q hm (by intro z; cases z)) (ne_of q hc (by intro z; cases z)), ⟨k _ _ h.ca.l a3 a4, fun x hx => k _ _ (h.ca.r x hx) (na x hx).1 (na x hx).2.1, h.ca.n, h.ca.d⟩, k _ _ h.wl a5 a6, k _ _ h.nl a7 a8⟩
end K15
set_option maxHeartbeats 2000000
set_option pp.maxSteps 500
namespace K15
open PySem PySem.Spec PyProof.Rows L2 SX TK
open C8 (pe_c)
def lstD (b : List V) : PyData := .list (b.map vD)
theorem lstD_ok {b : List V} (h : ∀ v ∈ b, okV v) : SeqAt.shaped (lstD b) = true ∧ PyData.eqv (lstD b) (lstD b) = true := by
  obtain ⟨a1, a2, a3, a4, a5, a6⟩ := flats h
  have c : (lstD b).canLay0 = true := by unfold lstD; simp [PyData.canLay0, a1]
  refine ⟨?_, SeqAt.eqv_refl _ c⟩
  unfold SeqAt.shaped
  rw [c, Bool.true_and, decide_eq_true_eq]
  simp only [lstD, PyData.depth]
  omega
theorem lstD_dp {K : PySem.W.Frag} {H : Hp} {a : Addr} {b : List V} (e : H a = some (.lst b)) (h : ∀ v ∈ b, okV v) : Dp K H (.ref a) (lstD b) := .lst (SqL.of e) (dp_vs h)
def spLaw (K : PySem.W.Frag) : Sp := fun vs H Q _ => ∃ (a : Addr) (ns : List Int), vs = [.ref a] ∧ SqL K H a (ns.map V.int) ∧ ns.length ≤ 63 ∧ ∀ H', Q (.bl true) H'
theorem ok_law {P : Program} {w : World} {K : PySem.W.Frag} {mg : Str → Option Value} {base : Heap} {f : Addr} {fd : FuncData} (T : Tx K mg) (c_law_state : C8.Cal P w K mg base 1 "_law_state" (spState K) []) (c_law_draw : C8.Cal P w K mg base 1 "_law_draw" spDraw []) (c_law_pick : C8.Cal P w K mg base 2 "_law_pick" spPick []) (c_law_event : C8.Cal P w K mg base 3 "_law_event" spEvent []) (c_law_stands : C8.Cal P w K mg base 1 "_law_stands" (spLSt K) []) (c_law_apply : C8.Cal P w K mg base 1 "_law_apply" (spLAp K) []) (c_tell : C8.Cal P w K mg base 4 "tell" (spTell K) [])
    (F : FunD K "law" "law" (defArgs s_law) (defBody s_law) (defScope s_law) [] [] f fd) : TKR.FnC P w K mg base f fd ["script"] (spLaw K) := by
  refine TKR.fnC_of (k := 4) F sc_law ⟨rfl, by decide, by decide⟩ (fun vs H Q E h => ?_) (fun cdv s0 H vs Q E hr h => ?_)
  · obtain ⟨a, ns, rfl, _⟩ := h
    rfl
  · obtain ⟨a, ns, rfl, hS, hn, k⟩ := h
    refine ⟨_, PSs.nox (pss_cons (ps_set (i := 1) sc_law.nd rfl (Or.inl rfl) (pe_c c_law_state hr (by decide) rfl (pa_cons (pv 0) pa_nil))) (pss_cons (ps_set (i := 2) sc_law.nd rfl (Or.inl rfl) (pe_lst pa_nil)) (pss_cons (ps_set (i := 3) sc_law.nd rfl (Or.inl rfl) (pe_lst pa_nil)) (pss_cons (ps_set (i := 4) sc_law.nd rfl (Or.inl rfl) (pe_lst pa_nil)) (pss_cons (ps_set (i := 5) sc_law.nd rfl (Or.inl rfl) (pe_lst (pa_cons pe_int pa_nil))) (pss_cons (ps_set (i := 6) sc_law.nd rfl (Or.inl rfl) pe_int) (pss_cons (ps_for PassesOwn.never rfl (pi_range1 rfl T.f_range (pa_cons (pe_callB call_len_seq rfl T.f_len PySem.boot_len (pa_cons (pe_slice sl_list (pv 0) po_none (po_some pe_int)) pa_nil)) pa_nil)) (pg_name (i := 7) sc_law.nd rfl (Or.inl rfl)) (pss_cons (ps_set (i := 6) sc_law.nd rfl (Or.inl rfl) (pe_callB (call_max2 rfl) rfl T.f_max (by decide +kernel) (pa_cons pe_int (pa_cons (pe_op op_add (pv 6) (pe_c c_law_pick hr (by decide) rfl (pa_cons (pv 1) (pa_cons (pe_lst (pa_cons pe_int (pa_cons pe_int (pa_cons (pe_c c_law_draw hr (by decide) rfl (pa_cons (pv 1) (pa_cons pe_int pa_nil))) (pa_cons (pe_un un_neg pe_int) pa_nil))))) pa_nil)))) pa_nil)))) (pss_cons (ps_set (i := 8) sc_law.nd rfl (Or.inl rfl) (pe_c c_law_event hr (by decide) rfl (pa_cons (pv 1) (pa_cons (pv 6) (pa_cons (pe_lst (pa_cons (pe_callB call_len_seq rfl T.f_len PySem.boot_len (pa_cons (pv 3) pa_nil)) pa_nil)) pa_nil))))) (pss_cons (ps_expr (pe_bm PySem.F.plainAttrs_list PySem.F.slot_list_append PySem.F.type_list_append mt_append (pv 2) (pa_cons (pv 8) pa_nil))) (pss_one (ps_if (pt_val (pe_c c_law_stands hr (by decide) rfl (pa_cons (pv 8) (pa_cons (pv 3) (pa_cons (pv 5) pa_nil))))) (pss_one (ps_expr (pe_c c_law_apply hr (by decide) rfl (pa_cons (pv 8) (pa_cons (pv 3) (pa_cons (pv 5) pa_nil)))))) (pss_one (ps_expr (pe_bm PySem.F.plainAttrs_list PySem.F.slot_list_append PySem.F.type_list_append mt_append (pv 4) (pa_cons (pv 7) pa_nil)))))))))) (pss_cons (ps_set (i := 9) sc_law.nd rfl (Or.inl rfl) (pe_callB (TKR.call_repr rfl hr.units) rfl T.f_repr (by decide +kernel) (pa_cons (pv 2) pa_nil))) (pss_cons (ps_set (i := 10) sc_law.nd rfl (Or.inl rfl) (pe_c c_tell hr (by decide) rfl (pa_cons (pv 2) pa_nil))) (C8.pss_cut (ps_if (PW.pt (pw_or (pt_not (pt_val (pe_callB call_isi rfl T.f_isinstance (by decide +kernel) (pa_cons (pv 10) (pa_cons (pe_bltn (v := .ty "tuple") rfl T.f_tuple (by decide +kernel) rfl) pa_nil))))) (pw_or (pt_cmpR op_ne (pe_callB call_len_seq rfl T.f_len PySem.boot_len (pa_cons (pv 10) pa_nil)) pe_int (nomark _)) (pw_or1 (pt_cmpR op_ne (pe_callB (TKR.call_repr rfl hr.units) rfl T.f_repr (by decide +kernel) (pa_cons (pv 2) pa_nil)) (pv 9) (nomark _)))))) (pss_one (ps_ret pe_bl)) pss_nil) (pss_one (ps_ret (pe_and (pe_cmpR (op_eqD hr.units) (pe_ix ix_tup (pv 10) pe_int (fun _ _ => rfl)) (pe_lc (own := [("call", 11)]) (g := gName 11) rfl sc_law.nd (pi_list (pv 3)) (blkOk_by (own := [("call", 11)]) (N := ["script", "state", "events", "calls", "wrong", "now", "tick", "k", "event", "before", "told", "call"]) (sc := defScope s_law) (by decide +kernel)) (fun _ _ _ _ _ => pg_name (i := 11) sc_law.nd rfl (Or.inl rfl)) (fun _ _ _ _ _ => pts_nil) (fun _ _ _ _ _ => (pe_callTy (TKE.tupOfK K rfl) rfl T.f_tuple (by decide +kernel) (pa_cons (pv 11) pa_nil)))) (nomark _)) (pe_one (pe_cmpR (op_eqD hr.units) (pe_ix ix_tup (pv 10) pe_int (fun _ _ => rfl)) (pv 4) (nomark _)))))))))))))))), ?_⟩
    refine ⟨_, rfl, a, ns, rfl, hS, hn, fun s c H1 s1 _ _ st1 => ?_⟩
    have hS1 := s1.seq hS
    clear hS s1
    refine ⟨by show 0 ≤ sizeLine; decide, fun ev hev => ⟨by show 0 ≤ sizeLine; decide, fun cl hcl => ⟨by show 0 ≤ sizeLine; decide, fun wr hwr => ⟨by show 1 ≤ sizeLine; decide, fun nw hnw => ?_⟩⟩⟩⟩
    obtain ⟨e1, e2⟩ := st1.tracked hev
    have g1 := st1.upd (o := .lst []) e1 e2
    have f1 := same_upd (o := .lst []) hev
    obtain ⟨e3, e4⟩ := g1.tracked hcl
    have g2 := g1.upd (o := .lst []) e3 e4
    have f2 := same_upd (o := .lst []) hcl
    obtain ⟨e5, e6⟩ := g2.tracked hwr
    have g3 := g2.upd (o := .lst []) e5 e6
    have f3 := same_upd (o := .lst []) hwr
    obtain ⟨e7, e8⟩ := g3.tracked hnw
    have g4 := g3.upd (o := .lst [.int 0]) e7 e8
    have f4 := same_upd (o := .lst [.int 0]) hnw
    have u1 : (upd H1 ev (.lst [])) ev = some (.lst []) := upd_same
    have u2 : (upd (upd H1 ev (.lst [])) cl (.lst [])) cl = some (.lst []) := upd_same
    have u3 : (upd (upd (upd H1 ev (.lst [])) cl (.lst [])) wr (.lst [])) wr = some (.lst []) := upd_same
    have hne : NE s c ev cl wr nw := ⟨e1, e2, e3, e4, e5, e6, e7, e8, ne_of_none u1 hcl, ne_of_none (f2 _ _ u1) hwr, ne_of_none (f3 _ _ (f2 _ _ u1)) hnw, ne_of_none u2 hwr, ne_of_none (f3 _ _ u2) hnw, ne_of_none u3 hnw⟩
    have L0 : LW (upd (upd (upd (upd H1 ev (.lst [])) cl (.lst [])) wr (.lst [])) nw (.lst [.int 0])) s c ev cl wr nw [] [] [] :=
      ⟨g4, f4 _ _ (f3 _ _ (f2 _ _ u1)), trivial, ⟨f4 _ _ (f3 _ _ u2), (fun _ h => nomatch h), by simp, fun _ h => nomatch h⟩, f4 _ _ u3, upd_same⟩
    have hS4 := (((f1.trans f2).trans f3).trans f4).seq hS1
    clear e1 e2 e3 e4 e5 e6 e7 e8 g1 g2 g3 g4 f1 f2 f3 f4 u1 u2 u3 hev hcl hwr hnw hS1 st1
    generalize upd (upd (upd (upd H1 ev (.lst [])) cl (.lst [])) wr (.lst [])) nw (.lst [.int 0]) = H2 at *
    refine ⟨_, rfl, _, rfl, a, _, rfl, hS4, fun cu hcu => ?_⟩
    have L1 := L0.same (same_upd (o := .lst (cutV (ns.map V.int) none (some 60))) hcu)
    have lcu : (cutV (ns.map V.int) none (some 60)).length ≤ 63 := Nat.le_trans (cutV_length _ _ _) (by rw [List.length_map]; exact hn)
    refine ⟨cu, _, rfl, .inl (SqL.of upd_same), ?_⟩
    clear L0 hS4
    generalize upd H2 cu (.lst (cutV (ns.map V.int) none (some 60))) = H3 at *
    clear hcu
    refine ⟨_, rfl, by omega, by omega, for_range (lo := 0) (fun i σ H' => ∃ (ts : List Addr) (es : List Ev) (A : List Ar) (tick : Int) (v7 v8 : Option V), σ = [some (.ref a), some (.ref s), some (.ref ev), some (.ref cl), some (.ref wr), some (.ref nw), some (.int tick), v7, v8, none, none, none] ∧ LW H' s c ev cl wr nw ts es A ∧ NA s c ev wr nw A ∧ clA A = (runN es es.length).cs ∧ es.length = i ∧ (∀ e ∈ es, EvOk e) ∧ 0 ≤ tick ∧ tick ≤ 10 * (i : Int))
      ⟨[], [], [], 0, none, none, rfl, L1, (fun _ h => nomatch h), rfl, rfl, (fun _ h => nomatch h), by omega, by omega⟩ ?_ ?_⟩
    · rintro i σ H4 hi ⟨ts, es, A, tick, v7, v8, rfl, L4, na, ec, el, eo, t0, t1⟩
      clear L1
      have hi2 : i < 64 := by omega
      refine ⟨_, rfl, _, rfl, _, rfl, s, c, 9, rfl, L4.st, by decide, by decide, fun d H5 d0 d1 st5 kp5 => ⟨_, rfl, by show 4 ≤ sizeLine; decide, fun p hp => ?_⟩⟩
      have L5 := L4.keep hne na st5 kp5
      obtain ⟨ps, pc⟩ := st5.tracked hp
      refine ⟨s, c, _, rfl, st5.upd ps pc, .inr ⟨p, _, rfl, upd_same, ps, pc, by simp, by simp, fun v hv H6 st6 kp6 => ?_⟩⟩
      have L6 := (L5.same (same_upd hp)).keep hne na st6 kp6
      obtain ⟨vi, rfl, v0, v1⟩ : ∃ vi : Int, v = .int vi ∧ -1 ≤ vi ∧ vi ≤ 9 := by
        simp only [List.mem_cons, List.not_mem_nil, or_false] at hv
        rcases hv with rfl | rfl | rfl | rfl
        · exact ⟨_, rfl, by decide, by decide⟩
        · exact ⟨_, rfl, by decide, by decide⟩
        · exact ⟨_, rfl, by omega, by omega⟩
        · exact ⟨_, rfl, by decide, by decide⟩
      clear hv L4 L5 kp5 kp6 hp st5 st6
      refine ⟨_, _, rfl, rfl, _, _, rfl, ?_⟩
      obtain ⟨tk, htk, k0, k1⟩ : ∃ tk : Int, (if tick + vi > 0 then tick + vi else 0) = tk ∧ 0 ≤ tk ∧ tk ≤ 10 * ((i + 1 : Nat) : Int) := by
        refine ⟨_, rfl, ?_, ?_⟩
        · split <;> omega
        · split <;> omega
      rw [htk]
      have lA : A.length = es.length → True := fun _ => trivial
      have lcs := run_len es es.length
      have lA2 : A.length ≤ 64 := by
        have : (clA A).length = A.length := List.length_map ..
        rw [ec] at this
        omega
      refine ⟨_, rfl, _, rfl, _, rfl, cl, _, rfl, .inl (SqL.of L6.ca.l), by show 1 ≤ sizeLine; decide, fun nb hnb => ?_⟩
      rw [List.length_map]
      obtain ⟨nbs, nbc⟩ := L6.st.tracked hnb
      refine ⟨s, c, nb, tk, A.length, rfl, L6.st.upd nbs nbc, upd_same, nbs, nbc, by omega, by omega, k0, by omega, fun t e H7 ht he st7 kp7 => ?_⟩
      have L7 := (L6.same (same_upd hnb)).keep hne na st7 kp7
      clear L6 kp7 st7 hnb
      obtain ⟨q1, q2, q3, q4, q5, q6, q7, q8, q9, q10, q11, q12, q13, q14⟩ := id hne
      refine ⟨_, rfl, .inl ⟨rfl, _, SqL.of L7.evl⟩, _, rfl, ev, _, _, rfl, rfl, L7.evl, ?_, ?_⟩
      · have := L7.tv.len
        rw [List.length_map] at this
        rw [List.length_map, sizeLine_eq]
        omega
      have uT : ∀ {x : Addr} {b : List V}, H7 x = some (.tup b) → (upd H7 ev (.lst (ts.map V.ref ++ [.ref t]))) x = some (.tup b) := fun z => (upd_ne (ne_of z L7.evl (by intro z; cases z))).trans z
      have ht8 := uT ht
      have ca8 : ClAt (upd H7 ev (.lst (ts.map V.ref ++ [.ref t]))) cl A := ⟨(upd_ne q9.symm).trans L7.ca.l, fun x hx => (upd_ne (na x hx).2.2.1).trans (L7.ca.r x hx), L7.ca.n, L7.ca.d⟩
      have st8 := L7.st.upd (o := .lst (ts.map V.ref ++ [.ref t])) q1 q2
      have ev8 : (upd H7 ev (.lst (ts.map V.ref ++ [.ref t]))) ev = some (.lst ((ts ++ [t]).map V.ref)) := by
        rw [upd_same, List.map_append]
        rfl
      have wl8 : (upd H7 ev (.lst (ts.map V.ref ++ [.ref t]))) wr = _ := (upd_ne q10.symm).trans L7.wl
      have nl8 : (upd H7 ev (.lst (ts.map V.ref ++ [.ref t]))) nw = _ := (upd_ne q11.symm).trans L7.nl
      have tv8 : TsAt (upd H7 ev (.lst (ts.map V.ref ++ [.ref t]))) (ts ++ [t]) ((es ++ [e]).map Ev.v) := by
        rw [List.map_append]
        exact TsAt.snoc ht8 (L7.tv.mono fun x b z => uT z)
      have eo8 : ∀ x ∈ es ++ [e], EvOk x := fun x hx => by
        rcases List.mem_append.mp hx with z | z
        · exact eo x z
        · rw [List.mem_singleton.mp z]
          exact he
      have rs := run_snoc es e
      have el8 : (es ++ [e]).length = i + 1 := by rw [List.length_append, el]; rfl
      clear uT L7 ht
      generalize upd H7 ev (.lst (ts.map V.ref ++ [.ref t])) = H8 at *
      have lwr : ((runN es es.length).ws.map V.int).length < sizeLine := by
        rw [List.length_map, sizeLine_eq]
        omega
      rw [el] at rs
      refine ⟨_, rfl, _, rfl, _, rfl, cl, t, nw, A, e, (runN es es.length).lat, rfl, ca8, ht8, nl8, fun H9 s9 => ⟨_, rfl, ?_⟩⟩
      rw [ec]
      by_cases cc : (runN es es.length).lat ≤ e.now ∧ std (runN es es.length).cs e = true
      · have e9 : (if (runN es es.length).lat ≤ e.now then std (runN es es.length).cs e else false) = true := by rw [if_pos cc.1]; exact cc.2
        rw [e9]
        rw [stepR, if_pos (by rw [← el]; exact cc)] at rs
        refine iteT ⟨_, rfl, _, rfl, _, rfl, cl, t, nw, A, e, (runN es es.length).lat, rfl, ca8.same s9, s9 _ _ ht8, s9 _ _ nl8, by rw [ec]; exact cc.2, q13.symm, fun x hx => (na x hx).2.2.2.2, by omega, fun A' Ha caa eca nla fra ela => ?_⟩
        have keepA : ∀ {b o}, H8 b = some o → b ≠ cl → b ≠ nw → (∀ x ∈ A, b ≠ x.1) → Ha b = some o := fun eb b1 b2 b3 => fra _ _ (s9 _ _ eb) b1 b2 b3
        have tupA : ∀ {x : Addr} {b : List V}, H8 x = some (.tup b) → Ha x = some (.tup b) := fun z => keepA z (ne_of z ca8.l (by intro z; cases z)) (ne_of z nl8 (by intro z; cases z)) fun y hy => ne_of z (ca8.r y hy) (by intro z; cases z)
        have fresh : ∀ x ∈ A', ∀ y, (∃ o, H8 y = some o) → (∀ z ∈ A, z.1 ≠ y) → x.1 ≠ y := fun x hx y hy hz => by
          rcases ela x hx with z | z
          · obtain ⟨w1, hw1, ew1⟩ := List.mem_map.mp z
            have ew2 : w1.1 = x.1 := ew1
            rw [← ew2]
            exact hz w1 hw1
          · obtain ⟨o, ho⟩ := hy
            exact (ne_of_none (s9 _ _ ho) z).symm
        have stA : StAt Ha s c := by
          obtain ⟨n0, ⟨m, hm⟩, cs, hc, l63⟩ := id st8
          exact ⟨n0, ⟨m, keepA hm q3.symm q7.symm fun x hx => (na x hx).1.symm⟩, cs, keepA hc q4.symm q8.symm fun x hx => (na x hx).2.1.symm, l63⟩
        have naA : NA s c ev wr nw A' := fun x hx => by
          obtain ⟨n0, ⟨m, hm⟩, cs, hc, l63⟩ := id st8
          exact ⟨fresh x hx s ⟨_, hm⟩ fun z hz => (na z hz).1, fresh x hx c ⟨_, hc⟩ fun z hz => (na z hz).2.1, fresh x hx ev ⟨_, ev8⟩ fun z hz => (na z hz).2.2.1, fresh x hx wr ⟨_, wl8⟩ fun z hz => (na z hz).2.2.2.1, fresh x hx nw ⟨_, nl8⟩ fun z hz => (na z hz).2.2.2.2⟩
        refine ⟨ts ++ [t], es ++ [e], A', tk, _, _, rfl, ⟨stA, keepA ev8 q9 q11 (fun x hx => (na x hx).2.2.1.symm), tv8.mono (fun x b z => tupA z), caa, ?_, ?_⟩, naA, ?_, el8, eo8, k0, k1⟩
        · rw [run_snoc, stepR, if_pos cc]
          exact keepA wl8 q12.symm q14 (fun x hx => (na x hx).2.2.2.1.symm)
        · rw [run_snoc, stepR, if_pos cc]
          exact nla
        · rw [run_snoc, stepR, if_pos cc, eca, ec]
      · have e9 : (if (runN es es.length).lat ≤ e.now then std (runN es es.length).cs e else false) = false := by
          by_cases z : (runN es es.length).lat ≤ e.now
          · rw [if_pos z]
            exact ef fun y => cc ⟨z, y⟩
          · rw [if_neg z]
        rw [e9]
        refine iteF ⟨_, rfl, .inl ⟨rfl, _, SqL.of (s9 _ _ wl8)⟩, _, rfl, wr, _, _, rfl, rfl, s9 _ _ wl8, lwr, ?_⟩
        have keepW : ∀ {b o o2}, H8 b = some o → b ≠ wr → (upd H9 wr o2) b = some o := fun eb b1 => (upd_ne b1).trans (s9 _ _ eb)
        refine ⟨ts ++ [t], es ++ [e], A, tk, _, _, rfl, ⟨(st8.same s9).upd q5 q6, keepW ev8 q10, tv8.mono (fun x b z => keepW z (ne_of z wl8 (by intro z; cases z))), ⟨keepW ca8.l q12, fun x hx => keepW (ca8.r x hx) (na x hx).2.2.2.1, ca8.n, ca8.d⟩, ?_, ?_⟩, na, ?_, el8, eo8, k0, k1⟩
        · rw [run_snoc, stepR, if_neg cc, upd_same, el]
          have ez : (0 + (i : Int)) = (i : Int) := by omega
          rw [ez]
          show _ = some (HO.lst (List.map V.int (_ ++ [(i : Int)])))
          rw [List.map_append]
          rfl
        · rw [run_snoc, stepR, if_neg cc]
          exact keepW nl8 q14.symm
        · rw [run_snoc, stepR, if_neg cc]
          exact ec
    · rintro σ H4 ⟨ts, es, A, tick, v7, v8, rfl, L4, na, ec, el, eo, t0, t1⟩
      clear L1
      have esl : es.length ≤ 63 := by omega
      have hbv : ∀ b ∈ es.map Ev.v, ∀ v ∈ b, okV v := fun b hb => by
        obtain ⟨e, he, rfl⟩ := List.mem_map.mp hb
        exact Ev.ok (eo e he)
      have hbl : ∀ b ∈ es.map Ev.v, b.length ≤ 11 := fun b hb => by
        obtain ⟨e, he, rfl⟩ := List.mem_map.mp hb
        exact Ev.len e
      obtain ⟨r1, r2, r3, r4⟩ := rowsD_rep hbv hbl (by rw [List.length_map]; omega)
      refine ⟨_, rfl, ev, rowsD (es.map Ev.v), rfl, rowsD_dp L4.evl L4.tv hbv, r1, r2, r3, r4, ?_⟩
      refine ⟨_, rfl, ev, ts, es, rfl, L4.evl, L4.tv, by omega, fun r pa wr2 us H5 s5 hr5 hpa hus hwr2 => ?_⟩
      have L5 := L4.same s5
      have ro := run_ok eo es.length
      have hcv : ∀ b ∈ (runN es es.length).cs.map Cl.v, ∀ v ∈ b, okV v := fun b hb => by
        obtain ⟨c9, hc9, rfl⟩ := List.mem_map.mp hb
        exact (ro.1 c9 hc9).ok (by omega)
      have hcl9 : ∀ b ∈ (runN es es.length).cs.map Cl.v, b.length ≤ 11 := fun b hb => by
        obtain ⟨c9, hc9, rfl⟩ := List.mem_map.mp hb
        exact Nat.le_refl _
      have hwv : ∀ v ∈ (runN es es.length).ws.map V.int, okV v := fun v hv => by
        obtain ⟨w9, hw9, rfl⟩ := List.mem_map.mp hv
        have := ro.2 w9 hw9
        exact ⟨by omega, by omega⟩
      have lcs := run_len es es.length
      have wl5 := L5.wl
      clear L4 s5
      generalize runN es es.length = R at *
      refine ⟨fun σ' H6 => σ' = [some (.ref a), some (.ref s), some (.ref ev), some (.ref cl), some (.ref wr), some (.ref nw), some (.int tick), v7, v8, some (.str (rowsD (es.map Ev.v)).shown), some (.ref r), none] ∧ H6 = H5, ?_, ?_⟩
      · refine ⟨_, rfl, _, _, _, _, true, rfl, ClsV.ty "tuple", TyX.base (TyOf.tup hr5), kit_ty (by decide +kernel), _, rfl, ?_⟩
        have e2 : (!decide (V.int (([V.ref pa, V.ref wr2] : List V).length : Int) = V.int 2)) = false := by simp
        refine iteF ⟨_, rfl, r, _, rfl, .inr (SqT.of hr5), rfl, _, rfl, ?_⟩
        rw [e2]
        refine iteF ⟨_, rfl, ev, rowsD (es.map Ev.v), rfl, rowsD_dp L5.evl L5.tv hbv, r1, r2, r3, r4, _, rfl, rfl, _, rfl, ?_⟩
        have e3 : (!decide (V.str (rowsD (es.map Ev.v)).shown = V.str (rowsD (es.map Ev.v)).shown)) = false := by simp
        rw [e3]
        exact iteF ⟨rfl, rfl⟩
      · rintro σ' H6 ⟨rfl, rfl⟩
        refine ⟨_, rfl, r, _, 0, .ref pa, rfl, rfl, SqT.of hr5, rfl, _, rfl, cl, rfl, ⟨_, SqL.of L5.ca.l⟩, fun D hD => ?_⟩
        have llA : (clA A).length = A.length := List.length_map ..
        refine lc_itN walk_list (fun i H' => Same H6 H' ∧ ∃ vs : List Addr, H' D = some (.lst (vs.map V.ref)) ∧ TsAt H' vs (((clA A).take i).map Cl.v)) ⟨same_upd hD, [], upd_same, trivial⟩ (fun i H' _ q => SqL.of (q.1 _ _ L5.ca.l)) (fun i x H7 H8 hi p y => ?_) (fun H7 p => ?_)
        · obtain ⟨s7, vs, g1, g2⟩ := p
          obtain ⟨rfl, hx⟩ := y
          rw [List.length_map] at hi
          rw [List.getElem?_map, List.getElem?_eq_getElem hi] at hx
          obtain rfl := Option.some.inj hx
          refine ⟨rfl, _, rfl, _, _, rfl, .inl ⟨SqL.of (s7 _ _ (L5.ca.r _ (List.getElem_mem hi))), fun t ht => ?_⟩⟩
          have tD : t ≠ D := fun z => by rw [z, g1] at ht; cases ht
          refine ⟨_, (upd_ne tD.symm).trans g1, ?_, fun b o eb => (upd_ne (ne_of_none eb hD)).trans ((same_upd ht) _ _ (s7 _ _ eb)), vs ++ [t], ?_, ?_⟩
          · have := g2.len
            rw [List.length_map, List.length_take] at this
            have l9 : (clA A).length ≤ 100 := by rw [ec]; omega
            rw [List.length_map, sizeLine_eq]
            omega
          · rw [upd_same, List.map_append]
            rfl
          · have tk9 : (clA A).take (i + 1) = (clA A).take i ++ [A[i].2] := by
              rw [List.take_add_one, List.getElem?_eq_getElem (by rw [llA]; exact hi)]
              unfold clA
              rw [List.getElem_map]
              rfl
            rw [tk9, List.map_append]
            exact TsAt.snoc ((upd_ne tD).trans upd_same) (g2.mono fun x b ex => (upd_ne (ne_of ex g1 (by intro z; cases z))).trans ((same_upd ht) _ _ ex))
        · obtain ⟨s7, vs, g1, g2⟩ := p
          rw [List.length_map, ← llA, List.take_length, ec] at g2
          refine ⟨rowsD (R.cs.map Cl.v), rowsD (R.cs.map Cl.v), rowsD_dp (s7 _ _ hpa) (hus.mono fun x b ex => s7 _ _ ex) hcv, rowsD_dp g1 g2 hcv, (rowsD_ok hcv hcl9).1, (rowsD_ok hcv hcl9).1, _, rfl, ?_⟩
          rw [(rowsD_ok hcv hcl9).2]
          refine iteT ⟨_, rfl, r, _, 1, .ref wr2, rfl, rfl, SqT.of (s7 _ _ hr5), rfl, _, rfl, lstD (R.ws.map V.int), lstD (R.ws.map V.int), lstD_dp (s7 _ _ hwr2) hwv, lstD_dp (s7 _ _ wl5) hwv, (lstD_ok hwv).1, (lstD_ok hwv).1, ?_⟩
          rw [(lstD_ok hwv).2]
          exact k _
end K15
set_option maxHeartbeats 0
namespace K15
open PySem PySem.Spec PyProof.Rows L2 SX TK
/-! ### the head: facts by names, the run -/
def d_Told___init : He.DefD := ⟨("Told", some "__init__"), "__init__", "Told.__init__", defArgs s_Told___init, defBody s_Told___init, defScope s_Told___init, [], []⟩
def d_Told_parts : He.DefD := ⟨("Told", some "parts"), "parts", "Told.parts", defArgs s_Told_parts, defBody s_Told_parts, defScope s_Told_parts, [], []⟩
def d_Told_allows : He.DefD := ⟨("Told", some "allows"), "allows", "Told.allows", defArgs s_Told_allows, defBody s_Told_allows, defScope s_Told_allows, [], []⟩
def d_Told_take : He.DefD := ⟨("Told", some "take"), "take", "Told.take", defArgs s_Told_take, defBody s_Told_take, defScope s_Told_take, [], []⟩
def d_tell : He.DefD := ⟨("tell", none), "tell", "tell", defArgs s_tell, defBody s_tell, defScope s_tell, [], []⟩
def d_stands : He.DefD := ⟨("_stands", none), "_stands", "_stands", defArgs s_stands, defBody s_stands, defScope s_stands, [], []⟩
def d_take : He.DefD := ⟨("_take", none), "_take", "_take", defArgs s_take, defBody s_take, defScope s_take, [], []⟩
def d_law_state : He.DefD := ⟨("_law_state", none), "_law_state", "_law_state", defArgs s_law_state, defBody s_law_state, defScope s_law_state, [], []⟩
def d_law_draw : He.DefD := ⟨("_law_draw", none), "_law_draw", "_law_draw", defArgs s_law_draw, defBody s_law_draw, defScope s_law_draw, [], []⟩
def d_law_pick : He.DefD := ⟨("_law_pick", none), "_law_pick", "_law_pick", defArgs s_law_pick, defBody s_law_pick, defScope s_law_pick, [], []⟩
def d_law_event : He.DefD := ⟨("_law_event", none), "_law_event", "_law_event", defArgs s_law_event, defBody s_law_event, defScope s_law_event, [], []⟩
def d_law_stands : He.DefD := ⟨("_law_stands", none), "_law_stands", "_law_stands", defArgs s_law_stands, defBody s_law_stands, defScope s_law_stands, [], []⟩
def d_law_apply : He.DefD := ⟨("_law_apply", none), "_law_apply", "_law_apply", defArgs s_law_apply, defBody s_law_apply, defScope s_law_apply, [], []⟩
def d_law : He.DefD := ⟨("law", none), "law", "law", defArgs s_law, defBody s_law, defScope s_law, [], []⟩
def fnL : List He.DefD := [d_Told___init, d_Told_parts, d_Told_allows, d_Told_take, d_tell, d_stands, d_take, d_law_state, d_law_draw, d_law_pick, d_law_event, d_law_stands, d_law_apply, d_law]
def faL : List He.Fa := [.free "abs", .free "enumerate", .free "int", .free "isinstance", .free "len", .free "max", .free "range", .free "repr", .free "tuple", .cls "Told", .noat "Told" "number", .noat "Told" "caller", .noat "Told" "callee", .noat "Told" "begun", .noat "Told" "rang", .noat "Told" "answered", .noat "Told" "ended", .noat "Told" "why", .noat "Told" "modes", .noat "Told" "moves", .glo "Told", .mkr "Told", .meth "Told" "parts", .meth "Told" "allows", .meth "Told" "take", .glo "tell", .glo "_stands", .glo "_take", .glo "_law_state", .glo "_law_draw", .glo "_law_pick", .glo "_law_event", .glo "_law_stands", .glo "_law_apply", .glo "law"]
def loose0 : List Str := ["tell", "_stands", "_take", "_law_state", "_law_draw", "_law_pick", "_law_event", "_law_stands", "_law_apply", "Told"]
abbrev Row0 : PySem.W.OpenRow := PySem.W.OpenLaw.row PySem.Challenge.rw_trunkland_k15_call_model
def exL (K : PySem.W.Frag) : List Bool := []
abbrev hk : PySem.W.Hook := TK.hookX 6 faL fnL exL
def ob (s : PySem.W.SharedT) : He.AlD := TK.obsX 6 faL fnL exL (HandSHeadRun.getT s)
theorem ob_eq (s : PySem.W.SharedT) : ob s = hk.obs s.abs := TK.obsX_eq (HandSHeadRun.getT_eq s)
theorem run (w : World) : HandSHeadRun.RunEq Row0 (PySem.W.view Row0.prog [12]) hk ob 4000 (loose0) w := by
  intro os
  kernel_rfl
theorem facts {P : Program} {w : World} {K : PySem.W.Frag} {h : Heap} {mg : Str → Option Value} {f : Addr} (X : K.In h) (G : h.Ns mainGlobals mg) (hfa : mg ("law" : Str) = some (.ref f)) (c : He.SaysD faL fnL K) (cx : (exL K).all id = true) :
    ∃ fd : FuncData, (∀ (s : Shared) (v : Value), BindsTo s fd ⟨[v], []⟩ [("script", v)]) ∧ ∀ base : Heap, K.In base → base.Ns mainGlobals mg → TKR.FnC P w K mg base f fd ["script"] (spLaw K) := by
  have T : Tx K mg := ⟨He.free_ok X G (c.fact 0 (f := .free "abs") rfl), He.free_ok X G (c.fact 1 (f := .free "enumerate") rfl), He.free_ok X G (c.fact 2 (f := .free "int") rfl), He.free_ok X G (c.fact 3 (f := .free "isinstance") rfl), He.free_ok X G (c.fact 4 (f := .free "len") rfl), He.free_ok X G (c.fact 5 (f := .free "max") rfl), He.free_ok X G (c.fact 6 (f := .free "range") rfl), He.free_ok X G (c.fact 7 (f := .free "repr") rfl), He.free_ok X G (c.fact 8 (f := .free "tuple") rfl), He.cls_ok (c.fact 9 (f := .cls "Told") rfl), He.noat_ok (c.fact 10 (f := .noat "Told" "number") rfl), He.noat_ok (c.fact 11 (f := .noat "Told" "caller") rfl), He.noat_ok (c.fact 12 (f := .noat "Told" "callee") rfl), He.noat_ok (c.fact 13 (f := .noat "Told" "begun") rfl), He.noat_ok (c.fact 14 (f := .noat "Told" "rang") rfl), He.noat_ok (c.fact 15 (f := .noat "Told" "answered") rfl), He.noat_ok (c.fact 16 (f := .noat "Told" "ended") rfl), He.noat_ok (c.fact 17 (f := .noat "Told" "why") rfl), He.noat_ok (c.fact 18 (f := .noat "Told" "modes") rfl), He.noat_ok (c.fact 19 (f := .noat "Told" "moves") rfl)⟩
  obtain ⟨fd_Told___init, F_Told___init⟩ := c.def_ 0 (d := d_Told___init) rfl
  obtain ⟨fd_Told_parts, F_Told_parts⟩ := c.def_ 1 (d := d_Told_parts) rfl
  obtain ⟨fd_Told_allows, F_Told_allows⟩ := c.def_ 2 (d := d_Told_allows) rfl
  obtain ⟨fd_Told_take, F_Told_take⟩ := c.def_ 3 (d := d_Told_take) rfl
  obtain ⟨fd_tell, F_tell⟩ := c.def_ 4 (d := d_tell) rfl
  obtain ⟨fd_stands, F_stands⟩ := c.def_ 5 (d := d_stands) rfl
  obtain ⟨fd_take, F_take⟩ := c.def_ 6 (d := d_take) rfl
  obtain ⟨fd_law_state, F_law_state⟩ := c.def_ 7 (d := d_law_state) rfl
  obtain ⟨fd_law_draw, F_law_draw⟩ := c.def_ 8 (d := d_law_draw) rfl
  obtain ⟨fd_law_pick, F_law_pick⟩ := c.def_ 9 (d := d_law_pick) rfl
  obtain ⟨fd_law_event, F_law_event⟩ := c.def_ 10 (d := d_law_event) rfl
  obtain ⟨fd_law_stands, F_law_stands⟩ := c.def_ 11 (d := d_law_stands) rfl
  obtain ⟨fd_law_apply, F_law_apply⟩ := c.def_ 12 (d := d_law_apply) rfl
  obtain ⟨fd_law, F_law⟩ := c.def_ 13 (d := d_law) rfl
  have e := hfa.symm.trans (He.glo_ok X G (c.fact 34 (f := .glo "law") rfl))
  cases e
  have b := FunD.bindsA (ps := ["script"]) F_law fun _ _ _ _ _ _ us hl => match us, hl with | [_], _ => rfl
  refine ⟨fd_law, fun s v => b s [v] rfl, fun base _ _ => ?_⟩
  have c_law_state := cal_of (P := P) (w := w) (base := base) F_law_state (ok_law_state T  F_law_state) (He.glo_ok X G (c.fact 28 (f := .glo "_law_state") rfl)) fun _ _ _ _ _ _ us hl => match us, hl with | [_], _ => rfl
  have c_law_draw := cal_of (P := P) (w := w) (base := base) F_law_draw (ok_law_draw T  F_law_draw) (He.glo_ok X G (c.fact 29 (f := .glo "_law_draw") rfl)) fun _ _ _ _ _ _ us hl => match us, hl with | [_, _], _ => rfl
  have c_law_pick := cal_of (P := P) (w := w) (base := base) F_law_pick (ok_law_pick T c_law_draw F_law_pick) (He.glo_ok X G (c.fact 30 (f := .glo "_law_pick") rfl)) fun _ _ _ _ _ _ us hl => match us, hl with | [_, _], _ => rfl
  have c_mk_Told := mak_of (P := P) (w := w) (base := base) (He.mkr_ok (c.fact 21 (f := .mkr "Told") rfl)) (He.glo_ok X G (c.fact 20 (f := .glo "Told") rfl)) F_Told___init (ok_Told___init T  F_Told___init) fun _ _ _ _ _ _ us hl => match us, hl with | [_, _, _, _, _], _ => rfl
  have c_Told_parts := met_of (P := P) (w := w) (base := base) T.cl_Told (He.meth_ok (c.fact 22 (f := .meth "Told" "parts") rfl)) F_Told_parts (ok_Told_parts T  F_Told_parts) fun _ _ _ _ _ _ us hl => match us, hl with | [_], _ => rfl
  have c_Told_allows := met_of (P := P) (w := w) (base := base) T.cl_Told (He.meth_ok (c.fact 23 (f := .meth "Told" "allows") rfl)) F_Told_allows (ok_Told_allows T  F_Told_allows) fun _ _ _ _ _ _ us hl => match us, hl with | [_, _], _ => rfl
  have c_Told_take := met_of (P := P) (w := w) (base := base) T.cl_Told (He.meth_ok (c.fact 24 (f := .meth "Told" "take") rfl)) F_Told_take (ok_Told_take T  F_Told_take) fun _ _ _ _ _ _ us hl => match us, hl with | [_, _], _ => rfl
  have c_stands := cal_of (P := P) (w := w) (base := base) F_stands (ok_stands T c_Told_allows F_stands) (He.glo_ok X G (c.fact 26 (f := .glo "_stands") rfl)) fun _ _ _ _ _ _ us hl => match us, hl with | [_, _], _ => rfl
  have c_take := cal_of (P := P) (w := w) (base := base) F_take (ok_take T c_Told_take c_mk_Told F_take) (He.glo_ok X G (c.fact 27 (f := .glo "_take") rfl)) fun _ _ _ _ _ _ us hl => match us, hl with | [_, _], _ => rfl
  have c_tell := cal_of (P := P) (w := w) (base := base) F_tell (ok_tell T c_stands c_take c_Told_parts F_tell) (He.glo_ok X G (c.fact 25 (f := .glo "tell") rfl)) fun _ _ _ _ _ _ us hl => match us, hl with | [_], _ => rfl
  have c_law_event := cal_of (P := P) (w := w) (base := base) F_law_event (ok_law_event T c_law_draw c_law_pick F_law_event) (He.glo_ok X G (c.fact 31 (f := .glo "_law_event") rfl)) fun _ _ _ _ _ _ us hl => match us, hl with | [_, _, _], _ => rfl
  have c_law_stands := cal_of (P := P) (w := w) (base := base) F_law_stands (ok_law_stands T  F_law_stands) (He.glo_ok X G (c.fact 32 (f := .glo "_law_stands") rfl)) fun _ _ _ _ _ _ us hl => match us, hl with | [_, _, _], _ => rfl
  have c_law_apply := cal_of (P := P) (w := w) (base := base) F_law_apply (ok_law_apply T  F_law_apply) (He.glo_ok X G (c.fact 33 (f := .glo "_law_apply") rfl)) fun _ _ _ _ _ _ us hl => match us, hl with | [_, _, _], _ => rfl
  exact ok_law T c_law_state c_law_draw c_law_pick c_law_event c_law_stands c_law_apply c_tell F_law
end K15
open PySem PySem.W PySem.Calls PyProof.Rows
theorem PySem.Challenge.cw_trunkland_k15_call_model_holds : PySem.Challenge.rw_trunkland_k15_call_model.Holds := by
  w_on; o_law
  refine HandSHeadRun.head_any (r := OpenLaw.row PySem.Challenge.rw_trunkland_k15_call_model) (q := view (OpenLaw.row PySem.Challenge.rw_trunkland_k15_call_model).prog [12]) (H := K15.hk) (ob := K15.ob) (M := 4000) (loose := K15.loose0) (d := HandSHeadRun.topDef (OpenLaw.row PySem.Challenge.rw_trunkland_k15_call_model).prog 12) (kwd := []) K15.ob_eq
    (by kernel_rfl) (fun s => by kernel_rfl) K15.run (by kernel_rfl) (by kernel_rfl) (by kernel_rfl) (by rfl) (by first | assumption | decide +kernel) (by decide +kernel) ⟨rfl, rfl, rfl, rfl, rfl, by decide +kernel⟩ ?hw ?hc
  case hw => w_witness2
  case hc =>
    refine TKR.walk_ofC (l := PySem.Challenge.rw_trunkland_k15_call_model) (n := 63) (x := "script") rfl (by decide) (by kernel_rfl) ?F
    intro w mg fa h Y G hmg0
    obtain ⟨K, KX, c, cx⟩ := Y
    have hmg : mg ("law" : PySem.Str) = some (.ref fa) := by
      have e : (HandSHeadRun.topDef (OpenLaw.row PySem.Challenge.rw_trunkland_k15_call_model).prog 12).name = ("law" : PySem.Str) := by kernel_rfl
      rw [← e]
      exact hmg0
    obtain ⟨fd, hb, hF⟩ := K15.facts (P := (PySem.Challenge.rw_trunkland_k15_call_model).prog) (w := w) KX G hmg c cx
    exact ⟨K, fd, K15.spLaw K, KX, hb, fun H a ns hl _ hS => ⟨a, ns, rfl, hS, hl, fun _ => rfl⟩, hF⟩
