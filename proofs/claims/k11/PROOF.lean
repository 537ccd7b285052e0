import PyProof.Rows.All
import Wide.All
import OpenK.AllK
import Wide.FinOn
import HandS.ForMost
import HandS.Defaults
import HandS.Codes
import HandS.IsInst
import HandS.NoneIn
import HandS.Replace
import HandS.Walk
import HandS.Head0
import HandS.Head1
import HandS.Head2
import HandS.HeadEnd
import HandS.HeadHook1
import HandS.HeadHook2
import HandS.MakeKw
import HandS.MakeKwOnly
import HandS.FStr
import HandS.Deep
import HandS.StrMore
import HandS.Steps
import PyProof.MeetsStr3
import PyProof.Rows.StrNews2
import PyProof.Rows.StrLast
import PyProof.Rows.StrCountLaw
import PyProof.Rows.StrFoldSign
import PySem.Challenge.RW_trunkland_k11_journal
import PyProof.Rows.RegStrFacts
set_option Elab.async false
set_option linter.all false
set_option maxRecDepth 100000
set_option maxHeartbeats 4000000
/-! Helpers of mine over the hand layer, the same for every law of this program. -/
namespace TK
open PySem PySem.Spec PyProof.Rows L2 C8 SX
section
variable {X : Cx} {x : Str} {pos p : Pos} {k j : Nat} {sp : Sp} {dvs : List V}
theorem pgI {i : Int} (h : ∃ t, X.mg x = some (.int i t)) (hg : Gl X x := by rfl) (hd : (x == ("__debug__" : Str)) = false := by decide) : PE X (.Name x pos) (tC (.int i)) := by
  obtain ⟨t, e⟩ := h
  exact pe_glob hg e ⟨t, rfl⟩ hd
theorem pgS {z : Str} (h : ∃ t, X.mg x = some (.str z t)) (hg : Gl X x := by rfl) (hd : (x == ("__debug__" : Str)) = false := by decide) : PE X (.Name x pos) (tC (.str z)) := by
  obtain ⟨t, e⟩ := h
  exact pe_glob hg e ⟨t, rfl⟩ hd
theorem pgR {a : Addr} (h : X.mg x = some (.ref a)) (hg : Gl X x := by rfl) (hd : (x == ("__debug__" : Str)) = false := by decide) : PE X (.Name x pos) (tC (.ref a)) := pe_glob hg h rfl hd
theorem pe_c0 (c : Cal X.prog X.w X.K X.mg X.base k x sp dvs) (hr : Room j X.A) (hk : k ≤ j) (hg : Gl X x) (hdb : (x == ("__debug__" : Str)) = false := by decide) :
    PE X (.Call (.Name x p) [] [] pos) (tCall sp dvs L2.E0 tNil) := by
  obtain ⟨f, fd, ps, ds, F, hm, kp, b, d⟩ := c.ex
  exact pe_call0 F (hr.mono hk) hg hm kp b d L2.pass0 hdb
end
section
variable {P : Program} {w : World} {K : PySem.W.Frag} {mg : Str → Option Value} {base : Heap}
/-- a def without defaults, as callers want it -/
theorem cal_of {x qual : Str} {params : Arguments} {body : List Stmt} {scope : Scope} {f : Addr} {fd : FuncData} {ps : List Str} {k : Nat} {sp : Sp} (F : FunD K x qual params body scope [] [] f fd) (G : FnOk P w K mg base L2.CX0 k f fd ps sp) (hm : mg x = some (.ref f))
    (h : ∀ (kV doc pm : Value) (an : Option Addr) (cdv ct : Value) (us : List Value), us.length = ps.length → bindArgs (PySem.W.fnOf x qual params body scope .none kV doc pm an cdv ct) ⟨us, []⟩ = pure (ps.zip us)) : Cal P w K mg base k x sp [] :=
  ⟨f, fd, ps, [], G, hm, F.kp, F.bindsN h, .nil⟩
end
/-! ### heaps -/
/-- all that was tracked is as it was, but what stands at two places -/
def Keep (H H' : Hp) (a c : Addr) : Prop := ∀ b o, H b = some o → b ≠ a → b ≠ c → H' b = some o
theorem Keep.refl (H : Hp) (a c : Addr) : Keep H H a c := fun _ _ h _ _ => h
theorem Keep.trans {H H1 H2 : Hp} {a c : Addr} (h : Keep H H1 a c) (k : Keep H1 H2 a c) : Keep H H2 a c := fun b o e h1 h2 => k b o (h b o e h1 h2) h1 h2
theorem Keep.of_same {H H' : Hp} {a c : Addr} (h : Same H H') : Keep H H' a c := fun b o e _ _ => h b o e
theorem same_upd {H : Hp} {p : Addr} {o : HO} (h : H p = none) : Same H (upd H p o) := fun b u e => by
  rw [upd_ne (ne_of_none e h)]
  exact e
/-- the law's source of draws: a list of a list of cells and a seed -/
structure StAt (H : Hp) (s c : Addr) : Prop where
  ne : s ≠ c
  at_ : ∃ n : Int, H s = some (.lst [.ref c, .int n])
  cells : ∃ ns : List Int, H c = some (.lst (ns.map V.int)) ∧ ns.length ≤ 63
theorem StAt.same {H H' : Hp} {s c : Addr} (h : StAt H s c) (e : Same H H') : StAt H' s c := by
  obtain ⟨ne, ⟨n, h1⟩, ns, h2, h3⟩ := h
  exact ⟨ne, ⟨n, e _ _ h1⟩, ns, e _ _ h2, h3⟩
end TK
namespace TK
open PySem PySem.Spec PyProof.Rows L2 C8 SX
/-! ### comprehensions whose elements leave the heap alone -/
theorem lc_pure {J : It} {n : Nat} {G : Hp → Prop} {Y : Nat → Hp → V → Hp → Prop} (w : Walk J n G Y) (f : Nat → V) {g : TG} {tt : TT} {te : TE} {vs : List Nat} {σ : L2.St} {H1 : Hp} {D : Addr} {Qd : Hp → Prop} (hn : n ≤ sizeLine)
    (hG : ∀ i, i ≤ n → G (upd H1 D (.lst ((List.range i).map f))))
    (hs : ∀ (i : Nat) (x : V) (H' : Hp) (k : V → Hp → Prop), i < n → Y i (upd H1 D (.lst ((List.range i).map f))) x H' → k (f i) (upd H1 D (.lst ((List.range i).map f))) →
      g x (wipe σ vs) H' fun σ2 H2 => wipe σ2 vs = wipe σ vs ∧ tt σ2 H2 fun b H3 => b = true ∧ te σ2 H3 k)
    (ht : ∀ σ H Q Q', (∀ b H', Q b H' → Q' b H') → tt σ H Q → tt σ H Q') (hg : ∀ x σ H Q Q', (∀ σ' H', Q σ' H' → Q' σ' H') → g x σ H Q → g x σ H Q')
    (hd : Qd (upd H1 D (.lst ((List.range n).map f)))) :
    ∃ W : Nat → Nat → Hp → Prop, (∃ m, W 0 m (upd H1 D (.lst []))) ∧ ∀ i m H, W i m H →
      (J.stop i H ∧ Qd H) ∨ (J.go i H ∧ ∃ Nx : Hp → Prop, (∀ H', Nx H' → ∃ m', m' < m ∧ W (i + 1) m' H') ∧ ∀ x H', J.yld i H x H' → g x (wipe σ vs) H' fun σ2 H2 => wipe σ2 vs = wipe σ vs ∧ tt σ2 H2 fun b H3 =>
        if b = true then te σ2 H3 fun y H4 => ∃ acc, H4 D = some (.lst acc) ∧ acc.length < sizeLine ∧ Nx (upd H4 D (.lst (acc ++ [y]))) else Nx H3) := by
  refine lc_it w (fun i H => H = upd H1 D (.lst ((List.range i).map f))) rfl (fun i H hi e => e ▸ hG i hi) (fun i x H H' hi e y => ?_) (fun H e => e ▸ hd)
  subst e
  refine hg _ _ _ _ _ (fun σ2 H2 q => ⟨q.1, ht _ _ _ _ (fun b H3 r => ?_) q.2⟩) (hs i x H' (fun y H4 => ∃ acc, H4 D = some (.lst acc) ∧ acc.length < sizeLine ∧ upd H4 D (.lst (acc ++ [y])) = upd H1 D (.lst ((List.range (i + 1)).map f))) hi y ⟨_, upd_same, ?_, ?_⟩)
  · rw [if_pos r.1]
    exact r.2
  · rw [List.length_map, List.length_range]
    omega
  · rw [upd_upd, List.range_succ, List.map_append]
    rfl
/-- the usual target and no test -/
theorem lc_pureN {J : It} {n : Nat} {G : Hp → Prop} {Y : Nat → Hp → V → Hp → Prop} (w : Walk J n G Y) (f : Nat → V) {j : Nat} {te : TE} {vs : List Nat} {σ : L2.St} {H1 : Hp} {D : Addr} {Qd : Hp → Prop} (hn : n ≤ sizeLine)
    (hG : ∀ i, i ≤ n → G (upd H1 D (.lst ((List.range i).map f))))
    (hs : ∀ (i : Nat) (x : V) (H' : Hp) (k : V → Hp → Prop), i < n → Y i (upd H1 D (.lst ((List.range i).map f))) x H' → k (f i) (upd H1 D (.lst ((List.range i).map f))) →
      wipe ((wipe σ vs).set j (some x)) vs = wipe σ vs ∧ te ((wipe σ vs).set j (some x)) H' k)
    (hd : Qd (upd H1 D (.lst ((List.range n).map f)))) :
    ∃ W : Nat → Nat → Hp → Prop, (∃ m, W 0 m (upd H1 D (.lst []))) ∧ ∀ i m H, W i m H →
      (J.stop i H ∧ Qd H) ∨ (J.go i H ∧ ∃ Nx : Hp → Prop, (∀ H', Nx H' → ∃ m', m' < m ∧ W (i + 1) m' H') ∧ ∀ x H', J.yld i H x H' → gName j x (wipe σ vs) H' fun σ2 H2 => wipe σ2 vs = wipe σ vs ∧ tYes σ2 H2 fun b H3 =>
        if b = true then te σ2 H3 fun y H4 => ∃ acc, H4 D = some (.lst acc) ∧ acc.length < sizeLine ∧ Nx (upd H4 D (.lst (acc ++ [y]))) else Nx H3) :=
  lc_pure w f hn hG (fun i x H' k hi y q => ⟨(hs i x H' k hi y q).1, rfl, (hs i x H' k hi y q).2⟩) (fun _ _ _ _ h q => h _ _ q) (fun _ _ _ _ _ h q => h _ _ q) hd
theorem size_tl (z : Str) : z.cps.size = (TL.tl z).length := by simp [TL.tl]
theorem len_eq (z : Str) : z.length = (TL.tl z).length := TL.len_tl z
theorem range_map_getD {α β : Type} (l : List α) (d : α) (f : α → β) : (List.range l.length).map (fun i => f (l.getD i d)) = l.map f := by
  apply List.ext_getElem
  · simp
  · intro i h1 h2
    simp at h1
    simp [h1]
end TK
namespace TK
open PySem PySem.Spec PyProof.Rows L2 SX
theorem ef {b : Bool} (h : ¬ b = true) : b = false := Bool.eq_false_iff.mpr h
/-! ### places in texts -/
theorem at0 {α : Type} {l : List α} (d : α) (h : 0 < l.length) : atI l 0 = some (l.getD 0 d) := by
  cases l with
  | nil => exact absurd h (Nat.lt_irrefl 0)
  | cons a r =>
    show ((if (0 : Int) ≤ 0 then (if (0 : Int) < ((a :: r).length : Nat) then some (0 : Int).toNat else none) else _) : Option Nat).bind _ = _
    rw [if_pos (Int.le_refl 0), if_pos (by rw [List.length_cons]; omega)]
    rfl
theorem atN {α : Type} {l : List α} {i : Int} (d : α) (h0 : 0 ≤ i) (h : i < l.length) : atI l i = some (l.getD i.toNat d) := by
  show ((if (0 : Int) ≤ i then (if i < (l.length : Nat) then some i.toNat else none) else _) : Option Nat).bind _ = _
  rw [if_pos h0, if_pos h]
  show l[i.toNat]? = _
  rw [List.getD_eq_getElem?_getD, List.getElem?_eq_getElem (by omega)]
  rfl
theorem atC {α : Type} (a : α) (r : List α) : atI (a :: r) 0 = some a := at0 a (by simp)
theorem ixP {n : Nat} {i : Int} (h0 : 0 ≤ i) (h : i < n) : ixN n i = some i.toNat := by
  unfold ixN
  rw [if_pos h0, if_pos h]
theorem sqP {n : Nat} {i : Int} (h0 : 0 ≤ i) (h : i < n) : seqIndex? i n = some i.toNat := (ixN_seq (ixP h0 h)).1
theorem ixC {α : Type} (a : α) (r : List α) : ixN (a :: r).length 0 = some 0 := ixP (by decide) (by rw [List.length_cons]; omega)
theorem sqC {α : Type} (a : α) (r : List α) : seqIndex? 0 (a :: r).length = some 0 := sqP (by decide) (by rw [List.length_cons]; omega)
/-- the first place of a sign -/
theorem occ_first1 {l : List Nat} {c : Nat} (h : c ∈ l) : ∃ rest, Builtin.Str.occurrences (S l) (S [c]) 0 (S l).length 1 = l.idxOf c :: rest := by
  have at_iff : ∀ i, StrLaws.At (S l) (S [c]) (S l).length i ↔ l[i]? = some c := by
    intro i
    have e := TL.at_iff (x := S l) (y := S [c]) (by show [c] ≠ []; simp) i
    refine e.trans ?_
    show (((l.drop i).take 1 == [c]) = true) ↔ _
    rw [beq_iff_eq]
    constructor
    · intro q
      cases e2 : l.drop i with
      | nil =>
        rw [e2] at q
        cases q
      | cons a r =>
        rw [e2] at q
        have e3 : a = c := by
          simpa using q
        rw [← e3]
        have e4 : (l.drop i)[0]? = some a := by rw [e2]; rfl
        rw [List.getElem?_drop] at e4
        exact e4
    · intro q
      have hi : i < l.length := (List.getElem?_eq_some_iff.mp q).1
      rw [List.drop_eq_getElem_cons hi]
      have e3 : l[i] = c := (List.getElem?_eq_some_iff.mp q).2
      rw [e3]
      rfl
  rcases StrLaws.occ_head (S l) (S [c]) 1 (Nat.le_refl 1) with ⟨_, hn⟩ | ⟨i, r, e, ha, hn⟩
  · obtain ⟨i, hi, e⟩ := List.mem_iff_getElem.mp h
    exact absurd ((at_iff i).mpr (by rw [List.getElem?_eq_getElem hi, e])) (hn i)
  · refine ⟨r, ?_⟩
    rw [e]
    congr 1
    have h1 := (at_iff i).mp ha
    have hi : i < l.length := (List.getElem?_eq_some_iff.mp h1).1
    have e1 : l[i] = c := (List.getElem?_eq_some_iff.mp h1).2
    have hj : l.idxOf c < l.length := List.idxOf_lt_length_iff.mpr h
    have e2 : l[l.idxOf c] = c := List.getElem_idxOf hj
    rcases Nat.lt_trichotomy i (l.idxOf c) with z | z | z
    · exfalso
      have := List.not_of_lt_findIdx (p := (· == c)) (xs := l) (i := i) z
      simp [e1] at this
    · exact z
    · exfalso
      exact hn _ z ((at_iff _).mpr (by rw [List.getElem?_eq_getElem hj, e2]))
/-- a list cut at the first sign c -/
theorem cut_first {l : List Nat} {c : Nat} (h : c ∈ l) : l = l.take (l.idxOf c) ++ c :: l.drop (l.idxOf c + 1) ∧ c ∉ l.take (l.idxOf c) := by
  have hj : l.idxOf c < l.length := List.idxOf_lt_length_iff.mpr h
  refine ⟨?_, ?_⟩
  · have e2 : l[l.idxOf c] = c := List.getElem_idxOf hj
    have e3 := List.drop_eq_getElem_cons hj
    rw [e2] at e3
    rw [← e3, List.take_append_drop]
  · intro hm
    obtain ⟨i, hi, e⟩ := List.mem_iff_getElem.mp hm
    rw [List.length_take] at hi
    have hi1 : i < l.idxOf c := by omega
    have := List.not_of_lt_findIdx (p := (· == c)) (xs := l) (i := i) hi1
    rw [List.getElem_take] at e
    simp [e] at this
theorem cut_unique {a b a' b' : List Nat} {c : Nat} (h : a ++ c :: b = a' ++ c :: b') (ha : c ∉ a) (ha' : c ∉ a') : a = a' ∧ b = b' := by
  induction a generalizing a' with
  | nil =>
    cases a' with
    | nil => exact ⟨rfl, by simpa using h⟩
    | cons d r =>
      have e : c = d := by simpa using (List.cons.inj h).1
      exact absurd (List.mem_cons.mpr (.inl e)) ha'
  | cons d r ih =>
    cases a' with
    | nil =>
      have e : d = c := by simpa using (List.cons.inj h).1
      exact absurd (List.mem_cons.mpr (.inl e.symm)) ha
    | cons d' r' =>
      obtain ⟨e1, e2⟩ := List.cons.inj h
      obtain ⟨e3, e4⟩ := ih e2 (fun z => ha (List.mem_cons_of_mem _ z)) (fun z => ha' (List.mem_cons_of_mem _ z))
      exact ⟨by rw [e1, e3], e4⟩
end TK
namespace TK
open PySem PySem.Spec PyProof.Rows L2 SX
theorem Keep.upd {H H' : Hp} {s c D : Addr} {o : HO} (k : Keep H H' s c) (hD : H D = none) : Keep H (upd H' D o) s c := fun b u e h1 h2 => by
  rw [upd_ne (ne_of_none e hD)]
  exact k b u e h1 h2
theorem StAt.upd {H : Hp} {s c D : Addr} {o : HO} (h : StAt H s c) (h1 : D ≠ s) (h2 : D ≠ c) : StAt (upd H D o) s c := by
  obtain ⟨ne, ⟨n, a⟩, ns, b, l⟩ := h
  exact ⟨ne, ⟨n, by rw [upd_ne h1.symm]; exact a⟩, ns, by rw [upd_ne h2.symm]; exact b, l⟩
theorem StAt.tracked {H : Hp} {s c D : Addr} (h : StAt H s c) (hD : H D = none) : D ≠ s ∧ D ≠ c := by
  obtain ⟨ne, ⟨n, a⟩, ns, b, l⟩ := h
  exact ⟨fun e => (by rw [e, a] at hD; cases hD), fun e => (by rw [e, b] at hD; cases hD)⟩
theorem Keep.none {H H' : Hp} {s c b : Addr} (k : Keep H H' s c) (h : H' b = Option.none) (h1 : b ≠ s) (h2 : b ≠ c) : H b = Option.none := by
  cases e : H b with
  | none => rfl
  | some o =>
    rw [k b o e h1 h2] at h
    cases h
theorem joinL_nil : ∀ l : List (List Nat), TL.joinL [] l = l.flatten
  | [] => rfl
  | [p] => by simp [TL.joinL]
  | p :: q :: r => by
    show p ++ ([] ++ TL.joinL [] (q :: r)) = _
    rw [joinL_nil (q :: r)]
    rfl
/-- texts of one sign, joined -/
theorem join_ones {ys : List Str} (h : ∀ z ∈ ys, z.length = 1) : (Txt.join "" ys).length = ys.length := by
  have e : (Txt.join ("" : Str) ys) = Str.join "" ys := TL.join_eq "" ys
  rw [e, len_eq, TL.tl_join, show TL.tl ("" : Str) = [] by decide +kernel, joinL_nil]
  induction ys with
  | nil => rfl
  | cons a r ih =>
    have h1 := h a (List.mem_cons_self ..)
    rw [len_eq] at h1
    rw [List.map_cons, List.flatten_cons, List.length_append, ih (fun z hz => h z (List.mem_cons_of_mem _ hz)) (TL.join_eq "" r), List.length_cons, h1]
    omega
theorem sum_ones {ys : List Str} (h : ∀ z ∈ ys, z.length = 1) : (ys.map (·.length)).sum = ys.length := by
  induction ys with
  | nil => rfl
  | cons a r ih =>
    rw [List.map_cons, List.sum_cons, ih (fun z hz => h z (List.mem_cons_of_mem _ hz)), h a (List.mem_cons_self ..), List.length_cons]
    omega
theorem cat_len (a b : Str) : (a ++ b).length = a.length + b.length := by
  rw [len_eq, TL.tl_append, List.length_append, ← len_eq, ← len_eq]
end TK
namespace TK
open PySem PySem.Spec PyProof.Rows L2 SX
/-- lc_it with a plain name as target and no test -/
theorem lc_itN {J : It} {n : Nat} {G : Hp → Prop} {Y : Nat → Hp → V → Hp → Prop} (w : Walk J n G Y) {j : Nat} {te : TE} {vs : List Nat} {σ : L2.St} {H1 : Hp} {D : Addr} {Qd : Hp → Prop} (Pv : Nat → Hp → Prop) (h0 : Pv 0 (upd H1 D (.lst []))) (hG : ∀ i H, i ≤ n → Pv i H → G H)
    (hs : ∀ i x H H', i < n → Pv i H → Y i H x H' → wipe ((wipe σ vs).set j (some x)) vs = wipe σ vs ∧ te ((wipe σ vs).set j (some x)) H' fun y H4 => ∃ acc, H4 D = some (.lst acc) ∧ acc.length < sizeLine ∧ Pv (i + 1) (upd H4 D (.lst (acc ++ [y])))) (hd : ∀ H, Pv n H → Qd H) :
    ∃ W : Nat → Nat → Hp → Prop, (∃ m, W 0 m (upd H1 D (.lst []))) ∧ ∀ i m H, W i m H →
      (J.stop i H ∧ Qd H) ∨ (J.go i H ∧ ∃ Nx : Hp → Prop, (∀ H', Nx H' → ∃ m', m' < m ∧ W (i + 1) m' H') ∧ ∀ x H', J.yld i H x H' → gName j x (wipe σ vs) H' fun σ2 H2 => wipe σ2 vs = wipe σ vs ∧ tYes σ2 H2 fun b H3 =>
        if b = true then te σ2 H3 fun y H4 => ∃ acc, H4 D = some (.lst acc) ∧ acc.length < sizeLine ∧ Nx (upd H4 D (.lst (acc ++ [y]))) else Nx H3) :=
  lc_it w Pv h0 hG (fun i x H H' hi p y => ⟨(hs i x H H' hi p y).1, (hs i x H H' hi p y).2⟩) hd
end TK
namespace TK
open PySem PySem.Spec PyProof.Rows L2 SX
theorem slTo (z : Str) {i : Int} (h : 0 ≤ i) : Txt.slice z none (some i) = S ((TL.tl z).take i.toNat) := slice_to (a := TL.tl z) h
theorem slFrom (z : Str) {i : Int} (h : 0 ≤ i) : Txt.slice z (some i) none = S ((TL.tl z).drop i.toNat) := slice_from (a := TL.tl z) h
theorem log_small {i : Int} (h : i.natAbs < 2 ^ 1900) : i.natAbs.log2 < 1920 := by
  by_cases h0 : i.natAbs = 0
  · rw [h0]
    decide
  · exact (Nat.log2_lt h0).mpr (Nat.lt_of_lt_of_le h (Nat.pow_le_pow_right (by decide) (by decide)))
end TK
namespace TK
open PySem PySem.Spec PyProof.Rows L2 SX
/-! ### comprehensions with a test, the heap left alone -/
theorem lc_filt {J : It} {n : Nat} {G : Hp → Prop} {Y : Nat → Hp → V → Hp → Prop} (w : Walk J n G Y) (f : Nat → V) (b : Nat → Bool) {j : Nat} {tt : TT} {te : TE} {vs : List Nat} {σ : L2.St} {H1 : Hp} {D : Addr} {Qd : Hp → Prop} (hn : n ≤ sizeLine)
    (hG : ∀ i, i ≤ n → G (upd H1 D (.lst (((List.range i).filter b).map f))))
    (ht : ∀ (i : Nat) (x : V) (H' : Hp) (k : Bool → Hp → Prop), i < n → Y i (upd H1 D (.lst (((List.range i).filter b).map f))) x H' → k (b i) (upd H1 D (.lst (((List.range i).filter b).map f))) →
      wipe ((wipe σ vs).set j (some x)) vs = wipe σ vs ∧ tt ((wipe σ vs).set j (some x)) H' k)
    (he : ∀ (i : Nat) (x : V) (H' : Hp) (k : V → Hp → Prop), i < n → b i = true → Y i (upd H1 D (.lst (((List.range i).filter b).map f))) x H' → k (f i) (upd H1 D (.lst (((List.range i).filter b).map f))) →
      te ((wipe σ vs).set j (some x)) (upd H1 D (.lst (((List.range i).filter b).map f))) k)
    (hd : Qd (upd H1 D (.lst (((List.range n).filter b).map f)))) :
    ∃ W : Nat → Nat → Hp → Prop, (∃ m, W 0 m (upd H1 D (.lst []))) ∧ ∀ i m H, W i m H →
      (J.stop i H ∧ Qd H) ∨ (J.go i H ∧ ∃ Nx : Hp → Prop, (∀ H', Nx H' → ∃ m', m' < m ∧ W (i + 1) m' H') ∧ ∀ x H', J.yld i H x H' → gName j x (wipe σ vs) H' fun σ2 H2 => wipe σ2 vs = wipe σ vs ∧ tt σ2 H2 fun b H3 =>
        if b = true then te σ2 H3 fun y H4 => ∃ acc, H4 D = some (.lst acc) ∧ acc.length < sizeLine ∧ Nx (upd H4 D (.lst (acc ++ [y]))) else Nx H3) := by
  refine lc_it w (fun i H => H = upd H1 D (.lst (((List.range i).filter b).map f))) rfl (fun i H hi e => e ▸ hG i hi) (fun i x H H' hi e y => ?_) (fun H e => e ▸ hd)
  subst e
  refine ht i x H' _ hi y ?_
  cases hb : b i with
  | true =>
    refine iteT (he i x H' _ hi hb y ⟨_, upd_same, ?_, ?_⟩)
    · rw [List.length_map]
      exact Nat.lt_of_le_of_lt (List.length_filter_le _ _) (by rw [List.length_range]; omega)
    · rw [upd_upd, List.range_succ, List.filter_append, List.map_append, List.filter_cons_of_pos hb]
      rfl
  | false =>
    refine iteF ?_
    rw [List.range_succ, List.filter_append, List.filter_cons_of_neg (by rw [hb]; exact Bool.false_ne_true), List.filter_nil, List.append_nil]
theorem range_filter_getD {α β : Type} (l : List α) (d : α) (p : α → Bool) (f : α → β) : ((List.range l.length).filter (fun i => p (l.getD i d))).map (fun i => f (l.getD i d)) = (l.filter p).map f := by
  have e := range_map_getD l d (fun x => x)
  rw [List.map_id'] at e
  have h : (l.filter p).map f = (((List.range l.length).map (fun i => l.getD i d)).filter p).map f := by rw [e]
  rw [h, List.filter_map, List.map_map]
  rfl
theorem getD_at {α : Type} {l : List α} {i : Nat} {x : α} (d : α) (h : l[i]? = some x) : l.getD i d = x := by
  rw [List.getD_eq_getElem?_getD, h]
  rfl
/-! ### heads with tables -/
def obsX (n : Nat) (fa : List He.Fa) (fn : List He.DefD) (ex : PySem.W.Frag → List Bool) (g : Addr → Option Obj) : He.AlD :=
  ((He.obsD fa fn (He.frG g (He.asD g n))).1 && (ex (He.frG g (He.asD g n))).all id, (He.obsD fa fn (He.frG g (He.asD g n))).2)
def hookX (n : Nat) (fa : List He.Fa) (fn : List He.DefD) (ex : PySem.W.Frag → List Bool) : PySem.W.Hook where
  α := He.AlD
  obs s := obsX n fa fn ex s.heap.get?
  val _ := He.valD fn
  says _ h := ∃ K : PySem.W.Frag, K.In h ∧ He.SaysD fa fn K ∧ (ex K).all id = true
  of _ _ e := by
    have e1 := congrArg (fun z : He.AlD => z.1) e
    have e2 := congrArg (fun z : He.AlD => z.2) e
    obtain ⟨a, b⟩ := Bool.and_eq_true_iff.mp e1
    exact ⟨_, He.frG_in, Prod.ext a e2, b⟩
  keeps _ _ _ c k := let ⟨K, hK, c1, c2⟩ := c; ⟨K, PySem.W.Frag.In.keeps hK k, c1, c2⟩
theorem obsX_eq {n : Nat} {fa : List He.Fa} {fn : List He.DefD} {ex : PySem.W.Frag → List Bool} {g : Addr → Option Obj} {s : Shared} (h : ∀ a, g a = s.heap.get? a) : obsX n fa fn ex g = (hookX n fa fn ex).obs s := by
  obtain rfl : g = s.heap.get? := funext h
  rfl
theorem exAt {l : List Bool} (h : l.all id = true) (i : Nat) {b : Bool} (e : l[i]? = some b) : b = true := List.all_eq_true.mp h b (List.mem_of_getElem? e)
end TK
namespace TK
open PySem PySem.Spec PyProof.Rows L2 SX
/-! ### rules that name the written part, for use within a comprehension -/
section
variable {X : Cx}
theorem inSeqK (K : PySem.W.Frag) (e : X.K = K) : OpR X (compareOp .In) (rIn K false) := by
  subst e
  exact op_in_seq
theorem notInSeqK (K : PySem.W.Frag) (e : X.K = K) : OpR X (compareOp .NotIn) (rIn K true) := by
  subst e
  exact op_notIn_seq
theorem ixListK (K : PySem.W.Frag) (e : X.K = K) : IxR X (rIxL K) := by
  subst e
  exact ix_list
theorem ixTupK (K : PySem.W.Frag) (e : X.K = K) : IxR X (rIxT K) := by
  subst e
  exact ix_tup
theorem isiK (K : PySem.W.Frag) (e : X.K = K) : CallR X (.builtin "isinstance") (rIsi K) := by
  subst e
  exact call_isi
end
end TK
set_option maxHeartbeats 4000000
namespace TK
open PySem PySem.Spec PyProof.Rows L2 SX
theorem same_upd2 {H H' : Hp} {D : Addr} {o : HO} (s : Same H H') (hD : H D = none) : Same H (upd H' D o) := fun b u e => by
  rw [upd_ne (ne_of_none e hD)]
  exact s b u e
theorem joinL_len (y : List Nat) : ∀ l : List (List Nat), (TL.joinL y l).length ≤ (l.map (·.length)).sum + l.length * y.length
  | [] => by simp [TL.joinL]
  | [p] => by simp [TL.joinL]
  | p :: q :: r => by
    have ih := joinL_len y (q :: r)
    show (p ++ (y ++ TL.joinL y (q :: r))).length ≤ _
    rw [List.length_append, List.length_append, List.map_cons, List.sum_cons, List.length_cons (a := p), Nat.succ_mul]
    omega
theorem join_len (y : Str) (ys : List Str) : (Txt.join y ys).length ≤ (ys.map (·.length)).sum + ys.length * y.length := by
  rw [show Txt.join y ys = Str.join y ys from TL.join_eq y ys, len_eq, TL.tl_join]
  have q := joinL_len (TL.tl y) (ys.map TL.tl)
  rw [List.length_map, List.map_map] at q
  have e : (ys.map (fun x : Str => x.length)) = ys.map ((fun x : List Nat => x.length) ∘ TL.tl) := List.map_congr_left fun x _ => len_eq x
  rw [e, len_eq y]
  exact q
theorem sum_le {m : Nat} : ∀ {ys : List Str}, (∀ z ∈ ys, z.length ≤ m) → (ys.map (·.length)).sum ≤ ys.length * m
  | [], _ => Nat.zero_le _
  | a :: r, h => by
    have ih := sum_le (ys := r) fun z hz => h z (List.mem_cons_of_mem _ hz)
    have h1 := h a (List.mem_cons_self ..)
    rw [List.map_cons, List.sum_cons, List.length_cons, Nat.succ_mul]
    omega
theorem nodup_inr : ∀ ys : List Str, (ys.map (Sum.inr : Str → Key)).Nodup ↔ ys.Nodup
  | [] => by simp
  | a :: r => by
    rw [List.map_cons, List.nodup_cons, List.nodup_cons, nodup_inr r, List.mem_map]
    constructor
    · intro q
      exact ⟨fun m => q.1 ⟨a, m, rfl⟩, q.2⟩
    · intro q
      exact ⟨fun ⟨b, m, e⟩ => q.1 (Sum.inr.inj e ▸ m), q.2⟩
theorem key_strs (ys : List Str) : (ys.map (Sum.inr : Str → Key)).map kV = ys.map V.str := by
  rw [List.map_map]
  rfl
/-- the parts of a text are no longer than the text -/
theorem part_len {z y p : Str} (h : p ∈ Txt.split z y) : p.length ≤ z.length := by
  have j := StrLaws.join_split z y
  have sub : ∀ (l : List (List Nat)) (s : List Nat), ∀ x ∈ l, x.length ≤ (TL.joinL s l).length := by
    intro l s
    induction l with
    | nil => exact fun x hx => nomatch hx
    | cons a r ih =>
      intro x hx
      cases r with
      | nil =>
        rw [List.mem_singleton.mp hx]
        exact Nat.le_refl _
      | cons b r =>
        show x.length ≤ (a ++ (s ++ TL.joinL s (b :: r))).length
        rw [List.length_append, List.length_append]
        rcases List.mem_cons.mp hx with q | q
        · rw [q]
          omega
        · have := ih x q
          omega
  have q := sub ((Txt.split z y).map TL.tl) (TL.tl y) (TL.tl p) (List.mem_map.mpr ⟨p, h, rfl⟩)
  rw [← TL.tl_join, j] at q
  rw [len_eq, len_eq]
  exact q
end TK
namespace TK
open PySem PySem.Spec PyProof.Rows L2 SX
/-! ### a word between an expression and what follows -/
def tCutE (t : TE) : TE := fun σ H Q => ∃ Mid : VK, t σ H Mid ∧ ∀ v H', Mid v H' → Q v H'
def tCutT (t : TT) : TT := fun σ H Q => ∃ Mid : Bool → Hp → Prop, t σ H Mid ∧ ∀ b H', Mid b H' → Q b H'
section
variable {X : Cx} {e : Expr}
theorem pe_cut {t : TE} (h : PE X e t) : PE X e (tCutE t) := ⟨fun pins s σ H _ I ⟨Mid, hm, hq⟩ => thn (h.run pins s σ H Mid I hm) fun _ _ ⟨v, H', I', r, q⟩ => ⟨v, H', I', r, hq v H' q⟩⟩
theorem pt_cut {t : TT} (h : PT X e t) : PT X e (tCutT t) := ⟨fun pins s σ H _ I ⟨Mid, hm, hq⟩ => thn (h.run pins s σ H Mid I hm) fun b _ ⟨H', I', q⟩ => ⟨H', I', hq b H' q⟩⟩
end
end TK
set_option maxHeartbeats 4000000
/-! Own classes: rules that name the class, makers and methods by their promises. -/
namespace TK
open PySem PySem.Spec PyProof.Rows L2 SX
def tFldC (C : Addr) (ta : TE) (f : Str) : TE := fun σ H Q => ta σ H fun x H1 => ∃ a dx fs v, x = .ref a ∧ H1 a = some (.ins C dx fs) ∧ fs.lookup f = some v ∧ Q v H1
def sFldC (C : Addr) (ta tv : TE) (f : Str) : TS := fun D σ H => tv σ H fun y H1 => ta σ H1 fun x H2 => ∃ a dx fs, x = .ref a ∧ H2 a = some (.ins C dx fs) ∧ fs.length < 1000 ∧ D.nx σ (upd H2 a (.ins C dx (putF f y fs)))
section
variable {X : Cx} {K : PySem.W.Frag} {C : Addr} {e o value : Expr} {f : Str} {pos pos' : Pos} {ta tv : TE}
theorem pe_fldC (eK : X.K = K) (c : Cls K C) (n : NoAttr K C f) (he : PE X e ta) (hb : attributeBase e f X.env (eval e X.env) = eval e X.env) : PE X (.Attribute e f pos) (tFldC C ta f) := by
  subst eK
  exact ⟨fun pins s σ H Q I h => (pe_fld (pe_cut he) hb).run pins s σ H Q I ⟨_, h, fun v H' ⟨a, dx, fs, w, e1, e2, e3, q⟩ => ⟨a, C, dx, fs, w, e1, e2, c, n, e3, q⟩⟩⟩
theorem ps_fldC (eK : X.K = K) (c : Cls K C) (n : NoAttr K C f) (ha : PE X o ta) (hv : PE X value tv) (hs : swapsWith value (some (.Attribute o f pos')) pos.line X.env = pure false) : PS X (.Assign [.Attribute o f pos'] value pos) (sFldC C ta tv f) := by
  subst eK
  exact ⟨fun pins s σ H D I h => (ps_fld (pe_cut ha) (pe_cut hv) hs).run pins s σ H D I ⟨_, h, fun v H' h2 => ⟨_, h2, fun x H2 ⟨a, dx, fs, e1, e2, e3, q⟩ => ⟨a, C, dx, fs, e1, e2, c, n, e3, q⟩⟩⟩⟩
end
/-! ### few attributes -/
class SmallF (fs : List (Str × V)) (n : outParam Nat) : Prop where
  le : fs.length ≤ n
instance : SmallF [] 0 := ⟨Nat.le_refl _⟩
instance {x : Str × V} {l : List (Str × V)} {n : Nat} [h : SmallF l n] : SmallF (x :: l) (n + 1) := ⟨Nat.succ_le_succ h.le⟩
theorem putF_len {f : Str} {v : V} : ∀ fs : List (Str × V), (putF f v fs).length ≤ fs.length + 1
  | [] => Nat.le_refl _
  | (g, x) :: r => by
    show (if g = f then (g, v) :: r else (g, x) :: putF f v r).length ≤ _
    by_cases h : g = f
    · rw [if_pos h]
      exact Nat.le_succ _
    · rw [if_neg h]
      exact Nat.succ_le_succ (putF_len r)
instance {f : Str} {v : V} {l : List (Str × V)} {n : Nat} [h : SmallF l n] : SmallF (putF f v l) (n + 1) := ⟨Nat.le_trans (putF_len l) (Nat.succ_le_succ h.le)⟩
theorem sm {fs : List (Str × V)} {n : Nat} [h : SmallF fs n] (hn : n < 1000 := by decide) : fs.length < 1000 := Nat.lt_of_le_of_lt h.le hn
/-! ### makers -/
section
variable {P : Program} {w : World} {K : PySem.W.Frag} {mg : Str → Option Value} {base : Heap}
structure MakK (P : Program) (w : World) (K : PySem.W.Frag) (mg : Str → Option Value) (base : Heap) (k : Nat) (x : Str) (C : Addr) (sp : Sp) (n : Nat) (ks : List Str) (gV : List V → List V → List V) : Prop where
  ex : ∃ (f : Addr) (fd : FuncData) (ps : List Str) (g : List Value → List Value → List Value), Mk K C f ∧ FnOk P w K mg base L2.CX0 k f fd ps sp ∧ mg x = some (.ref C) ∧ KBn K fd ps (n + 1) ks g gV
theorem mak_of {C : Addr} {x n qual : Str} {params : Arguments} {body : List Stmt} {scope : Scope} {f : Addr} {fd : FuncData} {ps : List Str} {k : Nat} {sp : Sp} (M : Mk K C f) (hm : mg x = some (.ref C)) (F : FunD K n qual params body scope [] [] f fd) (G : FnOk P w K mg base L2.CX0 k f fd ps sp)
    (h : ∀ (kV doc pm : Value) (an : Option Addr) (cdv ct : Value) (us : List Value), us.length = ps.length → bindArgs (PySem.W.fnOf n qual params body scope .none kV doc pm an cdv ct) ⟨us, []⟩ = pure (ps.zip us)) : C8.Mak P w K mg base k x C sp [] :=
  ⟨f, fd, ps, [], M, G, hm, F.bindsN h, .nil⟩
theorem met_of {C : Addr} {n qual : Str} {params : Arguments} {body : List Stmt} {scope : Scope} {f : Addr} {fd : FuncData} {ps : List Str} {k : Nat} {sp : Sp} (c : Cls K C) (m : Meth K C n f) (F : FunD K n qual params body scope [] [] f fd) (G : FnOk P w K mg base L2.CX0 k f fd ps sp)
    (h : ∀ (kV doc pm : Value) (an : Option Addr) (cdv ct : Value) (us : List Value), us.length = ps.length → bindArgs (PySem.W.fnOf n qual params body scope .none kV doc pm an cdv ct) ⟨us, []⟩ = pure (ps.zip us)) : C8.Met P w K mg base k C n sp [] :=
  ⟨f, fd, ps, [], c, m, G, F.bindsN h, .nil⟩
theorem metD_of {C : Addr} {n qual : Str} {params : Arguments} {body : List Stmt} {scope : Scope} {dvs : List V} {f : Addr} {fd : FuncData} {ps : List Str} {k : Nat} {sp : Sp} (c : Cls K C) (m : Meth K C n f) (F : FunD K n qual params body scope dvs [] f fd) (G : FnOk P w K mg base L2.CX0 k f fd ps sp) (hd : dvs ≠ []) (hn : dvs.length ≤ ps.length)
    (h : ∀ (T : Addr) (kV doc pm : Value) (an : Option Addr) (cdv ct : Value) (us its : List Value), us.length = ps.length - dvs.length → its.length = dvs.length →
      ∃ k, bindArgs (PySem.W.fnOf n qual params body scope (.ref T) kV doc pm an cdv ct) ⟨us, []⟩ = seqItems? (.ref T) >>= k ∧ k (some its.toArray) = pure (ps.zip (us ++ its.drop 0))) : C8.Met P w K mg base k C n sp dvs := by
  obtain ⟨ds, h1, h2⟩ := F.binds1 (ps := ps) (ps.length - dvs.length) 0 hd (by omega) h
  exact ⟨f, fd, ps, ds, c, m, G, h2, by simpa using h1⟩
end
section
variable {X : Cx} {k j n : Nat} {C : Addr} {x : Str} {sp : Sp} {p pos : Pos} {e : Expr} {es : List Expr} {kws : List Keyword} {ks : List Str} {t tk : TA} {gV : List V → List V → List V}
theorem pe_mk0 {dvs : List V} (c : C8.Mak X.prog X.w X.K X.mg X.base k x C sp dvs) (hr : Room j X.A) (hk : k + 1 ≤ j) (hg : Gl X x) (hdb : (x == ("__debug__" : Str)) = false := by decide) : PE X (.Call (.Name x p) [] [] pos) (tMake C sp dvs L2.E0 tNil) := by
  obtain ⟨f, fd, ps, ds, M, F, hm, b, d⟩ := c.ex
  exact pe_make0 M F (hr.mono hk) hg hm b d L2.pass0 hdb
theorem pe_mkK0 (c : MakK X.prog X.w X.K X.mg X.base k x C sp 0 ks gV) (hr : Room j X.A) (hk : k + 1 ≤ j) (hg : Gl X x) (hkw : PK X kws tk)
    (hall : (backToKw pos (keywordEach kws X.env)).all (·.1.isSome) = true := by rfl) (hks : (backToKw pos (keywordEach kws X.env)).filterMap (·.1) = ks := by rfl) (hdb : (x == ("__debug__" : Str)) = false := by decide)
    (hpl : ((backTo pos (starEach [] X.env)).any (·.1) || (backToKw pos (keywordEach kws X.env)).any (·.1.isNone)) = false := by rfl) :
    PE X (.Call (.Name x p) [] kws pos) (tMakeK C 0 ks.length sp gV L2.E0 tNil tk) := by
  obtain ⟨f, fd, ps, g, M, F, hm, b⟩ := c.ex
  exact pe_makeK0 M F (hr.mono hk) hg hm b L2.pass0 hkw hall hks hdb hpl
end
/-! ### new objects -/
theorem same_own {H : Hp} {x dx C : Addr} {fs : List (Str × V)} (hx : H x = none) (hd : H dx = none) : Same H (upd (upd H dx (.own x)) x (.ins C dx fs)) := fun b o e => by
  rw [upd_ne (ne_of_none e hx), upd_ne (ne_of_none e hd)]
  exact e
theorem Same.upd_of {H H' : Hp} {a : Addr} {o : HO} (s : Same H H') (h : H a = none) : Same H (upd H' a o) := fun b u e => by
  rw [upd_ne (ne_of_none e h)]
  exact s b u e
/-! ### texts that can be laid -/
theorem ok_iff {z : Str} : PyData.strOk z = true ↔ ∀ c ∈ TL.tl z, c < 0x110000 := by
  unfold PyData.strOk TL.tl
  rw [Array.all_eq_true']
  constructor
  · intro h c hc
    simpa using h c (by simpa using hc)
  · intro h c hc
    simpa using h c (by simpa using hc)
theorem ok_cat {a b : Str} (ha : PyData.strOk a = true) (hb : PyData.strOk b = true) : PyData.strOk (a ++ b) = true := by
  rw [ok_iff] at *
  intro c hc
  rw [TL.tl_append, List.mem_append] at hc
  exact hc.elim (ha c) (hb c)
theorem joinL_mem {s : List Nat} {c : Nat} : ∀ l : List (List Nat), c ∈ TL.joinL s l → c ∈ s ∨ ∃ p ∈ l, c ∈ p
  | [], h => by simp [TL.joinL] at h
  | [p], h => .inr ⟨p, List.mem_singleton.mpr rfl, by simpa [TL.joinL] using h⟩
  | p :: q :: r, h => by
    have h2 : c ∈ p ++ (s ++ TL.joinL s (q :: r)) := h
    rw [List.mem_append, List.mem_append] at h2
    rcases h2 with h2 | h2 | h2
    · exact .inr ⟨p, List.mem_cons_self .., h2⟩
    · exact .inl h2
    · rcases joinL_mem (q :: r) h2 with h3 | ⟨x, h3, h4⟩
      · exact .inl h3
      · exact .inr ⟨x, List.mem_cons_of_mem _ h3, h4⟩
theorem ok_join {y : Str} {l : List Str} (hy : PyData.strOk y = true) (hl : ∀ z ∈ l, PyData.strOk z = true) : PyData.strOk (Txt.join y l) = true := by
  rw [TL.join_eq, ok_iff]
  intro c hc
  rw [TL.tl_join] at hc
  rcases joinL_mem _ hc with h | ⟨p, hp, h⟩
  · exact ok_iff.mp hy c h
  · obtain ⟨z, hz, rfl⟩ := List.mem_map.mp hp
    exact ok_iff.mp (hl z hz) c h
def numS (i : Int) : Str := Str.ofString (toString i)
theorem numS_tl {i : Int} (h : 0 ≤ i) : TL.tl (numS i) = TL.numL i.toNat := by
  have e : i = ((i.toNat : Nat) : Int) := (Int.toNat_of_nonneg h).symm
  rw [e]
  exact TL.tl_num _
theorem ok_num {i : Int} (h : 0 ≤ i) : PyData.strOk (numS i) = true := by
  rw [ok_iff, numS_tl h]
  intro c hc
  exact Nat.lt_of_not_le fun q => TL.numL_free (n := i.toNat) (s := c) (.inr (by omega)) hc
theorem numS_len {i : Int} (h : i.natAbs < 1000000000) : (numS i).length ≤ 10 := by
  have e := int_text_length_le10 (a := i) (k := 9) (by decide) (by omega)
  show (Str.ofString (toString i)).length ≤ 10
  rw [PySem.ofString_length]
  omega
theorem numS_log {i : Int} (h : i.natAbs < 1000000000) : i.natAbs.log2 < 1920 := log_small (Nat.lt_of_lt_of_le h (by decide))
theorem szl {z : Str} (h : z.length ≤ 100000) : z.length ≤ sizeLine := Nat.le_trans h (by decide)
theorem ne_ins {H : Hp} {a b C C' dx dx' : Addr} {fs fs' : List (Str × V)} (h : H a = some (.ins C dx fs)) (h' : H b = some (.ins C' dx' fs')) (n : fs.length ≠ fs'.length) : a ≠ b :=
  ne_of h h' fun e => by
    injection e with _ _ e2
    exact n (congrArg List.length e2)
/-- only what stands at A has changed -/
def Fr (A : List Addr) (H H' : Hp) : Prop := ∀ b o, H b = some o → b ∉ A → H' b = some o
theorem Fr.of_same {A : List Addr} {H H' : Hp} (s : Same H H') : Fr A H H' := fun b o e _ => s b o e
theorem Fr.refl (A : List Addr) (H : Hp) : Fr A H H := fun _ _ e _ => e
theorem Fr.trans {A : List Addr} {H H1 H2 : Hp} (s : Fr A H H1) (t : Fr A H1 H2) : Fr A H H2 := fun b o e n => t b o (s b o e n) n
theorem Fr.trans_new {A A' : List Addr} {H H1 H2 : Hp} (s : Fr A H H1) (t : Fr A' H1 H2) (n : ∀ b ∈ A', b ∈ A ∨ H b = none) : Fr A H H2 := fun b o e hn => t b o (s b o e hn) fun m => (n b m).elim hn fun z => by rw [e] at z; cases z
end TK
set_option maxHeartbeats 1000000
namespace TK
open PySem PySem.Spec PyProof.Rows L2 SX
def rRpart : V → List V → Hp → VK → Prop := fun x xs H Q => ∃ z y, x = .str z ∧ xs = [.str y] ∧ (y.length == 0) = false ∧ z.length ≤ sizeLine ∧ ∀ p, H p = none → Q (.ref p) (upd H p (.tup [.str (Txt.rpartition z y).1, .str (Txt.rpartition z y).2.1, .str (Txt.rpartition z y).2.2]))
section
variable {X : Cx} {e o : Expr} {te to : TE}
theorem mt_rpart : MtR X "str.rpartition" rRpart := by
  intro pins s σ H x xs v us Q I rx rs ⟨z, y, ex, exs, hy, hz, h⟩
  subst ex exs
  obtain ⟨tz, rfl⟩ := rx
  match us, rs with
  | [w], .cons r1 .nil =>
    obtain ⟨ty, rfl⟩ := r1
    refine call_meets PySem.F.slot_str_rpartition (typeIs_str _ _ _) PySem.F.entry_str_rpartition (PySem.F.args_str_rpartition_2 _ _) (meets_str_rpartition z y tz ty hy hz) ?_
    have h2 := h
    unfold Txt.rpartition at h2
    revert h2
    cases Builtin.Str.lastOccurrence z y 0 z.length with
    | none => exact fun h2 => laid_parts I h2
    | some i => exact fun h2 => laid_parts I h2
theorem pe_rpartition {apos pos : Pos} (ho : PE X o to) (he : PE X e te) (hs : starEach [e] X.env = [(false, eval e X.env)] := by rfl) (hb : attributeBase o "rpartition" X.env (eval o X.env) = eval o X.env := by rfl) (hl : (apos.endLine == pos.line) = true := by rfl) :
    PE X (.Call (.Attribute o "rpartition" apos) [e] [] pos) (tM1 rRpart to te) := pe_m1 PySem.F.slot_str_rpartition PySem.F.type_str_rpartition mt_rpart ho he hs hb hl
end
/-- what a new object at t, then one at l leaves -/
theorem new2 {H : Hp} {t l : Addr} {o u : HO} (ht : H t = none) (hl : upd H t o l = none) : t ≠ l ∧ H l = none ∧ Same H (upd (upd H t o) l u) ∧ (upd (upd H t o) l u) t = some o ∧ (upd (upd H t o) l u) l = some u := by
  have n : t ≠ l := fun e => by rw [← e, upd_same] at hl; cases hl
  exact ⟨n, by rw [upd_ne n.symm] at hl; exact hl, (same_upd ht).trans (same_upd hl), (upd_ne n).trans upd_same, upd_same⟩
theorem cutV_to (xs : List V) (k : Nat) : cutV xs none (some (k : Int)) = xs.take k := by
  unfold cutV
  have a : HT.sIx xs.length 0 none = 0 := by rfl
  have b : HT.sIx xs.length xs.length (some (k : Int)) = min k xs.length := by
    unfold HT.sIx
    simp
    try omega
  rw [a, b, List.drop_zero, Nat.sub_zero]
  by_cases h : k ≤ xs.length
  · rw [Nat.min_eq_left h]
  · rw [Nat.min_eq_right (by omega), List.take_length, List.take_of_length_le (by omega)]
end TK
set_option maxHeartbeats 1000000
namespace K11
open PySem PySem.Spec PyProof.Rows L2 SX TK
/-! ### the mathematics of a journal, over lists of code points -/
def cks (l : List Nat) : Nat := l.foldl (fun t c => (t * 31 + c) % 9973) 7
def lnL (r : List Nat) : List Nat := r ++ 32 :: TL.numL (cks r)
def sealL (r : List Nat) : List Nat := lnL r ++ [10]
def cat (rows : List (List Nat)) : List Nat := (rows.map sealL).flatten
theorem lnL_free {r : List Nat} (h : 10 ∉ r) : 10 ∉ lnL r := by
  unfold lnL
  rw [List.mem_append, List.mem_cons, not_or, not_or]
  exact ⟨h, by decide, TL.numL_free (.inl (by decide))⟩
theorem hX0' : Txt.split (S []) (S [10]) = [S []] := by decide +kernel
theorem split_cons {a X : List Nat} (h : 10 ∉ a) : Txt.split (S (a ++ 10 :: X)) (S [10]) = S a :: Txt.split (S X) (S [10]) := by
  have j := StrLaws.join_split (S X) (S [10])
  have f := StrLaws.split_free (S X) 10
  have hne : Txt.split (S X) (S [10]) ≠ [] := by
    intro e
    rw [e] at j
    have q := congrArg TL.tl j
    rw [TL.tl_join] at q
    have q2 : X = [] := q.symm
    rw [q2, hX0'] at e
    cases e
  generalize Txt.split (S X) (S [10]) = ps at j f hne ⊢
  have e : Txt.join (S [10]) (S a :: ps) = S (a ++ 10 :: X) := by
    apply TL.ext_tl
    rw [TL.join_eq, TL.tl_join]
    cases ps with
    | nil => exact absurd rfl hne
    | cons p r =>
      have j2 : TL.joinL [10] ((p :: r).map TL.tl) = X := by
        have := congrArg TL.tl j
        rw [TL.tl_join] at this
        exact this
      show TL.tl (S a) ++ ([10] ++ TL.joinL [10] ((p :: r).map TL.tl)) = _
      rw [j2]
      rfl
  rw [← e]
  exact TL.split_join (s := 10) (S := []) rfl (by decide +kernel) (by intro z; cases z) fun p hp => (List.mem_cons.mp hp).elim (fun z => by rw [z]; exact h) (f p)

theorem split_one {a : List Nat} (h : 10 ∉ a) : Txt.split (S a) (S [10]) = [S a] := by
  have e : Txt.join (S [10]) [S a] = S a := by
    apply TL.ext_tl
    rw [TL.join_eq, TL.tl_join]
    rfl
  rw [← e]
  exact (TL.split_join (s := 10) (S := []) rfl (by decide +kernel) (by intro z; cases z) fun p hp => by rw [List.mem_singleton.mp hp]; exact h).trans (by rw [e])
/-- what stands ahead of the last blank of a line -/
theorem told_ln (r : List Nat) : (Txt.rpartition (S (lnL r)) " ").1 = S r := by
  have at_iff : ∀ i, StrLaws.At (S (lnL r)) " " (S (lnL r)).length i ↔ (lnL r)[i]? = some 32 := by
    intro i
    have e := TL.at_iff (x := S (lnL r)) (y := " ") (by show TL.tl " " ≠ []; decide +kernel) i
    refine e.trans ?_
    rw [show TL.tl (" " : Str) = [32] by decide +kernel]
    show (TL.pre [32] ((lnL r).drop i) = true) ↔ _
    have h0 : (lnL r)[i]? = ((lnL r).drop i)[0]? := by rw [List.getElem?_drop]; simp
    rw [h0]
    cases (lnL r).drop i with
    | nil => exact ⟨(fun h => by cases h), (fun h => by cases h)⟩
    | cons a q =>
      show ((((a :: q).take 1) == [32]) = true) ↔ _
      rw [beq_iff_eq]
      show [a] = [32] ↔ some a = some 32
      simp
  have h32 : (lnL r)[r.length]? = some 32 := by
    unfold lnL
    rw [List.getElem?_append_right (Nat.le_refl _), Nat.sub_self]
    rfl
  unfold Txt.rpartition
  rcases StrLaws.last_spec (S (lnL r)) " " with ⟨_, hn⟩ | ⟨i, e, hi, hn⟩
  · exact absurd ((at_iff _).mpr h32) (hn _)
  · rw [e]
    have ei : i = r.length := by
      rcases Nat.lt_trichotomy i r.length with z | z | z
      · exact absurd ((at_iff _).mpr h32) (hn _ z)
      · exact z
      · exfalso
        have q := (at_iff i).mp hi
        unfold lnL at q
        rw [List.getElem?_append_right (Nat.le_of_lt z)] at q
        obtain ⟨k, ek⟩ : ∃ k, i - r.length = k + 1 := ⟨i - r.length - 1, by omega⟩
        rw [ek, List.getElem?_cons_succ] at q
        exact TL.numL_free (.inl (by decide)) (List.mem_of_getElem? q)
    show Builtin.Str.strSub (S (lnL r)) 0 i = S r
    rw [ei]
    apply TL.ext_tl
    show ((S (lnL r)).cps.extract 0 r.length).toList = r
    rw [Array.toList_extract]
    show ((lnL r).take r.length).drop 0 = r
    unfold lnL
    rw [List.drop_zero, List.take_left]
def sealT (z : Str) : Str := Str.empty ++ z ++ " " ++ numS (cks (TL.tl z)) ++ "\n"
theorem tl_seal (z : Str) : TL.tl (sealT z) = sealL (TL.tl z) := by
  unfold sealT sealL lnL
  rw [TL.tl_append, TL.tl_append, TL.tl_append, TL.tl_append, numS_tl (by omega), show TL.tl Str.empty = [] from rfl, show TL.tl (" " : Str) = [32] by decide +kernel, show TL.tl ("\n" : Str) = [10] by decide +kernel]
  simp
/-- the texts of the lines up to the first wrong one -/
def readL : List Str → List Str
  | [] => []
  | l :: r => if sealT (Txt.rpartition l " ").1 = l ++ "\n" then (Txt.rpartition l " ").1 :: readL r else []
def readJ (z : Str) : List Str := readL (Txt.split z "\n").dropLast
theorem nl_S : ("\n" : Str) = S [10] := by decide +kernel
theorem readJ_seal {r X : List Nat} (h : 10 ∉ r) : readJ (S (sealL r ++ X)) = S r :: readJ (S X) := by
  unfold readJ
  rw [nl_S, show sealL r ++ X = lnL r ++ 10 :: X by unfold sealL; simp, split_cons (lnL_free h)]
  have hne : Txt.split (S X) (S [10]) ≠ [] := fun e => by
    have q := congrArg TL.tl (StrLaws.join_split (S X) (S [10]))
    rw [e, TL.tl_join] at q
    have q2 : X = [] := q.symm
    rw [q2, hX0'] at e
    cases e
  rw [List.dropLast_cons_of_ne_nil hne]
  show (if sealT (Txt.rpartition (S (lnL r)) " ").1 = S (lnL r) ++ "\n" then _ else _) = _
  rw [told_ln, if_pos]
  apply TL.ext_tl
  rw [tl_seal, TL.tl_append, nl_S]
  rfl
theorem readJ_free {X : List Nat} (h : 10 ∉ X) : readJ (S X) = [] := by
  unfold readJ
  rw [nl_S, split_one h]
  rfl
theorem cat_cons (r : List Nat) (rs : List (List Nat)) : cat (r :: rs) = sealL r ++ cat rs := rfl
theorem readJ_cat {X : List Nat} : ∀ rows : List (List Nat), (∀ r ∈ rows, 10 ∉ r) → readJ (S (cat rows ++ X)) = rows.map S ++ readJ (S X)
  | [], _ => rfl
  | r :: rs, h => by
    rw [cat_cons, List.append_assoc, readJ_seal (h r (List.mem_cons_self ..)), readJ_cat rs fun q m => h q (List.mem_cons_of_mem _ m)]
    rfl
/-- the rows whose lines stand whole at the front -/
def wholeL : List (List Nat) → List Nat → List (List Nat)
  | [], _ => []
  | r :: rs, t => if t.take (sealL r).length = sealL r then r :: wholeL rs (t.drop (sealL r).length) else []
theorem dec : ∀ (rows : List (List Nat)) (n : Nat), (∀ r ∈ rows, 10 ∉ r) → ∃ k X, k ≤ rows.length ∧ (cat rows).take n = cat (rows.take k) ++ X ∧ 10 ∉ X ∧ wholeL rows ((cat rows).take n) = rows.take k ∧ ∀ j, j ≤ rows.length → (cat (rows.take j)).length ≤ n → j ≤ k
  | [], n, _ => ⟨0, [], Nat.le_refl _, by simp [cat], by simp, rfl, fun j h _ => h⟩
  | r :: rs, n, h => by
    by_cases hn : (sealL r).length ≤ n
    · obtain ⟨k, X, h1, h2, h3, h4, h5⟩ := dec rs (n - (sealL r).length) fun q m => h q (List.mem_cons_of_mem _ m)
      have e : (cat (r :: rs)).take n = sealL r ++ (cat rs).take (n - (sealL r).length) := by
        rw [cat_cons, List.take_append, List.take_of_length_le hn]
      refine ⟨k + 1, X, Nat.succ_le_succ h1, ?_, h3, ?_, fun j hj hl => ?_⟩
      · rw [e, h2, List.take_succ_cons, cat_cons, List.append_assoc]
      · rw [e]
        show (if (sealL r ++ _).take (sealL r).length = sealL r then _ else _) = _
        rw [List.take_left, if_pos rfl, List.drop_left, h4]
        rfl
      · cases j with
        | zero => exact Nat.zero_le _
        | succ j =>
          rw [List.take_succ_cons, cat_cons, List.length_append] at hl
          exact Nat.succ_le_succ (h5 j (Nat.le_of_succ_le_succ hj) (by omega))
    · have hn2 : n ≤ (lnL r).length := by
        have : (sealL r).length = (lnL r).length + 1 := by unfold sealL; rw [List.length_append]; rfl
        omega
      have e : (cat (r :: rs)).take n = (lnL r).take n := by
        rw [cat_cons]
        unfold sealL
        rw [List.append_assoc, List.take_append_of_le_length hn2]
      refine ⟨0, (lnL r).take n, Nat.zero_le _, by rw [e]; rfl, fun m => lnL_free (h r (List.mem_cons_self ..)) (List.mem_of_mem_take m), ?_, fun j hj hl => ?_⟩
      · rw [e]
        show (if ((lnL r).take n).take (sealL r).length = sealL r then _ else _) = _
        refine (if_neg fun z => ?_).trans rfl
        have := congrArg List.length z
        rw [List.length_take, List.length_take] at this
        omega
      · cases j with
        | zero => exact Nat.zero_le _
        | succ j =>
          rw [List.take_succ_cons, cat_cons, List.length_append] at hl
          omega
theorem count10 : ∀ (rows : List (List Nat)) (X : List Nat), (∀ r ∈ rows, 10 ∉ r) → 10 ∉ X → (cat rows ++ X).count 10 = rows.length
  | [], X, _, hx => List.count_eq_zero.mpr hx
  | r :: rs, X, h, hx => by
    rw [cat_cons, List.append_assoc, List.count_append, count10 rs X (fun q m => h q (List.mem_cons_of_mem _ m)) hx]
    unfold sealL
    rw [List.count_append, List.count_eq_zero.mpr (lnL_free (h r (List.mem_cons_self ..)))]
    show 0 + 1 + rs.length = rs.length + 1
    omega
theorem count_S (l : List Nat) : Txt.count (S l) "\n" = ((l.count 10 : Nat) : Int) := by
  rw [nl_S]
  refine (count_is (S l) 10).trans ?_
  show countIn _ (l.map fun n => PyData.str ⟨#[n]⟩) = _
  rw [countIn_signs_sum]
  induction l with
  | nil => rfl
  | cons a r ih =>
    rw [List.map_cons, List.sum_cons, ih, List.count_cons]
    by_cases h : a = 10
    · rw [if_pos (decide_eq_true h), if_pos (by rw [h]; rfl)]
      omega
    · rw [if_neg (by rw [decide_eq_false h]; exact Bool.false_ne_true), if_neg (by simpa using h)]
      omega
end K11
set_option maxHeartbeats 1000000
namespace K11
open PySem PySem.Spec PyProof.Rows L2 SX TK
open C8 (pe_c)
def top (i : Nat) : Stmt := PySem.Challenge.pw_trunkland_k11_journal.main.body.getD i (.Pass ⟨0, 0, 0, 0⟩)
abbrev s_Journal___init : Stmt := inClass (top 4) 0
abbrev s_Journal_append : Stmt := inClass (top 4) 1
abbrev s_Journal_sync : Stmt := inClass (top 4) 2
abbrev s_Journal_after_crash : Stmt := inClass (top 4) 3
abbrev s_checksum : Stmt := top 5
abbrev s_sealed : Stmt := top 6
abbrev s_read_journal : Stmt := top 7
abbrev s_law_state : Stmt := top 9
abbrev s_law_draw : Stmt := top 10
abbrev s_law_pick : Stmt := top 11
abbrev s_law_text : Stmt := top 12
abbrev s_law_sum : Stmt := top 13
abbrev s_law_whole : Stmt := top 14
abbrev s_law : Stmt := top 15
theorem sc_Journal___init : FnScope ["self"] ["self"] (defScope s_Journal___init) := ⟨rfl, rfl, rfl, by decide +kernel, rfl, by decide +kernel, by decide +kernel⟩
theorem sc_Journal_append : FnScope ["self", "text"] ["self", "text"] (defScope s_Journal_append) := ⟨rfl, rfl, rfl, by decide +kernel, rfl, by decide +kernel, by decide +kernel⟩
theorem sc_Journal_sync : FnScope ["self"] ["self"] (defScope s_Journal_sync) := ⟨rfl, rfl, rfl, by decide +kernel, rfl, by decide +kernel, by decide +kernel⟩
theorem sc_Journal_after_crash : FnScope ["self", "kept"] ["self", "kept"] (defScope s_Journal_after_crash) := ⟨rfl, rfl, rfl, by decide +kernel, rfl, by decide +kernel, by decide +kernel⟩
theorem sc_checksum : FnScope ["text", "total", "mark"] ["text"] (defScope s_checksum) := ⟨rfl, rfl, rfl, by decide +kernel, rfl, by decide +kernel, by decide +kernel⟩
theorem sc_sealed : FnScope ["text"] ["text"] (defScope s_sealed) := ⟨rfl, rfl, rfl, by decide +kernel, rfl, by decide +kernel, by decide +kernel⟩
theorem sc_read_journal : FnScope ["text", "lines", "texts", "line", "told"] ["text"] (defScope s_read_journal) := ⟨rfl, rfl, rfl, by decide +kernel, rfl, by decide +kernel, by decide +kernel⟩
theorem sc_law_state : FnScope ["script", "seed", "cell"] ["script"] (defScope s_law_state) := ⟨rfl, rfl, rfl, by decide +kernel, rfl, by decide +kernel, by decide +kernel⟩
theorem sc_law_draw : FnScope ["state", "many", "cells", "value", "mixed"] ["state", "many"] (defScope s_law_draw) := ⟨rfl, rfl, rfl, by decide +kernel, rfl, by decide +kernel, by decide +kernel⟩
theorem sc_law_pick : FnScope ["state", "row"] ["state", "row"] (defScope s_law_pick) := ⟨rfl, rfl, rfl, by decide +kernel, rfl, by decide +kernel, by decide +kernel⟩
theorem sc_law_text : FnScope ["state", "chars", "k"] ["state"] (defScope s_law_text) := ⟨rfl, rfl, rfl, by decide +kernel, rfl, by decide +kernel, by decide +kernel⟩
theorem sc_law_sum : FnScope ["text", "chars", "total", "char", "code"] ["text"] (defScope s_law_sum) := ⟨rfl, rfl, rfl, by decide +kernel, rfl, by decide +kernel, by decide +kernel⟩
theorem sc_law_whole : FnScope ["rows", "text", "found", "row", "line"] ["rows", "text"] (defScope s_law_whole) := ⟨rfl, rfl, rfl, by decide +kernel, rfl, by decide +kernel, by decide +kernel⟩
theorem sc_law : FnScope ["script", "state", "journal", "rows", "synced", "text", "safe", "cell", "row", "kept", "left", "told", "cut", "at", "other", "before"] ["script"] (defScope s_law) := ⟨rfl, rfl, rfl, by decide +kernel, rfl, by decide +kernel, by decide +kernel⟩
structure Tx (K : PySem.W.Frag) (mg : Str → Option Value) : Prop where
  g_FACTOR : ∃ t, mg "FACTOR" = some (.int 31 t)
  g_FIRST_SUM : ∃ t, mg "FIRST_SUM" = some (.int 7 t)
  g_MODULUS : ∃ t, mg "MODULUS" = some (.int 9973 t)
  f_abs : mg "abs" = none
  f_int : mg "int" = none
  f_len : mg "len" = none
  f_ord : mg "ord" = none
  f_range : mg "range" = none
  f_str : mg "str" = none
  cl_Journal : Cls K (He.ga K "Journal")
  na_Journal_text : NoAttr K (He.ga K "Journal") "text"
  na_Journal_synced : NoAttr K (He.ga K "Journal") "synced"
/-! ### the law's source of draws -/
def spState (K : PySem.W.Frag) : Sp := fun vs H Q _ => ∃ (a : Addr) (ns : List Int), vs = [.ref a] ∧ SqL K H a (ns.map V.int) ∧ ns.length ≤ 63 ∧ ∀ s c H', Same H H' → H s = none → H c = none → StAt H' s c → Q (.ref s) H'
theorem ok_law_state {P : Program} {w : World} {K : PySem.W.Frag} {mg : Str → Option Value} {base : Heap} {f : Addr} {fd : FuncData} (T : Tx K mg) 
    (F : FunD K "_law_state" "_law_state" (defArgs s_law_state) (defBody s_law_state) (defScope s_law_state) [] [] f fd) : FnOk P w K mg base CX0 1 f fd ["script"] (spState K) := by
  refine F.ok sc_law_state (fun vs H Q E h => ?_) (fun cdv A outer s H vs Q E hr h => ?_)
  · obtain ⟨a, ns, rfl, _⟩ := h
    rfl
  · obtain ⟨a, ns, rfl, hS, hn, k⟩ := h
    refine ⟨_, PSs.nox (pss_cons (ps_set (i := 1) sc_law_state.nd rfl (Or.inl rfl) pe_int) (pss_cons (ps_for PassesOwn.never rfl (pi_list (pv 0)) (pg_name (i := 2) sc_law_state.nd rfl (Or.inl rfl)) (pss_one (ps_set (i := 1) sc_law_state.nd rfl (Or.inl rfl) (pe_op op_mod (pe_callTy call_int1 rfl T.f_int (by decide +kernel) (pa_cons (pe_op op_add (pe_op op_mul (pv 1) pe_int) (pv 2)) pa_nil)) pe_int)))) (pss_one (ps_ret (pe_lst (pa_cons (pe_lc (own := [("cell", 2)]) (g := gName 2) rfl sc_law_state.nd (pi_list (pv 0)) (blkOk_by (own := [("cell", 2)]) (N := ["script", "seed", "cell"]) (sc := defScope s_law_state) (by decide +kernel)) (fun _ _ _ _ _ => pg_name (i := 2) sc_law_state.nd rfl (Or.inl rfl)) (fun _ _ _ _ _ => pts_nil) (fun _ _ _ _ _ => (pe_callB call_abs rfl T.f_abs (by decide +kernel) (pa_cons (pv 2) pa_nil)))) (pa_cons (pe_op op_add (pv 1) pe_int) pa_nil))))))), ?_⟩
    refine ⟨_, rfl, a, rfl, ⟨_, hS⟩, for_list (K := K) (a := a) (xs := ns.map V.int) (fun i σ H' => H' = H ∧ ∃ (n : Int) (v : Option V), σ = [some (.ref a), some (.int n), v]) ⟨rfl, 7, none, rfl⟩ (fun i σ H' _ q => q.1 ▸ hS) ?_ ?_⟩
    · rintro i y σ H' hi ⟨rfl, n, v, rfl⟩
      obtain ⟨z, rfl⟩ : ∃ z, y = V.int z := by
        obtain ⟨z, _, e⟩ := List.mem_map.mp (List.mem_of_getElem? hi)
        exact ⟨z, e.symm⟩
      refine ⟨_, rfl, _, _, rfl, rfl, .inr ⟨by decide, by decide⟩, _, rfl, _, _, rfl, rfl, .inl ⟨_, rfl, _, _, rfl, rfl, (by show (0 : Int) < 1000003; decide), rfl, _, _, rfl⟩⟩
    · rintro σ H' ⟨rfl, n, v, rfl⟩
      refine ⟨_, rfl, a, rfl, ⟨_, hS⟩, fun D hD => ?_⟩
      have hS2 : ∀ o, SqL K (upd H' D o) a (ns.map V.int) := fun o => (same_upd hD).seq hS
      refine lc_pureN walk_list (fun i => V.int (if ns.getD i 0 < 0 then -(ns.getD i 0) else ns.getD i 0)) (by rw [List.length_map]; exact Nat.le_trans hn (by decide)) (fun _ _ => hS2 _) (fun i x H1 kk hi y q => ?_) ?_
      · obtain ⟨rfl, hx⟩ := y
        refine ⟨rfl, _, rfl, ns.getD i 0, ?_, q⟩
        rw [List.getElem?_map] at hx
        rw [List.length_map] at hi
        rw [List.getElem?_eq_getElem hi] at hx
        rw [List.getD_eq_getElem?_getD, List.getElem?_eq_getElem hi]
        exact congrArg (fun v => [v]) (Option.some.inj hx).symm
      · refine ⟨_, rfl, _, _, rfl, rfl, by show 2 ≤ sizeLine; decide, fun p hp => ?_⟩
        have npD : p ≠ D := fun e => by
          rw [e, upd_same] at hp
          cases hp
        have hp0 : H' p = none := by
          rw [upd_ne npD] at hp
          exact hp
        refine k p D _ ((same_upd hD).trans (same_upd hp)) hp0 hD ⟨npD, ⟨_, upd_same⟩, ns.map (fun i => if i < 0 then -i else i), ?_, ?_⟩
        · rw [upd_ne npD.symm, upd_same, List.length_map, List.map_map]
          exact congrArg (fun l => some (HO.lst l)) (range_map_getD ns 0 fun i => V.int (if i < 0 then -i else i))
        · rw [List.length_map]
          exact hn
def spDraw : Sp := fun vs H Q _ => ∃ (s c : Addr) (m : Int), vs = [.ref s, .int m] ∧ StAt H s c ∧ 0 < m ∧ m < 1073741824 ∧ ∀ r H', 0 ≤ r → r < m → StAt H' s c → Keep H H' s c → Q (.int r) H'
theorem ok_law_draw {P : Program} {w : World} {K : PySem.W.Frag} {mg : Str → Option Value} {base : Heap} {f : Addr} {fd : FuncData} (T : Tx K mg) 
    (F : FunD K "_law_draw" "_law_draw" (defArgs s_law_draw) (defBody s_law_draw) (defScope s_law_draw) [] [] f fd) : FnOk P w K mg base CX0 1 f fd ["state", "many"] spDraw := by
  refine F.ok sc_law_draw (fun vs H Q E h => ?_) (fun cdv A outer s0 H vs Q E hr h => ?_)
  · obtain ⟨s, c, m, rfl, _⟩ := h
    rfl
  · obtain ⟨s, c, m, rfl, ⟨ne, ⟨n, h1⟩, ns, h2, h3⟩, hm0, hm1, k⟩ := h
    refine ⟨_, PSs.nox (pss_cons (ps_set (i := 2) sc_law_draw.nd rfl (Or.inl rfl) (pe_ix ix_list (pv 0) pe_int (fun _ _ => rfl))) (C8.pss_cut (ps_while PassesOwn.never (PW.pt (pw_and (pt_cmpR op_gt (pe_callB call_len_seq rfl T.f_len PySem.boot_len (pa_cons (pv 2) pa_nil)) pe_int (nomark _)) (pw_and1 (pt_cmpR op_eq (pe_ix ix_list (pv 2) pe_int (fun _ _ => rfl)) pe_int (nomark _))))) (pss_one (ps_expr (pe_bm PySem.F.plainAttrs_list PySem.F.slot_list_pop PySem.F.type_list_pop mt_popAt (pv 2) (pa_cons pe_int pa_nil))))) (C8.pss_cut (ps_if (pt_cmpR op_gt (pe_callB call_len_seq rfl T.f_len PySem.boot_len (pa_cons (pv 2) pa_nil)) pe_int (nomark _)) (pss_cons (ps_set (i := 3) sc_law_draw.nd rfl (Or.inl rfl) (pe_ix ix_list (pv 2) pe_int (fun _ _ => rfl))) (pss_cons (ps_asg (pe_op op_fdiv (pv 3) (pv 1)) (pg_sub (pv 2) pe_int set_list)) (pss_one (ps_ret (pe_op op_mod (pe_callTy call_int1 rfl T.f_int (by decide +kernel) (pa_cons (pv 3) pa_nil)) (pv 1)))))) pss_nil) (pss_cons (ps_set (i := 4) sc_law_draw.nd rfl (Or.inl rfl) (pe_op op_mod (pe_callTy call_int1 rfl T.f_int (by decide +kernel) (pa_cons (pe_op op_add (pe_op op_mul (pe_ix ix_list (pv 0) pe_int (fun _ _ => rfl)) pe_int) pe_int) pa_nil)) pe_int)) (pss_cons (ps_asg (pv 4) (pg_sub (pv 0) pe_int set_list)) (pss_one (ps_ret (pe_op op_mod (pe_callTy call_int1 rfl T.f_int (by decide +kernel) (pa_cons (pe_op op_fdiv (pv 4) pe_int) pa_nil)) (pv 1))))))))), ?_⟩
    refine ⟨_, rfl, s, _, 0, _, rfl, rfl, SqL.of h1, rfl, ?_⟩
    let I : L2.St → Hp → List Int → Prop := fun σ H' ns' => σ = [some (.ref s), some (.int m), some (.ref c), none, none] ∧ H' s = some (.lst [.ref c, .int n]) ∧ Keep H H' s c ∧ H' c = some (.lst (ns'.map V.int)) ∧ ns'.length ≤ 63
    refine ⟨fun σ H' => ∃ ns', I σ H' ns', ?_, ?_⟩
    · refine ⟨fun l σ H' => ∃ ns', l = ns'.length ∧ I σ H' ns', ⟨ns.length, ns, rfl, rfl, h1, Keep.refl _ _ _, h2, h3⟩, ?_⟩
      rintro l σ H' ⟨ns', rfl, rfl, g1, kp, g2, g3⟩
      refine ⟨_, rfl, c, _, rfl, .inl (SqL.of g2), _, _, rfl, rfl, _, rfl, ?_⟩
      cases ns' with
      | nil => exact iteF (iteF ⟨[], rfl, g1, kp, g2, g3⟩)
      | cons v r =>
        rw [List.length_map, decide_eq_true (by rw [List.length_cons]; omega)]
        refine iteT ?_
        refine ⟨_, rfl, c, _, 0, V.int v, rfl, rfl, SqL.of g2, atC _ _, rfl, _, rfl, ?_⟩
        refine ite2 (fun h5 => ?_) (fun h5 => ⟨v :: r, rfl, g1, kp, g2, g3⟩)
        refine ⟨fun σ' H2 => ∃ l, l < (v :: r).length ∧ ∃ ns', l = ns'.length ∧ I σ' H2 ns', fun _ _ q => q, ?_⟩
        refine ⟨_, rfl, .inl ⟨rfl, _, SqL.of g2⟩, c, _, 0, 0, V.int v, rfl, rfl, g2, by decide, by decide, sqC _ _, rfl, ?_⟩
        refine ⟨r.length, Nat.lt_succ_self _, r, rfl, rfl, ?_, fun b o e q1 q2 => ?_, upd_same, Nat.le_of_succ_le g3⟩
        · rw [upd_ne ne]
          exact g1
        · rw [upd_ne q2]
          exact kp b o e q1 q2
    · rintro σ H' ⟨ns', rfl, g1, kp, g2, g3⟩
      refine ⟨fun σ' H2 => σ' = [some (.ref s), some (.int m), some (.ref c), none, none] ∧ H2 = H', ?_, ?_⟩
      · refine ⟨_, rfl, c, _, rfl, .inl (SqL.of g2), _, _, rfl, rfl, _, rfl, ?_⟩
        cases ns' with
        | nil => exact iteF ⟨rfl, rfl⟩
        | cons v r =>
          rw [List.length_map, decide_eq_true (by rw [List.length_cons]; omega)]
          refine iteT ?_
          refine ⟨_, rfl, c, _, 0, V.int v, rfl, rfl, SqL.of g2, atC _ _, ?_⟩
          refine ⟨_, rfl, _, rfl, _, _, rfl, rfl, ⟨hm0, hm1⟩, _, rfl, c, _, 0, 0, rfl, rfl, g2, ixC _ _, ?_⟩
          refine ⟨_, rfl, .inl ⟨_, rfl, _, rfl, _, _, rfl, rfl, hm0, ?_⟩⟩
          refine k _ _ (Int.emod_nonneg _ (by omega)) (Int.emod_lt_of_pos _ hm0) ⟨ne, ⟨n, ?_⟩, (v / m) :: r, upd_same, g3⟩ (fun b o e q1 q2 => ?_)
          · rw [upd_ne ne]
            exact g1
          · rw [upd_ne q2]
            exact kp b o e q1 q2
      · rintro σ' H2 ⟨rfl, rfl⟩
        refine ⟨_, rfl, s, _, 1, _, rfl, rfl, SqL.of g1, rfl, _, _, rfl, rfl, .inr ⟨by decide, by decide⟩, _, _, rfl, rfl, .inl ⟨_, rfl, _, _, rfl, rfl, (by show (0 : Int) < 2147483647; decide), ?_⟩⟩
        refine ⟨_, rfl, _, rfl, s, _, 1, 1, rfl, rfl, g1, rfl, ?_⟩
        refine ⟨_, rfl, _, _, rfl, rfl, ⟨by decide, by decide⟩, .inl ⟨_, rfl, _, rfl, _, _, rfl, rfl, hm0, ?_⟩⟩
        refine k _ _ (Int.emod_nonneg _ (by omega)) (Int.emod_lt_of_pos _ hm0) ⟨ne, ⟨_, upd_same⟩, ns', ?_, g3⟩ (fun b o e q1 q2 => ?_)
        · rw [upd_ne ne.symm]
          exact g2
        · rw [upd_ne q1]
          exact kp b o e q1 q2
/-- of a text: one of its signs; of a list: one of its items -/
def spPick : Sp := fun vs H Q _ => ∃ (s c : Addr) (x : V), vs = [.ref s, x] ∧ StAt H s c ∧
  ((∃ z : Str, x = .str z ∧ 0 < z.length ∧ z.length ≤ 1000 ∧ ∀ ch H', ch ∈ TL.tl z → StAt H' s c → Keep H H' s c → Q (.str (S [ch])) H') ∨
   (∃ a xs, x = .ref a ∧ H a = some (.lst xs) ∧ a ≠ s ∧ a ≠ c ∧ 0 < xs.length ∧ xs.length ≤ 1000 ∧ ∀ v ∈ xs, ∀ H', StAt H' s c → Keep H H' s c → Q v H'))
theorem ok_law_pick {P : Program} {w : World} {K : PySem.W.Frag} {mg : Str → Option Value} {base : Heap} {f : Addr} {fd : FuncData} (T : Tx K mg) (c_law_draw : C8.Cal P w K mg base 1 "_law_draw" spDraw [])
    (F : FunD K "_law_pick" "_law_pick" (defArgs s_law_pick) (defBody s_law_pick) (defScope s_law_pick) [] [] f fd) : FnOk P w K mg base CX0 2 f fd ["state", "row"] spPick := by
  refine F.ok sc_law_pick (fun vs H Q E h => ?_) (fun cdv A outer s0 H vs Q E hr h => ?_)
  · obtain ⟨s, c, x, rfl, _⟩ := h
    rfl
  · obtain ⟨s, c, x, rfl, hst, h⟩ := h
    refine ⟨_, PSs.nox (pss_one (ps_ret (pe_ix ix_seq (pv 1) (pe_c c_law_draw hr (by decide) rfl (pa_cons (pv 0) (pa_cons (pe_callB call_len rfl T.f_len PySem.boot_len (pa_cons (pv 1) pa_nil)) pa_nil))) (fun _ _ => rfl)))), ?_⟩
    rcases h with ⟨z, rfl, z0, z1, k⟩ | ⟨a, xs, rfl, ha, as, ac, x0, x1, k⟩
    · have hz2 : z.length ≤ sizeLine := Nat.le_trans z1 (by decide)
      refine ⟨_, rfl, _, rfl, _, rfl, _, z.length, rfl, ⟨hz2, rfl⟩, s, c, _, rfl, hst, by omega, by omega, fun r H' r0 r1 st' kp' => ?_⟩
      have hl : r < ((TL.tl z).length : Nat) := by rw [← len_eq]; exact r1
      refine .inr (.inr ⟨z, r, _, rfl, rfl, hz2, atN 0 r0 hl, ?_⟩)
      refine k _ H' ?_ st' kp'
      have hl2 : r.toNat < (TL.tl z).length := by omega
      rw [List.getD_eq_getElem?_getD, List.getElem?_eq_getElem hl2]
      exact List.getElem_mem _
    · have hx2 : xs.length ≤ sizeLine := Nat.le_trans x1 (by decide)
      refine ⟨_, rfl, _, rfl, _, rfl, _, xs.length, rfl, .inl ⟨xs, SqL.of ha, rfl⟩, s, c, _, rfl, hst, by omega, by omega, fun r H' r0 r1 st' kp' => ?_⟩
      refine .inl ⟨a, xs, r, _, rfl, rfl, SqL.of (kp' a _ ha as ac), atN .non r0 r1, ?_⟩
      refine k _ ?_ H' st' kp'
      rw [List.getD_eq_getElem?_getD, List.getElem?_eq_getElem (by omega)]
      exact List.getElem_mem _

def jfl (t : Str) (n : Int) : List (Str × V) := [("text", .str t), ("synced", .int n)]
instance {t : Str} {n : Int} : SmallF (jfl t n) 2 := ⟨Nat.le_refl _⟩
def JAt (K : PySem.W.Frag) (H : Hp) (p : Addr) (t : Str) (n : Int) : Prop := ∃ dx, H p = some (.ins (He.ga K "Journal") dx (jfl t n))
def spJInit (K : PySem.W.Frag) : Sp := fun vs H Q _ => ∃ (p dx : Addr), vs = [.ref p] ∧ H p = some (.ins (He.ga K "Journal") dx []) ∧ Q .non (upd H p (.ins (He.ga K "Journal") dx (jfl "" 0)))
theorem ok_Journal___init {P : Program} {w : World} {K : PySem.W.Frag} {mg : Str → Option Value} {base : Heap} {f : Addr} {fd : FuncData} (T : Tx K mg) 
    (F : FunD K "__init__" "Journal.__init__" (defArgs s_Journal___init) (defBody s_Journal___init) (defScope s_Journal___init) [] [] f fd) : FnOk P w K mg base CX0 1 f fd ["self"] (spJInit K) := by
  refine F.ok sc_Journal___init (fun vs H Q E h => ?_) (fun cdv A outer s H vs Q E hr h => ?_)
  · obtain ⟨p, dx, rfl, _⟩ := h
    rfl
  · obtain ⟨p, dx, rfl, hp, k⟩ := h
    refine ⟨_, PSs.nox (pss_cons (ps_fldC rfl T.cl_Journal T.na_Journal_text (pv 0) pe_str rfl) (pss_one (ps_fldC rfl T.cl_Journal T.na_Journal_synced (pv 0) pe_int rfl))), ?_⟩
    refine ⟨_, rfl, p, dx, _, rfl, hp, sm, _, rfl, p, dx, _, rfl, upd_same, sm, ?_⟩
    rw [upd_upd]
    exact k
def spCks : Sp := fun vs H Q _ => ∃ z : Str, vs = [.str z] ∧ Q (.int (cks (TL.tl z) : Nat)) H
theorem ok_checksum {P : Program} {w : World} {K : PySem.W.Frag} {mg : Str → Option Value} {base : Heap} {f : Addr} {fd : FuncData} (T : Tx K mg) 
    (F : FunD K "checksum" "checksum" (defArgs s_checksum) (defBody s_checksum) (defScope s_checksum) [] [] f fd) : FnOk P w K mg base CX0 1 f fd ["text"] spCks := by
  refine F.ok sc_checksum (fun vs H Q E h => ?_) (fun cdv A outer s H vs Q E hr h => ?_)
  · obtain ⟨z, rfl, _⟩ := h
    rfl
  · obtain ⟨z, rfl, k⟩ := h
    refine ⟨_, PSs.nox (pss_cons (ps_set (i := 1) sc_checksum.nd rfl (Or.inl rfl) (pgI T.g_FIRST_SUM)) (pss_cons (ps_for PassesOwn.never rfl (pi_str (pv 0)) (pg_name (i := 2) sc_checksum.nd rfl (Or.inl rfl)) (pss_one (ps_set (i := 1) sc_checksum.nd rfl (Or.inl rfl) (pe_op op_mod (pe_op op_add (pe_op op_mul (pv 1) (pgI T.g_FACTOR)) (pe_callB call_ord rfl T.f_ord (by decide +kernel) (pa_cons (pv 2) pa_nil))) (pgI T.g_MODULUS))))) (pss_one (ps_ret (pv 1))))), ?_⟩
    refine ⟨_, rfl, z, rfl, for_it walk_str (fun i σ H1 => H1 = H ∧ ∃ v, σ = [some (.str z), some (.int (cks ((TL.tl z).take i) : Nat)), v]) ⟨rfl, none, rfl⟩ (fun _ _ _ _ _ => trivial) ?_ ?_⟩
    · rintro i x σ H1 H2 hi ⟨rfl, v, rfl⟩ ⟨rfl, c, hc, rfl⟩
      have e : (TL.tl z)[i]? = some c := by
        show z.cps.toList[i]? = some c
        rw [Array.getElem?_toList]
        exact hc
      refine ⟨_, rfl, _, _, rfl, rfl, .inr ⟨by decide, by decide⟩, _, rfl, _, rfl, rfl, _, _, rfl, rfl, _, _, rfl, rfl, (by show (0 : Int) < 9973; decide), rfl, some (.str (S [c])), ?_⟩
      have e3 : (TL.tl z).take (i + 1) = (TL.tl z).take i ++ [c] := by
        rw [List.take_add_one, e]
        rfl
      rw [e3]
      unfold cks
      rw [List.foldl_append]
      refine congrArg (fun v => [some (V.str z), some (V.int v), some (V.str (S [c]))]) ?_
      show ((_ : Int) * 31 + ((c : Nat) : Int)) % 9973 = (((_ * 31 + c) % 9973 : Nat) : Int)
      omega
    · rintro σ H1 ⟨rfl, v, rfl⟩
      rw [List.take_of_length_le (by rw [size_tl]; exact Nat.le_refl _)]
      exact ⟨_, rfl, k⟩
def spSeal : Sp := fun vs H Q _ => ∃ z : Str, vs = [.str z] ∧ z.length ≤ 10000 ∧ Q (.str (sealT z)) H
theorem cks_lt (l : List Nat) : cks l < 9973 := by
  unfold cks
  cases l with
  | nil => decide
  | cons a r =>
    have : ∀ (l : List Nat) (t : Nat), t < 9973 → l.foldl (fun t c => (t * 31 + c) % 9973) t < 9973 := by
      intro l
      induction l with
      | nil => exact fun t h => h
      | cons b q ih => exact fun t h => ih _ (Nat.mod_lt _ (by decide))
    exact this (a :: r) 7 (by decide)
theorem k_bl : (" " : Str).length = 1 := by decide +kernel
theorem k_nl : ("\n" : Str).length = 1 := by decide +kernel
theorem emp0 : Str.empty.length = 0 := rfl
theorem cks_small (z : Str) : ((cks (TL.tl z) : Nat) : Int).natAbs < 1000000000 := by
  have := cks_lt (TL.tl z)
  omega
theorem seal_len (z : Str) : (sealT z).length ≤ z.length + 12 := by
  unfold sealT
  have := numS_len (cks_small z)
  rw [cat_len, cat_len, cat_len, cat_len, emp0, k_bl, k_nl]
  omega
theorem ok_sealed {P : Program} {w : World} {K : PySem.W.Frag} {mg : Str → Option Value} {base : Heap} {f : Addr} {fd : FuncData} (T : Tx K mg) (c_checksum : C8.Cal P w K mg base 1 "checksum" spCks [])
    (F : FunD K "sealed" "sealed" (defArgs s_sealed) (defBody s_sealed) (defScope s_sealed) [] [] f fd) : FnOk P w K mg base CX0 2 f fd ["text"] spSeal := by
  refine F.ok sc_sealed (fun vs H Q E h => ?_) (fun cdv A outer s H vs Q E hr h => ?_)
  · obtain ⟨z, rfl, _⟩ := h
    rfl
  · obtain ⟨z, rfl, hz, k⟩ := h
    have hn := numS_len (cks_small z)
    refine ⟨_, PSs.nox (pss_one (ps_ret (pe_joined (PJ.cons (pe_fmt (pv 0)) (PJ.cons pe_str (PJ.cons (pe_fmt (pe_c c_checksum hr (by decide) rfl (pa_cons (pv 0) pa_nil))) (PJ.cons pe_str PJ.nil))))))), ?_⟩
    refine ⟨_, rfl, .inl ⟨_, rfl, szl (by omega), _, rfl, szl (by rw [cat_len, emp0]; omega), _, rfl, szl (by rw [cat_len, cat_len, emp0, k_bl]; omega), ?_⟩⟩
    refine ⟨_, rfl, z, rfl, .inr ⟨_, rfl, numS_log (cks_small z), ?_⟩⟩
    refine ⟨_, rfl, szl (by show (_ ++ _ ++ _ ++ numS _).length ≤ _; rw [cat_len, cat_len, cat_len, emp0, k_bl]; omega), _, rfl, szl (by show (_ ++ _ ++ _ ++ numS _ ++ _).length ≤ _; rw [cat_len, cat_len, cat_len, cat_len, emp0, k_bl, k_nl]; omega), k⟩
def spJAppend (K : PySem.W.Frag) : Sp := fun vs H Q _ => ∃ (p : Addr) (t z : Str) (n : Int), vs = [.ref p, .str z] ∧ JAt K H p t n ∧ t.length ≤ 10000 ∧ z.length ≤ 10000 ∧ ∀ H', JAt K H' p (t ++ sealT z) n → (∀ c o, H c = some o → c ≠ p → H' c = some o) → Q .non H'
theorem ok_Journal_append {P : Program} {w : World} {K : PySem.W.Frag} {mg : Str → Option Value} {base : Heap} {f : Addr} {fd : FuncData} (T : Tx K mg) (c_sealed : C8.Cal P w K mg base 2 "sealed" spSeal [])
    (F : FunD K "append" "Journal.append" (defArgs s_Journal_append) (defBody s_Journal_append) (defScope s_Journal_append) [] [] f fd) : FnOk P w K mg base CX0 3 f fd ["self", "text"] (spJAppend K) := by
  refine F.ok sc_Journal_append (fun vs H Q E h => ?_) (fun cdv A outer s H vs Q E hr h => ?_)
  · obtain ⟨p, t, z, n, rfl, _⟩ := h
    rfl
  · obtain ⟨p, t, z, n, rfl, ⟨dx, hp⟩, ht, hz, k⟩ := h
    refine ⟨_, PSs.nox (pss_one (ps_fldaug (pv 0) (pe_c c_sealed hr (by decide) rfl (pa_cons (pv 1) pa_nil)) in_addS)), ?_⟩
    have := seal_len z
    refine ⟨_, rfl, p, _, dx, _, _, rfl, hp, T.cl_Journal, T.na_Journal_text, rfl, _, rfl, z, rfl, hz, _, _, rfl, rfl, Nat.le_trans (show t.length + (sealT z).length ≤ 100000 by omega) (by decide), dx, _, hp, sm, ?_⟩
    exact k _ ⟨dx, upd_same⟩ fun c o e hc => (upd_ne hc).trans e
def spJSync (K : PySem.W.Frag) : Sp := fun vs H Q _ => ∃ (p : Addr) (t : Str) (n : Int), vs = [.ref p] ∧ JAt K H p t n ∧ t.length ≤ 10000 ∧ ∀ H', JAt K H' p t (t.length : Nat) → (∀ c o, H c = some o → c ≠ p → H' c = some o) → Q .non H'
theorem ok_Journal_sync {P : Program} {w : World} {K : PySem.W.Frag} {mg : Str → Option Value} {base : Heap} {f : Addr} {fd : FuncData} (T : Tx K mg) 
    (F : FunD K "sync" "Journal.sync" (defArgs s_Journal_sync) (defBody s_Journal_sync) (defScope s_Journal_sync) [] [] f fd) : FnOk P w K mg base CX0 1 f fd ["self"] (spJSync K) := by
  refine F.ok sc_Journal_sync (fun vs H Q E h => ?_) (fun cdv A outer s H vs Q E hr h => ?_)
  · obtain ⟨p, t, n, rfl, _⟩ := h
    rfl
  · obtain ⟨p, t, n, rfl, ⟨dx, hp⟩, ht, k⟩ := h
    refine ⟨_, PSs.nox (pss_one (ps_fldC rfl T.cl_Journal T.na_Journal_synced (pv 0) (pe_callB call_len_str rfl T.f_len PySem.boot_len (pa_cons (pe_fldC rfl T.cl_Journal T.na_Journal_text (pv 0) rfl) pa_nil)) rfl)), ?_⟩
    refine ⟨_, rfl, p, dx, _, _, rfl, hp, rfl, t, rfl, szl (by omega), _, rfl, p, dx, _, rfl, hp, sm, ?_⟩
    exact k _ ⟨dx, upd_same⟩ fun c o e hc => (upd_ne hc).trans e
def spJCrash (K : PySem.W.Frag) : Sp := fun vs H Q _ => ∃ (p : Addr) (t : Str) (n m : Int), vs = [.ref p, .int m] ∧ JAt K H p t n ∧ t.length ≤ 10000 ∧ Q (.str (Txt.slice t none (some (n + m)))) H
theorem ok_Journal_after_crash {P : Program} {w : World} {K : PySem.W.Frag} {mg : Str → Option Value} {base : Heap} {f : Addr} {fd : FuncData} (T : Tx K mg) 
    (F : FunD K "after_crash" "Journal.after_crash" (defArgs s_Journal_after_crash) (defBody s_Journal_after_crash) (defScope s_Journal_after_crash) [] [] f fd) : FnOk P w K mg base CX0 1 f fd ["self", "kept"] (spJCrash K) := by
  refine F.ok sc_Journal_after_crash (fun vs H Q E h => ?_) (fun cdv A outer s H vs Q E hr h => ?_)
  · obtain ⟨p, t, n, m, rfl, _⟩ := h
    rfl
  · obtain ⟨p, t, n, m, rfl, ⟨dx, hp⟩, ht, k⟩ := h
    refine ⟨_, PSs.nox (pss_one (ps_ret (pe_slice C8.sl_txt (pe_fldC rfl T.cl_Journal T.na_Journal_text (pv 0) rfl) po_none (po_some (pe_op op_add (pe_fldC rfl T.cl_Journal T.na_Journal_synced (pv 0) rfl) (pv 1)))))), ?_⟩
    exact ⟨_, rfl, p, dx, _, _, rfl, hp, rfl, _, rfl, p, dx, _, _, rfl, hp, rfl, _, rfl, _, _, rfl, rfl, n + m, rfl, t, rfl, szl (by omega), k⟩
end K11
set_option maxHeartbeats 1000000
namespace K11
open PySem PySem.Spec PyProof.Rows L2 SX TK
open C8 (pe_c)
theorem split_ne (z : Str) : Txt.split z "\n" ≠ [] := by
  rw [nl_S]
  intro e
  have q := congrArg TL.tl (StrLaws.join_split z (S [10]))
  rw [e, TL.tl_join] at q
  have q2 : TL.tl z = [] := q.symm
  have e2 : z = S [] := TL.ext_tl (by rw [q2])
  rw [e2, hX0'] at e
  cases e
theorem readL_cons (l : Str) (r : List Str) : readL (l :: r) = if sealT (Txt.rpartition l " ").1 = l ++ "\n" then (Txt.rpartition l " ").1 :: readL r else [] := rfl
theorem vstr (a b : Str) : decide (V.str a = V.str b) = decide (a = b) := by
  by_cases h : a = b
  · rw [h, decide_eq_true rfl, decide_eq_true rfl]
  · rw [decide_eq_false h, decide_eq_false fun e => h (V.str.inj e)]
def spRead : Sp := fun vs H Q _ => ∃ z : Str, vs = [.str z] ∧ z.length ≤ 9000 ∧ ∀ r H', Same H H' → H' r = some (.lst ((readJ z).map V.str)) → Q (.ref r) H'
theorem joinL_ge : ∀ l : List (List Nat), l.length ≤ (TL.joinL [10] l).length + 1
  | [] => Nat.zero_le _
  | [p] => by simp
  | p :: a :: r => by
    have ih := joinL_ge (a :: r)
    show (a :: r).length + 1 ≤ (p ++ ([10] ++ TL.joinL [10] (a :: r))).length + 1
    rw [List.length_append, List.length_append]
    have : ([10] : List Nat).length = 1 := rfl
    omega
theorem parts_le (z : Str) : (Txt.split z "\n").length ≤ z.length + 1 := by
  have e := congrArg TL.tl (StrLaws.join_split z "\n")
  rw [TL.tl_join, nl_S] at e
  have q := joinL_ge ((Txt.split z (S [10])).map TL.tl)
  rw [List.length_map, show TL.joinL [10] ((Txt.split z (S [10])).map TL.tl) = TL.tl z from e, ← len_eq] at q
  rw [nl_S]
  exact q
theorem ok_read_journal {P : Program} {w : World} {K : PySem.W.Frag} {mg : Str → Option Value} {base : Heap} {f : Addr} {fd : FuncData} (T : Tx K mg) (c_sealed : C8.Cal P w K mg base 2 "sealed" spSeal [])
    (F : FunD K "read_journal" "read_journal" (defArgs s_read_journal) (defBody s_read_journal) (defScope s_read_journal) [] [] f fd) : FnOk P w K mg base CX0 4 f fd ["text"] spRead := by
  refine F.ok sc_read_journal (fun vs H Q E h => ?_) (fun cdv A outer s H vs Q E hr h => ?_)
  · obtain ⟨z, rfl, _⟩ := h
    rfl
  · obtain ⟨z, rfl, hz, k⟩ := h
    refine ⟨_, PSs.nox (pss_cons (ps_set (i := 1) sc_read_journal.nd rfl (Or.inl rfl) (pe_split (pv 0) pe_str)) (pss_cons (ps_expr (pe_bm0 PySem.F.plainAttrs_list PySem.F.slot_list_pop PySem.F.type_list_pop mt_pop (pv 1))) (pss_cons (ps_set (i := 2) sc_read_journal.nd rfl (Or.inl rfl) (pe_lst pa_nil)) (pss_cons (ps_for PassesOwn.never rfl (pi_list (pv 1)) (pg_name (i := 3) sc_read_journal.nd rfl (Or.inl rfl)) (pss_cons (ps_set (i := 4) sc_read_journal.nd rfl (Or.inl rfl) (pe_ix ix_tup (TK.pe_rpartition (pv 3) pe_str) pe_int (fun _ _ => rfl))) (C8.pss_cut (ps_if (pt_cmpR op_ne (pe_c c_sealed hr (by decide) rfl (pa_cons (pv 4) pa_nil)) (pe_op op_add_str (pv 3) pe_str) (nomark _)) (pss_one (ps_ret (pv 2))) pss_nil) (pss_one (ps_expr (pe_bm PySem.F.plainAttrs_list PySem.F.slot_list_append PySem.F.type_list_append mt_append (pv 2) (pa_cons (pv 4) pa_nil))))))) (pss_one (ps_ret (pv 2))))))), ?_⟩
    refine ⟨_, rfl, ⟨_, rfl⟩, z, "\n", rfl, rfl, by decide +kernel, Nat.le_trans (Nat.add_le_add_right hz 2) (by decide), fun l hl => ?_⟩
    have hne := split_ne z
    have hpl : ∀ x ∈ Txt.split z "\n", x.length ≤ z.length := fun x hx => part_len hx
    have hle := parts_le z
    have k2 : ∀ r H', Same H H' → H' r = some (.lst ((readL (Txt.split z "\n").dropLast).map V.str)) → Q (.ref r) H' := k
    generalize Txt.split z "\n" = ps at hne hpl hle k2 ⊢
    -- lines.pop()
    have hlast : (ps.map V.str)[(ps.map V.str).length - 1]? = some (.str (ps.getLast hne)) := by
      rw [List.length_map, List.getElem?_map, List.getLast_eq_getElem]
      rw [List.getElem?_eq_getElem (by have := List.length_pos_iff.mpr hne; omega)]
      rfl
    refine ⟨_, rfl, .inl ⟨rfl, _, SqL.of upd_same⟩, l, _, _, rfl, rfl, upd_same, hlast, ?_⟩
    rw [upd_upd, ← List.map_dropLast]
    have hd : ∀ x ∈ ps.dropLast, x.length ≤ 9000 := fun x hx => Nat.le_trans (hpl x (List.dropLast_subset ps hx)) hz
    have hdl : ps.dropLast.length ≤ 9001 := by rw [List.length_dropLast]; omega
    generalize ps.dropLast = ls at hd hdl k2 ⊢
    refine ⟨by show 0 ≤ sizeLine; decide, fun t ht => ?_⟩
    obtain ⟨lt, ht0, s2, q1, q2⟩ := new2 (u := .lst []) hl ht
    refine ⟨_, rfl, l, rfl, ⟨_, SqL.of q1⟩, for_list (K := K) (a := l) (xs := ls.map V.str) (fun i σ H1 => ∃ (acc : List Str) (v3 v4 : Option V), σ = [some (.str z), some (.ref l), some (.ref t), v3, v4] ∧ Same H H1 ∧ H1 l = some (.lst (ls.map V.str)) ∧ H1 t = some (.lst (acc.map V.str)) ∧ acc.length = i ∧ i ≤ ls.length ∧ readL ls = acc ++ readL (ls.drop i)) ⟨[], none, none, rfl, s2, q1, q2, rfl, Nat.zero_le _, rfl⟩ (fun i σ H1 _ ⟨_, _, _, _, _, q, _⟩ => SqL.of q) ?_ ?_⟩
    · rintro i y σ H1 hi ⟨acc, v3, v4, rfl, s1, h1, h2, h3, h4, h5⟩
      have hi2 : i < ls.length := by
        have := (List.getElem?_eq_some_iff.mp hi).1
        rw [List.length_map] at this
        exact this
      rw [List.getElem?_map, List.getElem?_eq_getElem hi2] at hi
      obtain rfl := Option.some.inj hi
      have hx := hd _ (List.getElem_mem hi2)
      have hf := (fact_rpartition ls[i] " ").1
      have hd2 : ls.drop i = ls[i] :: ls.drop (i + 1) := List.drop_eq_getElem_cons hi2
      refine ⟨_, rfl, ⟨_, rfl⟩, ls[i], " ", rfl, rfl, by decide +kernel, szl (by omega), fun p hp => ?_⟩
      have sp := same_upd (o := .tup [.str (Txt.rpartition ls[i] " ").1, .str (Txt.rpartition ls[i] " ").2.1, .str (Txt.rpartition ls[i] " ").2.2]) hp
      refine ⟨p, _, 0, _, rfl, rfl, SqT.of upd_same, rfl, ?_⟩
      have h1' := sp _ _ h1
      have h2' := sp _ _ h2
      have s1' := s1.trans sp
      generalize upd H1 p (.tup [.str (Txt.rpartition ls[i] " ").1, .str (Txt.rpartition ls[i] " ").2.1, .str (Txt.rpartition ls[i] " ").2.2]) = H2 at h1' h2' s1' ⊢
      have hsl := seal_len (Txt.rpartition ls[i] " ").1
      rw [hd2, readL_cons] at h5
      refine ⟨fun σ' H' => σ' = [some (.str z), some (.ref l), some (.ref t), some (.str ls[i]), some (.str (Txt.rpartition ls[i] " ").1)] ∧ H' = H2 ∧ sealT (Txt.rpartition ls[i] " ").1 = ls[i] ++ "\n", ?_, ?_⟩
      · refine ⟨_, rfl, _, rfl, by omega, _, rfl, _, _, rfl, rfl, Nat.le_trans (Nat.add_le_add hx (Nat.le_of_eq k_nl)) (by decide), rfl, _, rfl, ?_⟩
        rw [vstr]
        by_cases hs : sealT (Txt.rpartition ls[i] " ").1 = ls[i] ++ "\n"
        · rw [decide_eq_true hs]
          exact iteF ⟨rfl, rfl, hs⟩
        · rw [decide_eq_false hs]
          rw [if_neg hs, List.append_nil] at h5
          exact iteT ⟨_, rfl, k2 t H2 s1' (by rw [h5]; exact h2')⟩
      rintro σ' H' ⟨rfl, rfl, hs⟩
      rw [if_pos hs] at h5
      refine ⟨_, rfl, .inl ⟨rfl, _, SqL.of h2'⟩, _, rfl, t, _, _, rfl, rfl, h2', by rw [List.length_map, h3]; exact Nat.lt_of_lt_of_le (show i < 10000 by omega) (by decide), ?_⟩
      exact ⟨acc ++ [(Txt.rpartition ls[i] " ").1], _, _, rfl, TK.Same.upd_of s1' ht0, (upd_ne lt).trans h1', by rw [List.map_append]; exact upd_same, by rw [List.length_append, h3]; rfl, hi2, by rw [h5, List.append_assoc]; rfl⟩
    · rintro σ H1 ⟨acc, v3, v4, rfl, s1, h1, h2, h3, h4, h5⟩
      rw [List.length_map, List.drop_length] at h5
      exact ⟨_, rfl, k2 t H1 s1 (by rw [h5]; unfold readL; rw [List.append_nil]; exact h2)⟩
end K11
set_option maxHeartbeats 1000000
namespace K11
open PySem PySem.Spec PyProof.Rows L2 SX TK
open C8 (pe_c)
def alphS : Str := " 0189abzAZ.,;-~!"
def alphL : List Nat := TL.tl alphS
def charsS : Str := " !\"#$&'()*+,-./0123456789:;<=>?@ABCDEFGHIJKLMNOPQRSTUVWXYZ[\\]^_`abcdefghijklmnopqrstuvwxyz{|}~"
theorem alph_at : ∀ c ∈ alphL, c ∈ TL.tl charsS ∧ (if 36 < 32 + (TL.tl charsS).idxOf c then 32 + (TL.tl charsS).idxOf c + 1 else 32 + (TL.tl charsS).idxOf c) = c ∧ c ≠ 10 ∧ c < 0x110000 := by decide +kernel
def RowOk (l : List Nat) : Prop := (∀ c ∈ l, c ∈ alphL) ∧ l.length ≤ 40
theorem RowOk.free {l : List Nat} (h : RowOk l) : 10 ∉ l := fun m => (alph_at 10 (h.1 10 m)).2.2.1 rfl
theorem flat1 : ∀ ys : List Nat, (ys.map fun c => [c]).flatten = ys
  | [] => rfl
  | a :: r => congrArg (a :: ·) (flat1 r)
def spText : Sp := fun vs H Q _ => ∃ (s c : Addr), vs = [.ref s] ∧ StAt H s c ∧ ∀ (l : List Nat) H', RowOk l → StAt H' s c → Keep H H' s c → Q (.str (S l)) H'
theorem ok_law_text {P : Program} {w : World} {K : PySem.W.Frag} {mg : Str → Option Value} {base : Heap} {f : Addr} {fd : FuncData} (T : Tx K mg) (c_law_pick : C8.Cal P w K mg base 2 "_law_pick" spPick []) (c_law_draw : C8.Cal P w K mg base 1 "_law_draw" spDraw [])
    (F : FunD K "_law_text" "_law_text" (defArgs s_law_text) (defBody s_law_text) (defScope s_law_text) [] [] f fd) : FnOk P w K mg base CX0 3 f fd ["state"] spText := by
  refine F.ok sc_law_text (fun vs H Q E h => ?_) (fun cdv A outer s0 H vs Q E hr h => ?_)
  · obtain ⟨s, c, rfl, _⟩ := h
    rfl
  · obtain ⟨s, c, rfl, st0, k⟩ := h
    refine ⟨_, PSs.nox (pss_cons (ps_set (i := 1) sc_law_text.nd rfl (Or.inr rfl) pe_str) (pss_one (ps_ret (pe_join pe_str (pe_lc (own := [("k", 2)]) (g := gName 2) rfl sc_law_text.nd (pi_range1 rfl T.f_range (pa_cons (pe_c c_law_draw hr (by decide) rfl (pa_cons (pv 0) (pa_cons (pe_c c_law_pick hr (by decide) rfl (pa_cons (pv 0) (pa_cons (pe_lst (pa_cons pe_int (pa_cons pe_int (pa_cons pe_int pa_nil)))) pa_nil))) pa_nil))) pa_nil)) (blkOk_by (own := [("k", 2)]) (N := ["state", "chars", "k"]) (sc := defScope s_law_text) (by decide +kernel)) (fun _ _ _ _ _ => pg_name (i := 2) sc_law_text.nd rfl (Or.inl rfl)) (fun _ _ _ _ _ => pts_nil) (fun _ _ _ _ _ => (pe_c c_law_pick hr (by decide) rfl (pa_cons (pv 0) (pa_cons (pv 1) pa_nil))))))))), ?_⟩
    refine ⟨⟨_, rfl⟩, _, rfl, _, rfl, by show 3 ≤ sizeLine; decide, fun l1 hl1 => ?_⟩
    obtain ⟨n1, n2⟩ := st0.tracked hl1
    refine ⟨s, c, _, rfl, st0.upd n1 n2, .inr ⟨l1, _, rfl, upd_same, n1, n2, by decide, by decide, fun mm hm H2 st2 kp2 => ?_⟩⟩
    obtain ⟨m, m0, m1, rfl⟩ : ∃ m : Int, 0 < m ∧ m ≤ 40 ∧ mm = V.int m := by
      simp only [List.mem_cons, List.not_mem_nil, or_false] at hm
      rcases hm with rfl | rfl | rfl <;> exact ⟨_, by decide, by decide, rfl⟩
    refine ⟨s, c, m, rfl, st2, m0, by omega, fun n H3 n0 n1' st kp3 => ?_⟩
    have kpA : Keep H H3 s c := ((Keep.of_same (same_upd hl1)).trans kp2).trans kp3
    refine ⟨n, rfl, by omega, by omega, fun D hD => ?_⟩
    obtain ⟨Ds, Dc⟩ := st.tracked hD
    refine lc_itN walk_range (fun i H' => StAt H' s c ∧ Keep H3 H' s c ∧ ∃ ys : List Nat, H' D = some (.lst ((ys.map fun c => S [c]).map V.str)) ∧ ys.length = i ∧ ∀ z ∈ ys, z ∈ alphL) ⟨st.upd Ds Dc, (Keep.refl _ _ _).upd hD, [], upd_same, rfl, fun _ h => nomatch h⟩ (fun _ _ _ _ => trivial) (fun i x H1 H2 hi p y => ?_) (fun H1 p => ?_)
    · obtain ⟨st1, kp1, ys, e1, e2, e3⟩ := p
      obtain ⟨rfl, rfl⟩ := y
      refine ⟨rfl, _, rfl, _, rfl, s, c, _, rfl, st1, .inl ⟨alphS, rfl, by decide +kernel, by decide +kernel, fun x H3 hx st3 kp3 => ⟨(ys.map fun c => S [c]).map V.str, kp3 D _ e1 Ds Dc, ?_, st3.upd Ds Dc, (kp1.trans kp3).upd hD, ys ++ [x], ?_, ?_, ?_⟩⟩⟩
      · rw [List.length_map, List.length_map, e2]
        exact Nat.lt_of_lt_of_le (Nat.lt_of_lt_of_le hi (by omega : n.toNat ≤ 1000)) (by decide)
      · rw [upd_same, List.map_append, List.map_append]
        rfl
      · rw [List.length_append, e2]
        rfl
      · intro z hz
        rcases List.mem_append.mp hz with q | q
        · exact e3 z q
        · rw [List.mem_singleton.mp q]
          exact hx
    · obtain ⟨st1, kp1, ys, e1, e2, e3⟩ := p
      refine ⟨_, D, ys.map fun c => S [c], rfl, rfl, .inl (SqL.of e1), ?_, ?_⟩
      · rw [sum_ones (fun z hz => by obtain ⟨c, _, rfl⟩ := List.mem_map.mp hz; rfl), List.length_map, e2, show ("" : Str).length = 0 by decide +kernel]
        omega
      · have ej : Txt.join "" (ys.map fun c => S [c]) = S ys := by
          apply TL.ext_tl
          rw [TL.join_eq, TL.tl_join, show TL.tl ("" : Str) = [] by decide +kernel, joinL_nil, List.map_map]
          exact flat1 ys
        rw [ej]
        exact k ys H1 ⟨e3, by omega⟩ st1 (kpA.trans kp1)
def spSum : Sp := fun vs H Q _ => ∃ l : List Nat, vs = [.str (S l)] ∧ RowOk l ∧ Q (.int (cks l : Nat)) H
theorem ok_law_sum {P : Program} {w : World} {K : PySem.W.Frag} {mg : Str → Option Value} {base : Heap} {f : Addr} {fd : FuncData} (T : Tx K mg) 
    (F : FunD K "_law_sum" "_law_sum" (defArgs s_law_sum) (defBody s_law_sum) (defScope s_law_sum) [] [] f fd) : FnOk P w K mg base CX0 1 f fd ["text"] spSum := by
  refine F.ok sc_law_sum (fun vs H Q E h => ?_) (fun cdv A outer s H vs Q E hr h => ?_)
  · obtain ⟨l, rfl, _⟩ := h
    rfl
  · obtain ⟨l, rfl, hl, k⟩ := h
    refine ⟨_, PSs.nox (pss_cons (ps_set (i := 1) sc_law_sum.nd rfl (Or.inl rfl) pe_str) (pss_cons (ps_set (i := 2) sc_law_sum.nd rfl (Or.inl rfl) pe_int) (pss_cons (ps_for PassesOwn.never rfl (pi_str (pv 0)) (pg_name (i := 3) sc_law_sum.nd rfl (Or.inl rfl)) (pss_cons (ps_set (i := 4) sc_law_sum.nd rfl (Or.inl rfl) (pe_op op_add pe_int (pe_m1 PySem.F.slot_str_index PySem.F.type_str_index mt_sindex (pv 1) (pv 3)))) (C8.pss_cut (ps_if (pt_cmpR op_gt (pv 4) pe_int (nomark _)) (pss_one (ps_set (i := 4) sc_law_sum.nd rfl (Or.inl rfl) (pe_op op_add (pv 4) pe_int))) pss_nil) (pss_one (ps_set (i := 2) sc_law_sum.nd rfl (Or.inl rfl) (pe_op op_mod (pe_callTy call_int1 rfl T.f_int (by decide +kernel) (pa_cons (pe_op op_add (pe_op op_mul (pv 2) pe_int) (pv 4)) pa_nil)) pe_int)))))) (pss_one (ps_ret (pv 2)))))), ?_⟩
    refine ⟨_, rfl, S l, rfl, for_it walk_str (fun i σ H1 => H1 = H ∧ ∃ v4 v5 : Option V, σ = [some (.str (S l)), some (.str charsS), some (.int (cks (l.take i) : Nat)), v4, v5]) ⟨rfl, none, none, rfl⟩ (fun _ _ _ _ _ => trivial) ?_ ?_⟩
    · rintro i x σ H1 H2 hi ⟨rfl, v4, v5, rfl⟩ ⟨rfl, c, hc, rfl⟩
      have e : l[i]? = some c := by
        show (S l).cps.toList[i]? = some c
        rw [Array.getElem?_toList]
        exact hc
      obtain ⟨a1, a2, a3, a4⟩ := alph_at c (hl.1 c (List.mem_of_getElem? e))
      obtain ⟨rest, er⟩ := occ_first1 a1
      refine ⟨_, rfl, ⟨_, rfl⟩, _, rfl, charsS, S [c], _, rest, rfl, rfl, er, _, _, rfl, rfl, ?_⟩
      refine ⟨fun σ' H' => H' = H2 ∧ σ' = [some (.str (S l)), some (.str charsS), some (.int (cks (l.take i) : Nat)), some (.str (S [c])), some (.int (c : Nat))], ?_, ?_⟩
      · refine ⟨_, rfl, _, _, rfl, rfl, _, rfl, ?_⟩
        by_cases h : 36 < 32 + (TL.tl charsS).idxOf c
        · rw [if_pos h] at a2
          rw [decide_eq_true (show (36 : Int) < 32 + ((TL.tl charsS).idxOf c : Nat) by omega)]
          refine iteT ⟨_, rfl, _, _, rfl, rfl, rfl, ?_⟩
          refine congrArg (fun v => [some (V.str (S l)), some (V.str charsS), some (V.int (cks (l.take i) : Nat)), some (V.str (S [c])), some (V.int v)]) ?_
          show (32 : Int) + ((TL.tl charsS).idxOf c : Nat) + 1 = (c : Nat)
          omega
        · rw [if_neg h] at a2
          rw [decide_eq_false (show ¬ (36 : Int) < 32 + ((TL.tl charsS).idxOf c : Nat) by omega)]
          refine iteF ⟨rfl, ?_⟩
          refine congrArg (fun v => [some (V.str (S l)), some (V.str charsS), some (V.int (cks (l.take i) : Nat)), some (V.str (S [c])), some (V.int v)]) ?_
          show (32 : Int) + ((TL.tl charsS).idxOf c : Nat) = (c : Nat)
          omega
      rintro σ' H' ⟨rfl, rfl⟩
      refine ⟨_, rfl, _, _, rfl, rfl, .inr ⟨by decide, by decide⟩, _, rfl, _, _, rfl, rfl, .inl ⟨_, rfl, _, _, rfl, rfl, (by show (0 : Int) < 9973; decide), rfl, some (.str (S [c])), some (.int (c : Nat)), ?_⟩⟩
      have e3 : l.take (i + 1) = l.take i ++ [c] := by
        rw [List.take_add_one, e]
        rfl
      rw [e3]
      unfold cks
      rw [List.foldl_append]
      refine congrArg (fun v => [some (V.str (S l)), some (V.str charsS), some (V.int v), some (V.str (S [c])), some (V.int (c : Nat))]) ?_
      show ((_ : Int) * 31 + ((c : Nat) : Int)) % 9973 = (((_ * 31 + c) % 9973 : Nat) : Int)
      omega
    · rintro σ H1 ⟨rfl, v4, v5, rfl⟩
      rw [List.take_of_length_le (show l.length ≤ (S l).cps.size from Nat.le_of_eq (by rw [size_tl]))]
      exact ⟨_, rfl, k⟩
/-- the row's line, as the law writes it -/
def lineT (z : Str) : Str := z ++ " " ++ numS (cks (TL.tl z)) ++ "\n"
theorem line_seal (z : Str) : lineT z = sealT z := by
  have e : Str.empty ++ z = z := TL.ext_tl (by rw [TL.tl_append]; rfl)
  unfold lineT sealT
  rw [e]
theorem seal_S (l : List Nat) : sealT (S l) = S (sealL l) := TL.ext_tl (tl_seal (S l))
theorem sealL_len (l : List Nat) : (sealL l).length ≤ l.length + 12 := by
  have h := seal_len (S l)
  rw [seal_S, S_len, S_len] at h
  exact h
def spWhole (K : PySem.W.Frag) : Sp := fun vs H Q _ => ∃ (a : Addr) (rs : List (List Nat)) (t : List Nat), vs = [.ref a, .str (S t)] ∧ H a = some (.lst ((rs.map S).map V.str)) ∧ (∀ r ∈ rs, RowOk r) ∧ t.length ≤ 9000 ∧ rs.length ≤ 1000 ∧ ∀ r H', Same H H' → H' r = some (.lst (((wholeL rs t).map S).map V.str)) → Q (.ref r) H'
theorem ok_law_whole {P : Program} {w : World} {K : PySem.W.Frag} {mg : Str → Option Value} {base : Heap} {f : Addr} {fd : FuncData} (T : Tx K mg) (c_law_sum : C8.Cal P w K mg base 1 "_law_sum" spSum [])
    (F : FunD K "_law_whole" "_law_whole" (defArgs s_law_whole) (defBody s_law_whole) (defScope s_law_whole) [] [] f fd) : FnOk P w K mg base CX0 4 f fd ["rows", "text"] (spWhole K) := by
  refine F.ok sc_law_whole (fun vs H Q E h => ?_) (fun cdv A outer s H vs Q E hr h => ?_)
  · obtain ⟨a, rs, t, rfl, _⟩ := h
    rfl
  · obtain ⟨a, rs, t, rfl, ha, hrs, ht, hn, k⟩ := h
    refine ⟨_, PSs.nox (pss_cons (ps_set (i := 2) sc_law_whole.nd rfl (Or.inl rfl) (pe_lst pa_nil)) (pss_cons (ps_for PassesOwn.never rfl (pi_list (pv 0)) (pg_name (i := 3) sc_law_whole.nd rfl (Or.inl rfl)) (pss_cons (ps_set (i := 4) sc_law_whole.nd rfl (Or.inl rfl) (pe_op op_add_str (pe_op op_add_str (pe_op op_add_str (pv 3) pe_str) (pe_callTy call_str_int rfl T.f_str (by decide +kernel) (pa_cons (pe_c c_law_sum hr (by decide) rfl (pa_cons (pv 3) pa_nil)) pa_nil))) pe_str)) (C8.pss_cut (ps_if (pt_cmpR op_ne (pe_slice C8.sl_txt (pv 1) po_none (po_some (pe_callB call_len_str rfl T.f_len PySem.boot_len (pa_cons (pv 4) pa_nil)))) (pv 4) (nomark _)) (pss_one (ps_ret (pv 2))) pss_nil) (pss_cons (ps_expr (pe_bm PySem.F.plainAttrs_list PySem.F.slot_list_append PySem.F.type_list_append mt_append (pv 2) (pa_cons (pv 3) pa_nil))) (pss_one (ps_set (i := 1) sc_law_whole.nd rfl (Or.inl rfl) (pe_slice C8.sl_txt (pv 1) (po_some (pe_callB call_len_str rfl T.f_len PySem.boot_len (pa_cons (pv 4) pa_nil))) po_none))))))) (pss_one (ps_ret (pv 2))))), ?_⟩
    refine ⟨by show 0 ≤ sizeLine; decide, fun f hf => ?_⟩
    have af : a ≠ f := ne_of_none ha hf
    refine ⟨_, rfl, a, rfl, ⟨_, SqL.of ((upd_ne af).trans ha)⟩, for_list (K := K) (a := a) (xs := (rs.map S).map V.str) (fun i σ H1 => ∃ (u : List Nat) (v3 v4 : Option V), σ = [some (.ref a), some (.str (S u)), some (.ref f), v3, v4] ∧ Same H H1 ∧ H1 f = some (.lst (((rs.take i).map S).map V.str)) ∧ i ≤ rs.length ∧ u.length ≤ 9000 ∧ wholeL rs t = rs.take i ++ wholeL (rs.drop i) u) ⟨t, none, none, rfl, same_upd hf, upd_same, Nat.zero_le _, ht, rfl⟩ (fun i σ H1 _ ⟨_, _, _, _, q, _⟩ => SqL.of (q _ _ ha)) ?_ ?_⟩
    · rintro i y σ H1 hi ⟨u, v3, v4, rfl, s1, h1, h2, h3, h4⟩
      have hi2 : i < rs.length := by
        have := (List.getElem?_eq_some_iff.mp hi).1
        rw [List.length_map, List.length_map] at this
        exact this
      rw [List.getElem?_map, List.getElem?_map, List.getElem?_eq_getElem hi2] at hi
      obtain rfl := Option.some.inj hi
      have hd2 : rs.drop i = rs[i] :: rs.drop (i + 1) := List.drop_eq_getElem_cons hi2
      have ok := hrs _ (List.getElem_mem hi2)
      have htk : rs.take (i + 1) = rs.take i ++ [rs[i]] := by rw [List.take_add_one, List.getElem?_eq_getElem hi2]; rfl
      generalize rs[i] = r at hd2 ok htk ⊢
      have l1 : (S r).length ≤ 40 := by rw [S_len]; exact ok.2
      have l2 : (numS (cks r : Nat)).length ≤ 10 := numS_len (cks_small (S r))
      have szn : ∀ {n : Nat}, n ≤ 100000 → n ≤ sizeLine := fun h => Nat.le_trans h (by decide)
      refine ⟨_, rfl, _, _, rfl, rfl, szn (by rw [k_bl]; omega), _, rfl, r, rfl, ok, _, rfl, numS_log (cks_small (S r)), ?_⟩
      refine ⟨_, _, rfl, rfl, szn (by show (S r ++ " ").length + (numS _).length ≤ _; rw [cat_len, k_bl]; omega), _, _, rfl, rfl, szn (by show (S r ++ " " ++ numS _).length + _ ≤ _; rw [cat_len, cat_len, k_bl, k_nl]; omega), ?_⟩
      have el : S r ++ " " ++ numS (cks r : Nat) ++ "\n" = S (sealL r) := (line_seal (S r)).trans (seal_S r)
      have hll := sealL_len r
      have hok := ok.2
      refine ⟨fun σ' H' => H' = H1 ∧ σ' = [some (.ref a), some (.str (S u)), some (.ref f), some (.str (S r)), some (.str (S (sealL r)))] ∧ u.take (sealL r).length = sealL r, ?_, ?_⟩
      · refine ⟨_, rfl, _, rfl, S r ++ " " ++ numS (cks r : Nat) ++ "\n", rfl, by rw [el]; exact szn (by rw [S_len]; omega), _, rfl, S u, rfl, szn (by rw [S_len]; omega), ?_⟩
        refine ⟨_, rfl, rfl, _, rfl, ?_⟩
        show (if (!decide (V.str (Txt.slice (S u) none (some ((S r ++ " " ++ numS (cks r : Nat) ++ "\n").length : Nat))) = V.str (S r ++ " " ++ numS (cks r : Nat) ++ "\n"))) = true then _ else _)
        rw [vstr, el, slTo _ (by omega)]
        have ed : decide (S ((TL.tl (S u)).take (((S (sealL r)).length : Nat) : Int).toNat) = S (sealL r)) = decide (u.take (sealL r).length = sealL r) := by
          refine decide_eq_decide.mpr ⟨fun z => congrArg TL.tl z, fun z => congrArg S z⟩
        rw [ed]
        by_cases hs : u.take (sealL r).length = sealL r
        · rw [decide_eq_true hs]
          refine iteF ⟨rfl, ?_, hs⟩
          rw [← el]
          rfl
        · rw [decide_eq_false hs]
          refine iteT ⟨_, rfl, k f H1 s1 ?_⟩
          rw [h4, hd2, show wholeL (r :: rs.drop (i + 1)) u = [] from if_neg hs, List.append_nil]
          exact h1
      rintro σ' H' ⟨rfl, rfl, hs⟩
      have hst : wholeL (r :: rs.drop (i + 1)) u = r :: wholeL (rs.drop (i + 1)) (u.drop (sealL r).length) := if_pos hs
      refine ⟨_, rfl, .inl ⟨rfl, _, SqL.of h1⟩, _, rfl, f, _, _, rfl, rfl, h1, by rw [List.length_map, List.length_map, List.length_take]; exact Nat.lt_of_le_of_lt (Nat.min_le_left _ _) (Nat.lt_of_lt_of_le (show i < 1001 by omega) (by decide)), ?_⟩
      refine ⟨_, rfl, _, rfl, S (sealL r), rfl, szn (by rw [S_len]; omega), _, rfl, S u, rfl, szn (by rw [S_len]; omega), ?_⟩
      refine ⟨u.drop (sealL r).length, some (.str (S r)), some (.str (S (sealL r))), ?_, TK.Same.upd_of s1 hf, ?_, hi2, by rw [List.length_drop]; omega, by rw [h4, hd2, hst, htk, List.append_assoc]; rfl⟩
      · rw [slFrom _ (by omega)]
        rfl
      · rw [htk, List.map_append, List.map_append]
        exact upd_same
    · rintro σ H1 ⟨u, v3, v4, rfl, s1, h1, h2, h3, h4⟩
      rw [List.length_map, List.length_map] at h1 h4
      rw [List.drop_length, List.take_length] at h4
      rw [List.take_length] at h1
      refine ⟨_, rfl, k f H1 s1 ?_⟩
      rw [h4]
      show _ = some (HO.lst (((rs ++ []).map S).map V.str))
      rw [List.append_nil]
      exact h1
end K11
set_option maxHeartbeats 1000000
namespace K11
open PySem PySem.Spec PyProof.Rows L2 SX TK
open C8 (pe_c)
theorem lay_strs : ∀ l : List Str, (∀ z ∈ l, PyData.strOk z = true) → PyData.canLayAll0 (l.map PyData.str) = true
  | [], _ => by simp [PyData.canLayAll0]
  | z :: l, h => by simp [PyData.canLayAll0, PyData.canLay0, h z (by simp), lay_strs l fun y hy => h y (List.mem_cons_of_mem _ hy)]
theorem depth_strs : ∀ l : List Str, PyData.depthAll (l.map PyData.str) ≤ 1
  | [] => by simp [PyData.depthAll]
  | z :: l => by
    have := depth_strs l
    simp [PyData.depthAll, PyData.depth]
    omega
def dataL (l : List Str) : PyData := .list (l.map PyData.str)
theorem dataL_ok {l : List Str} (h : ∀ z ∈ l, PyData.strOk z = true) : SeqAt.shaped (dataL l) = true ∧ PyData.eqv (dataL l) (dataL l) = true := by
  have c : (dataL l).canLay0 = true := by unfold dataL; simp [PyData.canLay0, lay_strs l h]
  have d := depth_strs l
  refine ⟨?_, SeqAt.eqv_refl _ c⟩
  unfold SeqAt.shaped
  rw [c, Bool.true_and, decide_eq_true_eq]
  simp [dataL, PyData.depth]
  omega
theorem dpAll_strs {K : PySem.W.Frag} {H : Hp} : ∀ l : List Str, DpAll K H (l.map V.str) (l.map PyData.str)
  | [] => .nil
  | z :: r => .cons (.str z) (dpAll_strs r)
theorem dataL_dp {K : PySem.W.Frag} {H : Hp} {a : Addr} {l : List Str} (h : H a = some (.lst (l.map V.str))) : Dp K H (.ref a) (dataL l) := .lst (SqL.of h) (dpAll_strs l)
theorem RowOk.str {l : List Nat} (h : RowOk l) : PyData.strOk (S l) = true := ok_iff.mpr fun c hc => (alph_at c (h.1 c hc)).2.2.2
theorem rows_str {rs : List (List Nat)} (h : ∀ r ∈ rs, RowOk r) : ∀ z ∈ rs.map S, PyData.strOk z = true := fun z hz => by
  obtain ⟨r, hr, rfl⟩ := List.mem_map.mp hz
  exact (h r hr).str
theorem cat_len {rs : List (List Nat)} (h : ∀ r ∈ rs, RowOk r) : (cat rs).length ≤ 52 * rs.length := by
  induction rs with
  | nil => exact Nat.le_refl _
  | cons r q ih =>
    rw [cat_cons, List.length_append, List.length_cons]
    have := ih fun x m => h x (List.mem_cons_of_mem _ m)
    have := sealL_len r
    have := (h r (List.mem_cons_self ..)).2
    omega
theorem cat_app (rs : List (List Nat)) (r : List Nat) : cat (rs ++ [r]) = cat rs ++ sealL r := by
  unfold cat
  rw [List.map_append, List.flatten_append]
  show _ ++ (sealL r ++ []) = _
  rw [List.append_nil]
theorem szn {n : Nat} (h : n ≤ 100000) : n ≤ sizeLine := Nat.le_trans h (by decide)
def spLaw (K : PySem.W.Frag) : Sp := fun vs H Q _ => ∃ (a : Addr) (ns : List Int), vs = [.ref a] ∧ SqL K H a (ns.map V.int) ∧ ns.length ≤ 63 ∧ ∀ H', Q (.bl true) H'
/-- the heap's part of the loop -/
structure JJ (K : PySem.W.Frag) (s c p rw sl : Addr) (xs : List V) (rs : List (List Nat)) (sf : Nat) (H : Hp) : Prop where
  st : StAt H s c
  jn : JAt K H p (S (cat rs)) ((cat (rs.take sf)).length : Nat)
  ro : H rw = some (.lst ((rs.map S).map V.str))
  ls : H sl = some (.lst xs)
  ok : ∀ r ∈ rs, RowOk r
  lf : sf ≤ rs.length
  f1 : p ≠ s
  f2 : p ≠ c
  f3 : rw ≠ s
  f4 : rw ≠ c
  f5 : sl ≠ s
  f6 : sl ≠ c
  f7 : rw ≠ sl
section
variable {K : PySem.W.Frag} {s c p rw sl : Addr} {xs : List V} {rs : List (List Nat)} {sf : Nat} {H H' : Hp}
theorem JJ.draw (j : JJ K s c p rw sl xs rs sf H) (st : StAt H' s c) (kp : Keep H H' s c) : JJ K s c p rw sl xs rs sf H' := by
  obtain ⟨dx, e⟩ := j.jn
  exact ⟨st, ⟨dx, kp _ _ e j.f1 j.f2⟩, kp _ _ j.ro j.f3 j.f4, kp _ _ j.ls j.f5 j.f6, j.ok, j.lf, j.f1, j.f2, j.f3, j.f4, j.f5, j.f6, j.f7⟩
theorem JJ.same (j : JJ K s c p rw sl xs rs sf H) (sm : Same H H') : JJ K s c p rw sl xs rs sf H' := by
  obtain ⟨dx, e⟩ := j.jn
  exact ⟨j.st.same sm, ⟨dx, sm _ _ e⟩, sm _ _ j.ro, sm _ _ j.ls, j.ok, j.lf, j.f1, j.f2, j.f3, j.f4, j.f5, j.f6, j.f7⟩
end
theorem ok_law {P : Program} {w : World} {K : PySem.W.Frag} {mg : Str → Option Value} {base : Heap} {f : Addr} {fd : FuncData} (T : Tx K mg) (c_law_state : C8.Cal P w K mg base 1 "_law_state" (spState K) []) (c_law_pick : C8.Cal P w K mg base 2 "_law_pick" spPick []) (c_law_draw : C8.Cal P w K mg base 1 "_law_draw" spDraw []) (c_law_text : C8.Cal P w K mg base 3 "_law_text" spText []) (c_law_sum : C8.Cal P w K mg base 1 "_law_sum" spSum []) (c_law_whole : C8.Cal P w K mg base 4 "_law_whole" (spWhole K) []) (c_mk_Journal : C8.Mak P w K mg base 1 "Journal" (He.ga K "Journal") (spJInit K) []) (c_Journal_append : C8.Met P w K mg base 3 (He.ga K "Journal") "append" (spJAppend K) []) (c_Journal_sync : C8.Met P w K mg base 1 (He.ga K "Journal") "sync" (spJSync K) []) (c_Journal_after_crash : C8.Met P w K mg base 1 (He.ga K "Journal") "after_crash" (spJCrash K) []) (c_checksum : C8.Cal P w K mg base 1 "checksum" spCks []) (c_sealed : C8.Cal P w K mg base 2 "sealed" spSeal []) (c_read_journal : C8.Cal P w K mg base 4 "read_journal" spRead [])
    (F : FunD K "law" "law" (defArgs s_law) (defBody s_law) (defScope s_law) [] [] f fd) : FnOk P w K mg base CX0 5 f fd ["script"] (spLaw K) := by
  refine F.ok sc_law (fun vs H Q E h => ?_) (fun cdv A outer s0 H vs Q E hr h => ?_)
  · obtain ⟨a, ns, rfl, _⟩ := h
    rfl
  · obtain ⟨a, ns, rfl, hS, hn, k⟩ := h
    refine ⟨_, PSs.nox (pss_cons (ps_set (i := 1) sc_law.nd rfl (Or.inl rfl) (pe_c c_law_state hr (by decide) rfl (pa_cons (pv 0) pa_nil))) (pss_cons (ps_set (i := 2) sc_law.nd rfl (Or.inl rfl) (pe_mk0 c_mk_Journal hr (by decide) rfl)) (pss_cons (ps_set (i := 3) sc_law.nd rfl (Or.inl rfl) (pe_lst pa_nil)) (pss_cons (ps_set (i := 4) sc_law.nd rfl (Or.inl rfl) pe_int) (pss_cons (ps_set (i := 5) sc_law.nd rfl (Or.inl rfl) pe_str) (pss_cons (ps_set (i := 6) sc_law.nd rfl (Or.inl rfl) pe_int) (pss_cons (ps_for PassesOwn.never rfl (pi_list (pe_slice sl_list (pv 0) po_none (po_some pe_int))) (pg_name (i := 7) sc_law.nd rfl (Or.inl rfl)) (pss_cons (ps_set (i := 8) sc_law.nd rfl (Or.inl rfl) (pe_c c_law_text hr (by decide) rfl (pa_cons (pv 1) pa_nil))) (C8.pss_cut (ps_if (PW.pt (pw_or (pt_cmpR op_ne (pe_c c_checksum hr (by decide) rfl (pa_cons (pv 8) pa_nil)) (pe_c c_law_sum hr (by decide) rfl (pa_cons (pv 8) pa_nil)) (nomark _)) (pw_or1 (pt_cmpR op_ne (pe_c c_sealed hr (by decide) rfl (pa_cons (pv 8) pa_nil)) (pe_op op_add_str (pe_op op_add_str (pe_op op_add_str (pv 8) pe_str) (pe_callTy call_str_int rfl T.f_str (by decide +kernel) (pa_cons (pe_c c_law_sum hr (by decide) rfl (pa_cons (pv 8) pa_nil)) pa_nil))) pe_str) (nomark _))))) (pss_one (ps_ret pe_bl)) pss_nil) (pss_cons (ps_expr (C8.pe_mt c_Journal_append hr (by decide) (pv 2) (pa_cons (pv 8) pa_nil))) (pss_cons (ps_expr (pe_bm PySem.F.plainAttrs_list PySem.F.slot_list_append PySem.F.type_list_append mt_append (pv 3) (pa_cons (pv 8) pa_nil))) (pss_cons (ps_set (i := 5) sc_law.nd rfl (Or.inl rfl) (pe_op op_add_str (pe_op op_add_str (pe_op op_add_str (pe_op op_add_str (pv 5) (pv 8)) pe_str) (pe_callTy call_str_int rfl T.f_str (by decide +kernel) (pa_cons (pe_c c_law_sum hr (by decide) rfl (pa_cons (pv 8) pa_nil)) pa_nil))) pe_str)) (C8.pss_cut (ps_if (pt_cmpR op_eq (pe_c c_law_draw hr (by decide) rfl (pa_cons (pv 1) (pa_cons pe_int pa_nil))) pe_int (nomark _)) (pss_cons (ps_expr (C8.pe_mt0 c_Journal_sync hr (by decide) (pv 2))) (pss_cons (ps_set (i := 4) sc_law.nd rfl (Or.inl rfl) (pe_callB call_len_str rfl T.f_len PySem.boot_len (pa_cons (pv 5) pa_nil))) (pss_one (ps_set (i := 6) sc_law.nd rfl (Or.inl rfl) (pe_callB call_len_seq rfl T.f_len PySem.boot_len (pa_cons (pv 3) pa_nil)))))) pss_nil) (pss_one (ps_if (PW.pt (pw_or (pt_cmpR op_ne (pe_fldC rfl T.cl_Journal T.na_Journal_text (pv 2) rfl) (pv 5) (nomark _)) (pw_or1 (pt_cmpR op_ne (pe_fldC rfl T.cl_Journal T.na_Journal_synced (pv 2) rfl) (pv 4) (nomark _))))) (pss_one (ps_ret pe_bl)) pss_nil))))))))) (pss_cons (ps_set (i := 9) sc_law.nd rfl (Or.inl rfl) (pe_c c_law_pick hr (by decide) rfl (pa_cons (pv 1) (pa_cons (pe_lst (pa_cons pe_int (pa_cons pe_int (pa_cons (pe_c c_law_draw hr (by decide) rfl (pa_cons (pv 1) (pa_cons pe_int pa_nil))) (pa_cons (pe_callB call_len_str rfl T.f_len PySem.boot_len (pa_cons (pv 5) pa_nil)) pa_nil))))) pa_nil)))) (pss_cons (ps_set (i := 10) sc_law.nd rfl (Or.inl rfl) (C8.pe_mt c_Journal_after_crash hr (by decide) (pv 2) (pa_cons (pv 9) pa_nil))) (pss_cons (ps_set (i := 11) sc_law.nd rfl (Or.inl rfl) (pe_c c_read_journal hr (by decide) rfl (pa_cons (pv 10) pa_nil))) (C8.pss_cut (ps_if (PW.pt (pw_or (pt_cmpR op_ne (pv 10) (pe_slice C8.sl_txt (pv 5) po_none (po_some (pe_op op_add (pv 4) (pv 9)))) (nomark _)) (pw_or (pt_cmpR (op_neD hr.units) (pv 11) (pe_c c_law_whole hr (by decide) rfl (pa_cons (pv 3) (pa_cons (pv 10) pa_nil))) (nomark _)) (pw_or (pt_cmpR op_lt (pe_callB call_len_seq rfl T.f_len PySem.boot_len (pa_cons (pv 11) pa_nil)) (pv 6) (nomark _)) (pw_or1 (pt_cmpR (op_neD hr.units) (pv 11) (pe_slice sl_list (pv 3) po_none (po_some (pe_callB call_len_seq rfl T.f_len PySem.boot_len (pa_cons (pv 11) pa_nil)))) (nomark _))))))) (pss_one (ps_ret pe_bl)) pss_nil) (pss_cons (ps_set (i := 12) sc_law.nd rfl (Or.inl rfl) (pe_c c_law_draw hr (by decide) rfl (pa_cons (pv 1) (pa_cons (pe_op op_add (pe_callB call_len_str rfl T.f_len PySem.boot_len (pa_cons (pv 5) pa_nil)) pe_int) pa_nil)))) (C8.pss_cut (ps_if (PW.pt (pw_or (pt_cmpR (op_neD hr.units) (pe_c c_read_journal hr (by decide) rfl (pa_cons (pe_slice C8.sl_txt (pv 5) po_none (po_some (pv 12))) pa_nil)) (pe_c c_law_whole hr (by decide) rfl (pa_cons (pv 3) (pa_cons (pe_slice C8.sl_txt (pv 5) po_none (po_some (pv 12))) pa_nil))) (nomark _)) (pw_or1 (pt_cmpR (op_neD hr.units) (pe_c c_read_journal hr (by decide) rfl (pa_cons (pv 5) pa_nil)) (pv 3) (nomark _))))) (pss_one (ps_ret pe_bl)) pss_nil) (C8.pss_cut (ps_if (pt_cmpR op_gt (pe_callB call_len_str rfl T.f_len PySem.boot_len (pa_cons (pv 5) pa_nil)) pe_int (nomark _)) (pss_cons (ps_set (i := 13) sc_law.nd rfl (Or.inl rfl) (pe_c c_law_draw hr (by decide) rfl (pa_cons (pv 1) (pa_cons (pe_callB call_len_str rfl T.f_len PySem.boot_len (pa_cons (pv 5) pa_nil)) pa_nil)))) (pss_cons (ps_set (i := 14) sc_law.nd rfl (Or.inl rfl) (pe_op op_add_str (pe_op op_add_str (pe_slice C8.sl_txt (pv 5) po_none (po_some (pv 13))) (pe_c c_law_pick hr (by decide) rfl (pa_cons (pv 1) (pa_cons pe_str pa_nil)))) (pe_slice C8.sl_txt (pv 5) (po_some (pe_op op_add (pv 13) pe_int)) po_none))) (pss_cons (ps_set (i := 15) sc_law.nd rfl (Or.inl rfl) (pe_m1 PySem.F.slot_str_count PySem.F.type_str_count mt_count (pe_slice C8.sl_txt (pv 5) po_none (po_some (pv 13))) pe_str)) (pss_one (ps_if (pt_cmpR (op_neD hr.units) (pe_slice sl_list (pe_c c_read_journal hr (by decide) rfl (pa_cons (pv 14) pa_nil)) po_none (po_some (pv 15))) (pe_slice sl_list (pv 3) po_none (po_some (pv 15))) (nomark _)) (pss_one (ps_ret pe_bl)) pss_nil))))) pss_nil) (pss_one (ps_ret pe_bl)))))))))))))))), ?_⟩
    refine ⟨_, rfl, a, ns, rfl, hS, hn, fun s c H1 s1 hs hc st1 => ?_⟩
    -- journal = Journal(); rows = []
    intro p dx hp hdx hne
    obtain ⟨ps, pc⟩ := st1.tracked hp
    refine ⟨p, dx, rfl, upd_same, ⟨rfl, ?_⟩⟩
    rw [upd_upd]
    have sO := same_own (C := He.ga K "Journal") (fs := jfl "" 0) hp hdx
    have hj : (upd (upd H1 dx (.own p)) p (.ins (He.ga K "Journal") dx (jfl "" 0))) p = some (.ins (He.ga K "Journal") dx (jfl "" 0)) := upd_same
    generalize upd (upd H1 dx (.own p)) p (.ins (He.ga K "Journal") dx (jfl "" 0)) = H2 at sO hj ⊢
    have st2 := st1.same sO
    refine ⟨by show 0 ≤ sizeLine; decide, fun rw hrw => ?_⟩
    obtain ⟨rs', rc⟩ := st2.tracked hrw
    have s3 := same_upd (o := .lst []) hrw
    have hS3 : SqL K (upd H2 rw (.lst [])) a (ns.map V.int) := ((s1.trans sO).trans s3).seq hS
    refine ⟨_, rfl, 40, rfl, a, _, rfl, hS3, fun sl hsl => ?_⟩
    have st3 := st2.same s3
    obtain ⟨ls, lc⟩ := st3.tracked hsl
    have s4 := same_upd (o := .lst (cutV (ns.map V.int) none (some 40))) hsl
    have e0 : S (cat []) = "" := by decide +kernel
    have j0 : JJ K s c p rw sl (cutV (ns.map V.int) none (some 40)) [] 0 (upd (upd H2 rw (.lst [])) sl (.lst (cutV (ns.map V.int) none (some 40)))) := ⟨st3.same s4, ⟨dx, by rw [e0]; exact s4 _ _ (s3 _ _ hj)⟩, s4 _ _ upd_same, upd_same, (fun _ h => nomatch h), Nat.le_refl _, ps, pc, rs', rc, ls, lc, ne_of_none upd_same hsl⟩
    have hcl : (cutV (ns.map V.int) none (some 40)).length ≤ 63 := by
      unfold cutV
      rw [List.length_take, List.length_drop, List.length_map]
      omega
    generalize cutV (ns.map V.int) none (some 40) = xs at j0 hcl ⊢
    refine ⟨sl, rfl, ⟨_, SqL.of j0.ls⟩, for_list (K := K) (a := sl) (xs := xs) (fun i σ H' => ∃ (rs : List (List Nat)) (sf : Nat) (v7 v8 : Option V), σ = [some (.ref a), some (.ref s), some (.ref p), some (.ref rw), some (.int ((cat (rs.take sf)).length : Nat)), some (.str (S (cat rs))), some (.int (sf : Nat)), v7, v8, none, none, none, none, none, none, none] ∧ rs.length = i ∧ i ≤ xs.length ∧ JJ K s c p rw sl xs rs sf H') ⟨[], 0, none, none, by rw [e0]; rfl, rfl, Nat.zero_le _, j0⟩ (fun i σ H' _ ⟨_, _, _, _, _, _, _, j⟩ => SqL.of j.ls) ?_ ?_⟩
    · rintro i y σ H5 hi ⟨rs, sf, v7, v8, rfl, hrl, hil, j⟩
      have hi20 : i < xs.length := (List.getElem?_eq_some_iff.mp hi).1
      have hct := cat_len j.ok
      refine ⟨_, rfl, s, c, rfl, j.st, fun r H6 ok st6 kp6 => ?_⟩
      have j6 := j.draw st6 kp6
      have l1 : (S r).length ≤ 40 := by rw [S_len]; exact ok.2
      have l2 : (numS (cks r : Nat)).length ≤ 10 := numS_len (cks_small (S r))
      have l3 := sealL_len r
      have l4 := ok.2
      have el : S r ++ " " ++ numS (cks r : Nat) ++ "\n" = S (sealL r) := (line_seal (S r)).trans (seal_S r)
      -- the sum and the line
      refine ⟨fun σ' H' => H' = H6 ∧ σ' = [some (.ref a), some (.ref s), some (.ref p), some (.ref rw), some (.int ((cat (rs.take sf)).length : Nat)), some (.str (S (cat rs))), some (.int (sf : Nat)), some y, some (.str (S r)), none, none, none, none, none, none, none], ?_, ?_⟩
      · refine ⟨_, rfl, S r, rfl, _, rfl, r, rfl, ok, rfl, _, rfl, ?_⟩
        show (if (!decide (V.int (cks r : Nat) = V.int (cks r : Nat))) = true then _ else _)
        rw [decide_eq_true rfl]
        refine iteF ⟨_, rfl, S r, rfl, by omega, _, rfl, _, _, rfl, rfl, szn (by rw [k_bl]; omega), _, rfl, r, rfl, ok, _, rfl, numS_log (cks_small (S r)), ?_⟩
        refine ⟨_, _, rfl, rfl, szn (by show (S r ++ " ").length + (numS _).length ≤ _; rw [TK.cat_len, k_bl]; omega), _, _, rfl, rfl, szn (by show (S r ++ " " ++ numS _).length + _ ≤ _; rw [TK.cat_len, TK.cat_len, k_bl, k_nl]; omega), rfl, _, rfl, ?_⟩
        show (if (!decide (V.str (sealT (S r)) = V.str (S r ++ " " ++ numS (cks r : Nat) ++ "\n"))) = true then _ else _)
        rw [vstr, el, seal_S, decide_eq_true rfl]
        exact iteF ⟨rfl, rfl⟩
      rintro σ' H' ⟨rfl, rfl⟩
      -- journal.append(row); rows.append(row)
      obtain ⟨dx6, hj6⟩ := j6.jn
      refine ⟨_, rfl, p, dx6, _, rfl, hj6, rfl, _, rfl, p, S (cat rs), S r, _, rfl, ⟨dx6, hj6⟩, by rw [S_len]; omega, by omega, fun H7 hj7 kp7 => ?_⟩
      have pr : p ≠ rw := ne_of hj6 j6.ro (by intro z; cases z)
      have ro7 := kp7 _ _ j6.ro pr.symm
      have psl : p ≠ sl := ne_of hj6 j6.ls (by intro z; cases z)
      have sl7 := kp7 _ _ j6.ls psl.symm
      refine ⟨_, rfl, .inl ⟨rfl, _, SqL.of ro7⟩, _, rfl, rw, _, _, rfl, rfl, ro7, by rw [List.length_map, List.length_map]; exact Nat.lt_of_lt_of_le (show rs.length < 100 by omega) (by decide), ?_⟩
      have e7 : S (cat rs) ++ sealT (S r) = S (cat (rs ++ [r])) := TL.ext_tl (by rw [TL.tl_append, tl_seal, cat_app])
      have hts : (rs ++ [r]).take sf = rs.take sf := List.take_append_of_le_length j.lf
      have j8 : JJ K s c p rw sl xs (rs ++ [r]) sf (upd H7 rw (.lst ((rs.map S).map V.str ++ [V.str (S r)]))) := by
        obtain ⟨ne, ⟨n, e1⟩, ms, e2, e3⟩ := j6.st
        have g1 := kp7 _ _ e1 j.f1.symm
        have g2 := kp7 _ _ e2 j.f2.symm
        obtain ⟨dx7, hj7'⟩ := hj7
        refine ⟨⟨ne, ⟨n, (upd_ne j.f3.symm).trans g1⟩, ms, (upd_ne j.f4.symm).trans g2, e3⟩, ⟨dx7, ?_⟩, ?_, (upd_ne j.f7.symm).trans sl7, fun x hx => ?_, by rw [List.length_append]; exact Nat.le_trans j.lf (Nat.le_add_right _ _), j.f1, j.f2, j.f3, j.f4, j.f5, j.f6, j.f7⟩
        · rw [← e7, hts]
          exact (upd_ne pr).trans hj7'
        · rw [List.map_append, List.map_append]
          exact upd_same
        · rcases List.mem_append.mp hx with h | h
          · exact j.ok x h
          · rw [List.mem_singleton.mp h]
            exact ok
      generalize (upd H7 rw (.lst ((rs.map S).map V.str ++ [V.str (S r)]))) = H8 at j8 ⊢
      -- text = text + row + ..
      refine ⟨_, rfl, _, rfl, _, _, rfl, rfl, szn (by rw [S_len]; omega), _, _, rfl, rfl, szn (by rw [TK.cat_len, S_len, k_bl]; omega), _, rfl, r, rfl, ok, _, rfl, numS_log (cks_small (S r)), ?_⟩
      refine ⟨_, _, rfl, rfl, szn (by show (S (cat rs) ++ S r ++ " ").length + (numS _).length ≤ _; rw [TK.cat_len, TK.cat_len, S_len, k_bl]; omega), _, _, rfl, rfl, szn (by show (S (cat rs) ++ S r ++ " " ++ numS _).length + _ ≤ _; rw [TK.cat_len, TK.cat_len, TK.cat_len, S_len, k_bl, k_nl]; omega), ?_⟩
      have et : S (cat rs) ++ S r ++ " " ++ numS (cks r : Nat) ++ "\n" = S (cat (rs ++ [r])) := TL.ext_tl (by
        have q := congrArg TL.tl el
        rw [TL.tl_append, TL.tl_append, TL.tl_append] at q
        rw [TL.tl_append, TL.tl_append, TL.tl_append, TL.tl_append, cat_app]
        show cat rs ++ r ++ _ ++ _ ++ _ = cat rs ++ sealL r
        rw [List.append_assoc (cat rs), List.append_assoc (cat rs), List.append_assoc (cat rs)]
        exact congrArg (cat rs ++ ·) q)
      have hct2 := cat_len j8.ok
      have hl1 : (rs ++ [r]).length = i + 1 := by rw [List.length_append, hrl]; rfl
      refine ⟨fun σ' H' => ∃ sf', σ' = [some (.ref a), some (.ref s), some (.ref p), some (.ref rw), some (.int ((cat ((rs ++ [r]).take sf')).length : Nat)), some (.str (S (cat (rs ++ [r])))), some (.int (sf' : Nat)), some y, some (.str (S r)), none, none, none, none, none, none, none] ∧ JJ K s c p rw sl xs (rs ++ [r]) sf' H', ?_, ?_⟩
      · refine ⟨_, rfl, s, c, 3, rfl, j8.st, by decide, by decide, fun d H9 d0 d1 st9 kp9 => ?_⟩
        have j9 := j8.draw st9 kp9
        refine ⟨rfl, _, rfl, ?_⟩
        by_cases hd : V.int d = V.int 0
        · rw [decide_eq_true hd]
          obtain ⟨dx9, hj9⟩ := j9.jn
          refine iteT ⟨_, rfl, p, dx9, _, rfl, hj9, rfl, p, S (cat (rs ++ [r])), _, rfl, ⟨dx9, hj9⟩, by rw [S_len]; omega, fun H10 hj10 kp10 => ?_⟩
          have ro10 := kp10 _ _ j9.ro pr.symm
          refine ⟨_, rfl, _, rfl, szn (by show (S (cat rs) ++ S r ++ " " ++ numS (cks r : Nat) ++ "\n").length ≤ _; rw [et, S_len]; omega), ?_⟩
          refine ⟨_, rfl, rw, _, rfl, .inl (SqL.of ro10), (rs ++ [r]).length, ?_, ?_⟩
          · rw [List.take_length]
            show [some (V.ref a), some (V.ref s), some (V.ref p), some (V.ref rw), some (V.int ((S (cat rs) ++ S r ++ " " ++ numS (cks r : Nat) ++ "\n").length : Nat)), some (V.str (S (cat rs) ++ S r ++ " " ++ numS (cks r : Nat) ++ "\n")), some (V.int ((((rs ++ [r]).map S).map V.str).length : Nat)), some y, some (V.str (S r)), none, none, none, none, none, none, none] = _
            rw [et, S_len, List.length_map, List.length_map]
          · obtain ⟨ne, ⟨n, e1⟩, ms, e2, e3⟩ := j9.st
            refine ⟨⟨ne, ⟨n, kp10 _ _ e1 j.f1.symm⟩, ms, kp10 _ _ e2 j.f2.symm, e3⟩, ?_, ro10, kp10 _ _ j9.ls psl.symm, j9.ok, Nat.le_refl _, j.f1, j.f2, j.f3, j.f4, j.f5, j.f6, j.f7⟩
            rw [List.take_length]
            rw [S_len] at hj10
            exact hj10
        · rw [decide_eq_false hd]
          refine iteF ⟨sf, ?_, j9⟩
          rw [hts]
          show [some (V.ref a), some (V.ref s), some (V.ref p), some (V.ref rw), some (V.int ((cat (rs.take sf)).length : Nat)), some (V.str (S (cat rs) ++ S r ++ " " ++ numS (cks r : Nat) ++ "\n")), some (V.int (sf : Nat)), some y, some (V.str (S r)), none, none, none, none, none, none, none] = _
          rw [et]
      rintro σ' H9 ⟨sf', rfl, j9⟩
      obtain ⟨dx9, hj9⟩ := j9.jn
      refine ⟨_, rfl, p, dx9, _, _, rfl, hj9, rfl, _, rfl, rfl, _, rfl, ?_⟩
      rw [decide_eq_true rfl]
      refine iteF ⟨_, rfl, p, dx9, _, _, rfl, hj9, rfl, _, rfl, rfl, _, rfl, ?_⟩
      rw [decide_eq_true rfl]
      exact iteF ⟨rs ++ [r], sf', _, _, rfl, hl1, hi20, j9⟩
    · rintro σ H5 ⟨rs, sf, v7, v8, rfl, hrl, hil, j⟩
      have hct := cat_len j.ok
      have hfree : ∀ r ∈ rs, 10 ∉ r := fun r hr => (j.ok r hr).free
      have hn9 : (cat rs).length ≤ 9000 := by omega
      -- kept
      refine ⟨_, rfl, _, rfl, s, c, 60, rfl, j.st, by decide, by decide, fun d H6 d0 d1 st6 kp6 => ?_⟩
      have j6 := j.draw st6 kp6
      refine ⟨_, rfl, S (cat rs), rfl, szn (by rw [S_len]; omega), by show 4 ≤ sizeLine; decide, fun l1 hl1 => ?_⟩
      obtain ⟨n1, n2⟩ := st6.tracked hl1
      refine ⟨s, c, _, rfl, st6.upd n1 n2, .inr ⟨l1, _, rfl, upd_same, n1, n2, by show 0 < 4; decide, by show 4 ≤ 1000; decide, fun mm hm H7 st7 kp7 => ?_⟩⟩
      have j7 := (j6.same (same_upd (o := .lst [.int 0, .int 1, .int d, .int ((S (cat rs)).length : Nat)]) hl1)).draw st7 kp7
      obtain ⟨kept, m0, rfl⟩ : ∃ m : Int, 0 ≤ m ∧ mm = V.int m := by
        simp only [List.mem_cons, List.not_mem_nil, or_false] at hm
        rcases hm with rfl | rfl | rfl | rfl
        · exact ⟨_, by decide, rfl⟩
        · exact ⟨_, by decide, rfl⟩
        · exact ⟨_, d0, rfl⟩
        · exact ⟨_, by omega, rfl⟩
      -- left, told
      obtain ⟨dx7, hj7⟩ := j7.jn
      refine ⟨_, rfl, p, dx7, _, rfl, hj7, rfl, _, rfl, p, S (cat rs), _, kept, rfl, ⟨dx7, hj7⟩, by rw [S_len]; omega, ?_⟩
      obtain ⟨q, hq⟩ : ∃ q : Nat, ((cat (rs.take sf)).length : Nat) + kept = ((q : Nat) : Int) := ⟨((cat (rs.take sf)).length + kept.toNat), by omega⟩
      have eleft : Txt.slice (S (cat rs)) none (some (((cat (rs.take sf)).length : Nat) + kept)) = S ((cat rs).take q) := by
        rw [slTo _ (by omega), hq]
        rfl
      obtain ⟨kk, X, h1, h2, h3, h4, h5⟩ := dec rs q hfree
      have hsafe : sf ≤ kk := h5 sf j.lf (by omega)
      have rd : ∀ m : Nat, ∀ k X, (cat rs).take m = cat (rs.take k) ++ X → 10 ∉ X → readJ (S ((cat rs).take m)) = (rs.take k).map S := fun m k X e hx => by
        rw [e, readJ_cat _ fun r hr => hfree r (List.mem_of_mem_take hr), readJ_free hx, List.append_nil]
      refine ⟨_, rfl, _, rfl, by rw [eleft, S_len, List.length_take]; omega, fun td H8 s8 htd => ?_⟩
      have etold : readJ (Txt.slice (S (cat rs)) none (some (((cat (rs.take sf)).length : Nat) + kept))) = (rs.take kk).map S := by
        rw [eleft]
        exact rd q kk X h2 h3
      rw [etold] at htd
      have hkk : ((rs.take kk).map S).length = kk := by rw [List.length_map, List.length_take]; omega
      have okk : ∀ m, ∀ z ∈ (rs.take m).map S, PyData.strOk z = true := fun m => rows_str fun r hr => j.ok r (List.mem_of_mem_take hr)
      have j8 := j7.same s8
      have hwl : ∀ m k X, (cat rs).take m = cat (rs.take k) ++ X → wholeL rs ((cat rs).take m) = rs.take k → (((wholeL rs ((cat rs).take m)).map S).map V.str) = (((rs.take k).map S).map V.str) := fun m k X _ e => by rw [e]
      -- the four tests of what is left
      refine ⟨fun σ' H' => σ' = [some (.ref a), some (.ref s), some (.ref p), some (.ref rw), some (.int ((cat (rs.take sf)).length : Nat)), some (.str (S (cat rs))), some (.int (sf : Nat)), v7, v8, some (.int kept), some (.str (Txt.slice (S (cat rs)) none (some (((cat (rs.take sf)).length : Nat) + kept)))), some (.ref td), none, none, none, none] ∧ JJ K s c p rw sl xs rs sf H', ?_, ?_⟩
      · refine ⟨_, rfl, _, rfl, _, rfl, _, rfl, _, _, rfl, rfl, _, rfl, S (cat rs), rfl, szn (by rw [S_len]; omega), rfl, _, rfl, ?_⟩
        rw [decide_eq_true rfl]
        refine iteF ⟨_, rfl, _, rfl, _, rfl, rw, rs, (cat rs).take q, congrArg (fun z => [V.ref rw, V.str z]) eleft, j8.ro, j.ok, by rw [List.length_take]; omega, by omega, fun wl H9 s9 hw => ?_⟩
        rw [h4] at hw
        refine ⟨dataL ((rs.take kk).map S), dataL ((rs.take kk).map S), dataL_dp (s9 _ _ htd), dataL_dp hw, (dataL_ok (okk kk)).1, (dataL_ok (okk kk)).1, _, rfl, ?_⟩
        rw [(dataL_ok (okk kk)).2]
        refine iteF ⟨_, rfl, td, _, rfl, .inl (SqL.of (s9 _ _ htd)), _, rfl, _, _, rfl, rfl, _, rfl, ?_⟩
        rw [decide_eq_false (show ¬ (((((rs.take kk).map S).map V.str).length : Nat) : Int) < (sf : Nat) by rw [List.length_map, hkk]; omega)]
        have ro9 := s9 _ _ j8.ro
        refine iteF ⟨_, rfl, _, rfl, _, rfl, td, _, rfl, .inl (SqL.of (s9 _ _ htd)), _, rfl, rw, _, rfl, SqL.of ro9, fun nw hnw => ?_⟩
        have s10 := same_upd (o := .lst (cutV ((rs.map S).map V.str) none (some ((((rs.take kk).map S).map V.str).length : Nat)))) hnw
        have hnw2 : (upd H9 nw (.lst (cutV ((rs.map S).map V.str) none (some ((((rs.take kk).map S).map V.str).length : Nat))))) nw = some (.lst (((rs.take kk).map S).map V.str)) := by
          rw [upd_same, cutV_to, List.length_map, hkk, List.map_take, List.map_take]
        refine ⟨dataL ((rs.take kk).map S), dataL ((rs.take kk).map S), dataL_dp (s10 _ _ (s9 _ _ htd)), dataL_dp hnw2, (dataL_ok (okk kk)).1, (dataL_ok (okk kk)).1, _, rfl, ?_⟩
        rw [(dataL_ok (okk kk)).2]
        exact iteF ⟨rfl, (j8.same s9).same s10⟩
      rintro σ' H9 ⟨rfl, j9⟩
      -- a cut
      refine ⟨_, rfl, _, rfl, S (cat rs), rfl, szn (by rw [S_len]; omega), _, _, rfl, rfl, s, c, _, rfl, j9.st, by omega, by rw [S_len]; omega, fun cu H10 c0 c1 st10 kp10 => ?_⟩
      have j10 := j9.draw st10 kp10
      obtain ⟨cn, rfl⟩ : ∃ cn : Nat, cu = (cn : Int) := ⟨cu.toNat, by omega⟩
      obtain ⟨k2, X2, g1, g2, g3, g4, g5⟩ := dec rs cn hfree
      have ecut : Txt.slice (S (cat rs)) none (some (cn : Int)) = S ((cat rs).take cn) := by
        rw [slTo _ (by omega)]
        rfl
      refine ⟨fun σ' H' => σ' = [some (.ref a), some (.ref s), some (.ref p), some (.ref rw), some (.int ((cat (rs.take sf)).length : Nat)), some (.str (S (cat rs))), some (.int (sf : Nat)), v7, v8, some (.int kept), some (.str (Txt.slice (S (cat rs)) none (some (((cat (rs.take sf)).length : Nat) + kept)))), some (.ref td), some (.int (cn : Int)), none, none, none] ∧ JJ K s c p rw sl xs rs sf H', ?_, ?_⟩
      · refine ⟨_, rfl, _, rfl, _, rfl, S (cat rs), rfl, szn (by rw [S_len]; omega), _, rfl, by rw [ecut, S_len, List.length_take]; omega, fun ra H11 s11 hra => ?_⟩
        rw [ecut, rd cn k2 X2 g2 g3] at hra
        refine ⟨_, rfl, _, rfl, _, rfl, _, rfl, S (cat rs), rfl, szn (by rw [S_len]; omega), rw, rs, (cat rs).take cn, congrArg (fun z => [V.ref rw, V.str z]) ecut, s11 _ _ j10.ro, j.ok, by rw [List.length_take]; omega, by omega, fun wl H12 s12 hw => ?_⟩
        rw [g4] at hw
        refine ⟨dataL ((rs.take k2).map S), dataL ((rs.take k2).map S), dataL_dp (s12 _ _ hra), dataL_dp hw, (dataL_ok (okk k2)).1, (dataL_ok (okk k2)).1, _, rfl, ?_⟩
        rw [(dataL_ok (okk k2)).2]
        refine iteF ⟨_, rfl, _, rfl, by rw [S_len]; omega, fun rb H13 s13 hrb => ?_⟩
        have erd : readJ (S (cat rs)) = rs.map S := by
          have e := readJ_cat (X := []) rs hfree
          have z : readJ (S []) = [] := readJ_free (X := []) fun m => nomatch m
          simp only [z, List.append_nil] at e
          exact e
        rw [erd] at hrb
        have ro13 := s13 _ _ (s12 _ _ (s11 _ _ j10.ro))
        refine ⟨_, rfl, dataL (rs.map S), dataL (rs.map S), dataL_dp hrb, dataL_dp ro13, (dataL_ok (rows_str j.ok)).1, (dataL_ok (rows_str j.ok)).1, _, rfl, ?_⟩
        rw [(dataL_ok (rows_str j.ok)).2]
        exact iteF ⟨rfl, ((j10.same s11).same s12).same s13⟩
      rintro σ' H11 ⟨rfl, j11⟩
      -- a changed character
      refine ⟨fun σ' H' => True, ?_, fun σ' H' _ => k H'⟩
      refine ⟨_, rfl, S (cat rs), rfl, szn (by rw [S_len]; omega), _, _, rfl, rfl, _, rfl, ?_⟩
      rw [S_len]
      by_cases hpos : (0 : Int) < ((cat rs).length : Nat)
      · rw [decide_eq_true hpos]
        refine iteT ⟨_, rfl, _, rfl, S (cat rs), rfl, szn (by rw [S_len]; omega), s, c, _, rfl, j11.st, by rw [S_len]; exact hpos, by rw [S_len]; omega, fun ta H12 t0 t1 st12 kp12 => ?_⟩
        have j12 := j11.draw st12 kp12
        obtain ⟨an, rfl⟩ : ∃ an : Nat, ta = (an : Int) := ⟨ta.toNat, by omega⟩
        obtain ⟨k3, X3, u1, u2, u3, u4, u5⟩ := dec rs an hfree
        have eto : Txt.slice (S (cat rs)) none (some (an : Int)) = S ((cat rs).take an) := by
          rw [slTo _ (by omega)]
          rfl
        have efrom : Txt.slice (S (cat rs)) (some ((an : Int) + 1)) none = S ((cat rs).drop (an + 1)) := by
          rw [slFrom _ (by omega)]
          rfl
        refine ⟨_, rfl, _, rfl, _, rfl, S (cat rs), rfl, szn (by rw [S_len]; omega), _, rfl, s, c, _, rfl, j12.st, .inl ⟨"0x ", rfl, by decide +kernel, by decide +kernel, fun ch H13 hch st13 kp13 => ?_⟩⟩
        have j13 := j12.draw st13 kp13
        refine ⟨_, _, rfl, rfl, szn (by rw [eto, S_len, S_len, List.length_take]; show _ + 1 ≤ _; omega), _, rfl, _, rfl, _, _, rfl, rfl, _, rfl, S (cat rs), rfl, szn (by rw [S_len]; omega), ?_⟩
        refine ⟨_, _, rfl, rfl, szn (by rw [TK.cat_len, eto, efrom, S_len, S_len, S_len, List.length_take, List.length_drop]; show _ + 1 + _ ≤ _; omega), ?_⟩
        have eoth : Txt.slice (S (cat rs)) none (some (an : Int)) ++ S [ch] ++ Txt.slice (S (cat rs)) (some ((an : Int) + 1)) none = S (cat (rs.take k3) ++ (X3 ++ ch :: (cat rs).drop (an + 1))) := by
          rw [eto, efrom, u2]
          refine TL.ext_tl ?_
          rw [TL.tl_append, TL.tl_append]
          show (cat (rs.take k3) ++ X3) ++ [ch] ++ (cat rs).drop (an + 1) = _
          rw [List.append_assoc, List.append_assoc]
          rfl
        -- before
        refine ⟨_, rfl, _, rfl, _, rfl, S (cat rs), rfl, szn (by rw [S_len]; omega), ⟨_, rfl⟩, _, _, rfl, rfl, ?_⟩
        have hk3 : (rs.take k3).length = k3 := by rw [List.length_take]; omega
        have ecnt : Txt.count (Txt.slice (S (cat rs)) none (some (an : Int))) "\n" = ((k3 : Nat) : Int) := by
          rw [eto, count_S, u2, count10 _ _ (fun r hr => hfree r (List.mem_of_mem_take hr)) u3, hk3]
        have hlo : (Txt.slice (S (cat rs)) none (some (an : Int)) ++ S [ch] ++ Txt.slice (S (cat rs)) (some ((an : Int) + 1)) none).length ≤ 9000 := by
          rw [TK.cat_len, TK.cat_len, eto, efrom, S_len, S_len, S_len, List.length_take, List.length_drop]
          show _ + 1 + _ ≤ _
          omega
        refine ⟨_, rfl, _, rfl, hlo, fun rc H14 s14 hrc => ?_⟩
        rw [eoth, readJ_cat _ fun r hr => hfree r (List.mem_of_mem_take hr)] at hrc
        refine ⟨_, rfl, _, rfl, rc, _, rfl, SqL.of hrc, fun na hna => ?_⟩
        have s15 := same_upd (o := .lst (cutV ((((rs.take k3).map S ++ readJ (S (X3 ++ ch :: (cat rs).drop (an + 1)))).map V.str)) none (some (Txt.count (Txt.slice (S (cat rs)) none (some (an : Int))) "\n")))) hna
        have hna2 : (upd H14 na (.lst (cutV ((((rs.take k3).map S ++ readJ (S (X3 ++ ch :: (cat rs).drop (an + 1)))).map V.str)) none (some (Txt.count (Txt.slice (S (cat rs)) none (some (an : Int))) "\n"))))) na = some (.lst (((rs.take k3).map S).map V.str)) := by
          rw [upd_same, ecnt, cutV_to, List.map_append]
          refine congrArg (fun l => some (HO.lst l)) ?_
          rw [List.take_append_of_le_length (by rw [List.length_map, List.length_map, hk3]; exact Nat.le_refl _), List.take_of_length_le (by rw [List.length_map, List.length_map, hk3]; exact Nat.le_refl _)]
        have ro15 := s15 _ _ (s14 _ _ j13.ro)
        refine ⟨_, rfl, _, rfl, _, rfl, rw, _, rfl, SqL.of ro15, fun nb hnb => ?_⟩
        have s16 := same_upd (o := .lst (cutV ((rs.map S).map V.str) none (some (Txt.count (Txt.slice (S (cat rs)) none (some (an : Int))) "\n")))) hnb
        have hnb2 : (upd (upd H14 na (.lst (cutV ((((rs.take k3).map S ++ readJ (S (X3 ++ ch :: (cat rs).drop (an + 1)))).map V.str)) none (some (Txt.count (Txt.slice (S (cat rs)) none (some (an : Int))) "\n"))))) nb (.lst (cutV ((rs.map S).map V.str) none (some (Txt.count (Txt.slice (S (cat rs)) none (some (an : Int))) "\n"))))) nb = some (.lst (((rs.take k3).map S).map V.str)) := by
          rw [upd_same, ecnt, cutV_to, List.map_take, List.map_take]
        refine ⟨dataL ((rs.take k3).map S), dataL ((rs.take k3).map S), dataL_dp (s16 _ _ hna2), dataL_dp hnb2, (dataL_ok (okk k3)).1, (dataL_ok (okk k3)).1, _, rfl, ?_⟩
        rw [(dataL_ok (okk k3)).2]
        exact iteF trivial
      · rw [decide_eq_false hpos]
        exact iteF trivial
end K11
set_option maxHeartbeats 0
namespace K11
open PySem PySem.Spec PyProof.Rows L2 SX TK
/-! ### the head: facts by names, the run -/
def d_Journal___init : He.DefD := ⟨("Journal", some "__init__"), "__init__", "Journal.__init__", defArgs s_Journal___init, defBody s_Journal___init, defScope s_Journal___init, [], []⟩
def d_Journal_append : He.DefD := ⟨("Journal", some "append"), "append", "Journal.append", defArgs s_Journal_append, defBody s_Journal_append, defScope s_Journal_append, [], []⟩
def d_Journal_sync : He.DefD := ⟨("Journal", some "sync"), "sync", "Journal.sync", defArgs s_Journal_sync, defBody s_Journal_sync, defScope s_Journal_sync, [], []⟩
def d_Journal_after_crash : He.DefD := ⟨("Journal", some "after_crash"), "after_crash", "Journal.after_crash", defArgs s_Journal_after_crash, defBody s_Journal_after_crash, defScope s_Journal_after_crash, [], []⟩
def d_checksum : He.DefD := ⟨("checksum", none), "checksum", "checksum", defArgs s_checksum, defBody s_checksum, defScope s_checksum, [], []⟩
def d_sealed : He.DefD := ⟨("sealed", none), "sealed", "sealed", defArgs s_sealed, defBody s_sealed, defScope s_sealed, [], []⟩
def d_read_journal : He.DefD := ⟨("read_journal", none), "read_journal", "read_journal", defArgs s_read_journal, defBody s_read_journal, defScope s_read_journal, [], []⟩
def d_law_state : He.DefD := ⟨("_law_state", none), "_law_state", "_law_state", defArgs s_law_state, defBody s_law_state, defScope s_law_state, [], []⟩
def d_law_draw : He.DefD := ⟨("_law_draw", none), "_law_draw", "_law_draw", defArgs s_law_draw, defBody s_law_draw, defScope s_law_draw, [], []⟩
def d_law_pick : He.DefD := ⟨("_law_pick", none), "_law_pick", "_law_pick", defArgs s_law_pick, defBody s_law_pick, defScope s_law_pick, [], []⟩
def d_law_text : He.DefD := ⟨("_law_text", none), "_law_text", "_law_text", defArgs s_law_text, defBody s_law_text, defScope s_law_text, [], []⟩
def d_law_sum : He.DefD := ⟨("_law_sum", none), "_law_sum", "_law_sum", defArgs s_law_sum, defBody s_law_sum, defScope s_law_sum, [], []⟩
def d_law_whole : He.DefD := ⟨("_law_whole", none), "_law_whole", "_law_whole", defArgs s_law_whole, defBody s_law_whole, defScope s_law_whole, [], []⟩
def d_law : He.DefD := ⟨("law", none), "law", "law", defArgs s_law, defBody s_law, defScope s_law, [], []⟩
def fnL : List He.DefD := [d_Journal___init, d_Journal_append, d_Journal_sync, d_Journal_after_crash, d_checksum, d_sealed, d_read_journal, d_law_state, d_law_draw, d_law_pick, d_law_text, d_law_sum, d_law_whole, d_law]
def faL : List He.Fa := [.int "FACTOR" 31, .int "FIRST_SUM" 7, .int "MODULUS" 9973, .free "abs", .free "int", .free "len", .free "ord", .free "range", .free "str", .cls "Journal", .noat "Journal" "text", .noat "Journal" "synced", .glo "Journal", .mkr "Journal", .meth "Journal" "append", .meth "Journal" "sync", .meth "Journal" "after_crash", .glo "checksum", .glo "sealed", .glo "read_journal", .glo "_law_state", .glo "_law_draw", .glo "_law_pick", .glo "_law_text", .glo "_law_sum", .glo "_law_whole", .glo "law"]
def loose0 : List Str := ["FIRST_SUM", "FACTOR", "MODULUS", "checksum", "sealed", "read_journal", "_law_state", "_law_draw", "_law_pick", "_law_text", "_law_sum", "_law_whole", "Journal"]
abbrev Row0 : PySem.W.OpenRow := PySem.W.OpenLaw.row PySem.Challenge.rw_trunkland_k11_journal
def exL (K : PySem.W.Frag) : List Bool := []
abbrev hk : PySem.W.Hook := TK.hookX 6 faL fnL exL
def ob (s : PySem.W.SharedT) : He.AlD := TK.obsX 6 faL fnL exL (HandSHeadRun.getT s)
theorem ob_eq (s : PySem.W.SharedT) : ob s = hk.obs s.abs := TK.obsX_eq (HandSHeadRun.getT_eq s)
theorem run (w : World) : HandSHeadRun.RunEq Row0 (PySem.W.view Row0.prog [15]) hk ob 4000 (loose0) w := by
  intro os
  kernel_rfl
theorem facts {P : Program} {w : World} {K : PySem.W.Frag} {h : Heap} {mg : Str → Option Value} {f : Addr} (X : K.In h) (G : h.Ns mainGlobals mg) (hfa : mg ("law" : Str) = some (.ref f)) (c : He.SaysD faL fnL K) (cx : (exL K).all id = true) :
    ∃ fd : FuncData, (∀ (s : Shared) (v : Value), BindsTo s fd ⟨[v], []⟩ [("script", v)]) ∧ ∀ base : Heap, K.In base → base.Ns mainGlobals mg → FnOk P w K mg base CX0 5 f fd ["script"] (spLaw K) := by
  have T : Tx K mg := ⟨He.int_ok X G (c.fact 0 (f := .int "FACTOR" 31) rfl), He.int_ok X G (c.fact 1 (f := .int "FIRST_SUM" 7) rfl), He.int_ok X G (c.fact 2 (f := .int "MODULUS" 9973) rfl), He.free_ok X G (c.fact 3 (f := .free "abs") rfl), He.free_ok X G (c.fact 4 (f := .free "int") rfl), He.free_ok X G (c.fact 5 (f := .free "len") rfl), He.free_ok X G (c.fact 6 (f := .free "ord") rfl), He.free_ok X G (c.fact 7 (f := .free "range") rfl), He.free_ok X G (c.fact 8 (f := .free "str") rfl), He.cls_ok (c.fact 9 (f := .cls "Journal") rfl), He.noat_ok (c.fact 10 (f := .noat "Journal" "text") rfl), He.noat_ok (c.fact 11 (f := .noat "Journal" "synced") rfl)⟩
  obtain ⟨fd_Journal___init, F_Journal___init⟩ := c.def_ 0 (d := d_Journal___init) rfl
  obtain ⟨fd_Journal_append, F_Journal_append⟩ := c.def_ 1 (d := d_Journal_append) rfl
  obtain ⟨fd_Journal_sync, F_Journal_sync⟩ := c.def_ 2 (d := d_Journal_sync) rfl
  obtain ⟨fd_Journal_after_crash, F_Journal_after_crash⟩ := c.def_ 3 (d := d_Journal_after_crash) rfl
  obtain ⟨fd_checksum, F_checksum⟩ := c.def_ 4 (d := d_checksum) rfl
  obtain ⟨fd_sealed, F_sealed⟩ := c.def_ 5 (d := d_sealed) rfl
  obtain ⟨fd_read_journal, F_read_journal⟩ := c.def_ 6 (d := d_read_journal) rfl
  obtain ⟨fd_law_state, F_law_state⟩ := c.def_ 7 (d := d_law_state) rfl
  obtain ⟨fd_law_draw, F_law_draw⟩ := c.def_ 8 (d := d_law_draw) rfl
  obtain ⟨fd_law_pick, F_law_pick⟩ := c.def_ 9 (d := d_law_pick) rfl
  obtain ⟨fd_law_text, F_law_text⟩ := c.def_ 10 (d := d_law_text) rfl
  obtain ⟨fd_law_sum, F_law_sum⟩ := c.def_ 11 (d := d_law_sum) rfl
  obtain ⟨fd_law_whole, F_law_whole⟩ := c.def_ 12 (d := d_law_whole) rfl
  obtain ⟨fd_law, F_law⟩ := c.def_ 13 (d := d_law) rfl
  have e := hfa.symm.trans (He.glo_ok X G (c.fact 26 (f := .glo "law") rfl))
  cases e
  have b := FunD.bindsA (ps := ["script"]) F_law fun _ _ _ _ _ _ us hl => match us, hl with | [_], _ => rfl
  refine ⟨fd_law, fun s v => b s [v] rfl, fun base _ _ => ?_⟩
  have c_law_state := cal_of (P := P) (w := w) (base := base) F_law_state (ok_law_state T  F_law_state) (He.glo_ok X G (c.fact 20 (f := .glo "_law_state") rfl)) fun _ _ _ _ _ _ us hl => match us, hl with | [_], _ => rfl
  have c_law_draw := cal_of (P := P) (w := w) (base := base) F_law_draw (ok_law_draw T  F_law_draw) (He.glo_ok X G (c.fact 21 (f := .glo "_law_draw") rfl)) fun _ _ _ _ _ _ us hl => match us, hl with | [_, _], _ => rfl
  have c_law_pick := cal_of (P := P) (w := w) (base := base) F_law_pick (ok_law_pick T c_law_draw F_law_pick) (He.glo_ok X G (c.fact 22 (f := .glo "_law_pick") rfl)) fun _ _ _ _ _ _ us hl => match us, hl with | [_, _], _ => rfl
  have c_mk_Journal := mak_of (P := P) (w := w) (base := base) (He.mkr_ok (c.fact 13 (f := .mkr "Journal") rfl)) (He.glo_ok X G (c.fact 12 (f := .glo "Journal") rfl)) F_Journal___init (ok_Journal___init T  F_Journal___init) fun _ _ _ _ _ _ us hl => match us, hl with | [_], _ => rfl
  have c_checksum := cal_of (P := P) (w := w) (base := base) F_checksum (ok_checksum T  F_checksum) (He.glo_ok X G (c.fact 17 (f := .glo "checksum") rfl)) fun _ _ _ _ _ _ us hl => match us, hl with | [_], _ => rfl
  have c_sealed := cal_of (P := P) (w := w) (base := base) F_sealed (ok_sealed T c_checksum F_sealed) (He.glo_ok X G (c.fact 18 (f := .glo "sealed") rfl)) fun _ _ _ _ _ _ us hl => match us, hl with | [_], _ => rfl
  have c_Journal_append := met_of (P := P) (w := w) (base := base) T.cl_Journal (He.meth_ok (c.fact 14 (f := .meth "Journal" "append") rfl)) F_Journal_append (ok_Journal_append T c_sealed F_Journal_append) fun _ _ _ _ _ _ us hl => match us, hl with | [_, _], _ => rfl
  have c_Journal_sync := met_of (P := P) (w := w) (base := base) T.cl_Journal (He.meth_ok (c.fact 15 (f := .meth "Journal" "sync") rfl)) F_Journal_sync (ok_Journal_sync T  F_Journal_sync) fun _ _ _ _ _ _ us hl => match us, hl with | [_], _ => rfl
  have c_Journal_after_crash := met_of (P := P) (w := w) (base := base) T.cl_Journal (He.meth_ok (c.fact 16 (f := .meth "Journal" "after_crash") rfl)) F_Journal_after_crash (ok_Journal_after_crash T  F_Journal_after_crash) fun _ _ _ _ _ _ us hl => match us, hl with | [_, _], _ => rfl
  have c_read_journal := cal_of (P := P) (w := w) (base := base) F_read_journal (ok_read_journal T c_sealed F_read_journal) (He.glo_ok X G (c.fact 19 (f := .glo "read_journal") rfl)) fun _ _ _ _ _ _ us hl => match us, hl with | [_], _ => rfl
  have c_law_text := cal_of (P := P) (w := w) (base := base) F_law_text (ok_law_text T c_law_pick c_law_draw F_law_text) (He.glo_ok X G (c.fact 23 (f := .glo "_law_text") rfl)) fun _ _ _ _ _ _ us hl => match us, hl with | [_], _ => rfl
  have c_law_sum := cal_of (P := P) (w := w) (base := base) F_law_sum (ok_law_sum T  F_law_sum) (He.glo_ok X G (c.fact 24 (f := .glo "_law_sum") rfl)) fun _ _ _ _ _ _ us hl => match us, hl with | [_], _ => rfl
  have c_law_whole := cal_of (P := P) (w := w) (base := base) F_law_whole (ok_law_whole T c_law_sum F_law_whole) (He.glo_ok X G (c.fact 25 (f := .glo "_law_whole") rfl)) fun _ _ _ _ _ _ us hl => match us, hl with | [_, _], _ => rfl
  exact ok_law T c_law_state c_law_pick c_law_draw c_law_text c_law_sum c_law_whole c_mk_Journal c_Journal_append c_Journal_sync c_Journal_after_crash c_checksum c_sealed c_read_journal F_law
end K11
open PySem PySem.W PySem.Calls PyProof.Rows
theorem PySem.Challenge.cw_trunkland_k11_journal_holds : PySem.Challenge.rw_trunkland_k11_journal.Holds := by
  w_on; o_law
  refine HandSHeadRun.head_any (r := OpenLaw.row PySem.Challenge.rw_trunkland_k11_journal) (q := view (OpenLaw.row PySem.Challenge.rw_trunkland_k11_journal).prog [15]) (H := K11.hk) (ob := K11.ob) (M := 4000) (loose := K11.loose0) (d := HandSHeadRun.topDef (OpenLaw.row PySem.Challenge.rw_trunkland_k11_journal).prog 15) (kwd := []) K11.ob_eq
    (by kernel_rfl) (fun s => by kernel_rfl) K11.run (by kernel_rfl) (by kernel_rfl) (by kernel_rfl) (by rfl) (by first | assumption | decide +kernel) (by decide +kernel) ⟨rfl, rfl, rfl, rfl, rfl, by decide +kernel⟩ ?hw ?hc
  case hw => w_witness2
  case hc =>
    refine L2.walk_ofE (l := PySem.Challenge.rw_trunkland_k11_journal) (n := 63) (k := 5) (x := "script") (CX := L2.CX0) rfl (by decide) (by kernel_rfl) ⟨rfl, by decide, by decide⟩ ?F (fun _ _ _ _ z => z)
    intro w mg fa h Y G hmg0
    obtain ⟨K, KX, c, cx⟩ := Y
    have hmg : mg ("law" : PySem.Str) = some (.ref fa) := by
      have e : (HandSHeadRun.topDef (OpenLaw.row PySem.Challenge.rw_trunkland_k11_journal).prog 15).name = ("law" : PySem.Str) := by kernel_rfl
      rw [← e]
      exact hmg0
    obtain ⟨fd, hb, hF⟩ := K11.facts (P := (PySem.Challenge.rw_trunkland_k11_journal).prog) (w := w) KX G hmg c cx
    exact ⟨K, fd, K11.spLaw K, KX, hb, fun H a ns hl _ hS => ⟨a, ns, rfl, hS, hl, fun _ => rfl⟩, hF⟩
