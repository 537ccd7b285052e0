import PyProof.Rows.All
import Wide.All
import OpenK.AllK
import Wide.FinOn
import HandS.ForMost
import HandS.Defaults
import HandS.Codes
import HandS.IsInst
import HandS.NoneIn
import HandS.Replace
import HandS.Walk
import HandS.Head0
import HandS.Head1
import HandS.Head2
import HandS.HeadEnd
import HandS.HeadHook1
import HandS.HeadHook2
import HandS.MakeKw
import HandS.MakeKwOnly
import HandS.FStr
import HandS.Deep
import HandS.StrMore
import HandS.Steps
import PyProof.MeetsStr3
import PyProof.Rows.StrNews2
import PyProof.Rows.StrLast
import PyProof.Rows.StrCountLaw
import HandS.DictTup
import HandS.DictSub
import PySem.Challenge.RW_trunkland_k09_places
set_option Elab.async false
set_option linter.all false
set_option maxRecDepth 100000
set_option maxHeartbeats 4000000
/-! Helpers of mine over the hand layer, the same for every law of this program. -/
namespace TK
open PySem PySem.Spec PyProof.Rows L2 C8 SX
section
variable {X : Cx} {x : Str} {pos p : Pos} {k j : Nat} {sp : Sp} {dvs : List V}
theorem pgI {i : Int} (h : ∃ t, X.mg x = some (.int i t)) (hg : Gl X x := by rfl) (hd : (x == ("__debug__" : Str)) = false := by decide) : PE X (.Name x pos) (tC (.int i)) := by
  obtain ⟨t, e⟩ := h
  exact pe_glob hg e ⟨t, rfl⟩ hd
theorem pgS {z : Str} (h : ∃ t, X.mg x = some (.str z t)) (hg : Gl X x := by rfl) (hd : (x == ("__debug__" : Str)) = false := by decide) : PE X (.Name x pos) (tC (.str z)) := by
  obtain ⟨t, e⟩ := h
  exact pe_glob hg e ⟨t, rfl⟩ hd
theorem pgR {a : Addr} (h : X.mg x = some (.ref a)) (hg : Gl X x := by rfl) (hd : (x == ("__debug__" : Str)) = false := by decide) : PE X (.Name x pos) (tC (.ref a)) := pe_glob hg h rfl hd
theorem pe_c0 (c : Cal X.prog X.w X.K X.mg X.base k x sp dvs) (hr : Room j X.A) (hk : k ≤ j) (hg : Gl X x) (hdb : (x == ("__debug__" : Str)) = false := by decide) :
    PE X (.Call (.Name x p) [] [] pos) (tCall sp dvs L2.E0 tNil) := by
  obtain ⟨f, fd, ps, ds, F, hm, kp, b, d⟩ := c.ex
  exact pe_call0 F (hr.mono hk) hg hm kp b d L2.pass0 hdb
end
section
variable {P : Program} {w : World} {K : PySem.W.Frag} {mg : Str → Option Value} {base : Heap}
/-- a def without defaults, as callers want it -/
theorem cal_of {x qual : Str} {params : Arguments} {body : List Stmt} {scope : Scope} {f : Addr} {fd : FuncData} {ps : List Str} {k : Nat} {sp : Sp} (F : FunD K x qual params body scope [] [] f fd) (G : FnOk P w K mg base L2.CX0 k f fd ps sp) (hm : mg x = some (.ref f))
    (h : ∀ (kV doc pm : Value) (an : Option Addr) (cdv ct : Value) (us : List Value), us.length = ps.length → bindArgs (PySem.W.fnOf x qual params body scope .none kV doc pm an cdv ct) ⟨us, []⟩ = pure (ps.zip us)) : Cal P w K mg base k x sp [] :=
  ⟨f, fd, ps, [], G, hm, F.kp, F.bindsN h, .nil⟩
end
/-! ### heaps -/
/-- all that was tracked is as it was, but what stands at two places -/
def Keep (H H' : Hp) (a c : Addr) : Prop := ∀ b o, H b = some o → b ≠ a → b ≠ c → H' b = some o
theorem Keep.refl (H : Hp) (a c : Addr) : Keep H H a c := fun _ _ h _ _ => h
theorem Keep.trans {H H1 H2 : Hp} {a c : Addr} (h : Keep H H1 a c) (k : Keep H1 H2 a c) : Keep H H2 a c := fun b o e h1 h2 => k b o (h b o e h1 h2) h1 h2
theorem Keep.of_same {H H' : Hp} {a c : Addr} (h : Same H H') : Keep H H' a c := fun b o e _ _ => h b o e
theorem same_upd {H : Hp} {p : Addr} {o : HO} (h : H p = none) : Same H (upd H p o) := fun b u e => by
  rw [upd_ne (ne_of_none e h)]
  exact e
/-- the law's source of draws: a list of a list of cells and a seed -/
structure StAt (H : Hp) (s c : Addr) : Prop where
  ne : s ≠ c
  at_ : ∃ n : Int, H s = some (.lst [.ref c, .int n])
  cells : ∃ ns : List Int, H c = some (.lst (ns.map V.int)) ∧ ns.length ≤ 63
theorem StAt.same {H H' : Hp} {s c : Addr} (h : StAt H s c) (e : Same H H') : StAt H' s c := by
  obtain ⟨ne, ⟨n, h1⟩, ns, h2, h3⟩ := h
  exact ⟨ne, ⟨n, e _ _ h1⟩, ns, e _ _ h2, h3⟩
end TK
namespace TK
open PySem PySem.Spec PyProof.Rows L2 C8 SX
/-! ### comprehensions whose elements leave the heap alone -/
theorem lc_pure {J : It} {n : Nat} {G : Hp → Prop} {Y : Nat → Hp → V → Hp → Prop} (w : Walk J n G Y) (f : Nat → V) {g : TG} {tt : TT} {te : TE} {vs : List Nat} {σ : L2.St} {H1 : Hp} {D : Addr} {Qd : Hp → Prop} (hn : n ≤ sizeLine)
    (hG : ∀ i, i ≤ n → G (upd H1 D (.lst ((List.range i).map f))))
    (hs : ∀ (i : Nat) (x : V) (H' : Hp) (k : V → Hp → Prop), i < n → Y i (upd H1 D (.lst ((List.range i).map f))) x H' → k (f i) (upd H1 D (.lst ((List.range i).map f))) →
      g x (wipe σ vs) H' fun σ2 H2 => wipe σ2 vs = wipe σ vs ∧ tt σ2 H2 fun b H3 => b = true ∧ te σ2 H3 k)
    (ht : ∀ σ H Q Q', (∀ b H', Q b H' → Q' b H') → tt σ H Q → tt σ H Q') (hg : ∀ x σ H Q Q', (∀ σ' H', Q σ' H' → Q' σ' H') → g x σ H Q → g x σ H Q')
    (hd : Qd (upd H1 D (.lst ((List.range n).map f)))) :
    ∃ W : Nat → Nat → Hp → Prop, (∃ m, W 0 m (upd H1 D (.lst []))) ∧ ∀ i m H, W i m H →
      (J.stop i H ∧ Qd H) ∨ (J.go i H ∧ ∃ Nx : Hp → Prop, (∀ H', Nx H' → ∃ m', m' < m ∧ W (i + 1) m' H') ∧ ∀ x H', J.yld i H x H' → g x (wipe σ vs) H' fun σ2 H2 => wipe σ2 vs = wipe σ vs ∧ tt σ2 H2 fun b H3 =>
        if b = true then te σ2 H3 fun y H4 => ∃ acc, H4 D = some (.lst acc) ∧ acc.length < sizeLine ∧ Nx (upd H4 D (.lst (acc ++ [y]))) else Nx H3) := by
  refine lc_it w (fun i H => H = upd H1 D (.lst ((List.range i).map f))) rfl (fun i H hi e => e ▸ hG i hi) (fun i x H H' hi e y => ?_) (fun H e => e ▸ hd)
  subst e
  refine hg _ _ _ _ _ (fun σ2 H2 q => ⟨q.1, ht _ _ _ _ (fun b H3 r => ?_) q.2⟩) (hs i x H' (fun y H4 => ∃ acc, H4 D = some (.lst acc) ∧ acc.length < sizeLine ∧ upd H4 D (.lst (acc ++ [y])) = upd H1 D (.lst ((List.range (i + 1)).map f))) hi y ⟨_, upd_same, ?_, ?_⟩)
  · rw [if_pos r.1]
    exact r.2
  · rw [List.length_map, List.length_range]
    omega
  · rw [upd_upd, List.range_succ, List.map_append]
    rfl
/-- the usual target and no test -/
theorem lc_pureN {J : It} {n : Nat} {G : Hp → Prop} {Y : Nat → Hp → V → Hp → Prop} (w : Walk J n G Y) (f : Nat → V) {j : Nat} {te : TE} {vs : List Nat} {σ : L2.St} {H1 : Hp} {D : Addr} {Qd : Hp → Prop} (hn : n ≤ sizeLine)
    (hG : ∀ i, i ≤ n → G (upd H1 D (.lst ((List.range i).map f))))
    (hs : ∀ (i : Nat) (x : V) (H' : Hp) (k : V → Hp → Prop), i < n → Y i (upd H1 D (.lst ((List.range i).map f))) x H' → k (f i) (upd H1 D (.lst ((List.range i).map f))) →
      wipe ((wipe σ vs).set j (some x)) vs = wipe σ vs ∧ te ((wipe σ vs).set j (some x)) H' k)
    (hd : Qd (upd H1 D (.lst ((List.range n).map f)))) :
    ∃ W : Nat → Nat → Hp → Prop, (∃ m, W 0 m (upd H1 D (.lst []))) ∧ ∀ i m H, W i m H →
      (J.stop i H ∧ Qd H) ∨ (J.go i H ∧ ∃ Nx : Hp → Prop, (∀ H', Nx H' → ∃ m', m' < m ∧ W (i + 1) m' H') ∧ ∀ x H', J.yld i H x H' → gName j x (wipe σ vs) H' fun σ2 H2 => wipe σ2 vs = wipe σ vs ∧ tYes σ2 H2 fun b H3 =>
        if b = true then te σ2 H3 fun y H4 => ∃ acc, H4 D = some (.lst acc) ∧ acc.length < sizeLine ∧ Nx (upd H4 D (.lst (acc ++ [y]))) else Nx H3) :=
  lc_pure w f hn hG (fun i x H' k hi y q => ⟨(hs i x H' k hi y q).1, rfl, (hs i x H' k hi y q).2⟩) (fun _ _ _ _ h q => h _ _ q) (fun _ _ _ _ _ h q => h _ _ q) hd
theorem size_tl (z : Str) : z.cps.size = (TL.tl z).length := by simp [TL.tl]
theorem len_eq (z : Str) : z.length = (TL.tl z).length := TL.len_tl z
theorem range_map_getD {α β : Type} (l : List α) (d : α) (f : α → β) : (List.range l.length).map (fun i => f (l.getD i d)) = l.map f := by
  apply List.ext_getElem
  · simp
  · intro i h1 h2
    simp at h1
    simp [h1]
end TK
namespace TK
open PySem PySem.Spec PyProof.Rows L2 SX
theorem ef {b : Bool} (h : ¬ b = true) : b = false := Bool.eq_false_iff.mpr h
/-! ### places in texts -/
theorem at0 {α : Type} {l : List α} (d : α) (h : 0 < l.length) : atI l 0 = some (l.getD 0 d) := by
  cases l with
  | nil => exact absurd h (Nat.lt_irrefl 0)
  | cons a r =>
    show ((if (0 : Int) ≤ 0 then (if (0 : Int) < ((a :: r).length : Nat) then some (0 : Int).toNat else none) else _) : Option Nat).bind _ = _
    rw [if_pos (Int.le_refl 0), if_pos (by rw [List.length_cons]; omega)]
    rfl
theorem atN {α : Type} {l : List α} {i : Int} (d : α) (h0 : 0 ≤ i) (h : i < l.length) : atI l i = some (l.getD i.toNat d) := by
  show ((if (0 : Int) ≤ i then (if i < (l.length : Nat) then some i.toNat else none) else _) : Option Nat).bind _ = _
  rw [if_pos h0, if_pos h]
  show l[i.toNat]? = _
  rw [List.getD_eq_getElem?_getD, List.getElem?_eq_getElem (by omega)]
  rfl
theorem atC {α : Type} (a : α) (r : List α) : atI (a :: r) 0 = some a := at0 a (by simp)
theorem ixP {n : Nat} {i : Int} (h0 : 0 ≤ i) (h : i < n) : ixN n i = some i.toNat := by
  unfold ixN
  rw [if_pos h0, if_pos h]
theorem sqP {n : Nat} {i : Int} (h0 : 0 ≤ i) (h : i < n) : seqIndex? i n = some i.toNat := (ixN_seq (ixP h0 h)).1
theorem ixC {α : Type} (a : α) (r : List α) : ixN (a :: r).length 0 = some 0 := ixP (by decide) (by rw [List.length_cons]; omega)
theorem sqC {α : Type} (a : α) (r : List α) : seqIndex? 0 (a :: r).length = some 0 := sqP (by decide) (by rw [List.length_cons]; omega)
/-- the first place of a sign -/
theorem occ_first1 {l : List Nat} {c : Nat} (h : c ∈ l) : ∃ rest, Builtin.Str.occurrences (S l) (S [c]) 0 (S l).length 1 = l.idxOf c :: rest := by
  have at_iff : ∀ i, StrLaws.At (S l) (S [c]) (S l).length i ↔ l[i]? = some c := by
    intro i
    have e := TL.at_iff (x := S l) (y := S [c]) (by show [c] ≠ []; simp) i
    refine e.trans ?_
    show (((l.drop i).take 1 == [c]) = true) ↔ _
    rw [beq_iff_eq]
    constructor
    · intro q
      cases e2 : l.drop i with
      | nil =>
        rw [e2] at q
        cases q
      | cons a r =>
        rw [e2] at q
        have e3 : a = c := by
          simpa using q
        rw [← e3]
        have e4 : (l.drop i)[0]? = some a := by rw [e2]; rfl
        rw [List.getElem?_drop] at e4
        exact e4
    · intro q
      have hi : i < l.length := (List.getElem?_eq_some_iff.mp q).1
      rw [List.drop_eq_getElem_cons hi]
      have e3 : l[i] = c := (List.getElem?_eq_some_iff.mp q).2
      rw [e3]
      rfl
  rcases StrLaws.occ_head (S l) (S [c]) 1 (Nat.le_refl 1) with ⟨_, hn⟩ | ⟨i, r, e, ha, hn⟩
  · obtain ⟨i, hi, e⟩ := List.mem_iff_getElem.mp h
    exact absurd ((at_iff i).mpr (by rw [List.getElem?_eq_getElem hi, e])) (hn i)
  · refine ⟨r, ?_⟩
    rw [e]
    congr 1
    have h1 := (at_iff i).mp ha
    have hi : i < l.length := (List.getElem?_eq_some_iff.mp h1).1
    have e1 : l[i] = c := (List.getElem?_eq_some_iff.mp h1).2
    have hj : l.idxOf c < l.length := List.idxOf_lt_length_iff.mpr h
    have e2 : l[l.idxOf c] = c := List.getElem_idxOf hj
    rcases Nat.lt_trichotomy i (l.idxOf c) with z | z | z
    · exfalso
      have := List.not_of_lt_findIdx (p := (· == c)) (xs := l) (i := i) z
      simp [e1] at this
    · exact z
    · exfalso
      exact hn _ z ((at_iff _).mpr (by rw [List.getElem?_eq_getElem hj, e2]))
/-- a list cut at the first sign c -/
theorem cut_first {l : List Nat} {c : Nat} (h : c ∈ l) : l = l.take (l.idxOf c) ++ c :: l.drop (l.idxOf c + 1) ∧ c ∉ l.take (l.idxOf c) := by
  have hj : l.idxOf c < l.length := List.idxOf_lt_length_iff.mpr h
  refine ⟨?_, ?_⟩
  · have e2 : l[l.idxOf c] = c := List.getElem_idxOf hj
    have e3 := List.drop_eq_getElem_cons hj
    rw [e2] at e3
    rw [← e3, List.take_append_drop]
  · intro hm
    obtain ⟨i, hi, e⟩ := List.mem_iff_getElem.mp hm
    rw [List.length_take] at hi
    have hi1 : i < l.idxOf c := by omega
    have := List.not_of_lt_findIdx (p := (· == c)) (xs := l) (i := i) hi1
    rw [List.getElem_take] at e
    simp [e] at this
theorem cut_unique {a b a' b' : List Nat} {c : Nat} (h : a ++ c :: b = a' ++ c :: b') (ha : c ∉ a) (ha' : c ∉ a') : a = a' ∧ b = b' := by
  induction a generalizing a' with
  | nil =>
    cases a' with
    | nil => exact ⟨rfl, by simpa using h⟩
    | cons d r =>
      have e : c = d := by simpa using (List.cons.inj h).1
      exact absurd (List.mem_cons.mpr (.inl e)) ha'
  | cons d r ih =>
    cases a' with
    | nil =>
      have e : d = c := by simpa using (List.cons.inj h).1
      exact absurd (List.mem_cons.mpr (.inl e.symm)) ha
    | cons d' r' =>
      obtain ⟨e1, e2⟩ := List.cons.inj h
      obtain ⟨e3, e4⟩ := ih e2 (fun z => ha (List.mem_cons_of_mem _ z)) (fun z => ha' (List.mem_cons_of_mem _ z))
      exact ⟨by rw [e1, e3], e4⟩
end TK
namespace TK
open PySem PySem.Spec PyProof.Rows L2 SX
theorem Keep.upd {H H' : Hp} {s c D : Addr} {o : HO} (k : Keep H H' s c) (hD : H D = none) : Keep H (upd H' D o) s c := fun b u e h1 h2 => by
  rw [upd_ne (ne_of_none e hD)]
  exact k b u e h1 h2
theorem StAt.upd {H : Hp} {s c D : Addr} {o : HO} (h : StAt H s c) (h1 : D ≠ s) (h2 : D ≠ c) : StAt (upd H D o) s c := by
  obtain ⟨ne, ⟨n, a⟩, ns, b, l⟩ := h
  exact ⟨ne, ⟨n, by rw [upd_ne h1.symm]; exact a⟩, ns, by rw [upd_ne h2.symm]; exact b, l⟩
theorem StAt.tracked {H : Hp} {s c D : Addr} (h : StAt H s c) (hD : H D = none) : D ≠ s ∧ D ≠ c := by
  obtain ⟨ne, ⟨n, a⟩, ns, b, l⟩ := h
  exact ⟨fun e => (by rw [e, a] at hD; cases hD), fun e => (by rw [e, b] at hD; cases hD)⟩
theorem Keep.none {H H' : Hp} {s c b : Addr} (k : Keep H H' s c) (h : H' b = Option.none) (h1 : b ≠ s) (h2 : b ≠ c) : H b = Option.none := by
  cases e : H b with
  | none => rfl
  | some o =>
    rw [k b o e h1 h2] at h
    cases h
theorem joinL_nil : ∀ l : List (List Nat), TL.joinL [] l = l.flatten
  | [] => rfl
  | [p] => by simp [TL.joinL]
  | p :: q :: r => by
    show p ++ ([] ++ TL.joinL [] (q :: r)) = _
    rw [joinL_nil (q :: r)]
    rfl
/-- texts of one sign, joined -/
theorem join_ones {ys : List Str} (h : ∀ z ∈ ys, z.length = 1) : (Txt.join "" ys).length = ys.length := by
  have e : (Txt.join ("" : Str) ys) = Str.join "" ys := TL.join_eq "" ys
  rw [e, len_eq, TL.tl_join, show TL.tl ("" : Str) = [] by decide +kernel, joinL_nil]
  induction ys with
  | nil => rfl
  | cons a r ih =>
    have h1 := h a (List.mem_cons_self ..)
    rw [len_eq] at h1
    rw [List.map_cons, List.flatten_cons, List.length_append, ih (fun z hz => h z (List.mem_cons_of_mem _ hz)) (TL.join_eq "" r), List.length_cons, h1]
    omega
theorem sum_ones {ys : List Str} (h : ∀ z ∈ ys, z.length = 1) : (ys.map (·.length)).sum = ys.length := by
  induction ys with
  | nil => rfl
  | cons a r ih =>
    rw [List.map_cons, List.sum_cons, ih (fun z hz => h z (List.mem_cons_of_mem _ hz)), h a (List.mem_cons_self ..), List.length_cons]
    omega
theorem cat_len (a b : Str) : (a ++ b).length = a.length + b.length := by
  rw [len_eq, TL.tl_append, List.length_append, ← len_eq, ← len_eq]
end TK
namespace TK
open PySem PySem.Spec PyProof.Rows L2 SX
/-- lc_it with a plain name as target and no test -/
theorem lc_itN {J : It} {n : Nat} {G : Hp → Prop} {Y : Nat → Hp → V → Hp → Prop} (w : Walk J n G Y) {j : Nat} {te : TE} {vs : List Nat} {σ : L2.St} {H1 : Hp} {D : Addr} {Qd : Hp → Prop} (Pv : Nat → Hp → Prop) (h0 : Pv 0 (upd H1 D (.lst []))) (hG : ∀ i H, i ≤ n → Pv i H → G H)
    (hs : ∀ i x H H', i < n → Pv i H → Y i H x H' → wipe ((wipe σ vs).set j (some x)) vs = wipe σ vs ∧ te ((wipe σ vs).set j (some x)) H' fun y H4 => ∃ acc, H4 D = some (.lst acc) ∧ acc.length < sizeLine ∧ Pv (i + 1) (upd H4 D (.lst (acc ++ [y])))) (hd : ∀ H, Pv n H → Qd H) :
    ∃ W : Nat → Nat → Hp → Prop, (∃ m, W 0 m (upd H1 D (.lst []))) ∧ ∀ i m H, W i m H →
      (J.stop i H ∧ Qd H) ∨ (J.go i H ∧ ∃ Nx : Hp → Prop, (∀ H', Nx H' → ∃ m', m' < m ∧ W (i + 1) m' H') ∧ ∀ x H', J.yld i H x H' → gName j x (wipe σ vs) H' fun σ2 H2 => wipe σ2 vs = wipe σ vs ∧ tYes σ2 H2 fun b H3 =>
        if b = true then te σ2 H3 fun y H4 => ∃ acc, H4 D = some (.lst acc) ∧ acc.length < sizeLine ∧ Nx (upd H4 D (.lst (acc ++ [y]))) else Nx H3) :=
  lc_it w Pv h0 hG (fun i x H H' hi p y => ⟨(hs i x H H' hi p y).1, (hs i x H H' hi p y).2⟩) hd
end TK
namespace TK
open PySem PySem.Spec PyProof.Rows L2 SX
theorem slTo (z : Str) {i : Int} (h : 0 ≤ i) : Txt.slice z none (some i) = S ((TL.tl z).take i.toNat) := slice_to (a := TL.tl z) h
theorem slFrom (z : Str) {i : Int} (h : 0 ≤ i) : Txt.slice z (some i) none = S ((TL.tl z).drop i.toNat) := slice_from (a := TL.tl z) h
theorem log_small {i : Int} (h : i.natAbs < 2 ^ 1900) : i.natAbs.log2 < 1920 := by
  by_cases h0 : i.natAbs = 0
  · rw [h0]
    decide
  · exact (Nat.log2_lt h0).mpr (Nat.lt_of_lt_of_le h (Nat.pow_le_pow_right (by decide) (by decide)))
end TK
namespace TK
open PySem PySem.Spec PyProof.Rows L2 SX
/-! ### comprehensions with a test, the heap left alone -/
theorem lc_filt {J : It} {n : Nat} {G : Hp → Prop} {Y : Nat → Hp → V → Hp → Prop} (w : Walk J n G Y) (f : Nat → V) (b : Nat → Bool) {j : Nat} {tt : TT} {te : TE} {vs : List Nat} {σ : L2.St} {H1 : Hp} {D : Addr} {Qd : Hp → Prop} (hn : n ≤ sizeLine)
    (hG : ∀ i, i ≤ n → G (upd H1 D (.lst (((List.range i).filter b).map f))))
    (ht : ∀ (i : Nat) (x : V) (H' : Hp) (k : Bool → Hp → Prop), i < n → Y i (upd H1 D (.lst (((List.range i).filter b).map f))) x H' → k (b i) (upd H1 D (.lst (((List.range i).filter b).map f))) →
      wipe ((wipe σ vs).set j (some x)) vs = wipe σ vs ∧ tt ((wipe σ vs).set j (some x)) H' k)
    (he : ∀ (i : Nat) (x : V) (H' : Hp) (k : V → Hp → Prop), i < n → b i = true → Y i (upd H1 D (.lst (((List.range i).filter b).map f))) x H' → k (f i) (upd H1 D (.lst (((List.range i).filter b).map f))) →
      te ((wipe σ vs).set j (some x)) (upd H1 D (.lst (((List.range i).filter b).map f))) k)
    (hd : Qd (upd H1 D (.lst (((List.range n).filter b).map f)))) :
    ∃ W : Nat → Nat → Hp → Prop, (∃ m, W 0 m (upd H1 D (.lst []))) ∧ ∀ i m H, W i m H →
      (J.stop i H ∧ Qd H) ∨ (J.go i H ∧ ∃ Nx : Hp → Prop, (∀ H', Nx H' → ∃ m', m' < m ∧ W (i + 1) m' H') ∧ ∀ x H', J.yld i H x H' → gName j x (wipe σ vs) H' fun σ2 H2 => wipe σ2 vs = wipe σ vs ∧ tt σ2 H2 fun b H3 =>
        if b = true then te σ2 H3 fun y H4 => ∃ acc, H4 D = some (.lst acc) ∧ acc.length < sizeLine ∧ Nx (upd H4 D (.lst (acc ++ [y]))) else Nx H3) := by
  refine lc_it w (fun i H => H = upd H1 D (.lst (((List.range i).filter b).map f))) rfl (fun i H hi e => e ▸ hG i hi) (fun i x H H' hi e y => ?_) (fun H e => e ▸ hd)
  subst e
  refine ht i x H' _ hi y ?_
  cases hb : b i with
  | true =>
    refine iteT (he i x H' _ hi hb y ⟨_, upd_same, ?_, ?_⟩)
    · rw [List.length_map]
      exact Nat.lt_of_le_of_lt (List.length_filter_le _ _) (by rw [List.length_range]; omega)
    · rw [upd_upd, List.range_succ, List.filter_append, List.map_append, List.filter_cons_of_pos hb]
      rfl
  | false =>
    refine iteF ?_
    rw [List.range_succ, List.filter_append, List.filter_cons_of_neg (by rw [hb]; exact Bool.false_ne_true), List.filter_nil, List.append_nil]
theorem range_filter_getD {α β : Type} (l : List α) (d : α) (p : α → Bool) (f : α → β) : ((List.range l.length).filter (fun i => p (l.getD i d))).map (fun i => f (l.getD i d)) = (l.filter p).map f := by
  have e := range_map_getD l d (fun x => x)
  rw [List.map_id'] at e
  have h : (l.filter p).map f = (((List.range l.length).map (fun i => l.getD i d)).filter p).map f := by rw [e]
  rw [h, List.filter_map, List.map_map]
  rfl
theorem getD_at {α : Type} {l : List α} {i : Nat} {x : α} (d : α) (h : l[i]? = some x) : l.getD i d = x := by
  rw [List.getD_eq_getElem?_getD, h]
  rfl
/-! ### heads with tables -/
def obsX (n : Nat) (fa : List He.Fa) (fn : List He.DefD) (ex : PySem.W.Frag → List Bool) (g : Addr → Option Obj) : He.AlD :=
  ((He.obsD fa fn (He.frG g (He.asD g n))).1 && (ex (He.frG g (He.asD g n))).all id, (He.obsD fa fn (He.frG g (He.asD g n))).2)
def hookX (n : Nat) (fa : List He.Fa) (fn : List He.DefD) (ex : PySem.W.Frag → List Bool) : PySem.W.Hook where
  α := He.AlD
  obs s := obsX n fa fn ex s.heap.get?
  val _ := He.valD fn
  says _ h := ∃ K : PySem.W.Frag, K.In h ∧ He.SaysD fa fn K ∧ (ex K).all id = true
  of _ _ e := by
    have e1 := congrArg (fun z : He.AlD => z.1) e
    have e2 := congrArg (fun z : He.AlD => z.2) e
    obtain ⟨a, b⟩ := Bool.and_eq_true_iff.mp e1
    exact ⟨_, He.frG_in, Prod.ext a e2, b⟩
  keeps _ _ _ c k := let ⟨K, hK, c1, c2⟩ := c; ⟨K, PySem.W.Frag.In.keeps hK k, c1, c2⟩
theorem obsX_eq {n : Nat} {fa : List He.Fa} {fn : List He.DefD} {ex : PySem.W.Frag → List Bool} {g : Addr → Option Obj} {s : Shared} (h : ∀ a, g a = s.heap.get? a) : obsX n fa fn ex g = (hookX n fa fn ex).obs s := by
  obtain rfl : g = s.heap.get? := funext h
  rfl
theorem exAt {l : List Bool} (h : l.all id = true) (i : Nat) {b : Bool} (e : l[i]? = some b) : b = true := List.all_eq_true.mp h b (List.mem_of_getElem? e)
end TK
namespace TK
open PySem PySem.Spec PyProof.Rows L2 SX
/-! ### rules that name the written part, for use within a comprehension -/
section
variable {X : Cx}
theorem inSeqK (K : PySem.W.Frag) (e : X.K = K) : OpR X (compareOp .In) (rIn K false) := by
  subst e
  exact op_in_seq
theorem notInSeqK (K : PySem.W.Frag) (e : X.K = K) : OpR X (compareOp .NotIn) (rIn K true) := by
  subst e
  exact op_notIn_seq
theorem ixListK (K : PySem.W.Frag) (e : X.K = K) : IxR X (rIxL K) := by
  subst e
  exact ix_list
theorem ixTupK (K : PySem.W.Frag) (e : X.K = K) : IxR X (rIxT K) := by
  subst e
  exact ix_tup
theorem isiK (K : PySem.W.Frag) (e : X.K = K) : CallR X (.builtin "isinstance") (rIsi K) := by
  subst e
  exact call_isi
end
end TK
set_option maxHeartbeats 4000000
namespace TK
open PySem PySem.Spec PyProof.Rows L2 SX
theorem same_upd2 {H H' : Hp} {D : Addr} {o : HO} (s : Same H H') (hD : H D = none) : Same H (upd H' D o) := fun b u e => by
  rw [upd_ne (ne_of_none e hD)]
  exact s b u e
theorem joinL_len (y : List Nat) : ∀ l : List (List Nat), (TL.joinL y l).length ≤ (l.map (·.length)).sum + l.length * y.length
  | [] => by simp [TL.joinL]
  | [p] => by simp [TL.joinL]
  | p :: q :: r => by
    have ih := joinL_len y (q :: r)
    show (p ++ (y ++ TL.joinL y (q :: r))).length ≤ _
    rw [List.length_append, List.length_append, List.map_cons, List.sum_cons, List.length_cons (a := p), Nat.succ_mul]
    omega
theorem join_len (y : Str) (ys : List Str) : (Txt.join y ys).length ≤ (ys.map (·.length)).sum + ys.length * y.length := by
  rw [show Txt.join y ys = Str.join y ys from TL.join_eq y ys, len_eq, TL.tl_join]
  have q := joinL_len (TL.tl y) (ys.map TL.tl)
  rw [List.length_map, List.map_map] at q
  have e : (ys.map (fun x : Str => x.length)) = ys.map ((fun x : List Nat => x.length) ∘ TL.tl) := List.map_congr_left fun x _ => len_eq x
  rw [e, len_eq y]
  exact q
theorem sum_le {m : Nat} : ∀ {ys : List Str}, (∀ z ∈ ys, z.length ≤ m) → (ys.map (·.length)).sum ≤ ys.length * m
  | [], _ => Nat.zero_le _
  | a :: r, h => by
    have ih := sum_le (ys := r) fun z hz => h z (List.mem_cons_of_mem _ hz)
    have h1 := h a (List.mem_cons_self ..)
    rw [List.map_cons, List.sum_cons, List.length_cons, Nat.succ_mul]
    omega
theorem nodup_inr : ∀ ys : List Str, (ys.map (Sum.inr : Str → Key)).Nodup ↔ ys.Nodup
  | [] => by simp
  | a :: r => by
    rw [List.map_cons, List.nodup_cons, List.nodup_cons, nodup_inr r, List.mem_map]
    constructor
    · intro q
      exact ⟨fun m => q.1 ⟨a, m, rfl⟩, q.2⟩
    · intro q
      exact ⟨fun ⟨b, m, e⟩ => q.1 (Sum.inr.inj e ▸ m), q.2⟩
theorem key_strs (ys : List Str) : (ys.map (Sum.inr : Str → Key)).map kV = ys.map V.str := by
  rw [List.map_map]
  rfl
/-- the parts of a text are no longer than the text -/
theorem part_len {z y p : Str} (h : p ∈ Txt.split z y) : p.length ≤ z.length := by
  have j := StrLaws.join_split z y
  have sub : ∀ (l : List (List Nat)) (s : List Nat), ∀ x ∈ l, x.length ≤ (TL.joinL s l).length := by
    intro l s
    induction l with
    | nil => exact fun x hx => nomatch hx
    | cons a r ih =>
      intro x hx
      cases r with
      | nil =>
        rw [List.mem_singleton.mp hx]
        exact Nat.le_refl _
      | cons b r =>
        show x.length ≤ (a ++ (s ++ TL.joinL s (b :: r))).length
        rw [List.length_append, List.length_append]
        rcases List.mem_cons.mp hx with q | q
        · rw [q]
          omega
        · have := ih x q
          omega
  have q := sub ((Txt.split z y).map TL.tl) (TL.tl y) (TL.tl p) (List.mem_map.mpr ⟨p, h, rfl⟩)
  rw [← TL.tl_join, j] at q
  rw [len_eq, len_eq]
  exact q
end TK
namespace TK
open PySem PySem.Spec PyProof.Rows L2 SX
/-! ### a word between an expression and what follows -/
def tCutE (t : TE) : TE := fun σ H Q => ∃ Mid : VK, t σ H Mid ∧ ∀ v H', Mid v H' → Q v H'
def tCutT (t : TT) : TT := fun σ H Q => ∃ Mid : Bool → Hp → Prop, t σ H Mid ∧ ∀ b H', Mid b H' → Q b H'
section
variable {X : Cx} {e : Expr}
theorem pe_cut {t : TE} (h : PE X e t) : PE X e (tCutE t) := ⟨fun pins s σ H _ I ⟨Mid, hm, hq⟩ => thn (h.run pins s σ H Mid I hm) fun _ _ ⟨v, H', I', r, q⟩ => ⟨v, H', I', r, hq v H' q⟩⟩
theorem pt_cut {t : TT} (h : PT X e t) : PT X e (tCutT t) := ⟨fun pins s σ H _ I ⟨Mid, hm, hq⟩ => thn (h.run pins s σ H Mid I hm) fun b _ ⟨H', I', q⟩ => ⟨H', I', hq b H' q⟩⟩
end
end TK
set_option maxHeartbeats 4000000
/-! Own classes: rules that name the class, makers and methods by their promises. -/
namespace TK
open PySem PySem.Spec PyProof.Rows L2 SX
def tFldC (C : Addr) (ta : TE) (f : Str) : TE := fun σ H Q => ta σ H fun x H1 => ∃ a dx fs v, x = .ref a ∧ H1 a = some (.ins C dx fs) ∧ fs.lookup f = some v ∧ Q v H1
def sFldC (C : Addr) (ta tv : TE) (f : Str) : TS := fun D σ H => tv σ H fun y H1 => ta σ H1 fun x H2 => ∃ a dx fs, x = .ref a ∧ H2 a = some (.ins C dx fs) ∧ fs.length < 1000 ∧ D.nx σ (upd H2 a (.ins C dx (putF f y fs)))
section
variable {X : Cx} {K : PySem.W.Frag} {C : Addr} {e o value : Expr} {f : Str} {pos pos' : Pos} {ta tv : TE}
theorem pe_fldC (eK : X.K = K) (c : Cls K C) (n : NoAttr K C f) (he : PE X e ta) (hb : attributeBase e f X.env (eval e X.env) = eval e X.env) : PE X (.Attribute e f pos) (tFldC C ta f) := by
  subst eK
  exact ⟨fun pins s σ H Q I h => (pe_fld (pe_cut he) hb).run pins s σ H Q I ⟨_, h, fun v H' ⟨a, dx, fs, w, e1, e2, e3, q⟩ => ⟨a, C, dx, fs, w, e1, e2, c, n, e3, q⟩⟩⟩
theorem ps_fldC (eK : X.K = K) (c : Cls K C) (n : NoAttr K C f) (ha : PE X o ta) (hv : PE X value tv) (hs : swapsWith value (some (.Attribute o f pos')) pos.line X.env = pure false) : PS X (.Assign [.Attribute o f pos'] value pos) (sFldC C ta tv f) := by
  subst eK
  exact ⟨fun pins s σ H D I h => (ps_fld (pe_cut ha) (pe_cut hv) hs).run pins s σ H D I ⟨_, h, fun v H' h2 => ⟨_, h2, fun x H2 ⟨a, dx, fs, e1, e2, e3, q⟩ => ⟨a, C, dx, fs, e1, e2, c, n, e3, q⟩⟩⟩⟩
end
/-! ### few attributes -/
class SmallF (fs : List (Str × V)) (n : outParam Nat) : Prop where
  le : fs.length ≤ n
instance : SmallF [] 0 := ⟨Nat.le_refl _⟩
instance {x : Str × V} {l : List (Str × V)} {n : Nat} [h : SmallF l n] : SmallF (x :: l) (n + 1) := ⟨Nat.succ_le_succ h.le⟩
theorem putF_len {f : Str} {v : V} : ∀ fs : List (Str × V), (putF f v fs).length ≤ fs.length + 1
  | [] => Nat.le_refl _
  | (g, x) :: r => by
    show (if g = f then (g, v) :: r else (g, x) :: putF f v r).length ≤ _
    by_cases h : g = f
    · rw [if_pos h]
      exact Nat.le_succ _
    · rw [if_neg h]
      exact Nat.succ_le_succ (putF_len r)
instance {f : Str} {v : V} {l : List (Str × V)} {n : Nat} [h : SmallF l n] : SmallF (putF f v l) (n + 1) := ⟨Nat.le_trans (putF_len l) (Nat.succ_le_succ h.le)⟩
theorem sm {fs : List (Str × V)} {n : Nat} [h : SmallF fs n] (hn : n < 1000 := by decide) : fs.length < 1000 := Nat.lt_of_le_of_lt h.le hn
/-! ### makers -/
section
variable {P : Program} {w : World} {K : PySem.W.Frag} {mg : Str → Option Value} {base : Heap}
structure MakK (P : Program) (w : World) (K : PySem.W.Frag) (mg : Str → Option Value) (base : Heap) (k : Nat) (x : Str) (C : Addr) (sp : Sp) (n : Nat) (ks : List Str) (gV : List V → List V → List V) : Prop where
  ex : ∃ (f : Addr) (fd : FuncData) (ps : List Str) (g : List Value → List Value → List Value), Mk K C f ∧ FnOk P w K mg base L2.CX0 k f fd ps sp ∧ mg x = some (.ref C) ∧ KBn K fd ps (n + 1) ks g gV
theorem mak_of {C : Addr} {x n qual : Str} {params : Arguments} {body : List Stmt} {scope : Scope} {f : Addr} {fd : FuncData} {ps : List Str} {k : Nat} {sp : Sp} (M : Mk K C f) (hm : mg x = some (.ref C)) (F : FunD K n qual params body scope [] [] f fd) (G : FnOk P w K mg base L2.CX0 k f fd ps sp)
    (h : ∀ (kV doc pm : Value) (an : Option Addr) (cdv ct : Value) (us : List Value), us.length = ps.length → bindArgs (PySem.W.fnOf n qual params body scope .none kV doc pm an cdv ct) ⟨us, []⟩ = pure (ps.zip us)) : C8.Mak P w K mg base k x C sp [] :=
  ⟨f, fd, ps, [], M, G, hm, F.bindsN h, .nil⟩
theorem met_of {C : Addr} {n qual : Str} {params : Arguments} {body : List Stmt} {scope : Scope} {f : Addr} {fd : FuncData} {ps : List Str} {k : Nat} {sp : Sp} (c : Cls K C) (m : Meth K C n f) (F : FunD K n qual params body scope [] [] f fd) (G : FnOk P w K mg base L2.CX0 k f fd ps sp)
    (h : ∀ (kV doc pm : Value) (an : Option Addr) (cdv ct : Value) (us : List Value), us.length = ps.length → bindArgs (PySem.W.fnOf n qual params body scope .none kV doc pm an cdv ct) ⟨us, []⟩ = pure (ps.zip us)) : C8.Met P w K mg base k C n sp [] :=
  ⟨f, fd, ps, [], c, m, G, F.bindsN h, .nil⟩
theorem metD_of {C : Addr} {n qual : Str} {params : Arguments} {body : List Stmt} {scope : Scope} {dvs : List V} {f : Addr} {fd : FuncData} {ps : List Str} {k : Nat} {sp : Sp} (c : Cls K C) (m : Meth K C n f) (F : FunD K n qual params body scope dvs [] f fd) (G : FnOk P w K mg base L2.CX0 k f fd ps sp) (hd : dvs ≠ []) (hn : dvs.length ≤ ps.length)
    (h : ∀ (T : Addr) (kV doc pm : Value) (an : Option Addr) (cdv ct : Value) (us its : List Value), us.length = ps.length - dvs.length → its.length = dvs.length →
      ∃ k, bindArgs (PySem.W.fnOf n qual params body scope (.ref T) kV doc pm an cdv ct) ⟨us, []⟩ = seqItems? (.ref T) >>= k ∧ k (some its.toArray) = pure (ps.zip (us ++ its.drop 0))) : C8.Met P w K mg base k C n sp dvs := by
  obtain ⟨ds, h1, h2⟩ := F.binds1 (ps := ps) (ps.length - dvs.length) 0 hd (by omega) h
  exact ⟨f, fd, ps, ds, c, m, G, h2, by simpa using h1⟩
end
section
variable {X : Cx} {k j n : Nat} {C : Addr} {x : Str} {sp : Sp} {p pos : Pos} {e : Expr} {es : List Expr} {kws : List Keyword} {ks : List Str} {t tk : TA} {gV : List V → List V → List V}
theorem pe_mk0 {dvs : List V} (c : C8.Mak X.prog X.w X.K X.mg X.base k x C sp dvs) (hr : Room j X.A) (hk : k + 1 ≤ j) (hg : Gl X x) (hdb : (x == ("__debug__" : Str)) = false := by decide) : PE X (.Call (.Name x p) [] [] pos) (tMake C sp dvs L2.E0 tNil) := by
  obtain ⟨f, fd, ps, ds, M, F, hm, b, d⟩ := c.ex
  exact pe_make0 M F (hr.mono hk) hg hm b d L2.pass0 hdb
theorem pe_mkK0 (c : MakK X.prog X.w X.K X.mg X.base k x C sp 0 ks gV) (hr : Room j X.A) (hk : k + 1 ≤ j) (hg : Gl X x) (hkw : PK X kws tk)
    (hall : (backToKw pos (keywordEach kws X.env)).all (·.1.isSome) = true := by rfl) (hks : (backToKw pos (keywordEach kws X.env)).filterMap (·.1) = ks := by rfl) (hdb : (x == ("__debug__" : Str)) = false := by decide)
    (hpl : ((backTo pos (starEach [] X.env)).any (·.1) || (backToKw pos (keywordEach kws X.env)).any (·.1.isNone)) = false := by rfl) :
    PE X (.Call (.Name x p) [] kws pos) (tMakeK C 0 ks.length sp gV L2.E0 tNil tk) := by
  obtain ⟨f, fd, ps, g, M, F, hm, b⟩ := c.ex
  exact pe_makeK0 M F (hr.mono hk) hg hm b L2.pass0 hkw hall hks hdb hpl
end
/-! ### new objects -/
theorem same_own {H : Hp} {x dx C : Addr} {fs : List (Str × V)} (hx : H x = none) (hd : H dx = none) : Same H (upd (upd H dx (.own x)) x (.ins C dx fs)) := fun b o e => by
  rw [upd_ne (ne_of_none e hx), upd_ne (ne_of_none e hd)]
  exact e
theorem Same.upd_of {H H' : Hp} {a : Addr} {o : HO} (s : Same H H') (h : H a = none) : Same H (upd H' a o) := fun b u e => by
  rw [upd_ne (ne_of_none e h)]
  exact s b u e
/-! ### texts that can be laid -/
theorem ok_iff {z : Str} : PyData.strOk z = true ↔ ∀ c ∈ TL.tl z, c < 0x110000 := by
  unfold PyData.strOk TL.tl
  rw [Array.all_eq_true']
  constructor
  · intro h c hc
    simpa using h c (by simpa using hc)
  · intro h c hc
    simpa using h c (by simpa using hc)
theorem ok_cat {a b : Str} (ha : PyData.strOk a = true) (hb : PyData.strOk b = true) : PyData.strOk (a ++ b) = true := by
  rw [ok_iff] at *
  intro c hc
  rw [TL.tl_append, List.mem_append] at hc
  exact hc.elim (ha c) (hb c)
theorem joinL_mem {s : List Nat} {c : Nat} : ∀ l : List (List Nat), c ∈ TL.joinL s l → c ∈ s ∨ ∃ p ∈ l, c ∈ p
  | [], h => by simp [TL.joinL] at h
  | [p], h => .inr ⟨p, List.mem_singleton.mpr rfl, by simpa [TL.joinL] using h⟩
  | p :: q :: r, h => by
    have h2 : c ∈ p ++ (s ++ TL.joinL s (q :: r)) := h
    rw [List.mem_append, List.mem_append] at h2
    rcases h2 with h2 | h2 | h2
    · exact .inr ⟨p, List.mem_cons_self .., h2⟩
    · exact .inl h2
    · rcases joinL_mem (q :: r) h2 with h3 | ⟨x, h3, h4⟩
      · exact .inl h3
      · exact .inr ⟨x, List.mem_cons_of_mem _ h3, h4⟩
theorem ok_join {y : Str} {l : List Str} (hy : PyData.strOk y = true) (hl : ∀ z ∈ l, PyData.strOk z = true) : PyData.strOk (Txt.join y l) = true := by
  rw [TL.join_eq, ok_iff]
  intro c hc
  rw [TL.tl_join] at hc
  rcases joinL_mem _ hc with h | ⟨p, hp, h⟩
  · exact ok_iff.mp hy c h
  · obtain ⟨z, hz, rfl⟩ := List.mem_map.mp hp
    exact ok_iff.mp (hl z hz) c h
def numS (i : Int) : Str := Str.ofString (toString i)
theorem numS_tl {i : Int} (h : 0 ≤ i) : TL.tl (numS i) = TL.numL i.toNat := by
  have e : i = ((i.toNat : Nat) : Int) := (Int.toNat_of_nonneg h).symm
  rw [e]
  exact TL.tl_num _
theorem ok_num {i : Int} (h : 0 ≤ i) : PyData.strOk (numS i) = true := by
  rw [ok_iff, numS_tl h]
  intro c hc
  exact Nat.lt_of_not_le fun q => TL.numL_free (n := i.toNat) (s := c) (.inr (by omega)) hc
theorem numS_len {i : Int} (h : i.natAbs < 1000000000) : (numS i).length ≤ 10 := by
  have e := int_text_length_le10 (a := i) (k := 9) (by decide) (by omega)
  show (Str.ofString (toString i)).length ≤ 10
  rw [PySem.ofString_length]
  omega
theorem numS_log {i : Int} (h : i.natAbs < 1000000000) : i.natAbs.log2 < 1920 := log_small (Nat.lt_of_lt_of_le h (by decide))
theorem szl {z : Str} (h : z.length ≤ 100000) : z.length ≤ sizeLine := Nat.le_trans h (by decide)
theorem ne_ins {H : Hp} {a b C C' dx dx' : Addr} {fs fs' : List (Str × V)} (h : H a = some (.ins C dx fs)) (h' : H b = some (.ins C' dx' fs')) (n : fs.length ≠ fs'.length) : a ≠ b :=
  ne_of h h' fun e => by
    injection e with _ _ e2
    exact n (congrArg List.length e2)
/-- only what stands at A has changed -/
def Fr (A : List Addr) (H H' : Hp) : Prop := ∀ b o, H b = some o → b ∉ A → H' b = some o
theorem Fr.of_same {A : List Addr} {H H' : Hp} (s : Same H H') : Fr A H H' := fun b o e _ => s b o e
theorem Fr.refl (A : List Addr) (H : Hp) : Fr A H H := fun _ _ e _ => e
theorem Fr.trans {A : List Addr} {H H1 H2 : Hp} (s : Fr A H H1) (t : Fr A H1 H2) : Fr A H H2 := fun b o e n => t b o (s b o e n) n
theorem Fr.trans_new {A A' : List Addr} {H H1 H2 : Hp} (s : Fr A H H1) (t : Fr A' H1 H2) (n : ∀ b ∈ A', b ∈ A ∨ H b = none) : Fr A H H2 := fun b o e hn => t b o (s b o e hn) fun m => (n b m).elim hn fun z => by rw [e] at z; cases z
end TK
set_option maxHeartbeats 1000000
namespace TK
open PySem PySem.Spec PyProof.Rows L2 SX
def rRpart : V → List V → Hp → VK → Prop := fun x xs H Q => ∃ z y, x = .str z ∧ xs = [.str y] ∧ (y.length == 0) = false ∧ z.length ≤ sizeLine ∧ ∀ p, H p = none → Q (.ref p) (upd H p (.tup [.str (Txt.rpartition z y).1, .str (Txt.rpartition z y).2.1, .str (Txt.rpartition z y).2.2]))
section
variable {X : Cx} {e o : Expr} {te to : TE}
theorem mt_rpart : MtR X "str.rpartition" rRpart := by
  intro pins s σ H x xs v us Q I rx rs ⟨z, y, ex, exs, hy, hz, h⟩
  subst ex exs
  obtain ⟨tz, rfl⟩ := rx
  match us, rs with
  | [w], .cons r1 .nil =>
    obtain ⟨ty, rfl⟩ := r1
    refine call_meets PySem.F.slot_str_rpartition (typeIs_str _ _ _) PySem.F.entry_str_rpartition (PySem.F.args_str_rpartition_2 _ _) (meets_str_rpartition z y tz ty hy hz) ?_
    have h2 := h
    unfold Txt.rpartition at h2
    revert h2
    cases Builtin.Str.lastOccurrence z y 0 z.length with
    | none => exact fun h2 => laid_parts I h2
    | some i => exact fun h2 => laid_parts I h2
theorem pe_rpartition {apos pos : Pos} (ho : PE X o to) (he : PE X e te) (hs : starEach [e] X.env = [(false, eval e X.env)] := by rfl) (hb : attributeBase o "rpartition" X.env (eval o X.env) = eval o X.env := by rfl) (hl : (apos.endLine == pos.line) = true := by rfl) :
    PE X (.Call (.Attribute o "rpartition" apos) [e] [] pos) (tM1 rRpart to te) := pe_m1 PySem.F.slot_str_rpartition PySem.F.type_str_rpartition mt_rpart ho he hs hb hl
end
/-- what a new object at t, then one at l leaves -/
theorem new2 {H : Hp} {t l : Addr} {o u : HO} (ht : H t = none) (hl : upd H t o l = none) : t ≠ l ∧ H l = none ∧ Same H (upd (upd H t o) l u) ∧ (upd (upd H t o) l u) t = some o ∧ (upd (upd H t o) l u) l = some u := by
  have n : t ≠ l := fun e => by rw [← e, upd_same] at hl; cases hl
  exact ⟨n, by rw [upd_ne n.symm] at hl; exact hl, (same_upd ht).trans (same_upd hl), (upd_ne n).trans upd_same, upd_same⟩
theorem cutV_to (xs : List V) (k : Nat) : cutV xs none (some (k : Int)) = xs.take k := by
  unfold cutV
  have a : HT.sIx xs.length 0 none = 0 := by rfl
  have b : HT.sIx xs.length xs.length (some (k : Int)) = min k xs.length := by
    unfold HT.sIx
    simp
    try omega
  rw [a, b, List.drop_zero, Nat.sub_zero]
  by_cases h : k ≤ xs.length
  · rw [Nat.min_eq_left h]
  · rw [Nat.min_eq_right (by omega), List.take_length, List.take_of_length_le (by omega)]
theorem pi_listK {X : Cx} {tg l : Expr} {tl : TE} (K : PySem.W.Frag) (e : X.K = K) (hl : PE X l tl) : PI X tg l (iList K tl) := by
  subst e
  exact pi_list hl
end TK
set_option maxHeartbeats 1000000
namespace K9
open PySem PySem.Spec PyProof.Rows L2 SX TK
open C8 (pe_c)
def top (i : Nat) : Stmt := PySem.Challenge.pw_trunkland_k09_places.main.body.getD i (.Pass ⟨0, 0, 0, 0⟩)
abbrev s_Places___init : Stmt := inClass (top 1) 0
abbrev s_Places_sign : Stmt := inClass (top 1) 1
abbrev s_Places_of : Stmt := inClass (top 1) 2
abbrev s_Places_bindings : Stmt := inClass (top 1) 3
abbrev s_law_state : Stmt := top 3
abbrev s_law_draw : Stmt := top 4
abbrev s_law_pick : Stmt := top 5
abbrev s_law_find : Stmt := top 6
abbrev s_law_agrees : Stmt := top 7
abbrev s_law : Stmt := top 8
theorem sc_Places___init : FnScope ["self", "users", "stations", "longest"] ["self", "users", "stations", "longest"] (defScope s_Places___init) := ⟨rfl, rfl, rfl, by decide +kernel, rfl, by decide +kernel, by decide +kernel⟩
theorem sc_Places_sign : FnScope ["self", "user", "place", "seq", "stay", "now", "granted", "key"] ["self", "user", "place", "seq", "stay", "now"] (defScope s_Places_sign) := ⟨rfl, rfl, rfl, by decide +kernel, rfl, by decide +kernel, by decide +kernel⟩
theorem sc_Places_of : FnScope ["self", "user", "now", "place"] ["self", "user", "now"] (defScope s_Places_of) := ⟨rfl, rfl, rfl, by decide +kernel, rfl, by decide +kernel, by decide +kernel⟩
theorem sc_Places_bindings : FnScope ["self", "now", "user", "place"] ["self", "now"] (defScope s_Places_bindings) := ⟨rfl, rfl, rfl, by decide +kernel, rfl, by decide +kernel, by decide +kernel⟩
theorem sc_law_state : FnScope ["script", "seed", "cell"] ["script"] (defScope s_law_state) := ⟨rfl, rfl, rfl, by decide +kernel, rfl, by decide +kernel, by decide +kernel⟩
theorem sc_law_draw : FnScope ["state", "many", "cells", "value", "mixed"] ["state", "many"] (defScope s_law_draw) := ⟨rfl, rfl, rfl, by decide +kernel, rfl, by decide +kernel, by decide +kernel⟩
theorem sc_law_pick : FnScope ["state", "row"] ["state", "row"] (defScope s_law_pick) := ⟨rfl, rfl, rfl, by decide +kernel, rfl, by decide +kernel, by decide +kernel⟩
theorem sc_law_find : FnScope ["rows", "user", "place", "row"] ["rows", "user", "place"] (defScope s_law_find) := ⟨rfl, rfl, rfl, by decide +kernel, rfl, by decide +kernel, by decide +kernel⟩
theorem sc_law_agrees : FnScope ["places", "rows", "users", "stations", "now", "due", "user", "mine", "place", "row", "told"] ["places", "rows", "users", "stations", "now"] (defScope s_law_agrees) := ⟨rfl, rfl, rfl, by decide +kernel, rfl, by decide +kernel, by decide +kernel⟩
theorem sc_law : FnScope ["script", "state", "users", "stations", "longest", "given", "places", "rows", "now", "cell", "user", "place", "seq", "stay", "told", "due", "row", "later"] ["script"] (defScope s_law) := ⟨rfl, rfl, rfl, by decide +kernel, rfl, by decide +kernel, by decide +kernel⟩
structure Tx (K : PySem.W.Frag) (mg : Str → Option Value) : Prop where
  f_abs : mg "abs" = none
  f_bool : mg "bool" = none
  f_int : mg "int" = none
  f_isinstance : mg "isinstance" = none
  f_len : mg "len" = none
  f_list : mg "list" = none
  f_min : mg "min" = none
  cl_Places : Cls K (He.ga K "Places")
  na_Places__users : NoAttr K (He.ga K "Places") "_users"
  na_Places__stations : NoAttr K (He.ga K "Places") "_stations"
  na_Places__longest : NoAttr K (He.ga K "Places") "_longest"
  na_Places__seqs : NoAttr K (He.ga K "Places") "_seqs"
  na_Places__ends : NoAttr K (He.ga K "Places") "_ends"
/-! ### the law's source of draws -/
def spState (K : PySem.W.Frag) : Sp := fun vs H Q _ => ∃ (a : Addr) (ns : List Int), vs = [.ref a] ∧ SqL K H a (ns.map V.int) ∧ ns.length ≤ 63 ∧ ∀ s c H', Same H H' → H s = none → H c = none → StAt H' s c → Q (.ref s) H'
theorem ok_law_state {P : Program} {w : World} {K : PySem.W.Frag} {mg : Str → Option Value} {base : Heap} {f : Addr} {fd : FuncData} (T : Tx K mg) 
    (F : FunD K "_law_state" "_law_state" (defArgs s_law_state) (defBody s_law_state) (defScope s_law_state) [] [] f fd) : FnOk P w K mg base CX0 1 f fd ["script"] (spState K) := by
  refine F.ok sc_law_state (fun vs H Q E h => ?_) (fun cdv A outer s H vs Q E hr h => ?_)
  · obtain ⟨a, ns, rfl, _⟩ := h
    rfl
  · obtain ⟨a, ns, rfl, hS, hn, k⟩ := h
    refine ⟨_, PSs.nox (pss_cons (ps_set (i := 1) sc_law_state.nd rfl (Or.inl rfl) pe_int) (pss_cons (ps_for PassesOwn.never rfl (pi_list (pv 0)) (pg_name (i := 2) sc_law_state.nd rfl (Or.inl rfl)) (pss_one (ps_set (i := 1) sc_law_state.nd rfl (Or.inl rfl) (pe_op op_mod (pe_callTy call_int1 rfl T.f_int (by decide +kernel) (pa_cons (pe_op op_add (pe_op op_mul (pv 1) pe_int) (pv 2)) pa_nil)) pe_int)))) (pss_one (ps_ret (pe_lst (pa_cons (pe_lc (own := [("cell", 2)]) (g := gName 2) rfl sc_law_state.nd (pi_list (pv 0)) (blkOk_by (own := [("cell", 2)]) (N := ["script", "seed", "cell"]) (sc := defScope s_law_state) (by decide +kernel)) (fun _ _ _ _ _ => pg_name (i := 2) sc_law_state.nd rfl (Or.inl rfl)) (fun _ _ _ _ _ => pts_nil) (fun _ _ _ _ _ => (pe_callB call_abs rfl T.f_abs (by decide +kernel) (pa_cons (pv 2) pa_nil)))) (pa_cons (pe_op op_add (pv 1) pe_int) pa_nil))))))), ?_⟩
    refine ⟨_, rfl, a, rfl, ⟨_, hS⟩, for_list (K := K) (a := a) (xs := ns.map V.int) (fun i σ H' => H' = H ∧ ∃ (n : Int) (v : Option V), σ = [some (.ref a), some (.int n), v]) ⟨rfl, 7, none, rfl⟩ (fun i σ H' _ q => q.1 ▸ hS) ?_ ?_⟩
    · rintro i y σ H' hi ⟨rfl, n, v, rfl⟩
      obtain ⟨z, rfl⟩ : ∃ z, y = V.int z := by
        obtain ⟨z, _, e⟩ := List.mem_map.mp (List.mem_of_getElem? hi)
        exact ⟨z, e.symm⟩
      refine ⟨_, rfl, _, _, rfl, rfl, .inr ⟨by decide, by decide⟩, _, rfl, _, _, rfl, rfl, .inl ⟨_, rfl, _, _, rfl, rfl, (by show (0 : Int) < 1000003; decide), rfl, _, _, rfl⟩⟩
    · rintro σ H' ⟨rfl, n, v, rfl⟩
      refine ⟨_, rfl, a, rfl, ⟨_, hS⟩, fun D hD => ?_⟩
      have hS2 : ∀ o, SqL K (upd H' D o) a (ns.map V.int) := fun o => (same_upd hD).seq hS
      refine lc_pureN walk_list (fun i => V.int (if ns.getD i 0 < 0 then -(ns.getD i 0) else ns.getD i 0)) (by rw [List.length_map]; exact Nat.le_trans hn (by decide)) (fun _ _ => hS2 _) (fun i x H1 kk hi y q => ?_) ?_
      · obtain ⟨rfl, hx⟩ := y
        refine ⟨rfl, _, rfl, ns.getD i 0, ?_, q⟩
        rw [List.getElem?_map] at hx
        rw [List.length_map] at hi
        rw [List.getElem?_eq_getElem hi] at hx
        rw [List.getD_eq_getElem?_getD, List.getElem?_eq_getElem hi]
        exact congrArg (fun v => [v]) (Option.some.inj hx).symm
      · refine ⟨_, rfl, _, _, rfl, rfl, by show 2 ≤ sizeLine; decide, fun p hp => ?_⟩
        have npD : p ≠ D := fun e => by
          rw [e, upd_same] at hp
          cases hp
        have hp0 : H' p = none := by
          rw [upd_ne npD] at hp
          exact hp
        refine k p D _ ((same_upd hD).trans (same_upd hp)) hp0 hD ⟨npD, ⟨_, upd_same⟩, ns.map (fun i => if i < 0 then -i else i), ?_, ?_⟩
        · rw [upd_ne npD.symm, upd_same, List.length_map, List.map_map]
          exact congrArg (fun l => some (HO.lst l)) (range_map_getD ns 0 fun i => V.int (if i < 0 then -i else i))
        · rw [List.length_map]
          exact hn
def spDraw : Sp := fun vs H Q _ => ∃ (s c : Addr) (m : Int), vs = [.ref s, .int m] ∧ StAt H s c ∧ 0 < m ∧ m < 1073741824 ∧ ∀ r H', 0 ≤ r → r < m → StAt H' s c → Keep H H' s c → Q (.int r) H'
theorem ok_law_draw {P : Program} {w : World} {K : PySem.W.Frag} {mg : Str → Option Value} {base : Heap} {f : Addr} {fd : FuncData} (T : Tx K mg) 
    (F : FunD K "_law_draw" "_law_draw" (defArgs s_law_draw) (defBody s_law_draw) (defScope s_law_draw) [] [] f fd) : FnOk P w K mg base CX0 1 f fd ["state", "many"] spDraw := by
  refine F.ok sc_law_draw (fun vs H Q E h => ?_) (fun cdv A outer s0 H vs Q E hr h => ?_)
  · obtain ⟨s, c, m, rfl, _⟩ := h
    rfl
  · obtain ⟨s, c, m, rfl, ⟨ne, ⟨n, h1⟩, ns, h2, h3⟩, hm0, hm1, k⟩ := h
    refine ⟨_, PSs.nox (pss_cons (ps_set (i := 2) sc_law_draw.nd rfl (Or.inl rfl) (pe_ix ix_list (pv 0) pe_int (fun _ _ => rfl))) (C8.pss_cut (ps_while PassesOwn.never (PW.pt (pw_and (pt_cmpR op_gt (pe_callB call_len_seq rfl T.f_len PySem.boot_len (pa_cons (pv 2) pa_nil)) pe_int (nomark _)) (pw_and1 (pt_cmpR op_eq (pe_ix ix_list (pv 2) pe_int (fun _ _ => rfl)) pe_int (nomark _))))) (pss_one (ps_expr (pe_bm PySem.F.plainAttrs_list PySem.F.slot_list_pop PySem.F.type_list_pop mt_popAt (pv 2) (pa_cons pe_int pa_nil))))) (C8.pss_cut (ps_if (pt_cmpR op_gt (pe_callB call_len_seq rfl T.f_len PySem.boot_len (pa_cons (pv 2) pa_nil)) pe_int (nomark _)) (pss_cons (ps_set (i := 3) sc_law_draw.nd rfl (Or.inl rfl) (pe_ix ix_list (pv 2) pe_int (fun _ _ => rfl))) (pss_cons (ps_asg (pe_op op_fdiv (pv 3) (pv 1)) (pg_sub (pv 2) pe_int set_list)) (pss_one (ps_ret (pe_op op_mod (pe_callTy call_int1 rfl T.f_int (by decide +kernel) (pa_cons (pv 3) pa_nil)) (pv 1)))))) pss_nil) (pss_cons (ps_set (i := 4) sc_law_draw.nd rfl (Or.inl rfl) (pe_op op_mod (pe_callTy call_int1 rfl T.f_int (by decide +kernel) (pa_cons (pe_op op_add (pe_op op_mul (pe_ix ix_list (pv 0) pe_int (fun _ _ => rfl)) pe_int) pe_int) pa_nil)) pe_int)) (pss_cons (ps_asg (pv 4) (pg_sub (pv 0) pe_int set_list)) (pss_one (ps_ret (pe_op op_mod (pe_callTy call_int1 rfl T.f_int (by decide +kernel) (pa_cons (pe_op op_fdiv (pv 4) pe_int) pa_nil)) (pv 1))))))))), ?_⟩
    refine ⟨_, rfl, s, _, 0, _, rfl, rfl, SqL.of h1, rfl, ?_⟩
    let I : L2.St → Hp → List Int → Prop := fun σ H' ns' => σ = [some (.ref s), some (.int m), some (.ref c), none, none] ∧ H' s = some (.lst [.ref c, .int n]) ∧ Keep H H' s c ∧ H' c = some (.lst (ns'.map V.int)) ∧ ns'.length ≤ 63
    refine ⟨fun σ H' => ∃ ns', I σ H' ns', ?_, ?_⟩
    · refine ⟨fun l σ H' => ∃ ns', l = ns'.length ∧ I σ H' ns', ⟨ns.length, ns, rfl, rfl, h1, Keep.refl _ _ _, h2, h3⟩, ?_⟩
      rintro l σ H' ⟨ns', rfl, rfl, g1, kp, g2, g3⟩
      refine ⟨_, rfl, c, _, rfl, .inl (SqL.of g2), _, _, rfl, rfl, _, rfl, ?_⟩
      cases ns' with
      | nil => exact iteF (iteF ⟨[], rfl, g1, kp, g2, g3⟩)
      | cons v r =>
        rw [List.length_map, decide_eq_true (by rw [List.length_cons]; omega)]
        refine iteT ?_
        refine ⟨_, rfl, c, _, 0, V.int v, rfl, rfl, SqL.of g2, atC _ _, rfl, _, rfl, ?_⟩
        refine ite2 (fun h5 => ?_) (fun h5 => ⟨v :: r, rfl, g1, kp, g2, g3⟩)
        refine ⟨fun σ' H2 => ∃ l, l < (v :: r).length ∧ ∃ ns', l = ns'.length ∧ I σ' H2 ns', fun _ _ q => q, ?_⟩
        refine ⟨_, rfl, .inl ⟨rfl, _, SqL.of g2⟩, c, _, 0, 0, V.int v, rfl, rfl, g2, by decide, by decide, sqC _ _, rfl, ?_⟩
        refine ⟨r.length, Nat.lt_succ_self _, r, rfl, rfl, ?_, fun b o e q1 q2 => ?_, upd_same, Nat.le_of_succ_le g3⟩
        · rw [upd_ne ne]
          exact g1
        · rw [upd_ne q2]
          exact kp b o e q1 q2
    · rintro σ H' ⟨ns', rfl, g1, kp, g2, g3⟩
      refine ⟨fun σ' H2 => σ' = [some (.ref s), some (.int m), some (.ref c), none, none] ∧ H2 = H', ?_, ?_⟩
      · refine ⟨_, rfl, c, _, rfl, .inl (SqL.of g2), _, _, rfl, rfl, _, rfl, ?_⟩
        cases ns' with
        | nil => exact iteF ⟨rfl, rfl⟩
        | cons v r =>
          rw [List.length_map, decide_eq_true (by rw [List.length_cons]; omega)]
          refine iteT ?_
          refine ⟨_, rfl, c, _, 0, V.int v, rfl, rfl, SqL.of g2, atC _ _, ?_⟩
          refine ⟨_, rfl, _, rfl, _, _, rfl, rfl, ⟨hm0, hm1⟩, _, rfl, c, _, 0, 0, rfl, rfl, g2, ixC _ _, ?_⟩
          refine ⟨_, rfl, .inl ⟨_, rfl, _, rfl, _, _, rfl, rfl, hm0, ?_⟩⟩
          refine k _ _ (Int.emod_nonneg _ (by omega)) (Int.emod_lt_of_pos _ hm0) ⟨ne, ⟨n, ?_⟩, (v / m) :: r, upd_same, g3⟩ (fun b o e q1 q2 => ?_)
          · rw [upd_ne ne]
            exact g1
          · rw [upd_ne q2]
            exact kp b o e q1 q2
      · rintro σ' H2 ⟨rfl, rfl⟩
        refine ⟨_, rfl, s, _, 1, _, rfl, rfl, SqL.of g1, rfl, _, _, rfl, rfl, .inr ⟨by decide, by decide⟩, _, _, rfl, rfl, .inl ⟨_, rfl, _, _, rfl, rfl, (by show (0 : Int) < 2147483647; decide), ?_⟩⟩
        refine ⟨_, rfl, _, rfl, s, _, 1, 1, rfl, rfl, g1, rfl, ?_⟩
        refine ⟨_, rfl, _, _, rfl, rfl, ⟨by decide, by decide⟩, .inl ⟨_, rfl, _, rfl, _, _, rfl, rfl, hm0, ?_⟩⟩
        refine k _ _ (Int.emod_nonneg _ (by omega)) (Int.emod_lt_of_pos _ hm0) ⟨ne, ⟨_, upd_same⟩, ns', ?_, g3⟩ (fun b o e q1 q2 => ?_)
        · rw [upd_ne ne.symm]
          exact g2
        · rw [upd_ne q1]
          exact kp b o e q1 q2
/-- of a text: one of its signs; of a list: one of its items -/
def spPick : Sp := fun vs H Q _ => ∃ (s c : Addr) (x : V), vs = [.ref s, x] ∧ StAt H s c ∧
  ((∃ z : Str, x = .str z ∧ 0 < z.length ∧ z.length ≤ 1000 ∧ ∀ ch H', ch ∈ TL.tl z → StAt H' s c → Keep H H' s c → Q (.str (S [ch])) H') ∨
   (∃ a xs, x = .ref a ∧ H a = some (.lst xs) ∧ a ≠ s ∧ a ≠ c ∧ 0 < xs.length ∧ xs.length ≤ 1000 ∧ ∀ v ∈ xs, ∀ H', StAt H' s c → Keep H H' s c → Q v H'))
theorem ok_law_pick {P : Program} {w : World} {K : PySem.W.Frag} {mg : Str → Option Value} {base : Heap} {f : Addr} {fd : FuncData} (T : Tx K mg) (c_law_draw : C8.Cal P w K mg base 1 "_law_draw" spDraw [])
    (F : FunD K "_law_pick" "_law_pick" (defArgs s_law_pick) (defBody s_law_pick) (defScope s_law_pick) [] [] f fd) : FnOk P w K mg base CX0 2 f fd ["state", "row"] spPick := by
  refine F.ok sc_law_pick (fun vs H Q E h => ?_) (fun cdv A outer s0 H vs Q E hr h => ?_)
  · obtain ⟨s, c, x, rfl, _⟩ := h
    rfl
  · obtain ⟨s, c, x, rfl, hst, h⟩ := h
    refine ⟨_, PSs.nox (pss_one (ps_ret (pe_ix ix_seq (pv 1) (pe_c c_law_draw hr (by decide) rfl (pa_cons (pv 0) (pa_cons (pe_callB call_len rfl T.f_len PySem.boot_len (pa_cons (pv 1) pa_nil)) pa_nil))) (fun _ _ => rfl)))), ?_⟩
    rcases h with ⟨z, rfl, z0, z1, k⟩ | ⟨a, xs, rfl, ha, as, ac, x0, x1, k⟩
    · have hz2 : z.length ≤ sizeLine := Nat.le_trans z1 (by decide)
      refine ⟨_, rfl, _, rfl, _, rfl, _, z.length, rfl, ⟨hz2, rfl⟩, s, c, _, rfl, hst, by omega, by omega, fun r H' r0 r1 st' kp' => ?_⟩
      have hl : r < ((TL.tl z).length : Nat) := by rw [← len_eq]; exact r1
      refine .inr (.inr ⟨z, r, _, rfl, rfl, hz2, atN 0 r0 hl, ?_⟩)
      refine k _ H' ?_ st' kp'
      have hl2 : r.toNat < (TL.tl z).length := by omega
      rw [List.getD_eq_getElem?_getD, List.getElem?_eq_getElem hl2]
      exact List.getElem_mem _
    · have hx2 : xs.length ≤ sizeLine := Nat.le_trans x1 (by decide)
      refine ⟨_, rfl, _, rfl, _, rfl, _, xs.length, rfl, .inl ⟨xs, SqL.of ha, rfl⟩, s, c, _, rfl, hst, by omega, by omega, fun r H' r0 r1 st' kp' => ?_⟩
      refine .inl ⟨a, xs, r, _, rfl, rfl, SqL.of (kp' a _ ha as ac), atN .non r0 r1, ?_⟩
      refine k _ ?_ H' st' kp'
      rw [List.getD_eq_getElem?_getD, List.getElem?_eq_getElem (by omega)]
      exact List.getElem_mem _

def minI (i j : Int) : Int := if j < i then j else i
abbrev Fn : Type := Str → Str → Int × Int
def ky (u t : Str) : List Key := [Sum.inr u, Sum.inr t]
def DictR (kS kE : List (List Key × V)) (f : Fn) : Prop := ∀ u t, (valV kS (ky u t)).getD (.int (-1)) = .int (f u t).1 ∧ (valV kE (ky u t)).getD (.int 0) = .int (f u t).2
structure Pl where
  U : List Str
  W : List Str
  lg : Int
  f : Fn
def pfl (ua ta : Addr) (lg : Int) (ds de : Addr) : List (Str × V) := [("_users", .ref ua), ("_stations", .ref ta), ("_longest", .int lg), ("_seqs", .ref ds), ("_ends", .ref de)]
instance {ua ta : Addr} {lg : Int} {ds de : Addr} : SmallF (pfl ua ta lg ds de) 5 := ⟨Nat.le_refl _⟩
structure PlAt (K : PySem.W.Frag) (H : Hp) (p ds de : Addr) (n : Nat) (P : Pl) : Prop where
  ob : ∃ dx ua ta kS kE, H p = some (.ins (He.ga K "Places") dx (pfl ua ta P.lg ds de)) ∧ H ua = some (.lst (P.U.map V.str)) ∧ H ta = some (.lst (P.W.map V.str)) ∧ H ds = some (.dT kS) ∧ H de = some (.dT kE) ∧ DictR kS kE P.f ∧ kS.length ≤ n ∧ kE.length ≤ n
  ne : ds ≠ de
  hU : P.U ≠ [] ∧ P.U.length ≤ 4
  hW : P.W ≠ [] ∧ P.W.length ≤ 4
  un : ∀ u t, u ∉ P.U → P.f u t = (-1, 0)
theorem PlAt.mono {K : PySem.W.Frag} {H H' : Hp} {p ds de : Addr} {n : Nat} {P : Pl} (h : PlAt K H p ds de n P) (s : ∀ x o, H x = some o → (∀ l, o ≠ .lst l) ∨ (∃ l : List Str, l ≠ [] ∧ o = .lst (l.map V.str)) → H' x = some o) : PlAt K H' p ds de n P := by
  obtain ⟨⟨dx, ua, ta, kS, kE, h1, h2, h3, h4, h5, h6⟩, ne, hU, hW, un⟩ := h
  exact ⟨⟨dx, ua, ta, kS, kE, s _ _ h1 (.inl fun l z => by cases z), s _ _ h2 (.inr ⟨_, hU.1, rfl⟩), s _ _ h3 (.inr ⟨_, hW.1, rfl⟩), s _ _ h4 (.inl fun l z => by cases z), s _ _ h5 (.inl fun l z => by cases z), h6⟩, ne, hU, hW, un⟩
theorem PlAt.same {K : PySem.W.Frag} {H H' : Hp} {p ds de : Addr} {n : Nat} {P : Pl} (h : PlAt K H p ds de n P) (s : Same H H') : PlAt K H' p ds de n P := h.mono fun x o e _ => s x o e
def spPInit (K : PySem.W.Frag) : Sp := fun vs H Q _ => ∃ (p dx a b : Addr) (U W : List Str) (lg : Int), vs = [.ref p, .ref a, .ref b, .int lg] ∧ H p = some (.ins (He.ga K "Places") dx []) ∧ H a = some (.lst (U.map V.str)) ∧ H b = some (.lst (W.map V.str)) ∧
  ∀ ua ta ds de H', H' p = some (.ins (He.ga K "Places") dx (pfl ua ta lg ds de)) → H' ua = some (.lst (U.map V.str)) → H' ta = some (.lst (W.map V.str)) → H' ds = some (.dT []) → H' de = some (.dT []) → ds ≠ de → H ua = none → H ta = none → (∀ c o, H c = some o → c ≠ p → H' c = some o) → Q .non H'
theorem ok_Places___init {P : Program} {w : World} {K : PySem.W.Frag} {mg : Str → Option Value} {base : Heap} {f : Addr} {fd : FuncData} (T : Tx K mg) 
    (F : FunD K "__init__" "Places.__init__" (defArgs s_Places___init) (defBody s_Places___init) (defScope s_Places___init) [] [] f fd) : FnOk P w K mg base CX0 1 f fd ["self", "users", "stations", "longest"] (spPInit K) := by
  refine F.ok sc_Places___init (fun vs H Q E h => ?_) (fun cdv A outer s H vs Q E hr h => ?_)
  · obtain ⟨p, dx, a, b, U, W, lg, rfl, _⟩ := h
    rfl
  · obtain ⟨p, dx, a, b, U, W, lg, rfl, hp, ha, hb, k⟩ := h
    refine ⟨_, PSs.nox (pss_cons (ps_fldC rfl T.cl_Places T.na_Places__users (pv 0) (pe_callTy call_list_of rfl T.f_list (by decide +kernel) (pa_cons (pv 1) pa_nil)) rfl) (pss_cons (ps_fldC rfl T.cl_Places T.na_Places__stations (pv 0) (pe_callTy call_list_of rfl T.f_list (by decide +kernel) (pa_cons (pv 2) pa_nil)) rfl) (pss_cons (ps_fldC rfl T.cl_Places T.na_Places__longest (pv 0) (pv 3) rfl) (pss_cons (ps_fldC rfl T.cl_Places T.na_Places__seqs (pv 0) pe_dnewT rfl) (pss_one (ps_fldC rfl T.cl_Places T.na_Places__ends (pv 0) pe_dnewT rfl)))))), ?_⟩
    have pa : a ≠ p := ne_of ha hp (by intro z; cases z)
    have pb : b ≠ p := ne_of hb hp (by intro z; cases z)
    refine ⟨_, rfl, a, _, rfl, .inl (SqL.of ha), fun ua hua => ?_⟩
    have pua : p ≠ ua := ne_of_none hp hua
    refine ⟨_, rfl, p, dx, _, rfl, (upd_ne pua).trans hp, sm, ?_⟩
    have aua : b ≠ ua := ne_of_none hb hua
    refine ⟨_, rfl, b, _, rfl, .inl (SqL.of ((upd_ne pb).trans ((upd_ne aua).trans hb))), fun ta hta => ?_⟩
    have pta : p ≠ ta := fun e => by rw [← e, upd_same] at hta; cases hta
    have uta : ua ≠ ta := fun e => by rw [← e, upd_ne pua.symm, upd_same] at hta; cases hta
    have hta0 : H ta = none := by rw [upd_ne pta.symm, upd_ne uta.symm] at hta; exact hta
    refine ⟨_, rfl, p, dx, _, rfl, (upd_ne pta).trans upd_same, sm, ?_⟩
    refine ⟨_, rfl, _, rfl, p, dx, _, rfl, upd_same, sm, ?_⟩
    rw [upd_upd]
    intro ds hds
    have pds : p ≠ ds := fun e => by rw [← e, upd_same] at hds; cases hds
    refine ⟨_, rfl, p, dx, _, rfl, (upd_ne pds).trans upd_same, sm, ?_⟩
    intro de hde
    have pde : p ≠ de := fun e => by rw [← e, upd_same] at hde; cases hde
    refine ⟨_, rfl, p, dx, _, rfl, (upd_ne pde).trans upd_same, sm, ?_⟩
    have uds : ua ≠ ds := fun e => by rw [← e] at hds; simp [upd, pua.symm, uta] at hds
    have tds : ta ≠ ds := fun e => by rw [← e] at hds; simp [upd, pta.symm] at hds
    have ude : ua ≠ de := fun e => by rw [← e] at hde; simp [upd, pua.symm, uta, uds] at hde
    have tde : ta ≠ de := fun e => by rw [← e] at hde; simp [upd, pta.symm, tds] at hde
    have dde : ds ≠ de := fun e => by rw [← e] at hde; simp [upd, pds.symm] at hde
    have hds0 : H ds = none := by simpa [upd, pds.symm, uds.symm, tds.symm] using hds
    have hde0 : H de = none := by simpa [upd, pde.symm, ude.symm, tde.symm, dde.symm] using hde
    refine k ua ta ds de _ upd_same ?_ ?_ ?_ ?_ dde hua hta0 fun c o e hc => ?_
    · simp [upd, pua.symm, uta, uds, ude]
    · simp [upd, pta.symm, tds, tde]
    · simp [upd, pds.symm, dde]
    · simp [upd, pde.symm]
    · have c1 := ne_of_none e hua
      have c2 := ne_of_none e hta0
      have c3 := ne_of_none e hds0
      have c4 := ne_of_none e hde0
      simp [upd, hc, c1, c2, c3, c4, e]
theorem val_ky_put (kvs : List (List Key × V)) (u t u' t' : Str) (v : V) : valV (putK kvs (ky u t) v) (ky u' t') = if u' = u ∧ t' = t then some v else valV kvs (ky u' t') := by
  rw [valV_put]
  by_cases h : u' = u ∧ t' = t
  · rw [if_pos h, if_pos (by rw [h.1, h.2])]
  · rw [if_neg h, if_neg fun e => h (by simpa [ky] using e)]
def sgn (f : Fn) (u t : Str) (sq e : Int) : Fn := fun u' t' => if u' = u ∧ t' = t then (sq, e) else f u' t'
theorem minI_le (i j : Int) : minI i j ≤ j := by
  unfold minI
  split <;> omega
theorem inV_strs (z : Str) : ∀ l : List Str, inV (.str z) (l.map V.str) = decide (z ∈ l)
  | [] => rfl
  | a :: r => by
    have ih := inV_strs z r
    unfold inV at *
    rw [List.map_cons, List.any_cons, ih]
    show ((a == z) || decide (z ∈ r)) = decide (z ∈ a :: r)
    by_cases h : a = z
    · rw [h, beq_self_eq_true, Bool.true_or, decide_eq_true (List.mem_cons_self ..)]
    · rw [show (a == z) = false from beq_eq_false_iff_ne.mpr h, Bool.false_or]
      exact decide_eq_decide.mpr ⟨fun m => List.mem_cons_of_mem _ m, fun m => (List.mem_cons.mp m).elim (fun e => absurd e.symm h) id⟩
theorem flat_strs : ∀ l : List Str, (l.map V.str).all flatV = true
  | [] => rfl
  | _ :: r => flat_strs r
def signP (P : Pl) (u t : Str) (sq e : Int) : Pl := ⟨P.U, P.W, P.lg, sgn P.f u t sq e⟩
def spSign (K : PySem.W.Frag) : Sp := fun vs H Q _ => ∃ (p ds de : Addr) (n : Nat) (P : Pl) (u t : Str) (sq st now : Int), vs = [.ref p, .str u, .str t, .int sq, .int st, .int now] ∧ PlAt K H p ds de n P ∧ n ≤ 1000 ∧
  ((¬ (u ∈ P.U ∧ t ∈ P.W) ∧ Q .non H) ∨ ((u ∈ P.U ∧ t ∈ P.W) ∧ ∀ H', PlAt K H' p ds de (n + 1) (if (P.f u t).1 < sq then signP P u t sq (now + minI st P.lg) else P) → (∀ x o, H x = some o → x ≠ ds → x ≠ de → H' x = some o) → Q (.int (minI st P.lg)) H'))
theorem ok_Places_sign {P : Program} {w : World} {K : PySem.W.Frag} {mg : Str → Option Value} {base : Heap} {f : Addr} {fd : FuncData} (T : Tx K mg) 
    (F : FunD K "sign" "Places.sign" (defArgs s_Places_sign) (defBody s_Places_sign) (defScope s_Places_sign) [] [] f fd) : FnOk P w K mg base CX0 1 f fd ["self", "user", "place", "seq", "stay", "now"] (spSign K) := by
  refine F.ok sc_Places_sign (fun vs H Q E h => ?_) (fun cdv A outer s H vs Q E hr h => ?_)
  · obtain ⟨p, ds, de, n, P, u, t, sq, st, now, rfl, _⟩ := h
    rfl
  · obtain ⟨p, ds, de, n, P, u, t, sq, st, now, rfl, hP, hn, h⟩ := h
    obtain ⟨⟨dx, ua, ta, kS, kE, h1, h2, h3, h4, h5, hR, l1, l2⟩, ne, hU, hW, un⟩ := id hP
    refine ⟨_, PSs.nox (C8.pss_cut (ps_if (PW.pt (pw_or (pt_cmpR op_notIn_seq (pv 1) (pe_fldC rfl T.cl_Places T.na_Places__users (pv 0) rfl) (by with_unfolding_all rfl)) (pw_or1 (pt_cmpR op_notIn_seq (pv 2) (pe_fldC rfl T.cl_Places T.na_Places__stations (pv 0) rfl) (by with_unfolding_all rfl))))) (pss_one (ps_ret pe_non)) pss_nil) (pss_cons (ps_set (i := 6) sc_Places_sign.nd rfl (Or.inl rfl) (pe_callB (call_min2 rfl) rfl T.f_min (by decide +kernel) (pa_cons (pv 4) (pa_cons (pe_fldC rfl T.cl_Places T.na_Places__longest (pv 0) rfl) pa_nil)))) (pss_cons (ps_set (i := 7) sc_Places_sign.nd rfl (Or.inl rfl) (pe_tup (pa_cons (pv 1) (pa_cons (pv 2) pa_nil)))) (C8.pss_cut (ps_if (pt_cmpR op_gt (pv 3) (pe_dget2 (hu_of hr) (pe_fldC rfl T.cl_Places T.na_Places__seqs (pv 0) rfl) (pv 7) (pe_un un_neg pe_int) ⟨rfl, by rfl, rfl, rfl⟩) (nomark _)) (pss_cons (ps_dput (hu_of hr) (pe_fldC rfl T.cl_Places T.na_Places__seqs (pv 0) rfl) (pv 7) (pv 3) rfl) (pss_one (ps_dput (hu_of hr) (pe_fldC rfl T.cl_Places T.na_Places__ends (pv 0) rfl) (pv 7) (pe_op op_add (pv 5) (pv 6)) rfl))) pss_nil) (pss_one (ps_ret (pv 6))))))), ?_⟩
    rcases h with ⟨hno, k⟩ | ⟨hyes, k⟩
    · refine ⟨fun _ _ => False, ?_, fun _ _ z => z.elim⟩
      refine ⟨_, rfl, _, rfl, p, dx, _, _, rfl, h1, rfl, ua, _, rfl, .inl (SqL.of h2), rfl, flat_strs _, _, rfl, ?_⟩
      show (if (!inV (.str u) (P.U.map V.str)) = true then _ else _)
      rw [inV_strs]
      by_cases hu : u ∈ P.U
      · rw [decide_eq_true hu]
        refine iteF ⟨_, rfl, _, rfl, p, dx, _, _, rfl, h1, rfl, ta, _, rfl, .inl (SqL.of h3), rfl, flat_strs _, _, rfl, ?_⟩
        show (if (!inV (.str t) (P.W.map V.str)) = true then _ else _)
        rw [inV_strs, decide_eq_false fun ht => hno ⟨hu, ht⟩]
        exact iteT k
      · rw [decide_eq_false hu]
        exact iteT (iteT k)
    · refine ⟨fun σ' H' => σ' = [some (.ref p), some (.str u), some (.str t), some (.int sq), some (.int st), some (.int now), none, none] ∧ H' = H, ?_, ?_⟩
      · refine ⟨_, rfl, _, rfl, p, dx, _, _, rfl, h1, rfl, ua, _, rfl, .inl (SqL.of h2), rfl, flat_strs _, _, rfl, ?_⟩
        show (if (!inV (.str u) (P.U.map V.str)) = true then _ else _)
        rw [inV_strs, decide_eq_true hyes.1]
        refine iteF ⟨_, rfl, _, rfl, p, dx, _, _, rfl, h1, rfl, ta, _, rfl, .inl (SqL.of h3), rfl, flat_strs _, _, rfl, ?_⟩
        show (if (!inV (.str t) (P.W.map V.str)) = true then _ else _)
        rw [inV_strs, decide_eq_true hyes.2]
        exact iteF ⟨rfl, rfl⟩
      rintro σ' H' ⟨rfl, rfl⟩
      refine ⟨_, rfl, _, rfl, p, dx, _, _, rfl, h1, rfl, _, _, rfl, ?_⟩
      refine ⟨_, rfl, _, rfl, by show 2 ≤ sizeLine; decide, fun kt hkt => ?_⟩
      have s1 := same_upd (o := .tup [.str u, .str t]) hkt
      have hkt1 : (upd H' kt (.tup [.str u, .str t])) kt = some (.tup ((ky u t).map kV)) := upd_same
      have P1 := hP.same s1
      generalize upd H' kt (.tup [.str u, .str t]) = H1 at s1 hkt1 P1 ⊢
      have g1 := s1 _ _ h1
      have g4 := s1 _ _ h4
      have g5 := s1 _ _ h5
      refine ⟨fun σ' H2 => σ' = [some (.ref p), some (.str u), some (.str t), some (.int sq), some (.int st), some (.int now), some (.int (minI st P.lg)), some (.ref kt)] ∧ PlAt K H2 p ds de (n + 1) (if (P.f u t).1 < sq then signP P u t sq (now + minI st P.lg) else P) ∧ (∀ x o, H' x = some o → x ≠ ds → x ≠ de → H2 x = some o), ?_, ?_⟩
      · refine ⟨_, rfl, _, rfl, p, dx, _, _, rfl, g1, rfl, ds, rfl, .inr ⟨kS, .inl g4⟩, _, rfl, _, rfl, _, DGet.t g4 hkt1, _, _, rfl, (hR u t).1, _, rfl, ?_⟩
        by_cases hlt : (P.f u t).1 < sq
        · rw [decide_eq_true hlt, if_pos hlt]
          have pds : p ≠ ds := ne_of g1 g4 (by intro z; cases z)
          have kds : kt ≠ ds := ne_of hkt1 g4 (by intro z; cases z)
          have pde : p ≠ de := ne_of g1 g5 (by intro z; cases z)
          refine iteT ⟨_, rfl, _, rfl, p, dx, _, _, rfl, g1, rfl, _, rfl, ds, _, rfl, DPut.t (k := ky u t) g4 hkt1 (Nat.lt_of_le_of_lt l1 (Nat.lt_of_le_of_lt hn (by decide))), ?_⟩
          refine ⟨_, rfl, _, rfl, _, _, rfl, rfl, _, rfl, p, dx, _, _, rfl, (upd_ne pds).trans g1, rfl, _, rfl, de, _, rfl, DPut.t (k := ky u t) ((upd_ne ne.symm).trans g5) ((upd_ne kds).trans hkt1) (Nat.lt_of_le_of_lt l2 (Nat.lt_of_le_of_lt hn (by decide))), ?_⟩
          have fr : ∀ x o, H' x = some o → x ≠ ds → x ≠ de → (upd (upd H1 ds (.dT (putK kS (ky u t) (.int sq)))) de (.dT (putK kE (ky u t) (.int (now + minI st P.lg))))) x = some o := fun x o e a b => (upd_ne b).trans ((upd_ne a).trans (s1 _ _ e))
          refine ⟨rfl, ⟨⟨dx, ua, ta, _, _, fr _ _ h1 pds pde, fr _ _ h2 (ne_of h2 h4 (by intro z; cases z)) (ne_of h2 h5 (by intro z; cases z)), fr _ _ h3 (ne_of h3 h4 (by intro z; cases z)) (ne_of h3 h5 (by intro z; cases z)), (upd_ne ne).trans upd_same, upd_same, fun u' t' => ?_, ?_, ?_⟩, ne, hU, hW, fun u' t' hu' => ?_⟩, fr⟩
          · rw [val_ky_put, val_ky_put]
            show _ = V.int (sgn P.f u t sq (now + minI st P.lg) u' t').1 ∧ _ = V.int (sgn P.f u t sq (now + minI st P.lg) u' t').2
            unfold sgn
            by_cases hk : u' = u ∧ t' = t
            · rw [if_pos hk, if_pos hk, if_pos hk]
              exact ⟨rfl, rfl⟩
            · rw [if_neg hk, if_neg hk, if_neg hk]
              exact hR u' t'
          · exact Nat.le_trans (DSub.putK_len _ _ _) (Nat.succ_le_succ l1)
          · exact Nat.le_trans (DSub.putK_len _ _ _) (Nat.succ_le_succ l2)
          · show sgn P.f u t sq (now + minI st P.lg) u' t' = _
            unfold sgn
            rw [if_neg fun z => hu' (by rw [z.1]; exact hyes.1)]
            exact un u' t' hu'
        · rw [decide_eq_false hlt, if_neg hlt]
          obtain ⟨ob, a2, a3, a4, a5⟩ := P1
          obtain ⟨b1, b2, b3, b4, b5, c1, c2, c3, c4, c5, c6, c7, c8⟩ := ob
          exact iteF ⟨rfl, ⟨⟨b1, b2, b3, b4, b5, c1, c2, c3, c4, c5, c6, Nat.le_succ_of_le c7, Nat.le_succ_of_le c8⟩, a2, a3, a4, a5⟩, fun x o e _ _ => s1 _ _ e⟩
      rintro σ' H2 ⟨rfl, P2, fr2⟩
      exact ⟨_, rfl, k H2 P2 fr2⟩
/-- the stations at which a user is -/
def ofL (P : Pl) (u : Str) (now : Int) : List Str := P.W.filter fun t => decide (now < (P.f u t).2)
def spOf (K : PySem.W.Frag) : Sp := fun vs H Q _ => ∃ (p ds de : Addr) (n : Nat) (P : Pl) (u : Str) (now : Int), vs = [.ref p, .str u, .int now] ∧ PlAt K H p ds de n P ∧ ∀ r H', Same H H' → H r = none → H' r = some (.lst ((ofL P u now).map V.str)) → Q (.ref r) H'
theorem ok_Places_of {P : Program} {w : World} {K : PySem.W.Frag} {mg : Str → Option Value} {base : Heap} {f : Addr} {fd : FuncData} (T : Tx K mg) 
    (F : FunD K "of" "Places.of" (defArgs s_Places_of) (defBody s_Places_of) (defScope s_Places_of) [] [] f fd) : FnOk P w K mg base CX0 1 f fd ["self", "user", "now"] (spOf K) := by
  refine F.ok sc_Places_of (fun vs H Q E h => ?_) (fun cdv A outer s H vs Q E hr h => ?_)
  · obtain ⟨p, ds, de, n, P, u, now, rfl, _⟩ := h
    rfl
  · obtain ⟨p, ds, de, n, P, u, now, rfl, hP, k⟩ := h
    obtain ⟨⟨dx, ua, ta, kS, kE, h1, h2, h3, h4, h5, hR, l1, l2⟩, ne, hU, hW, un⟩ := id hP
    refine ⟨_, PSs.nox (pss_one (ps_ret (pe_lc (own := [("place", 3)]) (g := gName 3) rfl sc_Places_of.nd (pi_list (pe_fldC rfl T.cl_Places T.na_Places__stations (pv 0) rfl)) (blkOk_by (own := [("place", 3)]) (N := ["self", "user", "now", "place"]) (sc := defScope s_Places_of) (by decide +kernel)) (fun _ _ _ _ _ => pg_name (i := 3) sc_Places_of.nd rfl (Or.inl rfl)) (fun _ _ _ _ _ => pts_one (pt_cmpR op_gt (pe_dget2 (hu_of hr) (pe_fldC rfl T.cl_Places T.na_Places__ends (pv 0) rfl) (pe_tup (pa_cons (pv 1) (pa_cons (pv 3) pa_nil))) pe_int ⟨rfl, by rfl, rfl, rfl⟩) (pv 2) (nomark _))) (fun _ _ _ _ _ => (pv 3))))), ?_⟩
    refine ⟨_, rfl, p, dx, _, _, rfl, h1, rfl, ta, rfl, ⟨_, SqL.of h3⟩, fun D hD => ?_⟩
    refine lc_it (walk_list (K := K) (a := ta) (xs := P.W.map V.str)) (fun i H1 => Same H H1 ∧ H1 D = some (.lst (((P.W.take i).filter fun t => decide (now < (P.f u t).2)).map V.str))) ⟨same_upd hD, upd_same⟩ (fun i H1 _ q => SqL.of (q.1 _ _ h3)) (fun i x H1 H2 hi q y => ?_) (fun H1 q => ?_)
    · obtain ⟨s1, e1⟩ := q
      obtain ⟨rfl, hx⟩ := y
      rw [List.length_map] at hi
      rw [List.getElem?_map, List.getElem?_eq_getElem hi] at hx
      obtain rfl := Option.some.inj hx
      have htk : P.W.take (i + 1) = P.W.take i ++ [P.W[i]] := by rw [List.take_add_one, List.getElem?_eq_getElem hi]; rfl
      refine ⟨rfl, _, rfl, p, dx, _, _, rfl, s1 _ _ h1, rfl, de, rfl, .inr ⟨kE, .inl (s1 _ _ h5)⟩, _, rfl, _, rfl, by show 2 ≤ sizeLine; decide, fun kt hkt => ?_⟩
      have s2 := same_upd (o := .tup [.str u, .str P.W[i]]) hkt
      have hkt1 : (upd H2 kt (.tup [.str u, .str P.W[i]])) kt = some (.tup ((ky u P.W[i]).map kV)) := upd_same
      have s12 := s1.trans s2
      have e2 := s2 _ _ e1
      generalize upd H2 kt (.tup [.str u, .str P.W[i]]) = H3 at s2 hkt1 s12 e2 ⊢
      refine ⟨_, DGet.t (s12 _ _ h5) hkt1, _, rfl, _, _, (hR u P.W[i]).2, rfl, _, rfl, ?_⟩
      have hDn : ∀ b o, H b = some o → b ≠ D := fun b o e => ne_of_none e hD
      cases hb : decide (now < (P.f u P.W[i]).2) with
      | true =>
        refine iteT ⟨_, rfl, _, e2, ?_, TK.Same.upd_of s12 hD, ?_⟩
        · rw [List.length_map]
          exact Nat.lt_of_le_of_lt (List.length_filter_le _ _) (Nat.lt_of_le_of_lt (List.length_take_le _ _) (Nat.lt_of_lt_of_le (show i < 5 by have := hW.2; omega) (by decide)))
        · rw [upd_same, htk, List.filter_append, List.map_append, List.filter_cons_of_pos (p := fun t => decide (now < (P.f u t).2)) hb]
          rfl
      | false =>
        refine iteF ⟨s12, ?_⟩
        rw [htk, List.filter_append, List.filter_cons_of_neg (p := fun t => decide (now < (P.f u t).2)) (by rw [hb]; exact Bool.false_ne_true), List.filter_nil, List.append_nil]
        exact e2
    · obtain ⟨s1, e1⟩ := q
      rw [List.length_map, List.take_length] at e1
      exact k D H1 s1 hD e1
end K9
set_option maxHeartbeats 1000000
namespace K9
open PySem PySem.Spec PyProof.Rows L2 SX TK
open C8 (pe_c)
theorem inner_it {J : It} {n : Nat} {G : Hp → Prop} {Y : Nat → Hp → V → Hp → Prop} (w : Walk J n G Y) (Pv : Nat → Hp → Prop) {Nx : Hp → Prop} {H0 : Hp} {body : V → Hp → (Hp → Prop) → Prop} (h0 : Pv 0 H0) (hG : ∀ i H, i ≤ n → Pv i H → G H)
    (hs : ∀ i x H H', i < n → Pv i H → Y i H x H' → body x H' (Pv (i + 1))) (hd : ∀ H, Pv n H → Nx H) :
    ∃ W1 : Nat → Nat → Hp → Prop, (∃ m, W1 0 m H0) ∧ ∀ j k H, W1 j k H → (J.stop j H ∧ Nx H) ∨ (J.go j H ∧ ∃ Nx1 : Hp → Prop, (∀ H', Nx1 H' → ∃ k', k' < k ∧ W1 (j + 1) k' H') ∧ ∀ x H', J.yld j H x H' → body x H' Nx1) := by
  refine ⟨fun j k H => k = n - j ∧ j ≤ n ∧ Pv j H, ⟨n, rfl, Nat.zero_le _, h0⟩, fun j k H ⟨e, hj, p⟩ => ?_⟩
  by_cases h : j < n
  · exact .inr ⟨w.goes j H h (hG j H hj p), Pv (j + 1), fun H' q => ⟨n - (j + 1), by omega, rfl, h, q⟩, fun x H' y => hs j x H H' h p (w.yields j H x H' h (hG j H hj p) y)⟩
  · have e2 : j = n := by omega
    subst e2
    exact .inl ⟨w.stops H (hG j H hj p), hd H p⟩
abbrev Bn : Type := Str × Str × Int
def tupV (b : Bn) : List V := [.str b.1, .str b.2.1, .int b.2.2]
def TupsAt (H : Hp) : List Addr → List Bn → Prop
  | [], [] => True
  | t :: ts, b :: bs => H t = some (.tup (tupV b)) ∧ TupsAt H ts bs
  | _, _ => False
theorem TupsAt.mono {H H' : Hp} (s : ∀ x b, H x = some (.tup (tupV b)) → H' x = some (.tup (tupV b))) : ∀ {ts : List Addr} {bs : List Bn}, TupsAt H ts bs → TupsAt H' ts bs
  | [], [], _ => trivial
  | t :: ts, b :: bs, h => ⟨s _ _ h.1, TupsAt.mono s h.2⟩
  | [], _ :: _, h => h
  | _ :: _, [], h => h
theorem TupsAt.snoc {H : Hp} {t : Addr} {b : Bn} (ht : H t = some (.tup (tupV b))) : ∀ {ts : List Addr} {bs : List Bn}, TupsAt H ts bs → TupsAt H (ts ++ [t]) (bs ++ [b])
  | [], [], _ => ⟨ht, trivial⟩
  | _ :: _, _ :: _, h => ⟨h.1, TupsAt.snoc ht h.2⟩
  | [], _ :: _, h => h.elim
  | _ :: _, [], h => h.elim
theorem TupsAt.len {H : Hp} : ∀ {ts : List Addr} {bs : List Bn}, TupsAt H ts bs → ts.length = bs.length
  | [], [], _ => rfl
  | _ :: _, _ :: _, h => congrArg Nat.succ (TupsAt.len h.2)
  | [], _ :: _, h => h.elim
  | _ :: _, [], h => h.elim
def BAt (H : Hp) (r : Addr) (bs : List Bn) : Prop := ∃ ts : List Addr, H r = some (.lst (ts.map V.ref)) ∧ TupsAt H ts bs
theorem BAt.same {H H' : Hp} {r : Addr} {bs : List Bn} (h : BAt H r bs) (s : Same H H') : BAt H' r bs := by
  obtain ⟨ts, e, t⟩ := h
  exact ⟨ts, s _ _ e, t.mono fun x b e => s _ _ e⟩
/-- an item more -/
theorem BAt.snoc {H : Hp} {r t : Addr} {bs : List Bn} {b : Bn} (h : BAt H r bs) (ht : H t = some (.tup (tupV b))) : ∃ ts : List Addr, H r = some (.lst (ts.map V.ref)) ∧ ts.length = bs.length ∧ BAt (upd H r (.lst (ts.map V.ref ++ [.ref t]))) r (bs ++ [b]) := by
  obtain ⟨ts, e, q⟩ := h
  refine ⟨ts, e, q.len, ts ++ [t], ?_, (q.mono fun x b e2 => ?_).snoc ?_⟩
  · rw [upd_same, List.map_append]
    rfl
  · exact (upd_ne (ne_of e2 e (by intro z; cases z))).trans e2
  · exact (upd_ne (ne_of ht e (by intro z; cases z))).trans ht
def bu (P : Pl) (now : Int) (u : Str) : List Bn := (ofL P u now).map fun t => (u, t, (P.f u t).2)
def BL (P : Pl) (now : Int) : List Bn := (P.U.map (bu P now)).flatten
theorem bu_len {P : Pl} {now : Int} {u : Str} (h : P.W.length ≤ 4) : (bu P now u).length ≤ 4 := by
  unfold bu ofL
  rw [List.length_map]
  exact Nat.le_trans (List.length_filter_le _ _) h
theorem flat_len {P : Pl} {now : Int} (h : P.W.length ≤ 4) : ∀ l : List Str, ((l.map (bu P now)).flatten).length ≤ 4 * l.length
  | [] => Nat.le_refl _
  | u :: r => by
    rw [List.map_cons, List.flatten_cons, List.length_append, List.length_cons]
    have := flat_len (P := P) (now := now) h r
    have := bu_len (P := P) (now := now) (u := u) h
    omega
def spBind (K : PySem.W.Frag) : Sp := fun vs H Q _ => ∃ (p ds de : Addr) (n : Nat) (P : Pl) (now : Int), vs = [.ref p, .int now] ∧ PlAt K H p ds de n P ∧ 0 ≤ now ∧ ∀ r H', Same H H' → BAt H' r (BL P now) → Q (.ref r) H'
theorem ok_Places_bindings {P : Program} {w : World} {K : PySem.W.Frag} {mg : Str → Option Value} {base : Heap} {f : Addr} {fd : FuncData} (T : Tx K mg) (c_Places_of : C8.Met P w K mg base 1 (He.ga K "Places") "of" (spOf K) [])
    (F : FunD K "bindings" "Places.bindings" (defArgs s_Places_bindings) (defBody s_Places_bindings) (defScope s_Places_bindings) [] [] f fd) : FnOk P w K mg base CX0 2 f fd ["self", "now"] (spBind K) := by
  refine F.ok sc_Places_bindings (fun vs H Q E h => ?_) (fun cdv A outer s H vs Q E hr h => ?_)
  · obtain ⟨p, ds, de, n, P, now, rfl, _⟩ := h
    rfl
  · obtain ⟨p, ds, de, n, P, now, rfl, hP, hnow, k⟩ := h
    obtain ⟨⟨dx, ua, ta, kS, kE, h1, h2, h3, h4, h5, hR, l1, l2⟩, ne, hU, hW, un⟩ := id hP
    refine ⟨_, PSs.nox (pss_one (ps_ret (pe_lc2 (own := [("user", 2), ("place", 3)]) (vs1 := [3]) (g := gName 2) (g1 := gName 3) rfl sc_Places_bindings.nd (pi_list (pe_fldC rfl T.cl_Places T.na_Places__users (pv 0) rfl)) (blkOk_by (own := [("user", 2), ("place", 3)]) (N := ["self", "now", "user", "place"]) (sc := defScope s_Places_bindings) (by decide +kernel)) (by decide) (fun _ _ _ _ _ => pg_name (i := 2) sc_Places_bindings.nd rfl (Or.inl rfl)) (fun _ _ _ _ _ => pts_nil) (fun _ _ _ _ _ => (TK.pi_listK K rfl (C8.pe_mt c_Places_of hr (by decide) (pv 0) (pa_cons (pv 2) (pa_cons (pv 1) pa_nil))))) (fun _ _ _ _ _ => pg_name (i := 3) sc_Places_bindings.nd rfl (Or.inl rfl)) (fun _ _ _ _ _ => pts_nil) (fun _ _ _ _ _ => (pe_tup (pa_cons (pv 2) (pa_cons (pv 3) (pa_cons (pe_dget (hu_of hr) (pe_fldC rfl T.cl_Places T.na_Places__ends (pv 0) rfl) (pe_tup (pa_cons (pv 2) (pa_cons (pv 3) pa_nil))) (fun _ _ => rfl)) pa_nil)))))))), ?_⟩
    refine ⟨_, rfl, p, dx, _, _, rfl, h1, rfl, ua, rfl, ⟨_, SqL.of h2⟩, fun D hD => ?_⟩
    refine inner_it (walk_list (K := K) (a := ua) (xs := P.U.map V.str)) (fun i H1 => Same H H1 ∧ BAt H1 D (((P.U.take i).map (bu P now)).flatten)) ⟨same_upd hD, [], upd_same, trivial⟩ (fun i H1 _ q => SqL.of (q.1 _ _ h2)) (fun i x H1 H2 hi q y => ?_) (fun H1 q => ?_)
    · obtain ⟨s1, e1⟩ := q
      obtain ⟨rfl, hx⟩ := y
      rw [List.length_map] at hi
      rw [List.getElem?_map, List.getElem?_eq_getElem hi] at hx
      obtain rfl := Option.some.inj hx
      have htk : P.U.take (i + 1) = P.U.take i ++ [P.U[i]] := by rw [List.take_add_one, List.getElem?_eq_getElem hi]; rfl
      have hflat : ((P.U.take (i + 1)).map (bu P now)).flatten = ((P.U.take i).map (bu P now)).flatten ++ bu P now P.U[i] := by
        rw [htk, List.map_append, List.flatten_append]
        show _ ++ (bu P now P.U[i] ++ []) = _
        rw [List.append_nil]
      have hfl := flat_len (P := P) (now := now) hW.2 (P.U.take i)
      have hil : (P.U.take i).length ≤ 4 := Nat.le_trans (List.length_take_le _ _) (by have := hU.2; omega)
      refine ⟨rfl, ?_⟩
      unfold tYes
      refine iteT ⟨_, rfl, p, dx, _, rfl, s1 _ _ h1, rfl, _, rfl, _, rfl, p, ds, de, n, P, P.U[i], now, rfl, hP.same s1, fun ol H3 s3 hol0 hol => ?_⟩
      have hne : ol ≠ D := fun e => by
        obtain ⟨ts, e2, _⟩ := e1
        rw [e, e2] at hol0
        cases hol0
      refine ⟨ol, rfl, ⟨_, SqL.of hol⟩, ?_⟩
      refine inner_it (walk_list (K := K) (a := ol) (xs := (ofL P P.U[i] now).map V.str)) (fun j H4 => Same H H4 ∧ H4 ol = some (.lst ((ofL P P.U[i] now).map V.str)) ∧ BAt H4 D (((P.U.take i).map (bu P now)).flatten ++ (bu P now P.U[i]).take j)) ⟨s1.trans s3, hol, by rw [List.take_zero, List.append_nil]; exact e1.same s3⟩ (fun j H4 _ q => SqL.of q.2.1) (fun j x H4 H5 hj q y => ?_) (fun H4 q => ?_)
      · obtain ⟨s4, hol4, e4⟩ := q
        obtain ⟨rfl, hx⟩ := y
        rw [List.length_map] at hj
        rw [List.getElem?_map, List.getElem?_eq_getElem hj] at hx
        obtain rfl := Option.some.inj hx
        have hin := List.getElem_mem hj
        have hend : now < (P.f P.U[i] (ofL P P.U[i] now)[j]).2 := of_decide_eq_true (List.mem_filter.mp hin).2
        have hjb : j < (bu P now P.U[i]).length := by unfold bu; rw [List.length_map]; exact hj
        have hbt : (bu P now P.U[i]).take (j + 1) = (bu P now P.U[i]).take j ++ [(P.U[i], (ofL P P.U[i] now)[j], (P.f P.U[i] (ofL P P.U[i] now)[j]).2)] := by
          have hbj : (bu P now P.U[i])[j]? = some (P.U[i], (ofL P P.U[i] now)[j], (P.f P.U[i] (ofL P P.U[i] now)[j]).2) := by
            show ((ofL P P.U[i] now).map fun t => (P.U[i], t, (P.f P.U[i] t).2))[j]? = _
            rw [List.getElem?_map, List.getElem?_eq_getElem hj]
            rfl
          rw [List.take_add_one, hbj]
          rfl
        have hbl := bu_len (P := P) (now := now) (u := P.U[i]) hW.2
        generalize (ofL P P.U[i] now)[j] = t at hin hend hbt ⊢
        refine ⟨rfl, ?_⟩
        show (if true = true then _ else _)
        refine iteT ⟨_, rfl, _, rfl, _, rfl, p, dx, _, _, rfl, s4 _ _ h1, rfl, _, rfl, _, rfl, by show 2 ≤ sizeLine; decide, fun kt hkt => ?_⟩
        have s5 := same_upd (o := .tup [.str P.U[i], .str t]) hkt
        have hkt1 : (upd H5 kt (.tup [.str P.U[i], .str t])) kt = some (.tup ((ky P.U[i] t).map kV)) := upd_same
        have s45 := s4.trans s5
        have hol5 := s5 _ _ hol4
        have e5 := e4.same s5
        generalize upd H5 kt (.tup [.str P.U[i], .str t]) = H6 at s5 hkt1 s45 hol5 e5 ⊢
        have hv : valV kE (ky P.U[i] t) = some (.int (P.f P.U[i] t).2) := by
          have q := (hR P.U[i] t).2
          cases e : valV kE (ky P.U[i] t) with
          | none =>
            rw [e] at q
            have z : (0 : Int) = (P.f P.U[i] t).2 := V.int.inj q
            omega
          | some w =>
            rw [e] at q
            exact congrArg some q
        refine ⟨de, _, rfl, by rw [← hv]; exact DGet.t (s45 _ _ h5) hkt1, by show 3 ≤ sizeLine; decide, fun tt htt => ?_⟩
        have s6 := same_upd (o := .tup [.str P.U[i], .str t, .int (P.f P.U[i] t).2]) htt
        obtain ⟨ts, a1, a2, a3⟩ := (e5.same s6).snoc (b := (P.U[i], t, (P.f P.U[i] t).2)) upd_same
        refine ⟨_, a1, ?_, TK.Same.upd_of (s45.trans s6) hD, (upd_ne hne).trans (s6 _ _ hol5), ?_⟩
        · rw [List.length_map, a2, List.length_append, List.length_take]
          exact Nat.lt_of_lt_of_le (show _ < 100 by omega) (by decide)
        · rw [hbt, ← List.append_assoc]
          exact a3
      · obtain ⟨s4, hol4, e4⟩ := q
        refine ⟨s4, ?_⟩
        rw [List.length_map] at e4
        have e5 : (bu P now P.U[i]).take (ofL P P.U[i] now).length = bu P now P.U[i] := List.take_of_length_le (by unfold bu; rw [List.length_map]; exact Nat.le_refl _)
        rw [e5] at e4
        rw [hflat]
        exact e4
    · obtain ⟨s1, e1⟩ := q
      rw [List.length_map, List.take_length] at e1
      exact k D H1 s1 e1
end K9
set_option maxHeartbeats 1000000
namespace K9
open PySem PySem.Spec PyProof.Rows L2 SX TK
open C8 (pe_c)
def rowV (f : Fn) (u t : Str) : List V := [.str u, .str t, .int (f u t).1, .int (f u t).2]
abbrev Rw : Type := Addr × Str × Str
structure LR (H : Hp) (rw : Addr) (R : List Rw) (f : Fn) : Prop where
  ro : H rw = some (.lst (R.map fun r => V.ref r.1))
  at_ : ∀ r ∈ R, H r.1 = some (.lst (rowV f r.2.1 r.2.2))
  nd : (R.map (·.2)).Nodup
  no : ∀ u t, (u, t) ∉ R.map (·.2) → f u t = (-1, 0)
theorem LR.same {H H' : Hp} {rw : Addr} {R : List Rw} {f : Fn} (h : LR H rw R f) (s : Same H H') : LR H' rw R f := ⟨s _ _ h.ro, fun r m => s _ _ (h.at_ r m), h.nd, h.no⟩
theorem refs_ne {R : List Rw} {l : List V} (h : ∀ a, l.head? ≠ some (.ref a)) (hl : l ≠ []) : HO.lst l ≠ .lst (R.map fun r => V.ref r.1) := by
  intro e
  injection e with e
  cases R with
  | nil => exact hl e
  | cons r q => exact h r.1 (by rw [e]; rfl)
theorem row_rw {H : Hp} {rw : Addr} {R : List Rw} {f : Fn} (h : LR H rw R f) {x : Addr} {u t : Str} {a b : Int} (e : H x = some (.lst [.str u, .str t, .int a, .int b])) : x ≠ rw := ne_of e h.ro (refs_ne (fun a z => by cases z) (by intro z; cases z))
def spFind : Sp := fun vs H Q _ => ∃ (rw : Addr) (R : List Rw) (f : Fn) (u t : Str), vs = [.ref rw, .str u, .str t] ∧ LR H rw R f ∧ R.length ≤ 10000 ∧
  ∀ b R' H', LR H' rw R' f → (b, u, t) ∈ R' → R'.length ≤ R.length + 1 → (∀ x o, H x = some o → x ≠ rw → H' x = some o) → Q (.ref b) H'
theorem vstr (a b : Str) : decide (V.str a = V.str b) = decide (a = b) := by
  by_cases h : a = b
  · rw [h, decide_eq_true rfl, decide_eq_true rfl]
  · rw [decide_eq_false h, decide_eq_false fun e => h (V.str.inj e)]
theorem ok_law_find {P : Program} {w : World} {K : PySem.W.Frag} {mg : Str → Option Value} {base : Heap} {f : Addr} {fd : FuncData} (T : Tx K mg) 
    (F : FunD K "_law_find" "_law_find" (defArgs s_law_find) (defBody s_law_find) (defScope s_law_find) [] [] f fd) : FnOk P w K mg base CX0 1 f fd ["rows", "user", "place"] spFind := by
  refine F.ok sc_law_find (fun vs H Q E h => ?_) (fun cdv A outer s H vs Q E hr h => ?_)
  · obtain ⟨rw, R, f, u, t, rfl, _⟩ := h
    rfl
  · obtain ⟨rw, R, f, u, t, rfl, L, hn, k⟩ := h
    refine ⟨_, PSs.nox (pss_cons (ps_for PassesOwn.never rfl (pi_list (pv 0)) (pg_name (i := 3) sc_law_find.nd rfl (Or.inl rfl)) (pss_one (ps_if (PW.pt (pw_and (pt_cmpR op_eq (pe_ix ix_list (pv 3) pe_int (fun _ _ => rfl)) (pv 1) (nomark _)) (pw_and1 (pt_cmpR op_eq (pe_ix ix_list (pv 3) pe_int (fun _ _ => rfl)) (pv 2) (nomark _))))) (pss_one (ps_ret (pv 3))) pss_nil))) (pss_cons (ps_set (i := 3) sc_law_find.nd rfl (Or.inl rfl) (pe_lst (pa_cons (pv 1) (pa_cons (pv 2) (pa_cons (pe_un un_neg pe_int) (pa_cons pe_int pa_nil)))))) (pss_cons (ps_expr (pe_bm PySem.F.plainAttrs_list PySem.F.slot_list_append PySem.F.type_list_append mt_append (pv 0) (pa_cons (pv 3) pa_nil))) (pss_one (ps_ret (pv 3)))))), ?_⟩
    refine ⟨_, rfl, rw, rfl, ⟨_, SqL.of L.ro⟩, for_list (K := K) (a := rw) (xs := R.map fun r => V.ref r.1) (fun i σ H1 => H1 = H ∧ (∃ v : Option V, σ = [some (.ref rw), some (.str u), some (.str t), v]) ∧ ∀ j r, j < i → R[j]? = some r → r.2 ≠ (u, t)) ⟨rfl, ⟨none, rfl⟩, fun j r h => absurd h (Nat.not_lt_zero _)⟩ (fun i σ H1 _ q => q.1 ▸ SqL.of L.ro) ?_ ?_⟩
    · rintro i y σ H1 hi ⟨rfl, ⟨v, rfl⟩, hno⟩
      have hi2 : i < R.length := by
        have := (List.getElem?_eq_some_iff.mp hi).1
        rw [List.length_map] at this
        exact this
      rw [List.getElem?_map, List.getElem?_eq_getElem hi2] at hi
      obtain rfl := Option.some.inj hi
      have hm := List.getElem_mem hi2
      have hg : R[i]? = some R[i] := List.getElem?_eq_getElem hi2
      generalize R[i] = r at hm hg ⊢
      obtain ⟨b, u', t'⟩ := r
      have hb := L.at_ _ hm
      have next : (u', t') ≠ (u, t) → H1 = H1 ∧ (∃ v : Option V, [some (V.ref rw), some (.str u), some (.str t), some (.ref b)] = [some (.ref rw), some (.str u), some (.str t), v]) ∧ ∀ j r, j < i + 1 → R[j]? = some r → r.2 ≠ (u, t) := fun hne => ⟨rfl, ⟨_, rfl⟩, fun j r hj hr => by
        rcases Nat.lt_or_eq_of_le (Nat.le_of_lt_succ hj) with h | h
        · exact hno j r h hr
        · rw [h, hg] at hr
          cases hr
          exact hne⟩
      refine ⟨_, rfl, b, _, 0, _, rfl, rfl, SqL.of hb, rfl, _, rfl, rfl, _, rfl, ?_⟩
      rw [vstr]
      by_cases h1 : u' = u
      · rw [decide_eq_true h1]
        refine iteT ⟨_, rfl, b, _, 1, _, rfl, rfl, SqL.of hb, rfl, _, rfl, rfl, _, rfl, ?_⟩
        rw [vstr]
        by_cases h2 : t' = t
        · rw [decide_eq_true h2]
          subst h1 h2
          exact iteT ⟨_, rfl, k b R H1 L hm (Nat.le_succ _) fun x o e _ => e⟩
        · rw [decide_eq_false h2]
          exact iteF (next fun z => h2 (congrArg Prod.snd z))
      · rw [decide_eq_false h1]
        exact iteF (iteF (next fun z => h1 (congrArg Prod.fst z)))
    · rintro σ H1 ⟨rfl, ⟨v, rfl⟩, hno⟩
      have hk : (u, t) ∉ R.map (·.2) := fun m => by
        obtain ⟨r, hr, e⟩ := List.mem_map.mp m
        obtain ⟨j, hj, e2⟩ := List.mem_iff_getElem.mp hr
        exact hno j r (by rw [List.length_map]; exact hj) (by rw [List.getElem?_eq_getElem hj, e2]) e
      refine ⟨_, rfl, _, rfl, _, rfl, by show 4 ≤ sizeLine; decide, fun b hb => ?_⟩
      have sb := same_upd (o := .lst [.str u, .str t, .int (-1), .int 0]) hb
      have rb : rw ≠ b := ne_of_none L.ro hb
      refine ⟨_, rfl, .inl ⟨rfl, _, SqL.of ((upd_ne rb).trans L.ro)⟩, _, rfl, rw, _, _, rfl, rfl, (upd_ne rb).trans L.ro, by rw [List.length_map]; exact Nat.lt_of_le_of_lt hn (by decide), ?_⟩
      have ef := L.no u t hk
      have erow : rowV f u t = [.str u, .str t, .int (-1), .int 0] := by unfold rowV; rw [ef]
      refine ⟨_, rfl, k b (R ++ [(b, u, t)]) _ ⟨?_, fun r hr => ?_, ?_, fun u' t' h => L.no u' t' fun m => h (by rw [List.map_append]; exact List.mem_append_left _ m)⟩ (List.mem_append_right _ (List.mem_singleton.mpr rfl)) (by rw [List.length_append]; exact Nat.le_refl _) fun x o e hx => (upd_ne hx).trans (sb _ _ e)⟩
      · rw [List.map_append]
        exact upd_same
      · rcases List.mem_append.mp hr with h | h
        · exact (upd_ne (row_rw L (L.at_ r h))).trans (sb _ _ (L.at_ r h))
        · rw [List.mem_singleton.mp h]
          show (upd _ rw _) b = some (.lst (rowV f u t))
          rw [erow]
          exact (upd_ne rb.symm).trans upd_same
      · rw [List.map_append]
        refine List.nodup_append.mpr ⟨L.nd, List.nodup_cons.mpr ⟨fun z => (nomatch z), List.nodup_nil⟩, fun a ha c hc z => hk ?_⟩
        rw [List.mem_singleton.mp hc] at z
        have z2 : a = (u, t) := z
        rw [← z2]
        exact ha
theorem lay_strs : ∀ l : List Str, (∀ z ∈ l, PyData.strOk z = true) → PyData.canLayAll0 (l.map PyData.str) = true
  | [], _ => by simp [PyData.canLayAll0]
  | z :: l, h => by simp [PyData.canLayAll0, PyData.canLay0, h z (by simp), lay_strs l fun y hy => h y (List.mem_cons_of_mem _ hy)]
theorem depth_strs : ∀ l : List Str, PyData.depthAll (l.map PyData.str) ≤ 1
  | [] => by simp [PyData.depthAll]
  | z :: l => by
    have := depth_strs l
    simp [PyData.depthAll, PyData.depth]
    omega
def dataL (l : List Str) : PyData := .list (l.map PyData.str)
theorem dataL_ok {l : List Str} (h : ∀ z ∈ l, PyData.strOk z = true) : SeqAt.shaped (dataL l) = true ∧ PyData.eqv (dataL l) (dataL l) = true := by
  have c : (dataL l).canLay0 = true := by unfold dataL; simp [PyData.canLay0, lay_strs l h]
  have d := depth_strs l
  refine ⟨?_, SeqAt.eqv_refl _ c⟩
  unfold SeqAt.shaped
  rw [c, Bool.true_and, decide_eq_true_eq]
  simp [dataL, PyData.depth]
  omega
theorem dpAll_strs {K : PySem.W.Frag} {H : Hp} : ∀ l : List Str, DpAll K H (l.map V.str) (l.map PyData.str)
  | [] => .nil
  | z :: r => .cons (.str z) (dpAll_strs r)
theorem dataL_dp {K : PySem.W.Frag} {H : Hp} {a : Addr} {l : List Str} (h : H a = some (.lst (l.map V.str))) : Dp K H (.ref a) (dataL l) := .lst (SqL.of h) (dpAll_strs l)
def bD (b : Bn) : PyData := .tuple [.str b.1, .str b.2.1, .int b.2.2]
def dataB (l : List Bn) : PyData := .list (l.map bD)
def BnOk (b : Bn) : Prop := PyData.strOk b.1 = true ∧ PyData.strOk b.2.1 = true
theorem lay_bs : ∀ l : List Bn, (∀ z ∈ l, BnOk z) → PyData.canLayAll0 (l.map bD) = true
  | [], _ => by simp [PyData.canLayAll0]
  | z :: l, h => by simp [PyData.canLayAll0, PyData.canLay0, bD, (h z (by simp)).1, (h z (by simp)).2, lay_bs l fun y hy => h y (List.mem_cons_of_mem _ hy)]
theorem depth_bs : ∀ l : List Bn, PyData.depthAll (l.map bD) ≤ 2
  | [] => by simp [PyData.depthAll]
  | z :: l => by
    have := depth_bs l
    simp [PyData.depthAll, PyData.depth, bD]
    omega
theorem dataB_ok {l : List Bn} (h : ∀ z ∈ l, BnOk z) : SeqAt.shaped (dataB l) = true ∧ PyData.eqv (dataB l) (dataB l) = true := by
  have c : (dataB l).canLay0 = true := by unfold dataB; simp [PyData.canLay0, lay_bs l h]
  have d := depth_bs l
  refine ⟨?_, SeqAt.eqv_refl _ c⟩
  unfold SeqAt.shaped
  rw [c, Bool.true_and, decide_eq_true_eq]
  simp [dataB, PyData.depth]
  omega
theorem dpAll_bs {K : PySem.W.Frag} {H : Hp} : ∀ {ts : List Addr} {l : List Bn}, TupsAt H ts l → DpAll K H (ts.map V.ref) (l.map bD)
  | [], [], _ => .nil
  | t :: ts, b :: bs, h => .cons (.tup (SqT.of h.1) (.cons (.str _) (.cons (.str _) (.cons (.int _) .nil)))) (dpAll_bs h.2)
  | [], _ :: _, h => h.elim
  | _ :: _, [], h => h.elim
theorem dataB_dp {K : PySem.W.Frag} {H : Hp} {a : Addr} {l : List Bn} (h : BAt H a l) : Dp K H (.ref a) (dataB l) := by
  obtain ⟨ts, e, q⟩ := h
  exact .lst (SqL.of e) (dpAll_bs q)
end K9
set_option maxHeartbeats 1000000
namespace K9
open PySem PySem.Spec PyProof.Rows L2 SX TK
open C8 (pe_c)
/-- all but the law's list of rows is as it was -/
def Fw (rw : Addr) (H H' : Hp) : Prop := ∀ x o, H x = some o → x ≠ rw → H' x = some o
theorem Fw.trans {rw : Addr} {H H1 H2 : Hp} (a : Fw rw H H1) (b : Fw rw H1 H2) : Fw rw H H2 := fun x o e n => b x o (a x o e n) n
theorem Fw.of_same {rw : Addr} {H H' : Hp} (s : Same H H') : Fw rw H H' := fun x o e _ => s x o e
theorem strs_rw {H : Hp} {rw x : Addr} {R : List Rw} {f : Fn} (h : LR H rw R f) {l : List Str} (hl : l ≠ []) (e : H x = some (.lst (l.map V.str))) : x ≠ rw := by
  refine ne_of e h.ro (refs_ne (fun a z => ?_) fun z => hl (List.map_eq_nil_iff.mp z))
  cases l with
  | nil => exact hl rfl
  | cons b q => cases z
theorem PlAt.fw {K : PySem.W.Frag} {H H' : Hp} {p ds de : Addr} {n : Nat} {P : Pl} {rw : Addr} {R : List Rw} {f : Fn} (h : PlAt K H p ds de n P) (L : LR H rw R f) (s : Fw rw H H') : PlAt K H' p ds de n P :=
  h.mono fun x o e q => s x o e (by
    rcases q with q | ⟨l, hl, rfl⟩
    · exact fun z => q _ (by rw [z, L.ro] at e; exact (Option.some.inj e).symm)
    · exact strs_rw L hl e)
theorem BAt.fw {H H' : Hp} {r : Addr} {bs : List Bn} {rw : Addr} {R : List Rw} {f : Fn} (h : BAt H r bs) (L : LR H rw R f) (hr : r ≠ rw) (s : Fw rw H H') : BAt H' r bs := by
  obtain ⟨ts, e, t⟩ := h
  exact ⟨ts, s _ _ e hr, t.mono fun x b e => s _ _ e (ne_of e L.ro (by intro z; cases z))⟩
theorem Fw.upd {rw x : Addr} {H H' : Hp} {o : HO} (a : Fw rw H H') (h : H x = none) : Fw rw H (upd H' x o) := fun y u e n => (upd_ne (ne_of_none e h)).trans (a y u e n)
theorem Fw.none {rw x : Addr} {H H' : Hp} (a : Fw rw H H') (n : x ≠ rw) (h : H' x = none) : H x = none := by
  cases e : H x with
  | none => rfl
  | some o =>
    rw [a x o e n] at h
    cases h
theorem LR.updx {H : Hp} {rw x : Addr} {R : List Rw} {f : Fn} {o : HO} {l : List V} (L : LR H rw R f) (hx : x ≠ rw) (e : H x = some (.lst l)) (hl : ∀ u t, l ≠ rowV f u t) : LR (upd H x o) rw R f :=
  ⟨(upd_ne hx.symm).trans L.ro, fun r m => (upd_ne (ne_of (L.at_ r m) e (by intro z; injection z with z; exact hl _ _ z.symm))).trans (L.at_ r m), L.nd, L.no⟩
theorem strs_row (f : Fn) (u t : Str) : ∀ l : List Str, l.map V.str ≠ rowV f u t := by
  intro l z
  unfold rowV at z
  rcases l with _ | ⟨a1, _ | ⟨a2, _ | ⟨a3, q⟩⟩⟩ <;> cases z
theorem refs_row (f : Fn) (u t : Str) : ∀ l : List Addr, l.map V.ref ≠ rowV f u t := by
  intro l z
  unfold rowV at z
  rcases l with _ | ⟨a1, q⟩ <;> cases z
structure Okp (P : Pl) : Prop where
  u : ∀ z ∈ P.U, PyData.strOk z = true
  w : ∀ z ∈ P.W, PyData.strOk z = true
  n : ("nobody9" : Str) ∉ P.U
theorem ofL_ok {P : Pl} (h : Okp P) (u : Str) (now : Int) : ∀ z ∈ ofL P u now, PyData.strOk z = true := fun z hz => h.w z (List.mem_filter.mp hz).1
theorem BL_ok {P : Pl} (h : Okp P) (now : Int) : ∀ z ∈ BL P now, BnOk z := fun z hz => by
  obtain ⟨l, hl, hz⟩ := List.mem_flatten.mp hz
  obtain ⟨u, hu, rfl⟩ := List.mem_map.mp hl
  obtain ⟨t, ht, rfl⟩ := List.mem_map.mp hz
  exact ⟨h.u u hu, ofL_ok h u now t ht⟩
def spAgree (K : PySem.W.Frag) : Sp := fun vs H Q _ => ∃ (p ds de rw ul tl : Addr) (n : Nat) (P : Pl) (R : List Rw) (now : Int), vs = [.ref p, .ref rw, .ref ul, .ref tl, .int now] ∧ PlAt K H p ds de n P ∧ LR H rw R P.f ∧ H ul = some (.lst (P.U.map V.str)) ∧ H tl = some (.lst (P.W.map V.str)) ∧ Okp P ∧ 0 ≤ now ∧ R.length ≤ 9000 ∧
  ∀ H' R', LR H' rw R' P.f → R'.length ≤ R.length + 16 → Fw rw H H' → Q (.bl true) H'
theorem ok_law_agrees {P : Program} {w : World} {K : PySem.W.Frag} {mg : Str → Option Value} {base : Heap} {f : Addr} {fd : FuncData} (T : Tx K mg) (c_law_find : C8.Cal P w K mg base 1 "_law_find" spFind []) (c_Places_of : C8.Met P w K mg base 1 (He.ga K "Places") "of" (spOf K) []) (c_Places_bindings : C8.Met P w K mg base 2 (He.ga K "Places") "bindings" (spBind K) [])
    (F : FunD K "_law_agrees" "_law_agrees" (defArgs s_law_agrees) (defBody s_law_agrees) (defScope s_law_agrees) [] [] f fd) : FnOk P w K mg base CX0 3 f fd ["places", "rows", "users", "stations", "now"] (spAgree K) := by
  refine F.ok sc_law_agrees (fun vs H Q E h => ?_) (fun cdv A outer s H vs Q E hr h => ?_)
  · obtain ⟨p, ds, de, rw, ul, tl, n, P, R, now, rfl, _⟩ := h
    rfl
  · obtain ⟨p, ds, de, rw, ul, tl, n, P, R, now, rfl, hP, hL, hul, htl, hok, hnow, hn, k⟩ := h
    have hU := hP.hU
    have hW := hP.hW
    refine ⟨_, PSs.nox (pss_cons (ps_set (i := 5) sc_law_agrees.nd rfl (Or.inl rfl) (pe_lst pa_nil)) (pss_cons (ps_for PassesOwn.never rfl (pi_list (pv 2)) (pg_name (i := 6) sc_law_agrees.nd rfl (Or.inl rfl)) (pss_cons (ps_set (i := 7) sc_law_agrees.nd rfl (Or.inl rfl) (pe_lst pa_nil)) (pss_cons (ps_for PassesOwn.never rfl (pi_list (pv 3)) (pg_name (i := 8) sc_law_agrees.nd rfl (Or.inl rfl)) (pss_cons (ps_set (i := 9) sc_law_agrees.nd rfl (Or.inl rfl) (pe_c c_law_find hr (by decide) rfl (pa_cons (pv 1) (pa_cons (pv 6) (pa_cons (pv 8) pa_nil))))) (pss_one (ps_if (pt_cmpR op_gt (pe_ix ix_list (pv 9) pe_int (fun _ _ => rfl)) (pv 4) (nomark _)) (pss_cons (ps_expr (pe_bm PySem.F.plainAttrs_list PySem.F.slot_list_append PySem.F.type_list_append mt_append (pv 7) (pa_cons (pv 8) pa_nil))) (pss_one (ps_expr (pe_bm PySem.F.plainAttrs_list PySem.F.slot_list_append PySem.F.type_list_append mt_append (pv 5) (pa_cons (pe_tup (pa_cons (pv 6) (pa_cons (pv 8) (pa_cons (pe_ix ix_list (pv 9) pe_int (fun _ _ => rfl)) pa_nil)))) pa_nil))))) pss_nil)))) (pss_cons (ps_set (i := 10) sc_law_agrees.nd rfl (Or.inl rfl) (C8.pe_mt c_Places_of hr (by decide) (pv 0) (pa_cons (pv 6) (pa_cons (pv 4) pa_nil)))) (C8.pss_cut (ps_if (PW.pt (pw_or (pt_not (pt_val (pe_callB call_isi rfl T.f_isinstance (by decide +kernel) (pa_cons (pv 10) (pa_cons (pe_bltn (v := .ty "list") rfl T.f_list (by decide +kernel) rfl) pa_nil))))) (pw_or1 (pt_cmpR (op_neD hr.units) (pv 10) (pv 7) (nomark _))))) (pss_one (ps_ret pe_bl)) pss_nil) (pss_one (ps_expr (pe_bm PySem.F.plainAttrs_list PySem.F.slot_list_append PySem.F.type_list_append mt_append (pv 10) (pa_cons pe_str pa_nil))))))))) (pss_one (ps_ret (pe_and (pe_cmpR (op_eqD hr.units) (C8.pe_mt c_Places_bindings hr (by decide) (pv 0) (pa_cons (pv 4) pa_nil)) (pv 5) (nomark _)) (pe_one (pe_cmpR (op_eqD hr.units) (C8.pe_mt c_Places_of hr (by decide) (pv 0) (pa_cons pe_str (pa_cons (pv 4) pa_nil))) (pe_lst pa_nil) (nomark _)))))))), ?_⟩
    refine ⟨by show 0 ≤ sizeLine; decide, fun du hdu => ?_⟩
    have sd := same_upd (o := .lst []) hdu
    have durw : du ≠ rw := (ne_of_none hL.ro hdu).symm
    let σ0 : V → Option V → Option V → Option V → Option V → Option V → L2.St := fun _ v6 v7 v8 v9 v10 => [some (.ref p), some (.ref rw), some (.ref ul), some (.ref tl), some (.int now), some (.ref du), v6, v7, v8, v9, v10]
    refine ⟨_, rfl, ul, rfl, ⟨_, SqL.of (sd _ _ hul)⟩, for_list (K := K) (a := ul) (xs := P.U.map V.str) (fun i σ H1 => (∃ v6 v7 v8 v9 v10 : Option V, σ = [some (.ref p), some (.ref rw), some (.ref ul), some (.ref tl), some (.int now), some (.ref du), v6, v7, v8, v9, v10]) ∧ i ≤ P.U.length ∧ Fw rw H H1 ∧ (∃ R', LR H1 rw R' P.f ∧ R'.length ≤ R.length + 4 * i) ∧ BAt H1 du (((P.U.take i).map (bu P now)).flatten)) ⟨⟨none, none, none, none, none, rfl⟩, Nat.zero_le _, Fw.of_same sd, ⟨R, hL.same sd, by omega⟩, [], upd_same, trivial⟩ (fun i σ H1 _ q => SqL.of (q.2.2.1 _ _ hul (strs_rw hL hU.1 hul))) ?_ ?_⟩
    · rintro i y σ H1 hi ⟨⟨v6, v7, v8, v9, v10, rfl⟩, hil, f1, ⟨R1, L1, r1⟩, b1⟩
      have hi2 : i < P.U.length := by
        have := (List.getElem?_eq_some_iff.mp hi).1
        rw [List.length_map] at this
        exact this
      rw [List.getElem?_map, List.getElem?_eq_getElem hi2] at hi
      obtain rfl := Option.some.inj hi
      have htk : P.U.take (i + 1) = P.U.take i ++ [P.U[i]] := by rw [List.take_add_one, List.getElem?_eq_getElem hi2]; rfl
      have hflat : ((P.U.take (i + 1)).map (bu P now)).flatten = ((P.U.take i).map (bu P now)).flatten ++ bu P now P.U[i] := by
        rw [htk, List.map_append, List.flatten_append]
        show _ ++ (bu P now P.U[i] ++ []) = _
        rw [List.append_nil]
      have hfl := flat_len (P := P) (now := now) hW.2 (P.U.take i)
      have hil4 : (P.U.take i).length ≤ 4 := Nat.le_trans (List.length_take_le _ _) (by have := hU.2; omega)
      have hi4 : i < 4 := by have := hU.2; omega
      generalize P.U[i] = u at hflat ⊢
      refine ⟨by show 0 ≤ sizeLine; decide, fun mi hmi => ?_⟩
      have sm1 := same_upd (o := .lst []) hmi
      have mirw : mi ≠ rw := (ne_of_none L1.ro hmi).symm
      have midu : mi ≠ du := fun e => by
        obtain ⟨ts, e2, _⟩ := b1
        rw [e, e2] at hmi
        cases hmi
      have hmi0 : H mi = none := Fw.none f1 mirw hmi
      have fm : Fw rw H (upd H1 mi (.lst [])) := f1.trans (Fw.of_same sm1)
      have htk2 : ∀ j (hj : j < P.W.length), P.W.take (j + 1) = P.W.take j ++ [P.W[j]] := fun j hj => by rw [List.take_add_one, List.getElem?_eq_getElem hj]; rfl
      refine ⟨_, rfl, tl, rfl, ⟨_, SqL.of (fm _ _ htl (strs_rw hL hW.1 htl))⟩, for_list (K := K) (a := tl) (xs := P.W.map V.str) (fun j σ H2 => (∃ v8 v9 : Option V, σ = [some (.ref p), some (.ref rw), some (.ref ul), some (.ref tl), some (.int now), some (.ref du), some (.str u), some (.ref mi), v8, v9, v10]) ∧ j ≤ P.W.length ∧ Fw rw H H2 ∧ (∃ R', LR H2 rw R' P.f ∧ R'.length ≤ R.length + 4 * i + j) ∧ H2 mi = some (.lst (((P.W.take j).filter fun t => decide (now < (P.f u t).2)).map V.str)) ∧ BAt H2 du (((P.U.take i).map (bu P now)).flatten ++ ((P.W.take j).filter fun t => decide (now < (P.f u t).2)).map fun t => (u, t, (P.f u t).2))) ⟨⟨v8, v9, rfl⟩, Nat.zero_le _, fm, ⟨R1, L1.same sm1, r1⟩, upd_same, by rw [List.take_zero, List.filter_nil, List.map_nil, List.append_nil]; exact b1.same sm1⟩ (fun j σ H2 _ q => SqL.of (q.2.2.1 _ _ htl (strs_rw hL hW.1 htl))) ?_ ?_⟩
      · rintro j y σ H2 hj ⟨⟨v8', v9', rfl⟩, hjl, f2, ⟨R2, L2', r2⟩, m2, b2⟩
        have hj2 : j < P.W.length := by
          have := (List.getElem?_eq_some_iff.mp hj).1
          rw [List.length_map] at this
          exact this
        rw [List.getElem?_map, List.getElem?_eq_getElem hj2] at hj
        obtain rfl := Option.some.inj hj
        have htj := htk2 j hj2
        have hj4 : j < 4 := by have := hW.2; omega
        generalize P.W[j] = t at htj ⊢
        refine ⟨_, rfl, _, rfl, _, rfl, rw, R2, P.f, u, t, rfl, L2', by omega, fun b R3 H3 L3 hb r3 f3 => ?_⟩
        have f23 := Fw.trans f2 f3
        have b3 := b2.fw L2' durw f3
        have m3 := f3 _ _ m2 mirw
        have hbr := L3.at_ _ hb
        refine ⟨_, rfl, b, _, 3, _, rfl, rfl, SqL.of hbr, rfl, _, rfl, _, _, rfl, rfl, _, rfl, ?_⟩
        have hlen1 : ((P.W.take j).filter fun t => decide (now < (P.f u t).2)).length ≤ 4 := Nat.le_trans (List.length_filter_le _ _) (Nat.le_trans (List.length_take_le _ _) (by omega))
        cases hc : decide (now < (P.f u t).2) with
        | true =>
          refine iteT ⟨_, rfl, .inl ⟨rfl, _, SqL.of m3⟩, _, rfl, mi, _, _, rfl, rfl, m3, by rw [List.length_map]; exact Nat.lt_of_le_of_lt hlen1 (by decide), ?_⟩
          have b4 : BAt (upd H3 mi (.lst (((P.W.take j).filter fun t => decide (now < (P.f u t).2)).map V.str ++ [.str t]))) du (((P.U.take i).map (bu P now)).flatten ++ ((P.W.take j).filter fun t => decide (now < (P.f u t).2)).map fun t => (u, t, (P.f u t).2)) := by
            obtain ⟨ts, e, q⟩ := b3
            exact ⟨ts, (upd_ne midu.symm).trans e, q.mono fun x b e => (upd_ne (ne_of e m3 (by intro z; cases z))).trans e⟩
          have f4 : Fw rw H (upd H3 mi (.lst (((P.W.take j).filter fun t => decide (now < (P.f u t).2)).map V.str ++ [.str t]))) := f23.upd hmi0
          have L4 : LR (upd H3 mi (.lst (((P.W.take j).filter fun t => decide (now < (P.f u t).2)).map V.str ++ [.str t]))) rw R3 P.f := L3.updx mirw m3 fun u t => strs_row _ _ _ _
          have m4 : (upd H3 mi (.lst (((P.W.take j).filter fun t => decide (now < (P.f u t).2)).map V.str ++ [.str t]))) mi = some (.lst (((P.W.take j).filter fun t => decide (now < (P.f u t).2)).map V.str ++ [.str t])) := upd_same
          generalize (upd H3 mi (.lst (((P.W.take j).filter fun t => decide (now < (P.f u t).2)).map V.str ++ [.str t]))) = H4 at b4 f4 L4 m4 ⊢
          have hbr4 := L4.at_ _ hb
          obtain ⟨ts4, e4, q4⟩ := id b4
          refine ⟨_, rfl, .inl ⟨rfl, _, SqL.of e4⟩, _, rfl, _, rfl, _, rfl, b, _, 3, _, rfl, rfl, SqL.of hbr4, rfl, by show 3 ≤ sizeLine; decide, fun tt htt => ?_⟩
          have s5 := same_upd (o := .tup [.str u, .str t, .int (P.f u t).2]) htt
          obtain ⟨ts, a1, a2, a3⟩ := (b4.same s5).snoc (b := (u, t, (P.f u t).2)) upd_same
          have f5 : Fw rw H (upd H4 tt (.tup [.str u, .str t, .int (P.f u t).2])) := f4.trans (Fw.of_same s5)
          have L5 := L4.same s5
          have m5 := s5 _ _ m4
          refine ⟨du, _, _, rfl, rfl, a1, ?_, ?_⟩
          · rw [List.length_map, a2, List.length_append, List.length_map]
            exact Nat.lt_of_lt_of_le (show _ < 100 by omega) (by decide)
          refine ⟨⟨_, _, rfl⟩, hj2, f5.upd hdu, ⟨R3, L5.updx durw a1 fun u t => refs_row _ _ _ _, by omega⟩, ?_, ?_⟩
          · rw [htj, List.filter_append, List.filter_cons_of_pos (p := fun t => decide (now < (P.f u t).2)) hc, List.filter_nil, List.map_append]
            exact (upd_ne midu).trans m5
          · rw [htj, List.filter_append, List.filter_cons_of_pos (p := fun t => decide (now < (P.f u t).2)) hc, List.filter_nil, List.map_append, ← List.append_assoc]
            exact a3
        | false =>
          refine iteF ⟨⟨_, _, rfl⟩, hj2, f23, ⟨R3, L3, by omega⟩, ?_, ?_⟩
          · rw [htj, List.filter_append, List.filter_cons_of_neg (p := fun t => decide (now < (P.f u t).2)) (by rw [hc]; exact Bool.false_ne_true), List.filter_nil, List.append_nil]
            exact m3
          · rw [htj, List.filter_append, List.filter_cons_of_neg (p := fun t => decide (now < (P.f u t).2)) (by rw [hc]; exact Bool.false_ne_true), List.filter_nil, List.append_nil]
            exact b3
      · rintro σ H2 ⟨⟨v8', v9', rfl⟩, hjl, f2, ⟨R2, L2', r2⟩, m2, b2⟩
        rw [List.length_map] at hjl r2 m2 b2
        rw [List.take_length] at m2 b2
        have b2' : BAt H2 du (((P.U.take (i + 1)).map (bu P now)).flatten) := by
          rw [hflat]
          exact b2
        obtain ⟨⟨dx, ua, ta, kS, kE, h1, _⟩, _⟩ := hP.fw hL f2
        refine ⟨_, rfl, p, dx, _, rfl, h1, rfl, _, rfl, _, rfl, p, ds, de, n, P, u, now, rfl, hP.fw hL f2, fun r H3 s3 hr0 hr => ?_⟩
        have okL := dataL_ok (ofL_ok hok u now)
        have m3 : H3 mi = some (.lst ((ofL P u now).map V.str)) := s3 _ _ m2
        refine ⟨fun σ' H' => H' = H3 ∧ σ' = [some (.ref p), some (.ref rw), some (.ref ul), some (.ref tl), some (.int now), some (.ref du), some (.str u), some (.ref mi), v8', v9', some (.ref r)], ?_, ?_⟩
        · refine ⟨_, rfl, _, _, _, _, true, rfl, ClsV.ty "list", TyX.base (TyOf.lst hr), kit_ty (by decide +kernel), _, rfl, iteF ?_⟩
          refine ⟨_, rfl, _, rfl, dataL (ofL P u now), dataL (ofL P u now), dataL_dp hr, dataL_dp m3, okL.1, okL.1, _, rfl, ?_⟩
          rw [okL.2]
          exact iteF ⟨rfl, rfl⟩
        rintro σ' H' ⟨rfl, rfl⟩
        have rrw : r ≠ rw := fun e => by rw [e, L2'.ro] at hr0; cases hr0
        have rdu : r ≠ du := fun e => by
          obtain ⟨ts, e2, _⟩ := b2
          rw [e, e2] at hr0
          cases hr0
        have hr00 : H r = none := Fw.none f2 rrw hr0
        refine ⟨_, rfl, .inl ⟨rfl, _, SqL.of hr⟩, r, _, _, rfl, rfl, hr, ?_, ?_⟩
        · rw [List.length_map]
          exact Nat.lt_of_le_of_lt (List.length_filter_le _ _) (Nat.lt_of_le_of_lt hW.2 (by decide))
        refine ⟨⟨_, _, _, _, _, rfl⟩, hi2, (f2.trans (Fw.of_same s3)).upd hr00, ⟨R2, (L2'.same s3).updx rrw hr fun u t => strs_row _ _ _ _, by have := hW.2; omega⟩, ?_⟩
        obtain ⟨ts, e, q⟩ := b2'.same s3
        exact ⟨ts, (upd_ne rdu.symm).trans e, q.mono fun x b e => (upd_ne (ne_of e hr (by intro z; cases z))).trans e⟩
    · rintro σ H1 ⟨⟨v6, v7, v8, v9, v10, rfl⟩, hil, f1, ⟨R1, L1, r1⟩, b1⟩
      rw [List.length_map] at hil r1 b1
      rw [List.take_length] at b1
      have P1 := hP.fw hL f1
      obtain ⟨⟨dx, ua, ta, kS, kE, h1, _⟩, _⟩ := id P1
      refine ⟨_, rfl, p, dx, _, rfl, h1, rfl, _, rfl, p, ds, de, n, P, now, rfl, P1, hnow, fun r H2 s2 hb2 => ?_⟩
      have okB := dataB_ok (BL_ok hok now)
      refine ⟨_, rfl, dataB (BL P now), dataB (BL P now), dataB_dp hb2, dataB_dp (b1.same s2), okB.1, okB.1, _, rfl, ?_⟩
      rw [okB.2]
      refine iteT ⟨_, rfl, p, dx, _, rfl, s2 _ _ h1, rfl, _, rfl, p, ds, de, n, P, "nobody9", now, rfl, P1.same s2, fun r3 H3 s3 _ hr3 => ?_⟩
      have enil : ofL P "nobody9" now = [] := by
        unfold ofL
        rw [List.filter_eq_nil_iff]
        intro t _
        rw [hP.un "nobody9" t hok.n]
        simpa using hnow
      rw [enil] at hr3
      refine ⟨by show 0 ≤ sizeLine; decide, fun l hl => ?_⟩
      have s4 := same_upd (o := .lst []) hl
      have hl4 : (upd H3 l (.lst [])) l = some (.lst (([] : List Str).map V.str)) := upd_same
      have ok0 := dataL_ok (l := []) fun _ h => nomatch h
      refine ⟨dataL [], dataL [], dataL_dp (s4 _ _ hr3), dataL_dp hl4, ok0.1, ok0.1, ?_⟩
      rw [ok0.2]
      exact k _ R1 (((L1.same s2).same s3).same s4) (by have := hU.2; omega) (((f1.trans (Fw.of_same s2)).trans (Fw.of_same s3)).trans (Fw.of_same s4))
end K9
set_option maxHeartbeats 1000000
namespace K9
open PySem PySem.Spec PyProof.Rows L2 SX TK
open C8 (pe_c)
structure Far (s c rw sl : Addr) : Prop where
  a : rw ≠ s
  b : rw ≠ c
  d : sl ≠ s
  e : sl ≠ c
  f : sl ≠ rw
/-- all that stands while the law runs; g: what the law's rows say -/
structure GG (K : PySem.W.Frag) (s c p ds de rw ul tl sl : Addr) (ms : List Int) (n : Nat) (P : Pl) (g : Fn) (R : List Rw) (H : Hp) : Prop where
  far : Far s c rw sl
  st : StAt H s c
  pl : PlAt K H p ds de n P
  lr : LR H rw R g
  us : H ul = some (.lst (P.U.map V.str))
  ts : H tl = some (.lst (P.W.map V.str))
  ls : H sl = some (.lst (ms.map V.int))
  ok : Okp P
theorem strs_ints {l : List Str} {ms : List Int} (h : l ≠ []) : HO.lst (l.map V.str) ≠ .lst (ms.map V.int) := by
  intro e
  injection e with e
  cases l with
  | nil => exact h rfl
  | cons a q => cases ms <;> cases e
section
variable {K : PySem.W.Frag} {s c p ds de rw ul tl sl : Addr} {ms : List Int} {n : Nat} {P : Pl} {g : Fn} {R : List Rw} {H H' : Hp}
theorem strs_sc (st : StAt H s c) {x : Addr} {l : List Str} (hl : l ≠ []) (e : H x = some (.lst (l.map V.str))) : x ≠ s ∧ x ≠ c := by
  obtain ⟨_, ⟨m, e1⟩, ns, e2, _⟩ := st
  refine ⟨ne_of e e1 fun z => ?_, ne_of e e2 (strs_ints hl)⟩
  injection z with z
  cases l with
  | nil => exact hl rfl
  | cons a q => cases z
theorem PlAt.draw (h : PlAt K H p ds de n P) (hst : StAt H s c) (kp : Keep H H' s c) : PlAt K H' p ds de n P := by
  obtain ⟨_, ⟨m, e1⟩, ns, e2, _⟩ := id hst
  refine h.mono fun x o e q => ?_
  rcases q with q | ⟨l, hl, rfl⟩
  · exact kp x o e (fun z => q _ (by rw [z, e1] at e; exact (Option.some.inj e).symm)) (fun z => q _ (by rw [z, e2] at e; exact (Option.some.inj e).symm))
  · have := strs_sc hst hl e
    exact kp x _ e this.1 this.2
theorem GG.draw (j : GG K s c p ds de rw ul tl sl ms n P g R H) (st : StAt H' s c) (kp : Keep H H' s c) : GG K s c p ds de rw ul tl sl ms n P g R H' := by
  have hst := j.st
  obtain ⟨_, ⟨m, e1⟩, ns, e2, _⟩ := id hst
  have us := strs_sc hst j.pl.hU.1 j.us
  have ts := strs_sc hst j.pl.hW.1 j.ts
  refine ⟨j.far, st, j.pl.mono fun x o e q => ?_, ⟨kp _ _ j.lr.ro j.far.a j.far.b, fun r hr => kp _ _ (j.lr.at_ r hr) (ne_of (j.lr.at_ r hr) e1 (by intro z; cases z)) (ne_of (j.lr.at_ r hr) e2 (by intro z; injection z with z; unfold rowV at z; cases ns <;> cases z)), j.lr.nd, j.lr.no⟩, kp _ _ j.us us.1 us.2, kp _ _ j.ts ts.1 ts.2, kp _ _ j.ls j.far.d j.far.e, j.ok⟩
  rcases q with q | ⟨l, hl, rfl⟩
  · exact kp x o e (fun z => q _ (by rw [z, e1] at e; exact (Option.some.inj e).symm)) (fun z => q _ (by rw [z, e2] at e; exact (Option.some.inj e).symm))
  · have := strs_sc hst hl e
    exact kp x _ e this.1 this.2
theorem GG.same (j : GG K s c p ds de rw ul tl sl ms n P g R H) (sm : Same H H') : GG K s c p ds de rw ul tl sl ms n P g R H' :=
  ⟨j.far, j.st.same sm, j.pl.same sm, j.lr.same sm, sm _ _ j.us, sm _ _ j.ts, sm _ _ j.ls, j.ok⟩
theorem GG.fw {R' : List Rw} (j : GG K s c p ds de rw ul tl sl ms n P g R H) (f : Fw rw H H') (L : LR H' rw R' g) : GG K s c p ds de rw ul tl sl ms n P g R' H' := by
  obtain ⟨ne, ⟨m, e1⟩, ns, e2, e3⟩ := j.st
  exact ⟨j.far, ⟨ne, ⟨m, f _ _ e1 j.far.a.symm⟩, ns, f _ _ e2 j.far.b.symm, e3⟩, j.pl.fw j.lr f, L, f _ _ j.us (strs_rw j.lr j.pl.hU.1 j.us), f _ _ j.ts (strs_rw j.lr j.pl.hW.1 j.ts), f _ _ j.ls j.far.f, j.ok⟩
/-- a row of the law's, changed -/
theorem LR.put {b : Addr} {u t : Str} {sq e : Int} (L : LR H rw R g) (hb : (b, u, t) ∈ R) : LR (upd H b (.lst [.str u, .str t, .int sq, .int e])) rw R (sgn g u t sq e) := by
  have hbr := L.at_ _ hb
  have brw : b ≠ rw := row_rw L hbr
  refine ⟨(upd_ne brw.symm).trans L.ro, fun r hr => ?_, L.nd, fun u' t' h => ?_⟩
  · obtain ⟨x, u', t'⟩ := r
    have hx := L.at_ _ hr
    by_cases hk : u' = u ∧ t' = t
    · obtain ⟨rfl, rfl⟩ := hk
      have hxb : x = b := by
        obtain ⟨i, hi, e1⟩ := List.mem_iff_getElem.mp hr
        obtain ⟨k, hk2, e2⟩ := List.mem_iff_getElem.mp hb
        have e3 : (R.map (·.2))[i]'(by rw [List.length_map]; exact hi) = (R.map (·.2))[k]'(by rw [List.length_map]; exact hk2) := by
          rw [List.getElem_map, List.getElem_map, e1, e2]
        have nd := List.pairwise_iff_getElem.mp L.nd
        have e4 : i = k := by
          rcases Nat.lt_trichotomy i k with z | z | z
          · exact absurd e3 (nd i k _ _ z)
          · exact z
          · exact absurd e3.symm (nd k i _ _ z)
        subst e4
        rw [e1] at e2
        exact congrArg Prod.fst e2
      subst hxb
      show (upd H x _) x = some (.lst (rowV (sgn g u' t' sq e) u' t'))
      unfold rowV sgn
      rw [if_pos ⟨rfl, rfl⟩]
      exact upd_same
    · have hne : x ≠ b := ne_of hx hbr fun z => hk (by
        injection z with z
        unfold rowV at z
        injection z with z1 z2
        injection z2 with z2 z3
        exact ⟨V.str.inj z1, V.str.inj z2⟩)
      refine (upd_ne hne).trans ?_
      have e5 : rowV (sgn g u t sq e) u' t' = rowV g u' t' := by
        unfold rowV sgn
        rw [if_neg hk]
      show H x = some (.lst (rowV (sgn g u t sq e) u' t'))
      rw [e5]
      exact hx
  · show sgn g u t sq e u' t' = _
    unfold sgn
    rw [if_neg fun z => h (by rw [z.1, z.2]; exact List.mem_map.mpr ⟨_, hb, rfl⟩)]
    exact L.no u' t' h
/-- nothing but that row -/
theorem GG.put {b : Addr} {u t : Str} {sq e : Int} (j : GG K s c p ds de rw ul tl sl ms n P g R H) (hb : (b, u, t) ∈ R) : GG K s c p ds de rw ul tl sl ms n P (sgn g u t sq e) R (upd H b (.lst [.str u, .str t, .int sq, .int e])) := by
  have hbr := j.lr.at_ _ hb
  obtain ⟨ne, ⟨m, e1⟩, ns, e2, e3⟩ := j.st
  have bs : s ≠ b := ne_of e1 hbr (by intro z; cases z)
  have bc : c ≠ b := ne_of e2 hbr (by intro z; injection z with z; unfold rowV at z; cases ns <;> cases z)
  have hs : ∀ {x : Addr} {l : List Str}, H x = some (.lst (l.map V.str)) → x ≠ b := fun e => ne_of e hbr (by intro z; injection z with z; exact strs_row _ _ _ _ z)
  refine ⟨j.far, ⟨ne, ⟨m, (upd_ne bs).trans e1⟩, ns, (upd_ne bc).trans e2, e3⟩, j.pl.mono fun x o e q => ?_, j.lr.put hb, (upd_ne (hs j.us)).trans j.us, (upd_ne (hs j.ts)).trans j.ts, (upd_ne (ne_of j.ls hbr (by intro z; injection z with z; unfold rowV at z; cases ms <;> cases z))).trans j.ls, j.ok⟩
  rcases q with q | ⟨l, hl, rfl⟩
  · exact (upd_ne fun z => q _ (by rw [z, hbr] at e; exact (Option.some.inj e).symm)).trans e
  · exact (upd_ne (hs e)).trans e
theorem GG.sign {n' : Nat} {P' : Pl} (j : GG K s c p ds de rw ul tl sl ms n P g R H) (pl : PlAt K H' p ds de n' P') (f : ∀ x o, H x = some o → x ≠ ds → x ≠ de → H' x = some o) (eU : P'.U = P.U) (eW : P'.W = P.W) : GG K s c p ds de rw ul tl sl ms n' P' g R H' := by
  obtain ⟨dx, ua, ta, kS, kE, h1, h2, h3, h4, h5, _⟩ := j.pl.ob
  have fl : ∀ {x l}, H x = some (.lst l) → H' x = some (.lst l) := fun e => f _ _ e (ne_of e h4 (by intro z; cases z)) (ne_of e h5 (by intro z; cases z))
  obtain ⟨ne, ⟨m, e1⟩, ns, e2, e3⟩ := j.st
  refine ⟨j.far, ⟨ne, ⟨m, fl e1⟩, ns, fl e2, e3⟩, pl, ⟨fl j.lr.ro, fun r hr => fl (j.lr.at_ r hr), j.lr.nd, j.lr.no⟩, by rw [eU]; exact fl j.us, by rw [eW]; exact fl j.ts, fl j.ls, ⟨by rw [eU]; exact j.ok.u, by rw [eW]; exact j.ok.w, by rw [eU]; exact j.ok.n⟩⟩
end
end K9
set_option maxHeartbeats 1000000
namespace K9
open PySem PySem.Spec PyProof.Rows L2 SX TK
open C8 (pe_c)
def spLaw (K : PySem.W.Frag) : Sp := fun vs H Q _ => ∃ (a : Addr) (ns : List Int), vs = [.ref a] ∧ SqL K H a (ns.map V.int) ∧ ns.length ≤ 63 ∧ ∀ H', Q (.bl true) H'
def usersL : List Str := ["ann", "bob", "eve", "joe"]
def stA : List Str := ["p", "q", "r", "s"]
def stB : List Str := ["s", "r", "q", "p"]
theorem users_ok : (∀ z ∈ usersL, PyData.strOk z = true) ∧ ("nobody9" : Str) ∉ usersL ∧ (∀ z ∈ stA, PyData.strOk z = true) ∧ (∀ z ∈ stB, PyData.strOk z = true) := by decide +kernel
theorem take_some {l : List Str} {r : Int} (h0 : 0 ≤ r) (hl : l ≠ []) (h4 : l.length = 4) : l.take (1 + r).toNat ≠ [] ∧ (l.take (1 + r).toNat).length ≤ 4 := by
  obtain ⟨k, hk⟩ : ∃ k : Nat, (1 + r).toNat = k + 1 := ⟨r.toNat, by omega⟩
  rw [hk]
  cases l with
  | nil => exact absurd rfl hl
  | cons a q =>
    rw [List.take_succ_cons]
    refine ⟨List.cons_ne_nil _ _, ?_⟩
    rw [List.length_cons, List.length_take]
    rw [List.length_cons] at h4
    omega
theorem cut_strs (l : List Str) {r : Int} (h : 0 ≤ r) : cutV (l.map V.str) none (some (1 + r)) = (l.take (1 + r).toNat).map V.str := by
  have e : (1 + r) = (((1 + r).toNat : Nat) : Int) := (Int.toNat_of_nonneg (by omega)).symm
  rw [e, cutV_to, List.map_take, Int.toNat_natCast]
theorem ok_law {P : Program} {w : World} {K : PySem.W.Frag} {mg : Str → Option Value} {base : Heap} {f : Addr} {fd : FuncData} (T : Tx K mg) (c_law_state : C8.Cal P w K mg base 1 "_law_state" (spState K) []) (c_law_pick : C8.Cal P w K mg base 2 "_law_pick" spPick []) (c_law_draw : C8.Cal P w K mg base 1 "_law_draw" spDraw []) (c_mk_Places : C8.Mak P w K mg base 1 "Places" (He.ga K "Places") (spPInit K) []) (c_Places_sign : C8.Met P w K mg base 1 (He.ga K "Places") "sign" (spSign K) []) (c_law_find : C8.Cal P w K mg base 1 "_law_find" spFind []) (c_law_agrees : C8.Cal P w K mg base 3 "_law_agrees" (spAgree K) [])
    (F : FunD K "law" "law" (defArgs s_law) (defBody s_law) (defScope s_law) [] [] f fd) : FnOk P w K mg base CX0 4 f fd ["script"] (spLaw K) := by
  refine F.ok sc_law (fun vs H Q E h => ?_) (fun cdv A outer s0 H vs Q E hr h => ?_)
  · obtain ⟨a, ns, rfl, _⟩ := h
    rfl
  · obtain ⟨a, ns, rfl, hS, hn, k⟩ := h
    refine ⟨_, PSs.nox (pss_cons (ps_set (i := 1) sc_law.nd rfl (Or.inl rfl) (pe_c c_law_state hr (by decide) rfl (pa_cons (pv 0) pa_nil))) (pss_cons (ps_set (i := 2) sc_law.nd rfl (Or.inl rfl) (pe_slice sl_list (pe_lst (pa_cons pe_str (pa_cons pe_str (pa_cons pe_str (pa_cons pe_str pa_nil))))) po_none (po_some (pe_op op_add pe_int (pe_c c_law_draw hr (by decide) rfl (pa_cons (pv 1) (pa_cons pe_int pa_nil))))))) (pss_cons (ps_set (i := 3) sc_law.nd rfl (Or.inl rfl) (pe_slice sl_list (pe_ix ix_list (pe_lst (pa_cons (pe_lst (pa_cons pe_str (pa_cons pe_str (pa_cons pe_str (pa_cons pe_str pa_nil))))) (pa_cons (pe_lst (pa_cons pe_str (pa_cons pe_str (pa_cons pe_str (pa_cons pe_str pa_nil))))) pa_nil))) (pe_c c_law_draw hr (by decide) rfl (pa_cons (pv 1) (pa_cons pe_int pa_nil))) (fun _ _ => rfl)) po_none (po_some (pe_op op_add pe_int (pe_c c_law_draw hr (by decide) rfl (pa_cons (pv 1) (pa_cons pe_int pa_nil))))))) (pss_cons (ps_set (i := 4) sc_law.nd rfl (Or.inl rfl) (pe_c c_law_pick hr (by decide) rfl (pa_cons (pv 1) (pa_cons (pe_lst (pa_cons pe_int (pa_cons pe_int (pa_cons (pe_op op_add pe_int (pe_c c_law_draw hr (by decide) rfl (pa_cons (pv 1) (pa_cons pe_int pa_nil)))) pa_nil)))) pa_nil)))) (pss_cons (ps_set (i := 5) sc_law.nd rfl (Or.inl rfl) (pe_lst (pa_cons (pe_callTy call_list_of rfl T.f_list (by decide +kernel) (pa_cons (pv 2) pa_nil)) (pa_cons (pe_callTy call_list_of rfl T.f_list (by decide +kernel) (pa_cons (pv 3) pa_nil)) pa_nil)))) (pss_cons (ps_set (i := 6) sc_law.nd rfl (Or.inl rfl) (C8.pe_mk c_mk_Places hr (by decide) rfl (pa_cons (pe_ix ix_list (pv 5) pe_int (fun _ _ => rfl)) (pa_cons (pe_ix ix_list (pv 5) pe_int (fun _ _ => rfl)) (pa_cons (pv 4) pa_nil))))) (pss_cons (ps_expr (pe_bm PySem.F.plainAttrs_list PySem.F.slot_list_append PySem.F.type_list_append mt_append (pe_ix ix_list (pv 5) pe_int (fun _ _ => rfl)) (pa_cons pe_str pa_nil))) (pss_cons (ps_expr (pe_bm PySem.F.plainAttrs_list PySem.F.slot_list_append PySem.F.type_list_append mt_append (pe_ix ix_list (pv 5) pe_int (fun _ _ => rfl)) (pa_cons pe_str pa_nil))) (pss_cons (ps_set (i := 7) sc_law.nd rfl (Or.inl rfl) (pe_lst pa_nil)) (pss_cons (ps_set (i := 8) sc_law.nd rfl (Or.inl rfl) (pe_c c_law_draw hr (by decide) rfl (pa_cons (pv 1) (pa_cons pe_int pa_nil)))) (pss_cons (ps_for PassesOwn.never rfl (pi_list (pe_slice sl_list (pv 0) po_none (po_some pe_int))) (pg_name (i := 9) sc_law.nd rfl (Or.inl rfl)) (pss_cons (ps_set (i := 10) sc_law.nd rfl (Or.inl rfl) (pe_c c_law_pick hr (by decide) rfl (pa_cons (pv 1) (pa_cons (pe_lst (pa_cons pe_str (pa_cons pe_str (pa_cons pe_str (pa_cons pe_str (pa_cons pe_str pa_nil)))))) pa_nil)))) (pss_cons (ps_set (i := 11) sc_law.nd rfl (Or.inl rfl) (pe_c c_law_pick hr (by decide) rfl (pa_cons (pv 1) (pa_cons (pe_lst (pa_cons pe_str (pa_cons pe_str (pa_cons pe_str (pa_cons pe_str (pa_cons pe_str pa_nil)))))) pa_nil)))) (pss_cons (ps_set (i := 12) sc_law.nd rfl (Or.inl rfl) (pe_c c_law_draw hr (by decide) rfl (pa_cons (pv 1) (pa_cons (pe_c c_law_pick hr (by decide) rfl (pa_cons (pv 1) (pa_cons (pe_lst (pa_cons pe_int (pa_cons pe_int pa_nil))) pa_nil))) pa_nil)))) (pss_cons (ps_set (i := 13) sc_law.nd rfl (Or.inl rfl) (pe_c c_law_pick hr (by decide) rfl (pa_cons (pv 1) (pa_cons (pe_lst (pa_cons pe_int (pa_cons pe_int (pa_cons pe_int (pa_cons (pe_c c_law_draw hr (by decide) rfl (pa_cons (pv 1) (pa_cons pe_int pa_nil))) pa_nil))))) pa_nil)))) (pss_cons (ps_set (i := 14) sc_law.nd rfl (Or.inl rfl) (pe_cut (C8.pe_mt c_Places_sign hr (by decide) (pv 6) (pa_cons (pv 10) (pa_cons (pv 11) (pa_cons (pv 12) (pa_cons (pv 13) (pa_cons (pv 8) pa_nil)))))))) (pss_cons (ps_set (i := 15) sc_law.nd rfl (Or.inl rfl) pe_non) (C8.pss_cut (ps_if (PW.pt (pw_and (pt_cmpR op_in_seq (pv 10) (pv 2) (by with_unfolding_all rfl)) (pw_and1 (pt_cmpR op_in_seq (pv 11) (pv 3) (by with_unfolding_all rfl))))) (pss_cons (ps_set (i := 15) sc_law.nd rfl (Or.inl rfl) (pe_callB (call_min2 rfl) rfl T.f_min (by decide +kernel) (pa_cons (pv 13) (pa_cons (pv 4) pa_nil)))) (pss_cons (ps_set (i := 16) sc_law.nd rfl (Or.inl rfl) (pe_c c_law_find hr (by decide) rfl (pa_cons (pv 7) (pa_cons (pv 10) (pa_cons (pv 11) pa_nil))))) (pss_one (ps_if (pt_cmpR op_gt (pv 12) (pe_ix ix_list (pv 16) pe_int (fun _ _ => rfl)) (nomark _)) (pss_cons (ps_asg (pv 12) (pg_sub (pv 16) pe_int set_list)) (pss_one (ps_asg (pe_op op_add (pv 8) (pv 15)) (pg_sub (pv 16) pe_int set_list)))) pss_nil)))) pss_nil) (C8.pss_cut (ps_if (PW.pt (pw_or (pt_val (pe_callB call_isi rfl T.f_isinstance (by decide +kernel) (pa_cons (pv 14) (pa_cons (pe_bltn (v := .ty "bool") rfl T.f_bool (by decide +kernel) rfl) pa_nil)))) (pw_or1 (pt_cmpR op_ne (pv 14) (pv 15) (nomark _))))) (pss_one (ps_ret pe_bl)) pss_nil) (pss_cons (ps_for PassesOwn.never rfl (pi_list (pe_lst (pa_cons (pv 8) (pa_cons (pe_op op_add (pv 8) pe_int) (pa_cons (pe_op op_sub (pe_op op_add (pv 8) (pe_callB (call_min2 rfl) rfl T.f_min (by decide +kernel) (pa_cons (pv 13) (pa_cons (pv 4) pa_nil)))) pe_int) (pa_cons (pe_op op_add (pv 8) (pe_callB (call_min2 rfl) rfl T.f_min (by decide +kernel) (pa_cons (pv 13) (pa_cons (pv 4) pa_nil)))) (pa_cons (pe_op op_add (pv 8) pe_int) pa_nil))))))) (pg_name (i := 17) sc_law.nd rfl (Or.inl rfl)) (pss_one (ps_if (PW.pt (pw_and (pt_cmpR op_ge (pv 17) (pv 8) (nomark _)) (pw_and1 (pt_not (pt_val (pe_c c_law_agrees hr (by decide) rfl (pa_cons (pv 6) (pa_cons (pv 7) (pa_cons (pv 2) (pa_cons (pv 3) (pa_cons (pv 17) pa_nil))))))))))) (pss_one (ps_ret pe_bl)) pss_nil))) (pss_one (ps_set (i := 8) sc_law.nd rfl (Or.inl rfl) (pe_op op_add (pv 8) (pe_c c_law_pick hr (by decide) rfl (pa_cons (pv 1) (pa_cons (pe_lst (pa_cons pe_int (pa_cons pe_int (pa_cons (pe_c c_law_draw hr (by decide) rfl (pa_cons (pv 1) (pa_cons pe_int pa_nil))) pa_nil)))) pa_nil)))))))))))))))) (pss_one (ps_ret (pe_c c_law_agrees hr (by decide) rfl (pa_cons (pv 6) (pa_cons (pv 7) (pa_cons (pv 2) (pa_cons (pv 3) (pa_cons (pv 8) pa_nil))))))))))))))))))), ?_⟩
    refine ⟨_, rfl, a, ns, rfl, hS, hn, fun s c H1 s1 hs hc st1 => ?_⟩
    -- users
    refine ⟨by show 4 ≤ sizeLine; decide, fun l1 hl1 => ?_⟩
    obtain ⟨n1, n2⟩ := st1.tracked hl1
    refine ⟨_, rfl, s, c, 4, rfl, st1.upd n1 n2, by decide, by decide, fun r1 H2 r10 r11 st2 kp2 => ?_⟩
    have e1 : H2 l1 = some (.lst (usersL.map V.str)) := kp2 _ _ upd_same n1 n2
    refine ⟨_, _, rfl, rfl, _, rfl, l1, _, rfl, SqL.of e1, fun ul hul => ?_⟩
    have s2 := same_upd (o := .lst (cutV (usersL.map V.str) none (some (1 + r1)))) hul
    have eul : (upd H2 ul (.lst (cutV (usersL.map V.str) none (some (1 + r1))))) ul = some (.lst ((usersL.take (1 + r1).toNat).map V.str)) := by rw [cut_strs _ r10]; exact upd_same
    obtain ⟨hU1, hU2⟩ := take_some r10 (l := usersL) (by intro z; cases z) rfl
    have hUin : ∀ z ∈ usersL.take (1 + r1).toNat, z ∈ usersL := fun z hz => List.mem_of_mem_take hz
    have st3 := st2.same s2
    have kpA : Keep H (upd H2 ul (.lst (cutV (usersL.map V.str) none (some (1 + r1))))) s c := (((Keep.of_same s1).trans (Keep.of_same (same_upd hl1))).trans kp2).trans (Keep.of_same s2)
    generalize usersL.take (1 + r1).toNat = U at eul hU1 hU2 hUin
    generalize (upd H2 ul (.lst (cutV (usersL.map V.str) none (some (1 + r1))))) = H3 at eul st3 kpA
    clear e1 hul s2
    -- stations
    refine ⟨by show 4 ≤ sizeLine; decide, fun la hla => ⟨by show 4 ≤ sizeLine; decide, fun lb hlb => ⟨by show 2 ≤ sizeLine; decide, fun lc hlc => ?_⟩⟩⟩
    obtain ⟨ab, hb0, sab, ea, eb⟩ := new2 (u := .lst (stB.map V.str)) hla hlb
    have sc3 := same_upd (o := .lst [.ref la, .ref lb]) hlc
    have ea3 := sc3 _ _ ea
    have eb3 := sc3 _ _ eb
    have ec3 : (upd (upd (upd H3 la (.lst (stA.map V.str))) lb (.lst (stB.map V.str))) lc (.lst [.ref la, .ref lb])) lc = some (.lst [.ref la, .ref lb]) := upd_same
    have s34 := sab.trans sc3
    have la1 := st3.tracked hla
    have lb1 := st3.tracked hb0
    have lc1 := (st3.same sab).tracked hlc
    have st4 := st3.same s34
    have eul4 := s34 _ _ eul
    have kpB := kpA.trans (Keep.of_same s34)
    refine ⟨_, rfl, s, c, 2, rfl, st4, by decide, by decide, fun r2 H5 r20 r21 st5 kp5 => ?_⟩
    have ea5 := kp5 _ _ ea3 la1.1 la1.2
    have eb5 := kp5 _ _ eb3 lb1.1 lb1.2
    have ec5 := kp5 _ _ ec3 lc1.1 lc1.2
    have eul5 := kp5 _ _ eul4 (strs_sc st4 hU1 eul4).1 (strs_sc st4 hU1 eul4).2
    have kpC := kpB.trans kp5
    obtain ⟨lw, Wd, hat, elw, hWd⟩ : ∃ lw Wd, atI [V.ref la, V.ref lb] r2 = some (.ref lw) ∧ H5 lw = some (.lst (Wd.map V.str)) ∧ (Wd = stA ∨ Wd = stB) := by
      have h : r2 = 0 ∨ r2 = 1 := by omega
      rcases h with rfl | rfl
      · exact ⟨la, stA, rfl, ea5, .inl rfl⟩
      · exact ⟨lb, stB, rfl, eb5, .inr rfl⟩
    refine ⟨lc, _, r2, .ref lw, rfl, rfl, SqL.of ec5, hat, _, rfl, s, c, 4, rfl, st5, by decide, by decide, fun r3 H6 r30 r31 st6 kp6 => ?_⟩
    have hWd2 : Wd ≠ [] ∧ Wd.length = 4 ∧ ∀ z ∈ Wd, PyData.strOk z = true := by
      rcases hWd with rfl | rfl
      · exact ⟨List.cons_ne_nil _ _, rfl, users_ok.2.2.1⟩
      · exact ⟨List.cons_ne_nil _ _, rfl, users_ok.2.2.2⟩
    have elw6 := kp6 _ _ elw (strs_sc st5 hWd2.1 elw).1 (strs_sc st5 hWd2.1 elw).2
    have eul6 := kp6 _ _ eul5 (strs_sc st5 hU1 eul5).1 (strs_sc st5 hU1 eul5).2
    refine ⟨_, _, rfl, rfl, _, rfl, lw, _, rfl, SqL.of elw6, fun tl htl => ?_⟩
    have s7 := same_upd (o := .lst (cutV (Wd.map V.str) none (some (1 + r3)))) htl
    have etl : (upd H6 tl (.lst (cutV (Wd.map V.str) none (some (1 + r3))))) tl = some (.lst ((Wd.take (1 + r3).toNat).map V.str)) := by rw [cut_strs _ r30]; exact upd_same
    obtain ⟨hW1, hW2⟩ := take_some r30 hWd2.1 hWd2.2.1
    have hWok : ∀ z ∈ Wd.take (1 + r3).toNat, PyData.strOk z = true := fun z hz => hWd2.2.2 z (List.mem_of_mem_take hz)
    have st7 := st6.same s7
    have eul7 := s7 _ _ eul6
    have kpD := (kpC.trans kp6).trans (Keep.of_same s7)
    generalize Wd.take (1 + r3).toNat = W at etl hW1 hW2 hWok
    generalize (upd H6 tl (.lst (cutV (Wd.map V.str) none (some (1 + r3))))) = H7 at etl st7 eul7 kpD
    clear ea3 eb3 ec3 ea5 eb5 ec5 elw elw6 hla hlb hlc htl eul5 eul6 eul4 eul ea eb hat
    -- longest
    refine ⟨_, rfl, _, rfl, s, c, 60, rfl, st7, by decide, by decide, fun r4 H8 r40 r41 st8 kp8 => ⟨_, _, rfl, rfl, by show 3 ≤ sizeLine; decide, fun ll hll => ?_⟩⟩
    obtain ⟨n1, n2⟩ := st8.tracked hll
    refine ⟨s, c, _, rfl, st8.upd n1 n2, .inr ⟨ll, _, rfl, upd_same, n1, n2, by show 0 < 3; decide, by show 3 ≤ 1000; decide, fun mm hm H9 st9 kp9 => ?_⟩⟩
    obtain ⟨lg, g0, rfl⟩ : ∃ lg : Int, 1 ≤ lg ∧ mm = V.int lg := by
      simp only [List.mem_cons, List.not_mem_nil, or_false] at hm
      rcases hm with rfl | rfl | rfl
      · exact ⟨_, by decide, rfl⟩
      · exact ⟨_, by decide, rfl⟩
      · exact ⟨1 + r4, by omega, rfl⟩
    have s8 := same_upd (o := .lst [.int 1, .int 9999, (fun i j => V.int (i + j)) 1 r4]) hll
    have mv : ∀ {x : Addr} {l : List Str}, l ≠ [] → H7 x = some (.lst (l.map V.str)) → H9 x = some (.lst (l.map V.str)) := fun hl e => by
      have q := strs_sc st7 hl e
      exact kp9 _ _ (s8 _ _ (kp8 _ _ e q.1 q.2)) q.1 q.2
    have eul9 := mv hU1 eul7
    have etl9 := mv hW1 etl
    have kpE := ((kpD.trans kp8).trans (Keep.of_same s8)).trans kp9
    clear s8 kp8 kp9 hll
    -- given
    refine ⟨_, rfl, ul, _, rfl, .inl (SqL.of eul9), fun g0' hg0 => ⟨_, rfl, tl, _, rfl, .inl (SqL.of ((same_upd hg0) _ _ etl9)), fun g1' hg1 => ⟨by show 2 ≤ sizeLine; decide, fun gv hgv => ?_⟩⟩⟩
    obtain ⟨g01, hg10, s10, eg0, eg1⟩ := new2 (u := .lst (W.map V.str)) hg0 hg1
    have s11 := same_upd (o := .lst [.ref g0', .ref g1']) hgv
    have gvn : g0' ≠ gv ∧ g1' ≠ gv := ⟨ne_of_none eg0 hgv, ne_of_none eg1 hgv⟩
    have egv : (upd (upd (upd H9 g0' (.lst (U.map V.str))) g1' (.lst (W.map V.str))) gv (.lst [.ref g0', .ref g1'])) gv = some (.lst [.ref g0', .ref g1']) := upd_same
    have eg0' := s11 _ _ eg0
    have eg1' := s11 _ _ eg1
    have s911 := s10.trans s11
    have hgv9 : H9 gv = none := s10.free hgv
    generalize (upd (upd (upd H9 g0' (.lst (U.map V.str))) g1' (.lst (W.map V.str))) gv (.lst [.ref g0', .ref g1'])) = H10 at egv eg0' eg1' s911
    clear s10 s11 eg0 eg1
    have s09 : Same H H9 := fun b o e => kpE b o e (ne_of_none e hs) (ne_of_none e hc)
    have st10 := st9.same s911
    -- places = Places(given[0], given[1], longest)
    refine ⟨_, rfl, gv, _, 0, _, rfl, rfl, SqL.of egv, rfl, _, rfl, gv, _, 1, _, rfl, rfl, SqL.of egv, rfl, _, rfl, fun p dx hp hdx hne => ?_⟩
    have sO := same_own (C := He.ga K "Places") (fs := []) hp hdx
    refine ⟨p, dx, g0', g1', U, W, lg, rfl, upd_same, sO _ _ eg0', sO _ _ eg1', fun ua ta ds de H11 f1 f2 f3 f4 f5 dde hua hta fr => ⟨rfl, ?_⟩⟩
    have k11 : ∀ x o, H10 x = some o → H11 x = some o := fun x o e => fr x o (sO _ _ e) (ne_of_none e hp)
    have u0 : ua ≠ g0' := (ne_of_none (sO _ _ eg0') hua).symm
    have u1 : ua ≠ g1' := (ne_of_none (sO _ _ eg1') hua).symm
    have t0 : ta ≠ g0' := (ne_of_none (sO _ _ eg0') hta).symm
    have t1 : ta ≠ g1' := (ne_of_none (sO _ _ eg1') hta).symm
    have g0h := k11 _ _ eg0'
    have g1h := k11 _ _ eg1'
    have gvh := k11 _ _ egv
    -- the given lists change
    refine ⟨_, rfl, gv, _, 0, _, rfl, rfl, SqL.of gvh, rfl, .inl ⟨rfl, _, SqL.of g0h⟩, g0', _, _, rfl, rfl, g0h, by rw [List.length_map]; exact Nat.lt_of_le_of_lt hU2 (by decide), ?_⟩
    have gvh2 : (upd H11 g0' (.lst (U.map V.str ++ [.str "zed"]))) gv = some (.lst [.ref g0', .ref g1']) := (upd_ne gvn.1.symm).trans gvh
    have g1h2 : (upd H11 g0' (.lst (U.map V.str ++ [.str "zed"]))) g1' = some (.lst (W.map V.str)) := (upd_ne g01.symm).trans g1h
    refine ⟨_, rfl, gv, _, 1, _, rfl, rfl, SqL.of gvh2, rfl, .inl ⟨rfl, _, SqL.of g1h2⟩, g1', _, _, rfl, rfl, g1h2, by rw [List.length_map]; exact Nat.lt_of_le_of_lt hW2 (by decide), ?_⟩
    have k13 : ∀ x o, H11 x = some o → x ≠ g0' → x ≠ g1' → (upd (upd H11 g0' (.lst (U.map V.str ++ [.str "zed"]))) g1' (.lst (W.map V.str ++ [.str "z"]))) x = some o := fun x o e a b => (upd_ne b).trans ((upd_ne a).trans e)
    generalize (upd (upd H11 g0' (.lst (U.map V.str ++ [.str "zed"]))) g1' (.lst (W.map V.str ++ [.str "z"]))) = H13 at k13 ⊢
    have k9 : Same H9 H13 := fun x o e => k13 x o (k11 _ _ (s911 _ _ e)) (ne_of_none e hg0) (ne_of_none e hg10)
    have st13 := st9.same k9
    have pl13 : PlAt K H13 p ds de 0 ⟨U, W, lg, fun _ _ => (-1, 0)⟩ := by
      have nl : ∀ {x : Addr} {o : HO} {l : List V}, H11 x = some o → (∀ l, o ≠ .lst l) → H11 g0' = some (.lst l) → x ≠ g0' := fun e q e2 z => q _ (by rw [z, e2] at e; exact (Option.some.inj e).symm)
      have n0 : ∀ {x : Addr} {o : HO}, H11 x = some o → (∀ l, o ≠ .lst l) → x ≠ g0' := fun e q z => q _ (by rw [z, g0h] at e; exact (Option.some.inj e).symm)
      have n1 : ∀ {x : Addr} {o : HO}, H11 x = some o → (∀ l, o ≠ .lst l) → x ≠ g1' := fun e q z => q _ (by rw [z, g1h] at e; exact (Option.some.inj e).symm)
      refine ⟨⟨dx, ua, ta, [], [], k13 _ _ f1 (n0 f1 fun l z => by cases z) (n1 f1 fun l z => by cases z), k13 _ _ f2 u0 u1, k13 _ _ f3 t0 t1, k13 _ _ f4 (n0 f4 fun l z => by cases z) (n1 f4 fun l z => by cases z), k13 _ _ f5 (n0 f5 fun l z => by cases z) (n1 f5 fun l z => by cases z), fun u t => ⟨rfl, rfl⟩, Nat.le_refl _, Nat.le_refl _⟩, dde, ⟨hU1, hU2⟩, ⟨hW1, hW2⟩, fun u t _ => rfl⟩
    have eul13 := k9 _ _ eul9
    have etl13 := k9 _ _ etl9
    have s13 := s09.trans k9
    clear k13 k11 f1 f2 f3 f4 f5 fr gvh gvh2 g1h2 g0h g1h egv eg0' eg1' sO hua hta
    refine ⟨by show 0 ≤ sizeLine; decide, fun rw hrw => ?_⟩
    have rws := st13.tracked hrw
    have s14 := same_upd (o := .lst []) hrw
    have lr14 : LR (upd H13 rw (.lst [])) rw [] (fun _ _ => (-1, 0)) := ⟨upd_same, (fun r h => nomatch h), List.nodup_nil, fun _ _ _ => rfl⟩
    have st14 := st13.same s14
    have pl14 := pl13.same s14
    have eul14 := s14 _ _ eul13
    have etl14 := s14 _ _ etl13
    have s014 := s13.trans s14
    generalize upd H13 rw (.lst []) = H14 at s14 lr14 st14 pl14 eul14 etl14 s014 ⊢
    refine ⟨_, rfl, s, c, 100, rfl, st14, by decide, by decide, fun now H15 now0 now1 st15 kp15 => ?_⟩
    have hS15 : SqL K H15 a (ns.map V.int) := by
      have q : Same H H15 := fun b o e => kp15 b o (s014 _ _ e) (ne_of_none e hs) (ne_of_none e hc)
      exact q.seq hS
    refine ⟨_, rfl, 60, rfl, a, _, rfl, hS15, fun sl hsl => ?_⟩
    have slt := st15.tracked hsl
    obtain ⟨ms, hms, hmsl⟩ : ∃ ms : List Int, cutV (ns.map V.int) none (some 60) = ms.map V.int ∧ ms.length ≤ 63 := by
      refine ⟨ns.take 60, ?_, by rw [List.length_take]; omega⟩
      rw [show (60 : Int) = ((60 : Nat) : Int) from rfl, cutV_to, List.map_take]
    have okp : Okp ⟨U, W, lg, fun _ _ => (-1, 0)⟩ := ⟨fun z hz => users_ok.1 z (hUin z hz), hWok, fun m => users_ok.2.1 (hUin _ m)⟩
    -- all that stands, ahead of the draw of now
    have slrw : sl ≠ rw := by
      have e := kp15 _ _ lr14.ro rws.1.symm.symm rws.2.symm.symm
      exact (ne_of_none e hsl).symm
    rw [hms]
    have s16 := same_upd (o := .lst (ms.map V.int)) hsl
    have usc := strs_sc st14 hU1 eul14
    have tsc := strs_sc st14 hW1 etl14
    have lr15 : LR H15 rw [] (fun _ _ => (-1, 0)) := ⟨kp15 _ _ lr14.ro rws.1 rws.2, (fun r h => nomatch h), List.nodup_nil, fun _ _ _ => rfl⟩
    have j16 : GG K s c p ds de rw ul tl sl ms 0 ⟨U, W, lg, fun _ _ => (-1, 0)⟩ (fun _ _ => (-1, 0)) [] (upd H15 sl (.lst (ms.map V.int))) :=
      ⟨⟨rws.1, rws.2, slt.1, slt.2, slrw⟩, st15.same s16, (PlAt.draw pl14 st14 kp15).same s16, lr15.same s16, s16 _ _ (kp15 _ _ eul14 usc.1 usc.2), s16 _ _ (kp15 _ _ etl14 tsc.1 tsc.2), upd_same, okp⟩
    generalize upd H15 sl (.lst (ms.map V.int)) = H16 at j16 ⊢
    refine ⟨sl, rfl, ⟨_, SqL.of j16.ls⟩, for_list (K := K) (a := sl) (xs := ms.map V.int) (fun i σ H' => ∃ (nw : Int) (n : Nat) (P : Pl) (R : List Rw) (v9 v10 v11 v12 v13 v14 v15 v16 v17 : Option V), σ = [some (.ref a), some (.ref s), some (.ref ul), some (.ref tl), some (.int lg), some (.ref gv), some (.ref p), some (.ref rw), some (.int nw), v9, v10, v11, v12, v13, v14, v15, v16, v17] ∧ 0 ≤ nw ∧ n ≤ i ∧ i ≤ ms.length ∧ R.length ≤ 100 * i ∧ P.lg = lg ∧ GG K s c p ds de rw ul tl sl ms n P P.f R H')
      ⟨now, 0, ⟨U, W, lg, fun _ _ => (-1, 0)⟩, [], none, none, none, none, none, none, none, none, none, rfl, now0, Nat.le_refl _, Nat.zero_le _, Nat.zero_le _, rfl, j16⟩ (fun i σ H' _ ⟨_, _, _, _, _, _, _, _, _, _, _, _, _, _, _, _, _, _, _, j⟩ => SqL.of j.ls) ?_ ?_⟩
    · rintro i y σ Ha hi ⟨nw, n, P, R, v9, v10, v11, v12, v13, v14, v15, v16, v17, rfl, hnw, hni, him, hRi, hlg, j⟩
      have hi2 : i < ms.length := by
        have := (List.getElem?_eq_some_iff.mp hi).1
        rw [List.length_map] at this
        exact this
      -- user
      refine ⟨_, rfl, by show 5 ≤ sizeLine; decide, fun q1 hq1 => ?_⟩
      have t1 := j.st.tracked hq1
      refine ⟨s, c, _, rfl, j.st.upd t1.1 t1.2, .inr ⟨q1, _, rfl, upd_same, t1.1, t1.2, by show 0 < 5; decide, by show 5 ≤ 1000; decide, fun vv hv Hb st2 kp2 => ?_⟩⟩
      have j2 := (j.same (same_upd (o := .lst [.str "ann", .str "bob", .str "eve", .str "joe", .str "zed"]) hq1)).draw st2 kp2
      obtain ⟨u, rfl⟩ : ∃ u : Str, vv = V.str u := by
        simp only [List.mem_cons, List.not_mem_nil, or_false] at hv
        rcases hv with rfl | rfl | rfl | rfl | rfl <;> exact ⟨_, rfl⟩
      -- place
      refine ⟨_, rfl, by show 5 ≤ sizeLine; decide, fun q2 hq2 => ?_⟩
      have t2 := j2.st.tracked hq2
      refine ⟨s, c, _, rfl, j2.st.upd t2.1 t2.2, .inr ⟨q2, _, rfl, upd_same, t2.1, t2.2, by show 0 < 5; decide, by show 5 ≤ 1000; decide, fun vw hw Hc st3 kp3 => ?_⟩⟩
      have j3 := (j2.same (same_upd (o := .lst [.str "p", .str "q", .str "r", .str "s", .str "z"]) hq2)).draw st3 kp3
      obtain ⟨t, rfl⟩ : ∃ t : Str, vw = V.str t := by
        simp only [List.mem_cons, List.not_mem_nil, or_false] at hw
        rcases hw with rfl | rfl | rfl | rfl | rfl <;> exact ⟨_, rfl⟩
      -- seq
      refine ⟨_, rfl, _, rfl, by show 2 ≤ sizeLine; decide, fun q3 hq3 => ?_⟩
      have t3 := j3.st.tracked hq3
      refine ⟨s, c, _, rfl, j3.st.upd t3.1 t3.2, .inr ⟨q3, _, rfl, upd_same, t3.1, t3.2, by decide, by decide, fun vm hm Hd st4 kp4 => ?_⟩⟩
      have j4 := (j3.same (same_upd (o := .lst [.int 4, .int 50]) hq3)).draw st4 kp4
      obtain ⟨m, m0, m1, rfl⟩ : ∃ m : Int, 0 < m ∧ m ≤ 50 ∧ vm = V.int m := by
        simp only [List.mem_cons, List.not_mem_nil, or_false] at hm
        rcases hm with rfl | rfl <;> exact ⟨_, by decide, by decide, rfl⟩
      refine ⟨s, c, m, rfl, j4.st, m0, by omega, fun sq He sq0 sq1 st5 kp5 => ?_⟩
      have j5 := j4.draw st5 kp5
      -- stay
      refine ⟨_, rfl, _, rfl, s, c, 80, rfl, j5.st, by decide, by decide, fun dd Hf dd0 dd1 st6 kp6 => ⟨by show 4 ≤ sizeLine; decide, fun q4 hq4 => ?_⟩⟩
      have j6 := j5.draw st6 kp6
      have t4 := j6.st.tracked hq4
      refine ⟨s, c, _, rfl, j6.st.upd t4.1 t4.2, .inr ⟨q4, _, rfl, upd_same, t4.1, t4.2, by show 0 < 4; decide, by show 4 ≤ 1000; decide, fun vs' hs' Hg st7 kp7 => ?_⟩⟩
      have j7 := (j6.same (same_upd (o := .lst [.int 0, .int 1, .int 9999, .int dd]) hq4)).draw st7 kp7
      obtain ⟨sv, rfl⟩ : ∃ sv : Int, vs' = V.int sv := by
        simp only [List.mem_cons, List.not_mem_nil, or_false] at hs'
        rcases hs' with rfl | rfl | rfl | rfl <;> exact ⟨_, rfl⟩
      clear hv hw hm hs' j j2 j3 j4 j5 j6 hq1 hq2 hq3 hq4 kp2 kp3 kp4 kp5 kp6 kp7
      -- told
      refine ⟨fun v H' => ∃ n' P', v = (if u ∈ P.U ∧ t ∈ P.W then V.int (minI sv lg) else V.non) ∧ P' = (if (u ∈ P.U ∧ t ∈ P.W) ∧ (P.f u t).1 < sq then signP P u t sq (nw + minI sv lg) else P) ∧ n' ≤ n + 1 ∧ GG K s c p ds de rw ul tl sl ms n' P' P.f R H', ?_, ?_⟩
      · obtain ⟨dxp, uap, tap, kS, kE, hpp, _⟩ := j7.pl.ob
        refine ⟨_, rfl, p, dxp, _, rfl, hpp, rfl, _, rfl, _, rfl, _, rfl, _, rfl, _, rfl, p, ds, de, n, P, u, t, sq, sv, nw, rfl, j7.pl, by omega, ?_⟩
        by_cases hm : u ∈ P.U ∧ t ∈ P.W
        · refine .inr ⟨hm, fun Hh pl' fr' => ⟨n + 1, if (P.f u t).1 < sq then signP P u t sq (nw + minI sv lg) else P, ?_, ?_, Nat.le_refl _, ?_⟩⟩
          · rw [if_pos hm, hlg]
          · by_cases hlt : (P.f u t).1 < sq
            · rw [if_pos hlt, if_pos ⟨hm, hlt⟩]
            · rw [if_neg hlt, if_neg fun z => hlt z.2]
          · rw [hlg] at pl'
            refine j7.sign pl' fr' ?_ ?_ <;> split <;> rfl
        · refine .inl ⟨hm, n, P, ?_, ?_, Nat.le_succ _, j7⟩
          · rw [if_neg hm]
          · rw [if_neg fun z => hm z.1]
      rintro v Hh ⟨n', P', rfl, eP', hn', j8⟩
      have eU : P'.U = P.U ∧ P'.W = P.W ∧ P'.lg = lg := by
        rw [eP']
        split
        · exact ⟨rfl, rfl, hlg⟩
        · exact ⟨rfl, rfl, hlg⟩
      -- what the law reckons
      refine ⟨fun σ' H' => ∃ (R' : List Rw) (w16 : Option V), σ' = [some (.ref a), some (.ref s), some (.ref ul), some (.ref tl), some (.int lg), some (.ref gv), some (.ref p), some (.ref rw), some (.int nw), some y, some (.str u), some (.str t), some (.int sq), some (.int sv), some (if u ∈ P.U ∧ t ∈ P.W then V.int (minI sv lg) else V.non), some (if u ∈ P.U ∧ t ∈ P.W then V.int (minI sv lg) else V.non), w16, v17] ∧ R'.length ≤ R.length + 1 ∧ GG K s c p ds de rw ul tl sl ms n' P' P'.f R' H', ?_, ?_⟩
      · have jus := j8.us
        have jts := j8.ts
        rw [eU.1] at jus
        rw [eU.2.1] at jts
        refine ⟨_, rfl, _, rfl, ul, _, rfl, .inl (SqL.of jus), rfl, flat_strs _, _, rfl, ?_⟩
        show (if inV (.str u) (P.U.map V.str) = true then _ else _)
        rw [inV_strs]
        by_cases hu : u ∈ P.U
        · rw [decide_eq_true hu]
          refine iteT ⟨_, rfl, _, rfl, tl, _, rfl, .inl (SqL.of jts), rfl, flat_strs _, _, rfl, ?_⟩
          show (if inV (.str t) (P.W.map V.str) = true then _ else _)
          rw [inV_strs]
          by_cases ht : t ∈ P.W
          · have ev : (if u ∈ P.U ∧ t ∈ P.W then V.int (minI sv lg) else V.non) = V.int (minI sv lg) := if_pos ⟨hu, ht⟩
            rw [decide_eq_true ht, ev]
            refine iteT ⟨_, rfl, _, rfl, _, _, rfl, ?_⟩
            refine ⟨_, rfl, _, rfl, _, rfl, rw, R, P.f, u, t, rfl, j8.lr, by omega, fun b R' Hi L' hb r' f' => ?_⟩
            have j9 := j8.fw f' L'
            have hbr := j9.lr.at_ _ hb
            refine ⟨_, rfl, _, rfl, b, _, 2, _, rfl, rfl, SqL.of hbr, rfl, _, _, rfl, rfl, _, rfl, ?_⟩
            by_cases hlt : (P.f u t).1 < sq
            · rw [decide_eq_true hlt]
              rw [if_pos ⟨⟨hu, ht⟩, hlt⟩] at eP'
              refine iteT ⟨_, rfl, _, rfl, b, _, 2, 2, rfl, rfl, hbr, rfl, ?_⟩
              refine ⟨_, rfl, _, rfl, _, _, rfl, rfl, _, rfl, b, _, 3, 3, rfl, rfl, upd_same, rfl, ?_⟩
              rw [upd_upd]
              have j10 := j9.put (sq := sq) (e := nw + minI sv lg) hb
              rw [show sgn P.f u t sq (nw + minI sv lg) = P'.f by rw [eP']; rfl] at j10
              exact ⟨R', _, rfl, r', j10⟩
            · rw [decide_eq_false hlt]
              rw [if_neg fun z => hlt z.2] at eP'
              rw [eP'] at j9
              refine iteF ⟨R', _, rfl, r', ?_⟩
              rw [eP']
              exact j9
          · have ev : (if u ∈ P.U ∧ t ∈ P.W then V.int (minI sv lg) else V.non) = V.non := if_neg fun z => ht z.2
            rw [decide_eq_false ht, ev]
            rw [if_neg fun z => ht z.1.2] at eP'
            rw [eP'] at j8
            refine iteF ⟨R, _, rfl, Nat.le_succ _, ?_⟩
            rw [eP']
            exact j8
        · have ev : (if u ∈ P.U ∧ t ∈ P.W then V.int (minI sv lg) else V.non) = V.non := if_neg fun z => hu z.1
          rw [decide_eq_false hu, ev]
          rw [if_neg fun z => hu z.1.1] at eP'
          rw [eP'] at j8
          refine iteF (iteF ⟨R, _, rfl, Nat.le_succ _, ?_⟩)
          rw [eP']
          exact j8
      rintro σ' Hi ⟨R', w16, rfl, r', j9⟩
      -- told is what is due
      refine ⟨fun σ' H' => σ' = [some (.ref a), some (.ref s), some (.ref ul), some (.ref tl), some (.int lg), some (.ref gv), some (.ref p), some (.ref rw), some (.int nw), some y, some (.str u), some (.str t), some (.int sq), some (.int sv), some (if u ∈ P.U ∧ t ∈ P.W then V.int (minI sv lg) else V.non), some (if u ∈ P.U ∧ t ∈ P.W then V.int (minI sv lg) else V.non), w16, v17] ∧ H' = Hi, ?_, ?_⟩
      · by_cases hm : u ∈ P.U ∧ t ∈ P.W
        · rw [if_pos hm]
          refine ⟨_, rfl, _, _, _, _, false, rfl, ClsV.ty "bool", TyX.base (TyOf.int _), kit_ty (by decide +kernel), _, rfl, iteF ?_⟩
          refine ⟨_, rfl, _, rfl, rfl, _, rfl, ?_⟩
          rw [decide_eq_true rfl]
          exact iteF ⟨rfl, rfl⟩
        · rw [if_neg hm]
          refine ⟨_, rfl, _, _, _, _, false, rfl, ClsV.ty "bool", TyX.base TyOf.non, kit_ty (by decide +kernel), _, rfl, iteF ?_⟩
          refine ⟨_, rfl, _, rfl, rfl, _, rfl, ?_⟩
          rw [decide_eq_true rfl]
          exact iteF ⟨rfl, rfl⟩
      rintro σ' Hj ⟨rfl, rfl⟩
      -- at later ticks
      refine ⟨_, rfl, _, rfl, _, _, rfl, rfl, _, rfl, _, rfl, _, rfl, _, _, rfl, _, _, rfl, rfl, _, _, rfl, rfl, _, rfl, _, rfl, _, rfl, _, _, rfl, _, _, rfl, rfl, _, rfl, _, _, rfl, rfl, by show 5 ≤ sizeLine; decide, fun lz hlz => ?_⟩
      have s10 := same_upd (o := .lst ([nw, nw + 1, nw + minI sv lg - 1, nw + minI sv lg, nw + 20000].map V.int)) hlz
      have j10 := j9.same s10
      have elz : (upd Hj lz (.lst ([nw, nw + 1, nw + minI sv lg - 1, nw + minI sv lg, nw + 20000].map V.int))) lz = some (.lst ([nw, nw + 1, nw + minI sv lg - 1, nw + minI sv lg, nw + 20000].map V.int)) := upd_same
      have lzrw : lz ≠ rw := (ne_of_none j9.lr.ro hlz).symm
      refine ⟨lz, rfl, ⟨_, SqL.of elz⟩, for_list (K := K) (a := lz) (xs := [nw, nw + 1, nw + minI sv lg - 1, nw + minI sv lg, nw + 20000].map V.int) (fun z σ H' => ∃ (R2 : List Rw) (w17 : Option V), σ = [some (.ref a), some (.ref s), some (.ref ul), some (.ref tl), some (.int lg), some (.ref gv), some (.ref p), some (.ref rw), some (.int nw), some y, some (.str u), some (.str t), some (.int sq), some (.int sv), some (if u ∈ P.U ∧ t ∈ P.W then V.int (minI sv lg) else V.non), some (if u ∈ P.U ∧ t ∈ P.W then V.int (minI sv lg) else V.non), w16, w17] ∧ z ≤ 5 ∧ R2.length ≤ R.length + 1 + 16 * z ∧ GG K s c p ds de rw ul tl sl ms n' P' P'.f R2 H' ∧ H' lz = some (.lst ([nw, nw + 1, nw + minI sv lg - 1, nw + minI sv lg, nw + 20000].map V.int))) ⟨R', v17, rfl, by decide, r', j10, elz⟩ (fun z σ H' _ ⟨_, _, _, _, _, _, q⟩ => SqL.of q) ?_ ?_⟩
      · rintro z yy σ Hk hz ⟨R2, w17, rfl, hz5, hr2, j11, elz1⟩
        have hz6 : z < 5 := (List.getElem?_eq_some_iff.mp hz).1
        obtain ⟨la, rfl⟩ : ∃ la : Int, yy = V.int la := by
          obtain ⟨la, _, e⟩ := List.mem_map.mp (List.mem_of_getElem? hz)
          exact ⟨la, e.symm⟩
        refine ⟨_, rfl, _, rfl, _, _, rfl, rfl, _, rfl, ?_⟩
        by_cases hla : nw ≤ la
        · rw [decide_eq_true hla]
          obtain ⟨dxp, uap, tap, kS, kE, hpp, _⟩ := j11.pl.ob
          refine iteT ⟨_, rfl, _, rfl, _, rfl, _, rfl, _, rfl, p, ds, de, rw, ul, tl, n', P', R2, la, rfl, j11.pl, j11.lr, j11.us, j11.ts, j11.ok, by omega, by omega, fun Hl R3 L3 hr3 f3 => ⟨_, rfl, iteF ?_⟩⟩
          exact ⟨R3, _, rfl, hz6, by omega, j11.fw f3 L3, f3 _ _ elz1 lzrw⟩
        · rw [decide_eq_false hla]
          exact iteF (iteF ⟨R2, _, rfl, hz6, by omega, j11, elz1⟩)
      · rintro σ Hk ⟨R2, w17, rfl, hz5, hr2, j11, elz1⟩
        refine ⟨_, rfl, _, rfl, _, rfl, s, c, 30, rfl, j11.st, by decide, by decide, fun d3 Hl d30 d31 st12 kp12 => ⟨by show 3 ≤ sizeLine; decide, fun q5 hq5 => ?_⟩⟩
        have j12 := j11.draw st12 kp12
        have t5 := j12.st.tracked hq5
        refine ⟨s, c, _, rfl, j12.st.upd t5.1 t5.2, .inr ⟨q5, _, rfl, upd_same, t5.1, t5.2, by show 0 < 3; decide, by show 3 ≤ 1000; decide, fun vz hvz Hm st13' kp13 => ?_⟩⟩
        have j13 := (j12.same (same_upd (o := .lst [.int 0, .int 1, .int d3]) hq5)).draw st13' kp13
        obtain ⟨dz, dz0, rfl⟩ : ∃ dz : Int, 0 ≤ dz ∧ vz = V.int dz := by
          simp only [List.mem_cons, List.not_mem_nil, or_false] at hvz
          rcases hvz with rfl | rfl | rfl
          · exact ⟨_, by decide, rfl⟩
          · exact ⟨_, by decide, rfl⟩
          · exact ⟨_, d30, rfl⟩
        have hr4 : R2.length ≤ R.length + 1 + 16 * 5 := hr2
        exact ⟨_, _, rfl, rfl, nw + dz, n', P', R2, _, _, _, _, _, _, _, _, _, rfl, by omega, by omega, hi2, by omega, eU.2.2, j13⟩
    · rintro σ Ha ⟨nw, n, P, R, v9, v10, v11, v12, v13, v14, v15, v16, v17, rfl, hnw, hni, him, hRi, hlg, j⟩
      obtain ⟨dxp, uap, tap, kS, kE, hpp, _⟩ := j.pl.ob
      rw [List.length_map] at hRi
      exact ⟨_, rfl, _, rfl, _, rfl, _, rfl, _, rfl, p, ds, de, rw, ul, tl, n, P, R, nw, rfl, j.pl, j.lr, j.us, j.ts, j.ok, hnw, by omega, fun H' R' _ _ _ => k H'⟩
end K9
set_option maxHeartbeats 0
namespace K9
open PySem PySem.Spec PyProof.Rows L2 SX TK
/-! ### the head: facts by names, the run -/
def d_Places___init : He.DefD := ⟨("Places", some "__init__"), "__init__", "Places.__init__", defArgs s_Places___init, defBody s_Places___init, defScope s_Places___init, [], []⟩
def d_Places_sign : He.DefD := ⟨("Places", some "sign"), "sign", "Places.sign", defArgs s_Places_sign, defBody s_Places_sign, defScope s_Places_sign, [], []⟩
def d_Places_of : He.DefD := ⟨("Places", some "of"), "of", "Places.of", defArgs s_Places_of, defBody s_Places_of, defScope s_Places_of, [], []⟩
def d_Places_bindings : He.DefD := ⟨("Places", some "bindings"), "bindings", "Places.bindings", defArgs s_Places_bindings, defBody s_Places_bindings, defScope s_Places_bindings, [], []⟩
def d_law_state : He.DefD := ⟨("_law_state", none), "_law_state", "_law_state", defArgs s_law_state, defBody s_law_state, defScope s_law_state, [], []⟩
def d_law_draw : He.DefD := ⟨("_law_draw", none), "_law_draw", "_law_draw", defArgs s_law_draw, defBody s_law_draw, defScope s_law_draw, [], []⟩
def d_law_pick : He.DefD := ⟨("_law_pick", none), "_law_pick", "_law_pick", defArgs s_law_pick, defBody s_law_pick, defScope s_law_pick, [], []⟩
def d_law_find : He.DefD := ⟨("_law_find", none), "_law_find", "_law_find", defArgs s_law_find, defBody s_law_find, defScope s_law_find, [], []⟩
def d_law_agrees : He.DefD := ⟨("_law_agrees", none), "_law_agrees", "_law_agrees", defArgs s_law_agrees, defBody s_law_agrees, defScope s_law_agrees, [], []⟩
def d_law : He.DefD := ⟨("law", none), "law", "law", defArgs s_law, defBody s_law, defScope s_law, [], []⟩
def fnL : List He.DefD := [d_Places___init, d_Places_sign, d_Places_of, d_Places_bindings, d_law_state, d_law_draw, d_law_pick, d_law_find, d_law_agrees, d_law]
def faL : List He.Fa := [.free "abs", .free "bool", .free "int", .free "isinstance", .free "len", .free "list", .free "min", .cls "Places", .noat "Places" "_users", .noat "Places" "_stations", .noat "Places" "_longest", .noat "Places" "_seqs", .noat "Places" "_ends", .glo "Places", .mkr "Places", .meth "Places" "sign", .meth "Places" "of", .meth "Places" "bindings", .glo "_law_state", .glo "_law_draw", .glo "_law_pick", .glo "_law_find", .glo "_law_agrees", .glo "law"]
def loose0 : List Str := ["_law_state", "_law_draw", "_law_pick", "_law_find", "_law_agrees", "Places"]
abbrev Row0 : PySem.W.OpenRow := PySem.W.OpenLaw.row PySem.Challenge.rw_trunkland_k09_places
def exL (K : PySem.W.Frag) : List Bool := []
abbrev hk : PySem.W.Hook := TK.hookX 6 faL fnL exL
def ob (s : PySem.W.SharedT) : He.AlD := TK.obsX 6 faL fnL exL (HandSHeadRun.getT s)
theorem ob_eq (s : PySem.W.SharedT) : ob s = hk.obs s.abs := TK.obsX_eq (HandSHeadRun.getT_eq s)
theorem run (w : World) : HandSHeadRun.RunEq Row0 (PySem.W.view Row0.prog [8]) hk ob 4000 (loose0) w := by
  intro os
  kernel_rfl
theorem facts {P : Program} {w : World} {K : PySem.W.Frag} {h : Heap} {mg : Str → Option Value} {f : Addr} (X : K.In h) (G : h.Ns mainGlobals mg) (hfa : mg ("law" : Str) = some (.ref f)) (c : He.SaysD faL fnL K) (cx : (exL K).all id = true) :
    ∃ fd : FuncData, (∀ (s : Shared) (v : Value), BindsTo s fd ⟨[v], []⟩ [("script", v)]) ∧ ∀ base : Heap, K.In base → base.Ns mainGlobals mg → FnOk P w K mg base CX0 4 f fd ["script"] (spLaw K) := by
  have T : Tx K mg := ⟨He.free_ok X G (c.fact 0 (f := .free "abs") rfl), He.free_ok X G (c.fact 1 (f := .free "bool") rfl), He.free_ok X G (c.fact 2 (f := .free "int") rfl), He.free_ok X G (c.fact 3 (f := .free "isinstance") rfl), He.free_ok X G (c.fact 4 (f := .free "len") rfl), He.free_ok X G (c.fact 5 (f := .free "list") rfl), He.free_ok X G (c.fact 6 (f := .free "min") rfl), He.cls_ok (c.fact 7 (f := .cls "Places") rfl), He.noat_ok (c.fact 8 (f := .noat "Places" "_users") rfl), He.noat_ok (c.fact 9 (f := .noat "Places" "_stations") rfl), He.noat_ok (c.fact 10 (f := .noat "Places" "_longest") rfl), He.noat_ok (c.fact 11 (f := .noat "Places" "_seqs") rfl), He.noat_ok (c.fact 12 (f := .noat "Places" "_ends") rfl)⟩
  obtain ⟨fd_Places___init, F_Places___init⟩ := c.def_ 0 (d := d_Places___init) rfl
  obtain ⟨fd_Places_sign, F_Places_sign⟩ := c.def_ 1 (d := d_Places_sign) rfl
  obtain ⟨fd_Places_of, F_Places_of⟩ := c.def_ 2 (d := d_Places_of) rfl
  obtain ⟨fd_Places_bindings, F_Places_bindings⟩ := c.def_ 3 (d := d_Places_bindings) rfl
  obtain ⟨fd_law_state, F_law_state⟩ := c.def_ 4 (d := d_law_state) rfl
  obtain ⟨fd_law_draw, F_law_draw⟩ := c.def_ 5 (d := d_law_draw) rfl
  obtain ⟨fd_law_pick, F_law_pick⟩ := c.def_ 6 (d := d_law_pick) rfl
  obtain ⟨fd_law_find, F_law_find⟩ := c.def_ 7 (d := d_law_find) rfl
  obtain ⟨fd_law_agrees, F_law_agrees⟩ := c.def_ 8 (d := d_law_agrees) rfl
  obtain ⟨fd_law, F_law⟩ := c.def_ 9 (d := d_law) rfl
  have e := hfa.symm.trans (He.glo_ok X G (c.fact 23 (f := .glo "law") rfl))
  cases e
  have b := FunD.bindsA (ps := ["script"]) F_law fun _ _ _ _ _ _ us hl => match us, hl with | [_], _ => rfl
  refine ⟨fd_law, fun s v => b s [v] rfl, fun base _ _ => ?_⟩
  have c_law_state := cal_of (P := P) (w := w) (base := base) F_law_state (ok_law_state T  F_law_state) (He.glo_ok X G (c.fact 18 (f := .glo "_law_state") rfl)) fun _ _ _ _ _ _ us hl => match us, hl with | [_], _ => rfl
  have c_law_draw := cal_of (P := P) (w := w) (base := base) F_law_draw (ok_law_draw T  F_law_draw) (He.glo_ok X G (c.fact 19 (f := .glo "_law_draw") rfl)) fun _ _ _ _ _ _ us hl => match us, hl with | [_, _], _ => rfl
  have c_law_pick := cal_of (P := P) (w := w) (base := base) F_law_pick (ok_law_pick T c_law_draw F_law_pick) (He.glo_ok X G (c.fact 20 (f := .glo "_law_pick") rfl)) fun _ _ _ _ _ _ us hl => match us, hl with | [_, _], _ => rfl
  have c_mk_Places := mak_of (P := P) (w := w) (base := base) (He.mkr_ok (c.fact 14 (f := .mkr "Places") rfl)) (He.glo_ok X G (c.fact 13 (f := .glo "Places") rfl)) F_Places___init (ok_Places___init T  F_Places___init) fun _ _ _ _ _ _ us hl => match us, hl with | [_, _, _, _], _ => rfl
  have c_Places_sign := met_of (P := P) (w := w) (base := base) T.cl_Places (He.meth_ok (c.fact 15 (f := .meth "Places" "sign") rfl)) F_Places_sign (ok_Places_sign T  F_Places_sign) fun _ _ _ _ _ _ us hl => match us, hl with | [_, _, _, _, _, _], _ => rfl
  have c_Places_of := met_of (P := P) (w := w) (base := base) T.cl_Places (He.meth_ok (c.fact 16 (f := .meth "Places" "of") rfl)) F_Places_of (ok_Places_of T  F_Places_of) fun _ _ _ _ _ _ us hl => match us, hl with | [_, _, _], _ => rfl
  have c_Places_bindings := met_of (P := P) (w := w) (base := base) T.cl_Places (He.meth_ok (c.fact 17 (f := .meth "Places" "bindings") rfl)) F_Places_bindings (ok_Places_bindings T c_Places_of F_Places_bindings) fun _ _ _ _ _ _ us hl => match us, hl with | [_, _], _ => rfl
  have c_law_find := cal_of (P := P) (w := w) (base := base) F_law_find (ok_law_find T  F_law_find) (He.glo_ok X G (c.fact 21 (f := .glo "_law_find") rfl)) fun _ _ _ _ _ _ us hl => match us, hl with | [_, _, _], _ => rfl
  have c_law_agrees := cal_of (P := P) (w := w) (base := base) F_law_agrees (ok_law_agrees T c_law_find c_Places_of c_Places_bindings F_law_agrees) (He.glo_ok X G (c.fact 22 (f := .glo "_law_agrees") rfl)) fun _ _ _ _ _ _ us hl => match us, hl with | [_, _, _, _, _], _ => rfl
  exact ok_law T c_law_state c_law_pick c_law_draw c_mk_Places c_Places_sign c_law_find c_law_agrees F_law
end K9
open PySem PySem.W PySem.Calls PyProof.Rows
theorem PySem.Challenge.cw_trunkland_k09_places_holds : PySem.Challenge.rw_trunkland_k09_places.Holds := by
  w_on; o_law
  refine HandSHeadRun.head_any (r := OpenLaw.row PySem.Challenge.rw_trunkland_k09_places) (q := view (OpenLaw.row PySem.Challenge.rw_trunkland_k09_places).prog [8]) (H := K9.hk) (ob := K9.ob) (M := 4000) (loose := K9.loose0) (d := HandSHeadRun.topDef (OpenLaw.row PySem.Challenge.rw_trunkland_k09_places).prog 8) (kwd := []) K9.ob_eq
    (by kernel_rfl) (fun s => by kernel_rfl) K9.run (by kernel_rfl) (by kernel_rfl) (by kernel_rfl) (by rfl) (by first | assumption | decide +kernel) (by decide +kernel) ⟨rfl, rfl, rfl, rfl, rfl, by decide +kernel⟩ ?hw ?hc
  case hw => w_witness2
  case hc =>
    refine L2.walk_ofE (l := PySem.Challenge.rw_trunkland_k09_places) (n := 63) (k := 4) (x := "script") (CX := L2.CX0) rfl (by decide) (by kernel_rfl) ⟨rfl, by decide, by decide⟩ ?F (fun _ _ _ _ z => z)
    intro w mg fa h Y G hmg0
    obtain ⟨K, KX, c, cx⟩ := Y
    have hmg : mg ("law" : PySem.Str) = some (.ref fa) := by
      have e : (HandSHeadRun.topDef (OpenLaw.row PySem.Challenge.rw_trunkland_k09_places).prog 8).name = ("law" : PySem.Str) := by kernel_rfl
      rw [← e]
      exact hmg0
    obtain ⟨fd, hb, hF⟩ := K9.facts (P := (PySem.Challenge.rw_trunkland_k09_places).prog) (w := w) KX G hmg c cx
    exact ⟨K, fd, K9.spLaw K, KX, hb, fun H a ns hl _ hS => ⟨a, ns, rfl, hS, hl, fun _ => rfl⟩, hF⟩
