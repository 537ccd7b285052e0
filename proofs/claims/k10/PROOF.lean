import PyProof.Rows.All
import Wide.All
import OpenK.AllK
import Wide.FinOn
import HandS.ForMost
import HandS.Defaults
import HandS.Codes
import HandS.IsInst
import HandS.NoneIn
import HandS.Replace
import HandS.Walk
import HandS.Head0
import HandS.Head1
import HandS.Head2
import HandS.HeadEnd
import HandS.HeadHook1
import HandS.HeadHook2
import HandS.MakeKw
import HandS.MakeKwOnly
import HandS.FStr
import HandS.Deep
import HandS.ExcInit
import HandS.ExcIs
import HandS.ExcField
import HandS.ExcCtx
import HandS.ClsMeth
import HandS.Nested
import KE.KExcSuper
import KE.KExcIs
import KE.KIsAll
import HandS.WordsExc
import HandS.DictTup
import HandS.DictSub
import PySem.Challenge.RW_trunkland_k10_tariffs
set_option Elab.async false
set_option linter.all false
set_option maxRecDepth 100000
set_option maxHeartbeats 4000000
/-! Helpers of mine over the hand layer, the same for every law of this program. -/
namespace TK
open PySem PySem.Spec PyProof.Rows L2 C8 SX
section
variable {X : Cx} {x : Str} {pos p : Pos} {k j : Nat} {sp : Sp} {dvs : List V}
theorem pgI {i : Int} (h : ∃ t, X.mg x = some (.int i t)) (hg : Gl X x := by rfl) (hd : (x == ("__debug__" : Str)) = false := by decide) : PE X (.Name x pos) (tC (.int i)) := by
  obtain ⟨t, e⟩ := h
  exact pe_glob hg e ⟨t, rfl⟩ hd
theorem pgS {z : Str} (h : ∃ t, X.mg x = some (.str z t)) (hg : Gl X x := by rfl) (hd : (x == ("__debug__" : Str)) = false := by decide) : PE X (.Name x pos) (tC (.str z)) := by
  obtain ⟨t, e⟩ := h
  exact pe_glob hg e ⟨t, rfl⟩ hd
theorem pgR {a : Addr} (h : X.mg x = some (.ref a)) (hg : Gl X x := by rfl) (hd : (x == ("__debug__" : Str)) = false := by decide) : PE X (.Name x pos) (tC (.ref a)) := pe_glob hg h rfl hd
theorem pe_c0 (c : Cal X.prog X.w X.K X.mg X.base k x sp dvs) (hr : Room j X.A) (hk : k ≤ j) (hg : Gl X x) (hdb : (x == ("__debug__" : Str)) = false := by decide) :
    PE X (.Call (.Name x p) [] [] pos) (tCall sp dvs L2.E0 tNil) := by
  obtain ⟨f, fd, ps, ds, F, hm, kp, b, d⟩ := c.ex
  exact pe_call0 F (hr.mono hk) hg hm kp b d L2.pass0 hdb
end
section
variable {P : Program} {w : World} {K : PySem.W.Frag} {mg : Str → Option Value} {base : Heap}
/-- a def without defaults, as callers want it -/
theorem cal_of {x qual : Str} {params : Arguments} {body : List Stmt} {scope : Scope} {f : Addr} {fd : FuncData} {ps : List Str} {k : Nat} {sp : Sp} (F : FunD K x qual params body scope [] [] f fd) (G : FnOk P w K mg base L2.CX0 k f fd ps sp) (hm : mg x = some (.ref f))
    (h : ∀ (kV doc pm : Value) (an : Option Addr) (cdv ct : Value) (us : List Value), us.length = ps.length → bindArgs (PySem.W.fnOf x qual params body scope .none kV doc pm an cdv ct) ⟨us, []⟩ = pure (ps.zip us)) : Cal P w K mg base k x sp [] :=
  ⟨f, fd, ps, [], G, hm, F.kp, F.bindsN h, .nil⟩
end
/-! ### heaps -/
/-- all that was tracked is as it was, but what stands at two places -/
def Keep (H H' : Hp) (a c : Addr) : Prop := ∀ b o, H b = some o → b ≠ a → b ≠ c → H' b = some o
theorem Keep.refl (H : Hp) (a c : Addr) : Keep H H a c := fun _ _ h _ _ => h
theorem Keep.trans {H H1 H2 : Hp} {a c : Addr} (h : Keep H H1 a c) (k : Keep H1 H2 a c) : Keep H H2 a c := fun b o e h1 h2 => k b o (h b o e h1 h2) h1 h2
theorem Keep.of_same {H H' : Hp} {a c : Addr} (h : Same H H') : Keep H H' a c := fun b o e _ _ => h b o e
theorem same_upd {H : Hp} {p : Addr} {o : HO} (h : H p = none) : Same H (upd H p o) := fun b u e => by
  rw [upd_ne (ne_of_none e h)]
  exact e
/-- the law's source of draws: a list of a list of cells and a seed -/
structure StAt (H : Hp) (s c : Addr) : Prop where
  ne : s ≠ c
  at_ : ∃ n : Int, H s = some (.lst [.ref c, .int n])
  cells : ∃ ns : List Int, H c = some (.lst (ns.map V.int)) ∧ ns.length ≤ 63
theorem StAt.same {H H' : Hp} {s c : Addr} (h : StAt H s c) (e : Same H H') : StAt H' s c := by
  obtain ⟨ne, ⟨n, h1⟩, ns, h2, h3⟩ := h
  exact ⟨ne, ⟨n, e _ _ h1⟩, ns, e _ _ h2, h3⟩
end TK
namespace TK
open PySem PySem.Spec PyProof.Rows L2 C8 SX
/-! ### comprehensions whose elements leave the heap alone -/
theorem lc_pure {J : It} {n : Nat} {G : Hp → Prop} {Y : Nat → Hp → V → Hp → Prop} (w : Walk J n G Y) (f : Nat → V) {g : TG} {tt : TT} {te : TE} {vs : List Nat} {σ : L2.St} {H1 : Hp} {D : Addr} {Qd : Hp → Prop} (hn : n ≤ sizeLine)
    (hG : ∀ i, i ≤ n → G (upd H1 D (.lst ((List.range i).map f))))
    (hs : ∀ (i : Nat) (x : V) (H' : Hp) (k : V → Hp → Prop), i < n → Y i (upd H1 D (.lst ((List.range i).map f))) x H' → k (f i) (upd H1 D (.lst ((List.range i).map f))) →
      g x (wipe σ vs) H' fun σ2 H2 => wipe σ2 vs = wipe σ vs ∧ tt σ2 H2 fun b H3 => b = true ∧ te σ2 H3 k)
    (ht : ∀ σ H Q Q', (∀ b H', Q b H' → Q' b H') → tt σ H Q → tt σ H Q') (hg : ∀ x σ H Q Q', (∀ σ' H', Q σ' H' → Q' σ' H') → g x σ H Q → g x σ H Q')
    (hd : Qd (upd H1 D (.lst ((List.range n).map f)))) :
    ∃ W : Nat → Nat → Hp → Prop, (∃ m, W 0 m (upd H1 D (.lst []))) ∧ ∀ i m H, W i m H →
      (J.stop i H ∧ Qd H) ∨ (J.go i H ∧ ∃ Nx : Hp → Prop, (∀ H', Nx H' → ∃ m', m' < m ∧ W (i + 1) m' H') ∧ ∀ x H', J.yld i H x H' → g x (wipe σ vs) H' fun σ2 H2 => wipe σ2 vs = wipe σ vs ∧ tt σ2 H2 fun b H3 =>
        if b = true then te σ2 H3 fun y H4 => ∃ acc, H4 D = some (.lst acc) ∧ acc.length < sizeLine ∧ Nx (upd H4 D (.lst (acc ++ [y]))) else Nx H3) := by
  refine lc_it w (fun i H => H = upd H1 D (.lst ((List.range i).map f))) rfl (fun i H hi e => e ▸ hG i hi) (fun i x H H' hi e y => ?_) (fun H e => e ▸ hd)
  subst e
  refine hg _ _ _ _ _ (fun σ2 H2 q => ⟨q.1, ht _ _ _ _ (fun b H3 r => ?_) q.2⟩) (hs i x H' (fun y H4 => ∃ acc, H4 D = some (.lst acc) ∧ acc.length < sizeLine ∧ upd H4 D (.lst (acc ++ [y])) = upd H1 D (.lst ((List.range (i + 1)).map f))) hi y ⟨_, upd_same, ?_, ?_⟩)
  · rw [if_pos r.1]
    exact r.2
  · rw [List.length_map, List.length_range]
    omega
  · rw [upd_upd, List.range_succ, List.map_append]
    rfl
/-- the usual target and no test -/
theorem lc_pureN {J : It} {n : Nat} {G : Hp → Prop} {Y : Nat → Hp → V → Hp → Prop} (w : Walk J n G Y) (f : Nat → V) {j : Nat} {te : TE} {vs : List Nat} {σ : L2.St} {H1 : Hp} {D : Addr} {Qd : Hp → Prop} (hn : n ≤ sizeLine)
    (hG : ∀ i, i ≤ n → G (upd H1 D (.lst ((List.range i).map f))))
    (hs : ∀ (i : Nat) (x : V) (H' : Hp) (k : V → Hp → Prop), i < n → Y i (upd H1 D (.lst ((List.range i).map f))) x H' → k (f i) (upd H1 D (.lst ((List.range i).map f))) →
      wipe ((wipe σ vs).set j (some x)) vs = wipe σ vs ∧ te ((wipe σ vs).set j (some x)) H' k)
    (hd : Qd (upd H1 D (.lst ((List.range n).map f)))) :
    ∃ W : Nat → Nat → Hp → Prop, (∃ m, W 0 m (upd H1 D (.lst []))) ∧ ∀ i m H, W i m H →
      (J.stop i H ∧ Qd H) ∨ (J.go i H ∧ ∃ Nx : Hp → Prop, (∀ H', Nx H' → ∃ m', m' < m ∧ W (i + 1) m' H') ∧ ∀ x H', J.yld i H x H' → gName j x (wipe σ vs) H' fun σ2 H2 => wipe σ2 vs = wipe σ vs ∧ tYes σ2 H2 fun b H3 =>
        if b = true then te σ2 H3 fun y H4 => ∃ acc, H4 D = some (.lst acc) ∧ acc.length < sizeLine ∧ Nx (upd H4 D (.lst (acc ++ [y]))) else Nx H3) :=
  lc_pure w f hn hG (fun i x H' k hi y q => ⟨(hs i x H' k hi y q).1, rfl, (hs i x H' k hi y q).2⟩) (fun _ _ _ _ h q => h _ _ q) (fun _ _ _ _ _ h q => h _ _ q) hd
theorem size_tl (z : Str) : z.cps.size = (TL.tl z).length := by simp [TL.tl]
theorem len_eq (z : Str) : z.length = (TL.tl z).length := TL.len_tl z
theorem range_map_getD {α β : Type} (l : List α) (d : α) (f : α → β) : (List.range l.length).map (fun i => f (l.getD i d)) = l.map f := by
  apply List.ext_getElem
  · simp
  · intro i h1 h2
    simp at h1
    simp [h1]
end TK
namespace TK
open PySem PySem.Spec PyProof.Rows L2 SX
theorem ef {b : Bool} (h : ¬ b = true) : b = false := Bool.eq_false_iff.mpr h
/-! ### places in texts -/
theorem at0 {α : Type} {l : List α} (d : α) (h : 0 < l.length) : atI l 0 = some (l.getD 0 d) := by
  cases l with
  | nil => exact absurd h (Nat.lt_irrefl 0)
  | cons a r =>
    show ((if (0 : Int) ≤ 0 then (if (0 : Int) < ((a :: r).length : Nat) then some (0 : Int).toNat else none) else _) : Option Nat).bind _ = _
    rw [if_pos (Int.le_refl 0), if_pos (by rw [List.length_cons]; omega)]
    rfl
theorem atN {α : Type} {l : List α} {i : Int} (d : α) (h0 : 0 ≤ i) (h : i < l.length) : atI l i = some (l.getD i.toNat d) := by
  show ((if (0 : Int) ≤ i then (if i < (l.length : Nat) then some i.toNat else none) else _) : Option Nat).bind _ = _
  rw [if_pos h0, if_pos h]
  show l[i.toNat]? = _
  rw [List.getD_eq_getElem?_getD, List.getElem?_eq_getElem (by omega)]
  rfl
theorem atC {α : Type} (a : α) (r : List α) : atI (a :: r) 0 = some a := at0 a (by simp)
theorem ixP {n : Nat} {i : Int} (h0 : 0 ≤ i) (h : i < n) : ixN n i = some i.toNat := by
  unfold ixN
  rw [if_pos h0, if_pos h]
theorem sqP {n : Nat} {i : Int} (h0 : 0 ≤ i) (h : i < n) : seqIndex? i n = some i.toNat := (ixN_seq (ixP h0 h)).1
theorem ixC {α : Type} (a : α) (r : List α) : ixN (a :: r).length 0 = some 0 := ixP (by decide) (by rw [List.length_cons]; omega)
theorem sqC {α : Type} (a : α) (r : List α) : seqIndex? 0 (a :: r).length = some 0 := sqP (by decide) (by rw [List.length_cons]; omega)
/-- the first place of a sign -/
theorem occ_first1 {l : List Nat} {c : Nat} (h : c ∈ l) : ∃ rest, Builtin.Str.occurrences (S l) (S [c]) 0 (S l).length 1 = l.idxOf c :: rest := by
  have at_iff : ∀ i, StrLaws.At (S l) (S [c]) (S l).length i ↔ l[i]? = some c := by
    intro i
    have e := TL.at_iff (x := S l) (y := S [c]) (by show [c] ≠ []; simp) i
    refine e.trans ?_
    show (((l.drop i).take 1 == [c]) = true) ↔ _
    rw [beq_iff_eq]
    constructor
    · intro q
      cases e2 : l.drop i with
      | nil =>
        rw [e2] at q
        cases q
      | cons a r =>
        rw [e2] at q
        have e3 : a = c := by
          simpa using q
        rw [← e3]
        have e4 : (l.drop i)[0]? = some a := by rw [e2]; rfl
        rw [List.getElem?_drop] at e4
        exact e4
    · intro q
      have hi : i < l.length := (List.getElem?_eq_some_iff.mp q).1
      rw [List.drop_eq_getElem_cons hi]
      have e3 : l[i] = c := (List.getElem?_eq_some_iff.mp q).2
      rw [e3]
      rfl
  rcases StrLaws.occ_head (S l) (S [c]) 1 (Nat.le_refl 1) with ⟨_, hn⟩ | ⟨i, r, e, ha, hn⟩
  · obtain ⟨i, hi, e⟩ := List.mem_iff_getElem.mp h
    exact absurd ((at_iff i).mpr (by rw [List.getElem?_eq_getElem hi, e])) (hn i)
  · refine ⟨r, ?_⟩
    rw [e]
    congr 1
    have h1 := (at_iff i).mp ha
    have hi : i < l.length := (List.getElem?_eq_some_iff.mp h1).1
    have e1 : l[i] = c := (List.getElem?_eq_some_iff.mp h1).2
    have hj : l.idxOf c < l.length := List.idxOf_lt_length_iff.mpr h
    have e2 : l[l.idxOf c] = c := List.getElem_idxOf hj
    rcases Nat.lt_trichotomy i (l.idxOf c) with z | z | z
    · exfalso
      have := List.not_of_lt_findIdx (p := (· == c)) (xs := l) (i := i) z
      simp [e1] at this
    · exact z
    · exfalso
      exact hn _ z ((at_iff _).mpr (by rw [List.getElem?_eq_getElem hj, e2]))
/-- a list cut at the first sign c -/
theorem cut_first {l : List Nat} {c : Nat} (h : c ∈ l) : l = l.take (l.idxOf c) ++ c :: l.drop (l.idxOf c + 1) ∧ c ∉ l.take (l.idxOf c) := by
  have hj : l.idxOf c < l.length := List.idxOf_lt_length_iff.mpr h
  refine ⟨?_, ?_⟩
  · have e2 : l[l.idxOf c] = c := List.getElem_idxOf hj
    have e3 := List.drop_eq_getElem_cons hj
    rw [e2] at e3
    rw [← e3, List.take_append_drop]
  · intro hm
    obtain ⟨i, hi, e⟩ := List.mem_iff_getElem.mp hm
    rw [List.length_take] at hi
    have hi1 : i < l.idxOf c := by omega
    have := List.not_of_lt_findIdx (p := (· == c)) (xs := l) (i := i) hi1
    rw [List.getElem_take] at e
    simp [e] at this
theorem cut_unique {a b a' b' : List Nat} {c : Nat} (h : a ++ c :: b = a' ++ c :: b') (ha : c ∉ a) (ha' : c ∉ a') : a = a' ∧ b = b' := by
  induction a generalizing a' with
  | nil =>
    cases a' with
    | nil => exact ⟨rfl, by simpa using h⟩
    | cons d r =>
      have e : c = d := by simpa using (List.cons.inj h).1
      exact absurd (List.mem_cons.mpr (.inl e)) ha'
  | cons d r ih =>
    cases a' with
    | nil =>
      have e : d = c := by simpa using (List.cons.inj h).1
      exact absurd (List.mem_cons.mpr (.inl e.symm)) ha
    | cons d' r' =>
      obtain ⟨e1, e2⟩ := List.cons.inj h
      obtain ⟨e3, e4⟩ := ih e2 (fun z => ha (List.mem_cons_of_mem _ z)) (fun z => ha' (List.mem_cons_of_mem _ z))
      exact ⟨by rw [e1, e3], e4⟩
end TK
namespace TK
open PySem PySem.Spec PyProof.Rows L2 SX
theorem Keep.upd {H H' : Hp} {s c D : Addr} {o : HO} (k : Keep H H' s c) (hD : H D = none) : Keep H (upd H' D o) s c := fun b u e h1 h2 => by
  rw [upd_ne (ne_of_none e hD)]
  exact k b u e h1 h2
theorem StAt.upd {H : Hp} {s c D : Addr} {o : HO} (h : StAt H s c) (h1 : D ≠ s) (h2 : D ≠ c) : StAt (upd H D o) s c := by
  obtain ⟨ne, ⟨n, a⟩, ns, b, l⟩ := h
  exact ⟨ne, ⟨n, by rw [upd_ne h1.symm]; exact a⟩, ns, by rw [upd_ne h2.symm]; exact b, l⟩
theorem StAt.tracked {H : Hp} {s c D : Addr} (h : StAt H s c) (hD : H D = none) : D ≠ s ∧ D ≠ c := by
  obtain ⟨ne, ⟨n, a⟩, ns, b, l⟩ := h
  exact ⟨fun e => (by rw [e, a] at hD; cases hD), fun e => (by rw [e, b] at hD; cases hD)⟩
theorem Keep.none {H H' : Hp} {s c b : Addr} (k : Keep H H' s c) (h : H' b = Option.none) (h1 : b ≠ s) (h2 : b ≠ c) : H b = Option.none := by
  cases e : H b with
  | none => rfl
  | some o =>
    rw [k b o e h1 h2] at h
    cases h
theorem joinL_nil : ∀ l : List (List Nat), TL.joinL [] l = l.flatten
  | [] => rfl
  | [p] => by simp [TL.joinL]
  | p :: q :: r => by
    show p ++ ([] ++ TL.joinL [] (q :: r)) = _
    rw [joinL_nil (q :: r)]
    rfl
/-- texts of one sign, joined -/
theorem join_ones {ys : List Str} (h : ∀ z ∈ ys, z.length = 1) : (Txt.join "" ys).length = ys.length := by
  have e : (Txt.join ("" : Str) ys) = Str.join "" ys := TL.join_eq "" ys
  rw [e, len_eq, TL.tl_join, show TL.tl ("" : Str) = [] by decide +kernel, joinL_nil]
  induction ys with
  | nil => rfl
  | cons a r ih =>
    have h1 := h a (List.mem_cons_self ..)
    rw [len_eq] at h1
    rw [List.map_cons, List.flatten_cons, List.length_append, ih (fun z hz => h z (List.mem_cons_of_mem _ hz)) (TL.join_eq "" r), List.length_cons, h1]
    omega
theorem sum_ones {ys : List Str} (h : ∀ z ∈ ys, z.length = 1) : (ys.map (·.length)).sum = ys.length := by
  induction ys with
  | nil => rfl
  | cons a r ih =>
    rw [List.map_cons, List.sum_cons, ih (fun z hz => h z (List.mem_cons_of_mem _ hz)), h a (List.mem_cons_self ..), List.length_cons]
    omega
theorem cat_len (a b : Str) : (a ++ b).length = a.length + b.length := by
  rw [len_eq, TL.tl_append, List.length_append, ← len_eq, ← len_eq]
end TK
namespace TK
open PySem PySem.Spec PyProof.Rows L2 SX
/-- lc_it with a plain name as target and no test -/
theorem lc_itN {J : It} {n : Nat} {G : Hp → Prop} {Y : Nat → Hp → V → Hp → Prop} (w : Walk J n G Y) {j : Nat} {te : TE} {vs : List Nat} {σ : L2.St} {H1 : Hp} {D : Addr} {Qd : Hp → Prop} (Pv : Nat → Hp → Prop) (h0 : Pv 0 (upd H1 D (.lst []))) (hG : ∀ i H, i ≤ n → Pv i H → G H)
    (hs : ∀ i x H H', i < n → Pv i H → Y i H x H' → wipe ((wipe σ vs).set j (some x)) vs = wipe σ vs ∧ te ((wipe σ vs).set j (some x)) H' fun y H4 => ∃ acc, H4 D = some (.lst acc) ∧ acc.length < sizeLine ∧ Pv (i + 1) (upd H4 D (.lst (acc ++ [y])))) (hd : ∀ H, Pv n H → Qd H) :
    ∃ W : Nat → Nat → Hp → Prop, (∃ m, W 0 m (upd H1 D (.lst []))) ∧ ∀ i m H, W i m H →
      (J.stop i H ∧ Qd H) ∨ (J.go i H ∧ ∃ Nx : Hp → Prop, (∀ H', Nx H' → ∃ m', m' < m ∧ W (i + 1) m' H') ∧ ∀ x H', J.yld i H x H' → gName j x (wipe σ vs) H' fun σ2 H2 => wipe σ2 vs = wipe σ vs ∧ tYes σ2 H2 fun b H3 =>
        if b = true then te σ2 H3 fun y H4 => ∃ acc, H4 D = some (.lst acc) ∧ acc.length < sizeLine ∧ Nx (upd H4 D (.lst (acc ++ [y]))) else Nx H3) :=
  lc_it w Pv h0 hG (fun i x H H' hi p y => ⟨(hs i x H H' hi p y).1, (hs i x H H' hi p y).2⟩) hd
end TK
namespace TK
open PySem PySem.Spec PyProof.Rows L2 SX
theorem slTo (z : Str) {i : Int} (h : 0 ≤ i) : Txt.slice z none (some i) = S ((TL.tl z).take i.toNat) := slice_to (a := TL.tl z) h
theorem slFrom (z : Str) {i : Int} (h : 0 ≤ i) : Txt.slice z (some i) none = S ((TL.tl z).drop i.toNat) := slice_from (a := TL.tl z) h
theorem log_small {i : Int} (h : i.natAbs < 2 ^ 1900) : i.natAbs.log2 < 1920 := by
  by_cases h0 : i.natAbs = 0
  · rw [h0]
    decide
  · exact (Nat.log2_lt h0).mpr (Nat.lt_of_lt_of_le h (Nat.pow_le_pow_right (by decide) (by decide)))
end TK
namespace TK
open PySem PySem.Spec PyProof.Rows L2 SX
/-! ### comprehensions with a test, the heap left alone -/
theorem lc_filt {J : It} {n : Nat} {G : Hp → Prop} {Y : Nat → Hp → V → Hp → Prop} (w : Walk J n G Y) (f : Nat → V) (b : Nat → Bool) {j : Nat} {tt : TT} {te : TE} {vs : List Nat} {σ : L2.St} {H1 : Hp} {D : Addr} {Qd : Hp → Prop} (hn : n ≤ sizeLine)
    (hG : ∀ i, i ≤ n → G (upd H1 D (.lst (((List.range i).filter b).map f))))
    (ht : ∀ (i : Nat) (x : V) (H' : Hp) (k : Bool → Hp → Prop), i < n → Y i (upd H1 D (.lst (((List.range i).filter b).map f))) x H' → k (b i) (upd H1 D (.lst (((List.range i).filter b).map f))) →
      wipe ((wipe σ vs).set j (some x)) vs = wipe σ vs ∧ tt ((wipe σ vs).set j (some x)) H' k)
    (he : ∀ (i : Nat) (x : V) (H' : Hp) (k : V → Hp → Prop), i < n → b i = true → Y i (upd H1 D (.lst (((List.range i).filter b).map f))) x H' → k (f i) (upd H1 D (.lst (((List.range i).filter b).map f))) →
      te ((wipe σ vs).set j (some x)) (upd H1 D (.lst (((List.range i).filter b).map f))) k)
    (hd : Qd (upd H1 D (.lst (((List.range n).filter b).map f)))) :
    ∃ W : Nat → Nat → Hp → Prop, (∃ m, W 0 m (upd H1 D (.lst []))) ∧ ∀ i m H, W i m H →
      (J.stop i H ∧ Qd H) ∨ (J.go i H ∧ ∃ Nx : Hp → Prop, (∀ H', Nx H' → ∃ m', m' < m ∧ W (i + 1) m' H') ∧ ∀ x H', J.yld i H x H' → gName j x (wipe σ vs) H' fun σ2 H2 => wipe σ2 vs = wipe σ vs ∧ tt σ2 H2 fun b H3 =>
        if b = true then te σ2 H3 fun y H4 => ∃ acc, H4 D = some (.lst acc) ∧ acc.length < sizeLine ∧ Nx (upd H4 D (.lst (acc ++ [y]))) else Nx H3) := by
  refine lc_it w (fun i H => H = upd H1 D (.lst (((List.range i).filter b).map f))) rfl (fun i H hi e => e ▸ hG i hi) (fun i x H H' hi e y => ?_) (fun H e => e ▸ hd)
  subst e
  refine ht i x H' _ hi y ?_
  cases hb : b i with
  | true =>
    refine iteT (he i x H' _ hi hb y ⟨_, upd_same, ?_, ?_⟩)
    · rw [List.length_map]
      exact Nat.lt_of_le_of_lt (List.length_filter_le _ _) (by rw [List.length_range]; omega)
    · rw [upd_upd, List.range_succ, List.filter_append, List.map_append, List.filter_cons_of_pos hb]
      rfl
  | false =>
    refine iteF ?_
    rw [List.range_succ, List.filter_append, List.filter_cons_of_neg (by rw [hb]; exact Bool.false_ne_true), List.filter_nil, List.append_nil]
theorem range_filter_getD {α β : Type} (l : List α) (d : α) (p : α → Bool) (f : α → β) : ((List.range l.length).filter (fun i => p (l.getD i d))).map (fun i => f (l.getD i d)) = (l.filter p).map f := by
  have e := range_map_getD l d (fun x => x)
  rw [List.map_id'] at e
  have h : (l.filter p).map f = (((List.range l.length).map (fun i => l.getD i d)).filter p).map f := by rw [e]
  rw [h, List.filter_map, List.map_map]
  rfl
theorem getD_at {α : Type} {l : List α} {i : Nat} {x : α} (d : α) (h : l[i]? = some x) : l.getD i d = x := by
  rw [List.getD_eq_getElem?_getD, h]
  rfl
/-! ### heads with tables -/
def obsX (n : Nat) (fa : List He.Fa) (fn : List He.DefD) (ex : PySem.W.Frag → List Bool) (g : Addr → Option Obj) : He.AlD :=
  ((He.obsD fa fn (He.frG g (He.asD g n))).1 && (ex (He.frG g (He.asD g n))).all id, (He.obsD fa fn (He.frG g (He.asD g n))).2)
def hookX (n : Nat) (fa : List He.Fa) (fn : List He.DefD) (ex : PySem.W.Frag → List Bool) : PySem.W.Hook where
  α := He.AlD
  obs s := obsX n fa fn ex s.heap.get?
  val _ := He.valD fn
  says _ h := ∃ K : PySem.W.Frag, K.In h ∧ He.SaysD fa fn K ∧ (ex K).all id = true
  of _ _ e := by
    have e1 := congrArg (fun z : He.AlD => z.1) e
    have e2 := congrArg (fun z : He.AlD => z.2) e
    obtain ⟨a, b⟩ := Bool.and_eq_true_iff.mp e1
    exact ⟨_, He.frG_in, Prod.ext a e2, b⟩
  keeps _ _ _ c k := let ⟨K, hK, c1, c2⟩ := c; ⟨K, PySem.W.Frag.In.keeps hK k, c1, c2⟩
theorem obsX_eq {n : Nat} {fa : List He.Fa} {fn : List He.DefD} {ex : PySem.W.Frag → List Bool} {g : Addr → Option Obj} {s : Shared} (h : ∀ a, g a = s.heap.get? a) : obsX n fa fn ex g = (hookX n fa fn ex).obs s := by
  obtain rfl : g = s.heap.get? := funext h
  rfl
theorem exAt {l : List Bool} (h : l.all id = true) (i : Nat) {b : Bool} (e : l[i]? = some b) : b = true := List.all_eq_true.mp h b (List.mem_of_getElem? e)
end TK
namespace TK
open PySem PySem.Spec PyProof.Rows L2 SX
/-! ### rules that name the written part, for use within a comprehension -/
section
variable {X : Cx}
theorem inSeqK (K : PySem.W.Frag) (e : X.K = K) : OpR X (compareOp .In) (rIn K false) := by
  subst e
  exact op_in_seq
theorem notInSeqK (K : PySem.W.Frag) (e : X.K = K) : OpR X (compareOp .NotIn) (rIn K true) := by
  subst e
  exact op_notIn_seq
theorem ixListK (K : PySem.W.Frag) (e : X.K = K) : IxR X (rIxL K) := by
  subst e
  exact ix_list
theorem ixTupK (K : PySem.W.Frag) (e : X.K = K) : IxR X (rIxT K) := by
  subst e
  exact ix_tup
theorem isiK (K : PySem.W.Frag) (e : X.K = K) : CallR X (.builtin "isinstance") (rIsi K) := by
  subst e
  exact call_isi
end
end TK
set_option maxHeartbeats 4000000
namespace TK
open PySem PySem.Spec PyProof.Rows L2 SX
theorem same_upd2 {H H' : Hp} {D : Addr} {o : HO} (s : Same H H') (hD : H D = none) : Same H (upd H' D o) := fun b u e => by
  rw [upd_ne (ne_of_none e hD)]
  exact s b u e
theorem joinL_len (y : List Nat) : ∀ l : List (List Nat), (TL.joinL y l).length ≤ (l.map (·.length)).sum + l.length * y.length
  | [] => by simp [TL.joinL]
  | [p] => by simp [TL.joinL]
  | p :: q :: r => by
    have ih := joinL_len y (q :: r)
    show (p ++ (y ++ TL.joinL y (q :: r))).length ≤ _
    rw [List.length_append, List.length_append, List.map_cons, List.sum_cons, List.length_cons (a := p), Nat.succ_mul]
    omega
theorem join_len (y : Str) (ys : List Str) : (Txt.join y ys).length ≤ (ys.map (·.length)).sum + ys.length * y.length := by
  rw [show Txt.join y ys = Str.join y ys from TL.join_eq y ys, len_eq, TL.tl_join]
  have q := joinL_len (TL.tl y) (ys.map TL.tl)
  rw [List.length_map, List.map_map] at q
  have e : (ys.map (fun x : Str => x.length)) = ys.map ((fun x : List Nat => x.length) ∘ TL.tl) := List.map_congr_left fun x _ => len_eq x
  rw [e, len_eq y]
  exact q
theorem sum_le {m : Nat} : ∀ {ys : List Str}, (∀ z ∈ ys, z.length ≤ m) → (ys.map (·.length)).sum ≤ ys.length * m
  | [], _ => Nat.zero_le _
  | a :: r, h => by
    have ih := sum_le (ys := r) fun z hz => h z (List.mem_cons_of_mem _ hz)
    have h1 := h a (List.mem_cons_self ..)
    rw [List.map_cons, List.sum_cons, List.length_cons, Nat.succ_mul]
    omega
theorem nodup_inr : ∀ ys : List Str, (ys.map (Sum.inr : Str → Key)).Nodup ↔ ys.Nodup
  | [] => by simp
  | a :: r => by
    rw [List.map_cons, List.nodup_cons, List.nodup_cons, nodup_inr r, List.mem_map]
    constructor
    · intro q
      exact ⟨fun m => q.1 ⟨a, m, rfl⟩, q.2⟩
    · intro q
      exact ⟨fun ⟨b, m, e⟩ => q.1 (Sum.inr.inj e ▸ m), q.2⟩
theorem key_strs (ys : List Str) : (ys.map (Sum.inr : Str → Key)).map kV = ys.map V.str := by
  rw [List.map_map]
  rfl
/-- the parts of a text are no longer than the text -/
theorem part_len {z y p : Str} (h : p ∈ Txt.split z y) : p.length ≤ z.length := by
  have j := StrLaws.join_split z y
  have sub : ∀ (l : List (List Nat)) (s : List Nat), ∀ x ∈ l, x.length ≤ (TL.joinL s l).length := by
    intro l s
    induction l with
    | nil => exact fun x hx => nomatch hx
    | cons a r ih =>
      intro x hx
      cases r with
      | nil =>
        rw [List.mem_singleton.mp hx]
        exact Nat.le_refl _
      | cons b r =>
        show x.length ≤ (a ++ (s ++ TL.joinL s (b :: r))).length
        rw [List.length_append, List.length_append]
        rcases List.mem_cons.mp hx with q | q
        · rw [q]
          omega
        · have := ih x q
          omega
  have q := sub ((Txt.split z y).map TL.tl) (TL.tl y) (TL.tl p) (List.mem_map.mpr ⟨p, h, rfl⟩)
  rw [← TL.tl_join, j] at q
  rw [len_eq, len_eq]
  exact q
end TK
namespace TK
open PySem PySem.Spec PyProof.Rows L2 SX
/-! ### a word between an expression and what follows -/
def tCutE (t : TE) : TE := fun σ H Q => ∃ Mid : VK, t σ H Mid ∧ ∀ v H', Mid v H' → Q v H'
def tCutT (t : TT) : TT := fun σ H Q => ∃ Mid : Bool → Hp → Prop, t σ H Mid ∧ ∀ b H', Mid b H' → Q b H'
section
variable {X : Cx} {e : Expr}
theorem pe_cut {t : TE} (h : PE X e t) : PE X e (tCutE t) := ⟨fun pins s σ H _ I ⟨Mid, hm, hq⟩ => thn (h.run pins s σ H Mid I hm) fun _ _ ⟨v, H', I', r, q⟩ => ⟨v, H', I', r, hq v H' q⟩⟩
theorem pt_cut {t : TT} (h : PT X e t) : PT X e (tCutT t) := ⟨fun pins s σ H _ I ⟨Mid, hm, hq⟩ => thn (h.run pins s σ H Mid I hm) fun b _ ⟨H', I', q⟩ => ⟨H', I', hq b H' q⟩⟩
end
end TK
set_option maxHeartbeats 4000000
/-! Own classes: rules that name the class, makers and methods by their promises. -/
namespace TK
open PySem PySem.Spec PyProof.Rows L2 SX
def tFldC (C : Addr) (ta : TE) (f : Str) : TE := fun σ H Q => ta σ H fun x H1 => ∃ a dx fs v, x = .ref a ∧ H1 a = some (.ins C dx fs) ∧ fs.lookup f = some v ∧ Q v H1
def sFldC (C : Addr) (ta tv : TE) (f : Str) : TS := fun D σ H => tv σ H fun y H1 => ta σ H1 fun x H2 => ∃ a dx fs, x = .ref a ∧ H2 a = some (.ins C dx fs) ∧ fs.length < 1000 ∧ D.nx σ (upd H2 a (.ins C dx (putF f y fs)))
section
variable {X : Cx} {K : PySem.W.Frag} {C : Addr} {e o value : Expr} {f : Str} {pos pos' : Pos} {ta tv : TE}
theorem pe_fldC (eK : X.K = K) (c : Cls K C) (n : NoAttr K C f) (he : PE X e ta) (hb : attributeBase e f X.env (eval e X.env) = eval e X.env) : PE X (.Attribute e f pos) (tFldC C ta f) := by
  subst eK
  exact ⟨fun pins s σ H Q I h => (pe_fld (pe_cut he) hb).run pins s σ H Q I ⟨_, h, fun v H' ⟨a, dx, fs, w, e1, e2, e3, q⟩ => ⟨a, C, dx, fs, w, e1, e2, c, n, e3, q⟩⟩⟩
theorem ps_fldC (eK : X.K = K) (c : Cls K C) (n : NoAttr K C f) (ha : PE X o ta) (hv : PE X value tv) (hs : swapsWith value (some (.Attribute o f pos')) pos.line X.env = pure false) : PS X (.Assign [.Attribute o f pos'] value pos) (sFldC C ta tv f) := by
  subst eK
  exact ⟨fun pins s σ H D I h => (ps_fld (pe_cut ha) (pe_cut hv) hs).run pins s σ H D I ⟨_, h, fun v H' h2 => ⟨_, h2, fun x H2 ⟨a, dx, fs, e1, e2, e3, q⟩ => ⟨a, C, dx, fs, e1, e2, c, n, e3, q⟩⟩⟩⟩
end
/-! ### few attributes -/
class SmallF (fs : List (Str × V)) (n : outParam Nat) : Prop where
  le : fs.length ≤ n
instance : SmallF [] 0 := ⟨Nat.le_refl _⟩
instance {x : Str × V} {l : List (Str × V)} {n : Nat} [h : SmallF l n] : SmallF (x :: l) (n + 1) := ⟨Nat.succ_le_succ h.le⟩
theorem putF_len {f : Str} {v : V} : ∀ fs : List (Str × V), (putF f v fs).length ≤ fs.length + 1
  | [] => Nat.le_refl _
  | (g, x) :: r => by
    show (if g = f then (g, v) :: r else (g, x) :: putF f v r).length ≤ _
    by_cases h : g = f
    · rw [if_pos h]
      exact Nat.le_succ _
    · rw [if_neg h]
      exact Nat.succ_le_succ (putF_len r)
instance {f : Str} {v : V} {l : List (Str × V)} {n : Nat} [h : SmallF l n] : SmallF (putF f v l) (n + 1) := ⟨Nat.le_trans (putF_len l) (Nat.succ_le_succ h.le)⟩
theorem sm {fs : List (Str × V)} {n : Nat} [h : SmallF fs n] (hn : n < 1000 := by decide) : fs.length < 1000 := Nat.lt_of_le_of_lt h.le hn
/-! ### makers -/
section
variable {P : Program} {w : World} {K : PySem.W.Frag} {mg : Str → Option Value} {base : Heap}
structure MakK (P : Program) (w : World) (K : PySem.W.Frag) (mg : Str → Option Value) (base : Heap) (k : Nat) (x : Str) (C : Addr) (sp : Sp) (n : Nat) (ks : List Str) (gV : List V → List V → List V) : Prop where
  ex : ∃ (f : Addr) (fd : FuncData) (ps : List Str) (g : List Value → List Value → List Value), Mk K C f ∧ FnOk P w K mg base L2.CX0 k f fd ps sp ∧ mg x = some (.ref C) ∧ KBn K fd ps (n + 1) ks g gV
theorem mak_of {C : Addr} {x n qual : Str} {params : Arguments} {body : List Stmt} {scope : Scope} {f : Addr} {fd : FuncData} {ps : List Str} {k : Nat} {sp : Sp} (M : Mk K C f) (hm : mg x = some (.ref C)) (F : FunD K n qual params body scope [] [] f fd) (G : FnOk P w K mg base L2.CX0 k f fd ps sp)
    (h : ∀ (kV doc pm : Value) (an : Option Addr) (cdv ct : Value) (us : List Value), us.length = ps.length → bindArgs (PySem.W.fnOf n qual params body scope .none kV doc pm an cdv ct) ⟨us, []⟩ = pure (ps.zip us)) : C8.Mak P w K mg base k x C sp [] :=
  ⟨f, fd, ps, [], M, G, hm, F.bindsN h, .nil⟩
theorem met_of {C : Addr} {n qual : Str} {params : Arguments} {body : List Stmt} {scope : Scope} {f : Addr} {fd : FuncData} {ps : List Str} {k : Nat} {sp : Sp} (c : Cls K C) (m : Meth K C n f) (F : FunD K n qual params body scope [] [] f fd) (G : FnOk P w K mg base L2.CX0 k f fd ps sp)
    (h : ∀ (kV doc pm : Value) (an : Option Addr) (cdv ct : Value) (us : List Value), us.length = ps.length → bindArgs (PySem.W.fnOf n qual params body scope .none kV doc pm an cdv ct) ⟨us, []⟩ = pure (ps.zip us)) : C8.Met P w K mg base k C n sp [] :=
  ⟨f, fd, ps, [], c, m, G, F.bindsN h, .nil⟩
theorem metD_of {C : Addr} {n qual : Str} {params : Arguments} {body : List Stmt} {scope : Scope} {dvs : List V} {f : Addr} {fd : FuncData} {ps : List Str} {k : Nat} {sp : Sp} (c : Cls K C) (m : Meth K C n f) (F : FunD K n qual params body scope dvs [] f fd) (G : FnOk P w K mg base L2.CX0 k f fd ps sp) (hd : dvs ≠ []) (hn : dvs.length ≤ ps.length)
    (h : ∀ (T : Addr) (kV doc pm : Value) (an : Option Addr) (cdv ct : Value) (us its : List Value), us.length = ps.length - dvs.length → its.length = dvs.length →
      ∃ k, bindArgs (PySem.W.fnOf n qual params body scope (.ref T) kV doc pm an cdv ct) ⟨us, []⟩ = seqItems? (.ref T) >>= k ∧ k (some its.toArray) = pure (ps.zip (us ++ its.drop 0))) : C8.Met P w K mg base k C n sp dvs := by
  obtain ⟨ds, h1, h2⟩ := F.binds1 (ps := ps) (ps.length - dvs.length) 0 hd (by omega) h
  exact ⟨f, fd, ps, ds, c, m, G, h2, by simpa using h1⟩
end
section
variable {X : Cx} {k j n : Nat} {C : Addr} {x : Str} {sp : Sp} {p pos : Pos} {e : Expr} {es : List Expr} {kws : List Keyword} {ks : List Str} {t tk : TA} {gV : List V → List V → List V}
theorem pe_mk0 {dvs : List V} (c : C8.Mak X.prog X.w X.K X.mg X.base k x C sp dvs) (hr : Room j X.A) (hk : k + 1 ≤ j) (hg : Gl X x) (hdb : (x == ("__debug__" : Str)) = false := by decide) : PE X (.Call (.Name x p) [] [] pos) (tMake C sp dvs L2.E0 tNil) := by
  obtain ⟨f, fd, ps, ds, M, F, hm, b, d⟩ := c.ex
  exact pe_make0 M F (hr.mono hk) hg hm b d L2.pass0 hdb
theorem pe_mkK0 (c : MakK X.prog X.w X.K X.mg X.base k x C sp 0 ks gV) (hr : Room j X.A) (hk : k + 1 ≤ j) (hg : Gl X x) (hkw : PK X kws tk)
    (hall : (backToKw pos (keywordEach kws X.env)).all (·.1.isSome) = true := by rfl) (hks : (backToKw pos (keywordEach kws X.env)).filterMap (·.1) = ks := by rfl) (hdb : (x == ("__debug__" : Str)) = false := by decide)
    (hpl : ((backTo pos (starEach [] X.env)).any (·.1) || (backToKw pos (keywordEach kws X.env)).any (·.1.isNone)) = false := by rfl) :
    PE X (.Call (.Name x p) [] kws pos) (tMakeK C 0 ks.length sp gV L2.E0 tNil tk) := by
  obtain ⟨f, fd, ps, g, M, F, hm, b⟩ := c.ex
  exact pe_makeK0 M F (hr.mono hk) hg hm b L2.pass0 hkw hall hks hdb hpl
end
/-! ### new objects -/
theorem same_own {H : Hp} {x dx C : Addr} {fs : List (Str × V)} (hx : H x = none) (hd : H dx = none) : Same H (upd (upd H dx (.own x)) x (.ins C dx fs)) := fun b o e => by
  rw [upd_ne (ne_of_none e hx), upd_ne (ne_of_none e hd)]
  exact e
theorem Same.upd_of {H H' : Hp} {a : Addr} {o : HO} (s : Same H H') (h : H a = none) : Same H (upd H' a o) := fun b u e => by
  rw [upd_ne (ne_of_none e h)]
  exact s b u e
/-! ### texts that can be laid -/
theorem ok_iff {z : Str} : PyData.strOk z = true ↔ ∀ c ∈ TL.tl z, c < 0x110000 := by
  unfold PyData.strOk TL.tl
  rw [Array.all_eq_true']
  constructor
  · intro h c hc
    simpa using h c (by simpa using hc)
  · intro h c hc
    simpa using h c (by simpa using hc)
theorem ok_cat {a b : Str} (ha : PyData.strOk a = true) (hb : PyData.strOk b = true) : PyData.strOk (a ++ b) = true := by
  rw [ok_iff] at *
  intro c hc
  rw [TL.tl_append, List.mem_append] at hc
  exact hc.elim (ha c) (hb c)
theorem joinL_mem {s : List Nat} {c : Nat} : ∀ l : List (List Nat), c ∈ TL.joinL s l → c ∈ s ∨ ∃ p ∈ l, c ∈ p
  | [], h => by simp [TL.joinL] at h
  | [p], h => .inr ⟨p, List.mem_singleton.mpr rfl, by simpa [TL.joinL] using h⟩
  | p :: q :: r, h => by
    have h2 : c ∈ p ++ (s ++ TL.joinL s (q :: r)) := h
    rw [List.mem_append, List.mem_append] at h2
    rcases h2 with h2 | h2 | h2
    · exact .inr ⟨p, List.mem_cons_self .., h2⟩
    · exact .inl h2
    · rcases joinL_mem (q :: r) h2 with h3 | ⟨x, h3, h4⟩
      · exact .inl h3
      · exact .inr ⟨x, List.mem_cons_of_mem _ h3, h4⟩
theorem ok_join {y : Str} {l : List Str} (hy : PyData.strOk y = true) (hl : ∀ z ∈ l, PyData.strOk z = true) : PyData.strOk (Txt.join y l) = true := by
  rw [TL.join_eq, ok_iff]
  intro c hc
  rw [TL.tl_join] at hc
  rcases joinL_mem _ hc with h | ⟨p, hp, h⟩
  · exact ok_iff.mp hy c h
  · obtain ⟨z, hz, rfl⟩ := List.mem_map.mp hp
    exact ok_iff.mp (hl z hz) c h
def numS (i : Int) : Str := Str.ofString (toString i)
theorem numS_tl {i : Int} (h : 0 ≤ i) : TL.tl (numS i) = TL.numL i.toNat := by
  have e : i = ((i.toNat : Nat) : Int) := (Int.toNat_of_nonneg h).symm
  rw [e]
  exact TL.tl_num _
theorem ok_num {i : Int} (h : 0 ≤ i) : PyData.strOk (numS i) = true := by
  rw [ok_iff, numS_tl h]
  intro c hc
  exact Nat.lt_of_not_le fun q => TL.numL_free (n := i.toNat) (s := c) (.inr (by omega)) hc
theorem numS_len {i : Int} (h : i.natAbs < 1000000000) : (numS i).length ≤ 10 := by
  have e := int_text_length_le10 (a := i) (k := 9) (by decide) (by omega)
  show (Str.ofString (toString i)).length ≤ 10
  rw [PySem.ofString_length]
  omega
theorem numS_log {i : Int} (h : i.natAbs < 1000000000) : i.natAbs.log2 < 1920 := log_small (Nat.lt_of_lt_of_le h (by decide))
theorem szl {z : Str} (h : z.length ≤ 100000) : z.length ≤ sizeLine := Nat.le_trans h (by decide)
theorem ne_ins {H : Hp} {a b C C' dx dx' : Addr} {fs fs' : List (Str × V)} (h : H a = some (.ins C dx fs)) (h' : H b = some (.ins C' dx' fs')) (n : fs.length ≠ fs'.length) : a ≠ b :=
  ne_of h h' fun e => by
    injection e with _ _ e2
    exact n (congrArg List.length e2)
/-- only what stands at A has changed -/
def Fr (A : List Addr) (H H' : Hp) : Prop := ∀ b o, H b = some o → b ∉ A → H' b = some o
theorem Fr.of_same {A : List Addr} {H H' : Hp} (s : Same H H') : Fr A H H' := fun b o e _ => s b o e
theorem Fr.refl (A : List Addr) (H : Hp) : Fr A H H := fun _ _ e _ => e
theorem Fr.trans {A : List Addr} {H H1 H2 : Hp} (s : Fr A H H1) (t : Fr A H1 H2) : Fr A H H2 := fun b o e n => t b o (s b o e n) n
theorem Fr.trans_new {A A' : List Addr} {H H1 H2 : Hp} (s : Fr A H H1) (t : Fr A' H1 H2) (n : ∀ b ∈ A', b ∈ A ∨ H b = none) : Fr A H H2 := fun b o e hn => t b o (s b o e hn) fun m => (n b m).elim hn fun z => by rw [e] at z; cases z
end TK
set_option maxHeartbeats 2000000
/-! Own exceptions over own classes over ValueError, whose __init__ says super().__init__(text) and keeps one field. -/
namespace TKE
open PySem PySem.Spec PyProof.Rows L2
structure SupTxt (K : PySem.W.Frag) (P : Program) (C fI cda cc : Addr) : Prop where
  oex : OexC K C
  iC : PySem.W.findIn K (.ref C) "__init__" = some (some (.ref fI))
  tI : PySem.W.typeIn K (.ref fI) = some (.type "function")
  sup : PySem.W.ks_superIn K C C "__init__" = some (some (.builtin "ValueError.__init__"))
  subVE : PySem.W.subIn K (.ref C) (.type "ValueError") = some true
  mroC : PySem.W.mroIn K C (.ref C) = some true
  hop : PySem.W.nsIn K cStatics "thirdparty.any" = some none
  code : ∃ ccl cdd vs ccs file tf, K.lookup cda = some ⟨ccl, cdd, .fields vs, ccs⟩ ∧ vs[2]? = some (.str file tf) ∧ ((P.main.file : Str) == file) = true
  cell : ∃ cl cld csl, K.lookup cc = some ⟨cl, cld, .cell (some (.ref C)), csl⟩
section
variable {prog : Program} {w : World} {A : Around} {E : Value → Shared → Prop} {h : Heap} {g : Array GenState} {d : Drawn} {t : Nat} {os : OsState}
/-- the bound ValueError.__init__, called -/
theorem mw_call {nm q : Str} {C N u a t0 : Addr} {bs bm : List Value} {hdct : Bool} {sn : List Str} {sub : List Value} {ab : Bool} {col : Option Bool} {dd : Option Addr} {k0 k1 k2 k3 k5 : Option Value} {rest : List Value} {Q : Value → Shared → Prop}
    (hC : h.get? C = some (excClassObj nm q C N bs bm hdct sn sub ab col dd k0 k1 k2 k3 k5 "ValueError.__new__"))
    (he : h.get? a = some ({ cls := .ref C, dict := none, data := .fields #[.ref t0, .none, .none, .none, .bool false, .none] } : Obj)) (hu : h.get? u = some (PySem.W.kxs_mw "ValueError.__init__" a)) (hz : rest.length ≤ sizeLine)
    (hq : ∀ h' t', (∀ b o, b ≠ a → h.get? b = some o → h'.get? b = some o) → h'.get? a = some ({ cls := .ref C, dict := none, data := .fields #[.ref t', .none, .none, .none, .bool false, .none] } : Obj) → Q .none ⟨h', g, d, t, os⟩) :
    wpAny (model prog w) A (call (.ref u) rest) Q E ⟨h, g, d, t, os⟩ := by
  have FB := F.excBase_ValueError
  refine wpAny_call (codeAny_of_tree ?_)
  change wpAny _ A.in1 (callAny (.ref u) ⟨rest, []⟩) _ _ _
  simp only [callAny]
  refine wpAny_bind (wpAny_load hu ?_)
  have em : (Value.type "method-wrapper" == Value.type "method" || Value.type "method-wrapper" == Value.type "builtin_function_or_method" || Value.type "method-wrapper" == Value.type "method-wrapper") = true := by decide
  simp only [PySem.W.kxs_mw, em, if_true]
  refine PySem.W.KFB.if_so (by decide) ?_
  refine wpAny_bind (PySem.W.check_bound_init FB.toExcCallFacts hC he rfl (wpAny_bind (wpAny_pure (wpAny_pure ?_))))
  refine ⟨plainId_quiet FB.init.plain _, codeAny_builtin FB.initEntry (PySem.W.exc_init_tree (t0 := t0) (cls := .ref C) (dv := none) (c2 := .none) (c3 := .none) (b4 := .bool false) he hz fun h' k e' _ => hq h' _ k e')⟩
end
theorem boot_super : bootBuiltins "super" = some (.type "super") := by first | boot_by_name | rfl | kernel_rfl
section
variable {X : Cx} {pins : List (Addr × Obj)} {σ : L2.St} {H : Hp} {s : Shared} {C fI cda cc a : Addr} {body : List Stmt} {p0 p1 apos pos pos' : Pos} {e : Expr} {te : TE} {pl : Sem Bool} {fd : FuncData} {ar : Arg} {Q' : Hp → Prop} {oc : Value} {od : Option Addr} {osl : Array (Option Value)}
theorem sup_stmt (T : SupTxt X.K X.prog C fI cda cc) (hfu : X.env.func = some fI) (hf : X.K.lookup fI = some ⟨oc, od, .func fd, osl⟩) (hp : (fd.params.posonlyargs ++ fd.params.args).head? = some ar) (hco : X.env.code = .ref cda)
    (hks : X.env.kindOf "super" = some .globalImplicit) (hkc : X.env.kindOf "__class__" = some .free) (hcl : X.env.cells.lookup ("__class__" : Str) = some cc) (hka : X.env.kindOf ar.arg = some .local) (hN : X.N[0]? = some ar.arg)
    (hm : X.mg "super" = none) (htop : (X.prog.main.scope.names.lookup ("super" : Str)).isSome = false)
    (I : Inv X pins σ H s) (hσ : σ[0]? = some (some (.ref a))) (ha : H a = some (exo a C none)) (he : PE X e te) (h : te σ H fun v H1 => H1 a = some (exo a C none) ∧ Q' H1 ∧ [v].length = 1)
    (hev : eval (.Call (.Attribute (.Call (.Name "super" p0) [] [] p1) "__init__" apos) [e] [] pos) X.env = (do
      let ov ← attributeBase (.Call (.Name "super" p0) [] [] p1) "__init__" X.env (eval (.Call (.Name "super" p0) [] [] p1) X.env)
      standAt apos.atName
      let (f, first) ← holding [ov] (getMethod ov "__init__" pl)
      callWith pos f first (backTo pos (starEach [e] X.env)) []))
    (hi : interactive X.env = false) (hsw : swapsWith (.Call (.Attribute (.Call (.Name "super" p0) [] [] p1) "__init__" apos) [e] [] pos) none pos'.line X.env = pure false)
    (hst : starEach [e] X.env = (false, eval e X.env) :: starEach [] X.env) :
    _root_.PySem.wpAt (model X.prog X.w) X.A (.func body X.env) (exec (.Expr (.Call (.Attribute (.Call (.Name "super" p0) [] [] p1) "__init__" apos) [e] [] pos) pos') X.env) (fun fl s' => fl = .next ∧ ∃ H1, Inv X pins σ H1 s' ∧ Q' H1) X.xe s := by
  have KX := I.kIn
  refine ks_wpAt_Expr_any (ks_wpAt_MethodCall (pl := pl) ?_ hev) hi hsw
  obtain ⟨ccl, cdd, vs, ccs, file, tf, hcd, hvs, hfile⟩ := T.code
  obtain ⟨cl, cld, csl, hcc⟩ := T.cell
  refine ks_wpAt_super_base hks hkc (by decide) hfu (KX _ _ hf) rfl hp hco (KX _ _ hcd) rfl hvs hfile htop ?_
  obtain ⟨mb, hb1, hb2⟩ := I.mod.blt
  refine PySem.W.ks_loadName_global I.ok.kind hks (Calls.loadGlobal_builtin (by rw [I.ok.glob]; exact I.mod.glob.keeps I.bk) hm (by rw [I.ok.blt]; exact hb1.keeps I.bk) ((hb2 _ (by decide)).trans boot_super) ⟨rfl, ?_⟩)
  refine wpAny_loadName_free I.ok.kind hkc hcl ⟨_, KX _ _ hcc, rfl⟩ ?_
  obtain ⟨m, hns, hloc⟩ := I.loc
  obtain ⟨u, ru, hlk⟩ := hloc 0 ar.arg (.ref a) hN hσ (.inl hka)
  obtain rfl : u = Value.ref a := ru
  have hv : m ar.arg = some (.ref a) := by
    rcases hlk with ⟨_, z⟩ | ⟨z, _⟩
    · exact z
    · rw [hka] at z
      rcases z with z | z <;> cases z
  refine wpAny_loadName_local I.ok.kind hka hns hv ?_
  obtain ⟨nm, q, N, bs, bm, sn, sub, ab, col, dd, k0, k1, k2, k3, k5, hC, hbm⟩ := T.oex.cls
  obtain ⟨t1, ho⟩ := exo_at I.hok ha
  have hkC := KX _ _ hC
  obtain ⟨hp0, g, d, t, os⟩ := s
  refine ks_wpAny_isType_cls hkC rfl ⟨rfl, ?_⟩
  refine ks_wpAny_call_super hkC rfl ho rfl (fun c z => nomatch z) (PySem.W.looks_mroIn KX T.mroC) (fun h1 e1 kk => ?_)
  have I1 : Inv X pins σ H ⟨h1, g, d, t, os⟩ := I.kept (t' := t) kk
  have ho1 := kk _ _ ho
  have aC : a ≠ C := fun z => by
    rw [z] at ho
    have := ho.symm.trans hkC
    cases this
  have hcls : PySem.W.clsIn X.K C = some { name := nm, bases := bs, mro := .ref C :: bm, ns := N, qualname := q, hasDict := true, slotNames := sn, subclasses := sub, abstract := ab, collection := col, hasDel := false } := by unfold PySem.W.clsIn; rw [hC] <;> rfl
  have hsup := T.sup
  unfold PySem.W.ks_superIn at hsup
  rw [hcls] at hsup
  have II : PySem.W.InstAt h1 a ({ cls := .ref C, dict := none, data := .fields #[.ref t1, .none, .none, .none, .bool false, .none] } : Obj) C none := ⟨ho1, rfl, rfl, trivial⟩
  refine PySem.W.kxs_getMethod PySem.W.kxs_ValueError e1 (PySem.W.looks_opaque I1.kIn T.hop) (fun A Q E s k q => wpAny_bind ((PySem.W.looks_clsIn I1.kIn hcls) A _ E s k (wpAny_pure q))) rfl I1.kIn hsup (II.type.andThen (PySem.W.looks_subIn I1.kIn T.subVE)) aC (by decide) ?_
  have I2 : Inv X ((h1.objs.size, PySem.W.kxs_mw "ValueError.__init__" a) :: pins) σ H ⟨h1.push (PySem.W.kxs_mw "ValueError.__init__" a), g, d, t + 1, os⟩ :=
    ClX.pin_new I1 (fun b o z => Heap.get?_push_of_some _ z) (Nat.le_refl _) (Heap.get?_push_at rfl rfl) (fun v z => nomatch z)
  refine PySem.W.kxs_callWith (i := "ValueError.__init__") (x := a) (by rw [hst]; rfl) ?_
  rw [hst]
  refine Calls.evalArgs_plain ?_
  have hpa := (pa_cons he pa_nil hst).run pos _ _ σ H (fun vs H1 => H1 a = some (exo a C none) ∧ Q' H1 ∧ vs.length = 1) I2 h
  rw [hst] at hpa
  refine thn hpa fun us s2 ⟨vs2, H2, I3, r, q1, q2, q3⟩ => ?_
  obtain ⟨t2, ho2⟩ := exo_at I3.hok q1
  refine ⟨ClX.pin_at I3, ?_⟩
  obtain ⟨hp2, g2, d2, t2', os2⟩ := s2
  refine mw_call (I3.kIn _ _ hC) ho2 (ClX.pin_at I3) (by show us.length ≤ sizeLine; rw [← r.length, q3]; decide) fun h' t' k' e' => ⟨rfl, H2, ?_, q2⟩
  have J := (ClX.unpin I3).write (t' := t2') (x := a) (e := a) (o := exo a C none) (by rw [q1]; exact True.intro) (.inl rfl) k' ⟨_, e'⟩ (exo_ok e')
  have eu : upd H2 a (exo a C none) = H2 := by
    funext b
    by_cases hb : b = a
    · rw [hb, upd_same, q1]
    · rw [upd_ne hb]
  rw [eu] at J
  exact J
end
end TKE
set_option maxHeartbeats 2000000
set_option pp.maxSteps 300
/-! The __init__ of such an exception as a def; raising it; makers that may raise; isinstance of a caught one. -/
namespace TKE
open PySem PySem.Spec PyProof.Rows L2 NdefX
section
variable {P : Program} {w : World} {K : PySem.W.Frag} {mg : Str → Option Value} {base : Heap}
abbrev supN (x : Str) : List Str := ["self", x, "__class__"]
abbrev supF (qual : Str) (params : Arguments) (body : List Stmt) (scope : Scope) (cda cc : Addr) : NF := ⟨"__init__", qual, params, body, scope, [("__class__", cc)], cda⟩
theorem fnok_sup {C fI cda cc : Addr} {qual x : Str} {params : Arguments} {body : List Stmt} {scope : Scope} {doc pm ct : Value} {an : Option Addr} {oc : Value} {od : Option Addr} {osl : Array (Option Value)} {sp : Sp}
    {p0 p1 apos pos pos' : Pos} {e : Expr} {rest : List Stmt} {ar : Arg} {pl : Sem Bool}
    (T : SupTxt K P C fI cda cc)
    (hK : K.lookup fI = some ⟨oc, od, .func (PySem.W.fnX "__init__" qual params body scope [("__class__", cc)] .none .none doc pm an (.ref cda) ct), osl⟩) (hcd : PySem.W.codeIn K (.ref cda) qual = true)
    (S : NScope (supN x) ["self", x] ["__class__"] scope) (hsup : scope.names.lookup ("super" : Str) = some .globalImplicit) (hcls : scope.names.lookup ("__class__" : Str) = some .free)
    (hp : (params.posonlyargs ++ params.args).head? = some ar) (har : ar.arg = "self")
    (hbody : body = .Expr (.Call (.Attribute (.Call (.Name "super" p0) [] [] p1) "__init__" apos) [e] [] pos) pos' :: rest)
    (hm : mg "super" = none) (htop : (P.main.scope.names.lookup ("super" : Str)).isSome = false)
    (len : ∀ vs H Q E, sp vs H Q E → vs.length = 2)
    (hb : ∀ (A : Around) (outer : List Env) (s : Shared) (H : Hp) (vs : List V) (Q : VK) (E : XK), sp vs H Q E → ∃ (a : Addr) (y : V) (te : TE) (t2 : TS), vs = [.ref a, y] ∧ H a = some (exo a C none) ∧
      PE (ncx CX0 P w K mg base (supN x) (supF qual params body scope cda cc) fI A outer s H E) e te ∧ PSs (ncx CX0 P w K mg base (supN x) (supF qual params body scope cda cc) fI A outer s H E) rest t2 ∧
      te (startF (supN x) vs [none]) H fun v H1 => H1 a = some (exo a C none) ∧ t2 { nx := fun _ H' => Q .non H', rt := Q } (startF (supN x) vs [none]) H1 ∧ [v].length = 1)
    (hev : ∀ (A : Around) (outer : List Env) (s : Shared) (H : Hp) (E : XK), eval (.Call (.Attribute (.Call (.Name "super" p0) [] [] p1) "__init__" apos) [e] [] pos) (ncx CX0 P w K mg base (supN x) (supF qual params body scope cda cc) fI A outer s H E).env = (do
      let ov ← attributeBase (.Call (.Name "super" p0) [] [] p1) "__init__" (ncx CX0 P w K mg base (supN x) (supF qual params body scope cda cc) fI A outer s H E).env (eval (.Call (.Name "super" p0) [] [] p1) (ncx CX0 P w K mg base (supN x) (supF qual params body scope cda cc) fI A outer s H E).env)
      standAt apos.atName
      let (f, first) ← holding [ov] (getMethod ov "__init__" pl)
      callWith pos f first (backTo pos (starEach [e] (ncx CX0 P w K mg base (supN x) (supF qual params body scope cda cc) fI A outer s H E).env)) []))
    (hi : ∀ (A : Around) (outer : List Env) (s : Shared) (H : Hp) (E : XK), interactive (ncx CX0 P w K mg base (supN x) (supF qual params body scope cda cc) fI A outer s H E).env = false)
    (hsw : ∀ (A : Around) (outer : List Env) (s : Shared) (H : Hp) (E : XK), swapsWith (.Call (.Attribute (.Call (.Name "super" p0) [] [] p1) "__init__" apos) [e] [] pos) none pos'.line (ncx CX0 P w K mg base (supN x) (supF qual params body scope cda cc) fI A outer s H E).env = pure false)
    (hst : ∀ (A : Around) (outer : List Env) (s : Shared) (H : Hp) (E : XK), starEach [e] (ncx CX0 P w K mg base (supN x) (supF qual params body scope cda cc) fI A outer s H E).env = (false, eval e (ncx CX0 P w K mg base (supN x) (supF qual params body scope cda cc) fI A outer s H E).env) :: starEach [] (ncx CX0 P w K mg base (supN x) (supF qual params body scope cda cc) fI A outer s H E).env) :
    FnOk P w K mg base CX0 1 fI (PySem.W.fnX "__init__" qual params body scope [("__class__", cc)] .none .none doc pm an (.ref cda) ct) ["self", x] sp := by
  refine ⟨len, fun A outer s H args us vs Q E hr e0 hbi r hsp => ?_⟩
  have KX : K.In s.heap := e0.mod.kin.keeps fun b o z => (e0.bs b o z).1
  have lim : s.heap.NoLimit := e0.mod.nolimit.keeps fun b o z => (e0.bs b o z).1
  have hl : vs.length = (["self", x] : List Str).length := len _ _ _ _ hsp
  obtain ⟨cl, cld, csl, hcc⟩ := T.cell
  have cat : CellsAt [("__class__", cc)] ["__class__"] [none] s.heap H := by
    have hcell : s.heap.IsCell cc (some (.ref C)) := ⟨_, KX _ _ hcc, rfl⟩
    have hnone : H cc = none := (e0.bs cc _ (e0.mod.kin _ _ hcc)).2
    have key : ∀ (y : Str) (c : Addr), List.lookup y [(("__class__" : Str), cc)] = some c → c = cc ∧ y = "__class__" := by
      intro y c hy
      rw [List.lookup_cons] at hy
      by_cases q : (y == ("__class__" : Str)) = true
      · rw [q] at hy
        exact ⟨(Option.some.inj hy).symm, beq_iff_eq.mp q⟩
      · rw [show (y == ("__class__" : Str)) = false by simpa using q] at hy
        cases hy
    refine ⟨rfl, fun y c hy => ?_, fun y z c h1 h2 => ?_, fun i y hy => ?_⟩
    · obtain ⟨rfl, _⟩ := key y c hy
      exact ⟨hnone, _, hcell⟩
    · rw [(key y c h1).2, (key z c h2).2]
    · refine ⟨cc, ?_, fun v hv => ?_⟩
      · match i, hy with
        | 0, hy =>
          cases hy
          rfl
      · match i, hv with
        | 0, hv => cases hv
  obtain ⟨a, y, te, t2, ev, ha, he, h2, hq⟩ := hb A outer s H vs Q E hsp
  refine ks_codeAny_call_defAt (fd := PySem.W.fnX "__init__" qual params body scope [("__class__", cc)] .none .none doc pm an (.ref cda) ct) (body := body) (binds := (["self", x] : List Str).zip us) hr.depth (KX _ _ hK) rfl lim (PySem.W.codeRec_of KX hcd) rfl hbi S.nocell
    (fun ⟨n, _⟩ hy => S.par n (List.of_mem_zip hy).1) (fun h₁ hns kp => ?_) S.co S.gen S.kind
  have I : Inv (ncx CX0 P w K mg base (supN x) (supF qual params body scope cda cc) fI A outer s H E) [] (startF (supN x) vs [none]) H { s with heap := h₁, toks := s.toks + ((["self", x] : List Str).zip us).length } := inv_startN S hr.hd e0 hl r cat hns kp
  have hT : SupTxt (ncx CX0 P w K mg base (supN x) (supF qual params body scope cda cc) fI A outer s H E).K (ncx CX0 P w K mg base (supN x) (supF qual params body scope cda cc) fI A outer s H E).prog C fI cda cc := T
  have q1 := sup_stmt (body := body) (pl := pl) (ar := ar) hT rfl hK hp rfl hsup hcls rfl (by rw [har]; exact S.par _ (List.mem_cons_self ..)) (by rw [har]; rfl) hm htop I (by rw [ev]; rfl) ha he hq (hev A outer s H E) (hi A outer s H E) (hsw A outer s H E) (hst A outer s H E)
  have fin : ∀ {σ' : L2.St} {H' : Hp} {v : V} {u : Value} {s' : Shared}, Inv (ncx CX0 P w K mg base (supN x) (supF qual params body scope cda cc) fI A outer s H E) [] σ' H' s' → RelV v u → Q v H' → CE outer P w H s Q u s' := fun {σ' H' v u s'} J rv q => ⟨v, H', J.os, J.bare, J.base, J.hok, rv, q⟩
  rw [hbody] at q1 ⊢
  refine ks_wpAt_execs_cons (ks_wpAt_mono q1 (fun fl s' hfl => ?_) fun e s' z => z)
  obtain ⟨rfl, H1, I1, q⟩ := hfl
  refine wpAt_of_wpAny (wpAny_mono (h2.run [] _ _ H1 _ I1 q) (fun fl s' hs => ?_) fun e s' z => z)
  cases fl with
  | ret u =>
    obtain ⟨v, σ', H', J, rv, q⟩ := hs
    exact fin J rv q
  | next =>
    obtain ⟨σ', H', J, q⟩ := hs
    exact fin (v := V.non) (u := Value.none) J rfl q
  | brk =>
    obtain ⟨_, _, _, z⟩ := hs
    exact False.elim z
  | cont =>
    obtain ⟨_, _, _, z⟩ := hs
    exact False.elim z
end
end TKE
set_option maxHeartbeats 2000000
set_option pp.maxSteps 300
/-! Raising such an exception; makers that may raise; isinstance of a caught one. -/
namespace TKE
open PySem PySem.Spec PyProof.Rows L2 NdefX TK
/-- the promise of its __init__ -/
def spExc (C : Addr) (fld : Str) (ok : V → Prop) : Sp := fun vs H Q _ => ∃ (a : Addr) (y : V), vs = [.ref a, y] ∧ ok y ∧ H a = some (exo a C none) ∧ ∀ dx, H dx = none → dx ≠ a → Q .non (upd (upd H dx (exd dx [(fld, y)])) a (exo a C (some dx)))
section
variable {P : Program} {w : World} {K : PySem.W.Frag} {mg : Str → Option Value} {base : Heap}
structure ExcMk (P : Program) (w : World) (K : PySem.W.Frag) (mg : Str → Option Value) (base : Heap) (x : Str) (C : Addr) (fld : Str) (ok : V → Prop) : Prop where
  ex : ∃ (fI : Addr) (fd : FuncData) (ps : List Str), OexC K C ∧ PySem.W.findIn K (.ref C) "__init__" = some (some (.ref fI)) ∧ PySem.W.typeIn K (.ref fI) = some (.type "function") ∧ FnOk P w K mg base CX0 1 fI fd ps (spExc C fld ok) ∧ Binds K fd ps [] ∧ mg x = some (.ref C)
end
section
variable {X : Cx} {W : WX} {C : Addr} {x fld : Str} {ok : V → Prop} {p pos pos' : Pos} {e : Expr} {es : List Expr} {te : TE} {j : Nat}
theorem ps_raiseE (c : ExcMk X.prog X.w X.K X.mg X.base x C fld ok) (hc : X.calm = true) (tk : Takes X W) (hr : Room j X.A) (hk : 2 ≤ j) (hg : Gl X x) (he : PE X e te)
    (hdb : (x == ("__debug__" : Str)) = false := by decide) (hs : starEach (e :: es) X.env = (false, eval e X.env) :: starEach es X.env := by rfl) (hes : es = [] := by rfl) (hpl : (backTo pos (starEach es X.env)).any (·.1) = false := by rfl) :
    PS X (.Raise (some (.Call (.Name x p) (e :: es) [] pos)) none pos') (fun _ σ H => te σ H fun y H1 => ok y ∧ ∀ d, H1 d = none → W (.ref C) (some d) σ (upd H1 d (.xd [(fld, y)]))) := by
  subst hes
  obtain ⟨fI, fd, ps, T, iC, tI, F1, hb, hm⟩ := c.ex
  refine ⟨fun pins s σ H D I h => ?_⟩
  refine (ps_raise hc tk (pmk_oex T iC tI F1 (hr.mono hk) hb .nil (fun _ _ _ _ _ _ _ z => z.elim) hg hm (pa_cons (pe_cut he) pa_nil hs) hdb hs hpl)).run pins s σ H D I ?_
  refine ⟨_, h, fun y H1 hy => ⟨by show 1 ≤ 1000; decide, fun a ha => ⟨a, y, rfl, hy.1, upd_same, fun dx hdx hne => ⟨rfl, dx, [(fld, y)], upd_same, ?_, ?_, ?_⟩⟩⟩⟩
  · rw [upd_ne hne, upd_same]
  · rw [upd_ne hne] at hdx
    exact hdx
  · have hd1 : H1 dx = none := by
      rw [upd_ne hne] at hdx
      exact hdx
    have q := hy.2 dx hd1
    have eh : upd (L2.del (upd (upd (upd H1 a (exo a C none)) dx (exd dx [(fld, y)])) a (exo a C (some dx))) a) dx (.xd [(fld, y)]) = upd H1 dx (.xd [(fld, y)]) := by
      funext b
      by_cases h1 : b = dx
      · rw [h1, upd_same, upd_same]
      · rw [upd_ne h1, upd_ne h1]
        by_cases h2 : b = a
        · rw [h2, L2.del_same, ha]
        · rw [L2.del_ne h2, upd_ne h2, upd_ne h1, upd_ne h2]
    rw [eh]
    exact q
end
/-! ### makers that may raise -/
section
variable {P : Program} {w : World} {K : PySem.W.Frag} {mg : Str → Option Value} {base : Heap}
structure MakX (P : Program) (w : World) (K : PySem.W.Frag) (mg : Str → Option Value) (base : Heap) (k : Nat) (x : Str) (C : Addr) (sp : Sp) (n : Nat) (ks : List Str) (gV : List V → List V → List V) : Prop where
  ex : ∃ (f : Addr) (fd : FuncData) (ps : List Str) (g : List Value → List Value → List Value), Mk K C f ∧ FnOk P w K mg base (L2.CX P w) k f fd ps sp ∧ mg x = some (.ref C) ∧ KBn K fd ps (n + 1) ks g gV
/-- C(e, ..) as an expression: at σ, what it lets out is WE W σ -/
def tMakX (C : Addr) (n m : Nat) (sp : Sp) (gV : List V → List V → List V) (E : L2.St → XK) (t tk : TA) : TE := fun σ H Q => t σ H fun vs H1 => tk σ H1 fun zs H2 => vs.length = n ∧ zs.length = m ∧ ∀ x dx, H2 x = none → H2 dx = none → dx ≠ x →
  sp (gV (.ref x :: vs) zs) (upd (upd H2 dx (.own x)) x (.ins C dx [])) (fun v H3 => v = .non ∧ Q (.ref x) H3) (E σ)
end
section
variable {X : Cx} {W : WX} {k j n : Nat} {f C : Addr} {fd : FuncData} {ps ks : List Str} {sp : Sp} {x : Str} {p pos : Pos} {e : Expr} {es : List Expr} {kws : List Keyword} {t tk : TA} {g : List Value → List Value → List Value} {gV : List V → List V → List V}
theorem run_makX {pins : List (Addr × Obj)} {σ : L2.St} {H : Hp} {s : Shared} {Q : VK} {us ws : List Value} {vs zs : List V} {E : XK} (M : Mk X.K C f) (F : FnOk X.prog X.w X.K X.mg X.base (L2.CX X.prog X.w) k f fd ps sp) (hr : Room (k + 1) X.A) (hb : KBn X.K fd ps (n + 1) ks g gV) (hx : PassesAt (L2.CX X.prog X.w) X σ E)
    (I : Inv X pins σ H s) (r : Vals vs us) (rz : Vals zs ws) (l1 : vs.length = n) (l2 : zs.length = ks.length)
    (h : ∀ x dx, H x = none → H dx = none → dx ≠ x → sp (gV (.ref x :: vs) zs) (upd (upd H dx (.own x)) x (.ins C dx [])) (fun v H2 => v = .non ∧ Q (.ref x) H2) E) :
    wpAny (model X.prog X.w) X.A (call (.ref C) us (ks.zip ws)) (EP X pins σ Q) X.xe s := by
  let q := s.heap.objs.size
  have fr1 : H (q + 1) = none := I.hok.fresh (Nat.le_succ q)
  have fr2 : H q = none := I.hok.fresh (Nat.le_refl q)
  have told := h (q + 1) q fr1 fr2 (Nat.ne_of_lt (Nat.lt_succ_self q))
  have J := Inv.made (C := C) I
  have ra : Vals (V.ref (q + 1) :: vs) (Value.ref (q + 1) :: us) := .cons rfl r
  have na : (Value.ref (q + 1) :: us).length = n + 1 := by
    have := ra.length
    rw [← this, List.length_cons, l1]
  have run := F.run _ X.stack _ _ ⟨Value.ref (q + 1) :: us, ks.zip ws⟩ (g (Value.ref (q + 1) :: us) ws) _ _ E (hr.make C us (ks.zip ws)) (J.env0.make C us (ks.zip ws)) (hb.to _ (Value.ref (q + 1) :: us) ws J.kIn na (rz.length.symm.trans l2)) (hb.rel ra rz) told
  refine wpAny_call (make_map (f := f) I.kIn M.makes M.init (beq_iff_eq.mp M.fn) (codeAny_mono run fun o s' ho => ?_))
  match o, ho with
  | .error e, ho => exact hx pins _ _ e s' J ho
  | .ok (.ret u), ho =>
    obtain ⟨v, H', I3, rv, ev, q3⟩ := J.after ho
    subst ev
    exact ⟨rv, ⟨V.ref (q + 1), H', I3, rfl, q3⟩⟩
  | .ok .next, ho => exact False.elim ho
  | .ok .brk, ho => exact False.elim ho
  | .ok .cont, ho => exact False.elim ho
theorem pe_makX {E : L2.St → XK} (c : MakX X.prog X.w X.K X.mg X.base k x C sp n [] gV) (hr : Room j X.A) (hk : k + 1 ≤ j) (hx : ∀ σ, PassesAt (L2.CX X.prog X.w) X σ (E σ)) (hg : Gl X x) (ha : PA X (e :: es) t)
    (hdb : (x == ("__debug__" : Str)) = false := by decide) (he : starEach (e :: es) X.env = (false, eval e X.env) :: starEach es X.env := by rfl) (hpl : (backTo pos (starEach es X.env)).any (·.1) = false := by rfl) :
    PE X (.Call (.Name x p) (e :: es) [] pos) (tMakX C n 0 sp gV E t tNil) := by
  obtain ⟨f, fd, ps, g, M, F, hm, b⟩ := c.ex
  refine ⟨fun pins s σ H Q I h => ?_⟩
  refine wpAny_Call_Name_kw (ld_glob I hg hm ?_ hdb)
  refine PySem.W.callWith_K (h₀ := X.base) I.ok.mod.kin M.kp (thn (ha.run pos pins s σ H _ I h) fun us s1 ⟨vs, H1, I1, r, l1, l2, q⟩ => ⟨I1.kIn, ?_⟩) he hpl
  exact run_makX (zs := []) (ws := []) M F (hr.mono hk) b (hx σ) I1 r .nil l1 rfl q
theorem pe_makXK {E : L2.St → XK} (c : MakX X.prog X.w X.K X.mg X.base k x C sp 0 ks gV) (hr : Room j X.A) (hk : k + 1 ≤ j) (hx : ∀ σ, PassesAt (L2.CX X.prog X.w) X σ (E σ)) (hg : Gl X x) (hkw : PK X kws tk)
    (hall : (backToKw pos (keywordEach kws X.env)).all (·.1.isSome) = true := by rfl) (hks : (backToKw pos (keywordEach kws X.env)).filterMap (·.1) = ks := by rfl) (hdb : (x == ("__debug__" : Str)) = false := by decide)
    (hpl : ((backTo pos (starEach [] X.env)).any (·.1) || (backToKw pos (keywordEach kws X.env)).any (·.1.isNone)) = false := by rfl) :
    PE X (.Call (.Name x p) [] kws pos) (tMakX C 0 ks.length sp gV E tNil tk) := by
  obtain ⟨f, fd, ps, g, M, F, hm, b⟩ := c.ex
  refine ⟨fun pins s σ H Q I h => ?_⟩
  refine wpAny_Call_Name_kw (ld_glob I hg hm ?_ hdb)
  refine PySem.W.callWith_KW0 (h₀ := X.base) I.ok.mod.kin M.kp hall ?_ hpl
  refine thn (hkw.run pos pins s σ H _ I h) fun ws s2 ⟨zs, H2, I2, rz, l1, l2, q2⟩ => ⟨I2.kIn, ?_⟩
  rw [hks]
  exact run_makX (us := []) (vs := []) M F (hr.mono hk) b (hx σ) I2 .nil rz rfl l2 q2
/-- nothing is let out here -/
theorem none_out {X : Cx} : ∀ σ : L2.St, PassesAt (L2.CX X.prog X.w) X σ E0 := fun _ _ _ _ _ _ _ z => by
  obtain ⟨_, _, _, _, _, _, _, _, _, _, _, _, y⟩ := z
  exact y.elim
end
end TKE
set_option maxHeartbeats 2000000
set_option pp.maxSteps 300
/-! isinstance of a caught exception that has its dict; what is to be looked up of such a class; a hook with such defs. -/
namespace TKE
open PySem PySem.Spec PyProof.Rows L2 NdefX TK
def rIsD (K : PySem.W.Frag) (D a : Addr) (cls : Value) (d : Option Addr) : List V → Hp → VK → Prop := fun xs H Q => ∃ (c : V) (cv : Value) (b : Bool) (dd : Addr) (fs : List (Str × V)), xs = [.ref a, c] ∧ (∀ u, RelV c u → u = cv) ∧ PySem.W.kitOne K (.ref D) cv = some b ∧ cls = .ref D ∧ d = some dd ∧ H dd = some (.xd fs) ∧ Q (.bl b) H
theorem call_isD {X : Cx} {a D : Addr} {oe : Obj} {cls : Value} {d : Option Addr} {pn : List (Addr × Obj)} (C : ExcC X.K D) (hz : Zc cls d oe) (hf : ∃ vs, oe.data = .fields vs) : CallR (X.suite a ((a, oe) :: pn)) (.builtin "isinstance") (rIsD X.K D a cls d) := by
  intro pins s σ H xs us Q I r h
  obtain ⟨c, cv, b, dd, fs, rfl, hcv, e, rfl, rfl, ed, q⟩ := h
  obtain ⟨u1, u2, rfl, rx, rt⟩ : ∃ u1 u2, us = [u1, u2] ∧ RelV (.ref a) u1 ∧ RelV c u2 := by
    cases r with
    | cons h1 t1 =>
      cases t1 with
      | cons h2 t2 =>
        cases t2
        exact ⟨_, _, rfl, h1, h2⟩
  obtain rfl : u1 = Value.ref a := rx
  obtain rfl := hcv _ rt
  obtain ⟨hget, _⟩ := I.pin (a, oe) (List.mem_append.mpr (.inl List.mem_cons_self))
  obtain ⟨vs, hv⟩ := hf
  have ob : ObjOk X.prog X.w H s.heap dd (.xd fs) := I.hok dd _ ed
  obtain ⟨mA, ⟨od, es, ep, ho, hr2⟩, hr⟩ := ob
  have J : PySem.W.InstAt s.heap a oe D (some od) := ⟨hget, hz.1, by unfold PySem.W.notCls; rw [hv] <;> rfl, by rw [hz.2]; exact ho⟩
  have hcl : (PySem.W.clsIn X.K D).isSome = true := by
    obtain ⟨cd, hc, _⟩ := PySem.W.any_some C.hd
    rw [hc]
    rfl
  exact PySem.W.kia_one (PySem.W.kitx_exc hcl C.hg C.hk C.hs C.ha C.hn C.ht C.hm) I.kIn J e (fun z => nomatch z) fun tk => ⟨.bl b, H, I.kept (t' := tk) fun _ _ z => z, rfl, q⟩
end TKE
set_option maxHeartbeats 2000000
set_option pp.maxSteps 300
/-! What the heap behind the top says of such classes: a check, what it gives, a hook with their __init__. -/
namespace TKE
open PySem PySem.Spec PyProof.Rows L2 NdefX TK
open He (ga ma)
def clsB (K : PySem.W.Frag) (C : Addr) : Bool := match K.lookup C with
  | some ⟨.type "type", _, .cls cd, sl⟩ => (match cd.mro, sl.toList with
    | .ref C' :: bm, [_, _, _, _, some (.builtin n), _] => C' == C && (n == "ValueError.__new__" && (!cd.hasDel && (cd.hasDict && PySem.HandSPX.refsVE bm)))
    | _, _ => false)
  | _ => false
theorem clsB_ok {K : PySem.W.Frag} {C : Addr} (q : clsB K C = true) : ∃ nm q N bs bm sn sub ab col dd k0 k1 k2 k3 k5, K.lookup C = some (excClassObj nm q C N bs bm true sn sub ab col dd k0 k1 k2 k3 k5 "ValueError.__new__") ∧ PySem.HandSPX.refsVE bm = true := by
  unfold clsB at q
  split at q
  · rename_i dd cd sl ho
    split at q
    · rename_i C' bm k0 k1 k2 k3 n k5 hm hs
      simp only [Bool.and_eq_true, beq_iff_eq, Bool.not_eq_true'] at q
      obtain ⟨rfl, rfl, hdel, hd, ht⟩ := q
      obtain ⟨nm, bs, mro, ns, qn, hd', sn, sub, ab, col, del⟩ := cd
      dsimp only at hm hdel hd
      subst hm hdel hd
      have hsl : sl = #[k0, k1, k2, k3, some (.builtin "ValueError.__new__"), k5] := by
        obtain ⟨l⟩ := sl
        simp only at hs
        rw [hs]
      subst hsl
      exact ⟨nm, qn, ns, bs, bm, sn, sub, ab, col, dd, k0, k1, k2, k3, k5, ho, ht⟩
    · cases q
  · cases q
def cellB (K : PySem.W.Frag) (cc C : Addr) : Bool := match K.lookup cc with
  | some ⟨_, _, .cell (some (.ref C')), _⟩ => C' == C
  | _ => false
theorem cellB_ok {K : PySem.W.Frag} {cc C : Addr} (q : cellB K cc C = true) : ∃ cl cld csl, K.lookup cc = some ⟨cl, cld, .cell (some (.ref C)), csl⟩ := by
  unfold cellB at q
  split at q
  · rename_i cl cld C' csl ho
    obtain rfl := beq_iff_eq.mp q
    exact ⟨_, _, _, ho⟩
  · cases q
def fileB (K : PySem.W.Frag) (cda : Addr) (file : Str) : Bool := match K.lookup cda with
  | some ⟨_, _, .fields vs, _⟩ => (match (vs[2]? : Option Value) with
    | some (Value.str f _) => file == f
    | _ => false)
  | _ => false
theorem fileB_ok {K : PySem.W.Frag} {cda : Addr} {file : Str} (q : fileB K cda file = true) : ∃ ccl cdd vs ccs f tf, K.lookup cda = some ⟨ccl, cdd, .fields vs, ccs⟩ ∧ vs[2]? = some (.str f tf) ∧ (file == f) = true := by
  unfold fileB at q
  split at q
  · rename_i cl cld vs csl ho
    split at q
    · rename_i f tf hv
      exact ⟨_, _, _, _, _, _, ho, hv, q⟩
    · cases q
  · cases q
def fnB (K : PySem.W.Frag) (f C : Addr) (qual file : Str) : Bool := match K.lookup f with
  | some ⟨_, _, .func fd, _⟩ => (match fd.closure, fd.code, fd.defaults, fd.kwdefaults with
    | [(n, cc)], .ref cda, .none, .none => n == "__class__" && (PySem.W.codeIn K (.ref cda) qual && (cellB K cc C && fileB K cda file))
    | _, _, _, _ => false)
  | _ => false
def fnC (K : PySem.W.Frag) (p : Str × Option Str) : He.FnW := match K.lookup (He.fAd K p) with
  | some ⟨_, _, .func fd, _⟩ => some (fd.name, fd.qualname, fd.params, fd.body, fd.scope, fd.globals, [], fd.builtins)
  | _ => none
theorem fnB_ok {K : PySem.W.Frag} {p : Str × Option Str} {C : Addr} {nm qual file : Str} {params : Arguments} {body : List Stmt} {scope : Scope} (e : fnC K p = He.DefD.val ⟨p, nm, qual, params, body, scope, [], []⟩) (q : fnB K (He.fAd K p) C qual file = true) :
    ∃ cda cc oc od doc pm an ct osl, K.lookup (He.fAd K p) = some ⟨oc, od, .func (PySem.W.fnX nm qual params body scope [("__class__", cc)] .none .none doc pm an (.ref cda) ct), osl⟩ ∧ PySem.W.codeIn K (.ref cda) qual = true ∧ cellB K cc C = true ∧ fileB K cda file = true := by
  unfold fnB at q
  unfold fnC at e
  split at q
  · rename_i oc od fd osl ho
    rw [ho] at e
    split at q
    · rename_i n cc cda h1 h2 h3 h4
      simp only [Bool.and_eq_true, beq_iff_eq] at q
      obtain ⟨rfl, q1, q2, q3⟩ := q
      obtain ⟨n1, n2, n3, n4, n5, n6, n7, n8, n9, n10, n11, n12, n13, n14, n15⟩ := fd
      dsimp only at h1 h2 h3 h4
      subst h1 h2 h3 h4
      have e2 : (some (n1, n2, n3, n4, n5, n6, [], n15) : He.FnW) = some (nm, qual, params, .stmts body, scope, mainGlobals, [], builtinsNs) := e
      simp only [Option.some.injEq, Prod.mk.injEq] at e2
      obtain ⟨h1, h2, h3, h4, h5, h6, h7, h8⟩ := e2
      subst h1 h2 h3 h4 h5 h6 h8
      exact ⟨cda, cc, oc, od, _, _, _, _, osl, ho, q1, q2, q3⟩
    · cases q
  · cases q
/-- the class named x, its field fld, its __init__'s qualified name, the text's file -/
def excB (K : PySem.W.Frag) (x fld qual file : Str) : List Bool := [clsB K (ga K x),
  decide (PySem.W.findIn K (.ref (ga K x)) "__setattr__" = some (some (.builtin "object.__setattr__"))), decide (PySem.W.subIn K (.ref (ga K x)) (.type "BaseException") = some true), decide (PySem.W.typeIn K (.ref (ga K x)) = some (.type "type")), PySem.W.keepIn K (.ref (ga K x)),
  decide (PySem.W.findIn K (.ref (ga K x)) "__init__" = some (some (.ref (ma K (ga K x) "__init__")))), decide (PySem.W.typeIn K (.ref (ma K (ga K x) "__init__")) = some (.type "function")), decide (PySem.W.ks_superIn K (ga K x) (ga K x) "__init__" = some (some (.builtin "ValueError.__init__"))),
  decide (PySem.W.subIn K (.ref (ga K x)) (.type "ValueError") = some true), decide (PySem.W.mroIn K (ga K x) (.ref (ga K x)) = some true), decide (PySem.W.nsIn K cStatics "thirdparty.any" = some none),
  fnB K (ma K (ga K x) "__init__") (ga K x) qual file, decide (PySem.W.findIn K (.ref (ga K x)) fld = some none),
  decide (PySem.W.findIn K (.ref (ga K x)) "__getattribute__" = some (some (.builtin "BaseException.__getattribute__"))), decide (PySem.W.findIn K (.ref (ga K x)) "__getattr__" = some none), PySem.W.hasDictIn K (ga K x),
  decide (PySem.W.findIn K (.ref (ga K x)) "__class__" = some (some (.builtin "object.__class__"))), decide (PySem.W.specialIn K (.builtin "object.__class__") "__get__" = some (some (.builtin "getset_descriptor.__get__"))),
  decide (PySem.W.takesIn K (.builtin "object.__class__") = some true), decide (PySem.W.mroIn K (ga K x) (.type "object") = some true)]
def excAll (K : PySem.W.Frag) (x fld qual file : Str) : Bool := (excB K x fld qual file).all id
structure ExTxt (K : PySem.W.Frag) (P : Program) (x fld qual : Str) (params : Arguments) (body : List Stmt) (scope : Scope) : Prop where
  ex : ∃ cda cc oc od doc pm an ct osl, SupTxt K P (ga K x) (ma K (ga K x) "__init__") cda cc ∧ K.lookup (ma K (ga K x) "__init__") = some ⟨oc, od, .func (PySem.W.fnX "__init__" qual params body scope [("__class__", cc)] .none .none doc pm an (.ref cda) ct), osl⟩ ∧ PySem.W.codeIn K (.ref cda) qual = true
  no : PySem.W.findIn K (.ref (ga K x)) fld = some none
  ec : ExcC K (ga K x)
  xf : XfC K (ga K x)
theorem exTxt_of {K : PySem.W.Frag} {P : Program} {x fld qual file : Str} {params : Arguments} {body : List Stmt} {scope : Scope} (h : excAll K x fld qual file = true) (hP : P.main.file = file)
    (e : fnC K (x, some "__init__") = He.DefD.val ⟨(x, some "__init__"), "__init__", qual, params, body, scope, [], []⟩) : ExTxt K P x fld qual params body scope := by
  have a : ∀ (i : Nat) (b : Bool), (excB K x fld qual file)[i]? = some b → b = true := fun i b hi => exAt h i hi
  obtain ⟨cda, cc, oc, od, doc, pm, an, ct, osl, hl, hcd, hcell, hfile⟩ := fnB_ok (C := ga K x) (file := file) e (a 11 _ rfl)
  have h2 := of_decide_eq_true (a 2 _ rfl)
  have h13 := of_decide_eq_true (a 13 _ rfl)
  have h14 := of_decide_eq_true (a 14 _ rfl)
  have oex : OexC K (ga K x) := ⟨clsB_ok (a 0 _ rfl), of_decide_eq_true (a 1 _ rfl), h2, of_decide_eq_true (a 3 _ rfl), a 4 _ rfl⟩
  refine ⟨⟨cda, cc, oc, od, doc, pm, an, ct, osl, ⟨oex, of_decide_eq_true (a 5 _ rfl), of_decide_eq_true (a 6 _ rfl), of_decide_eq_true (a 7 _ rfl), of_decide_eq_true (a 8 _ rfl), of_decide_eq_true (a 9 _ rfl), of_decide_eq_true (a 10 _ rfl), ?_, cellB_ok hcell⟩, hl, hcd⟩, of_decide_eq_true (a 12 _ rfl),
    ⟨h13, h14, h2, a 15 _ rfl, of_decide_eq_true (a 16 _ rfl), of_decide_eq_true (a 17 _ rfl), of_decide_eq_true (a 18 _ rfl), of_decide_eq_true (a 19 _ rfl)⟩, ⟨h13, h14, h2, a 15 _ rfl⟩⟩
  rw [hP]
  obtain ⟨ccl, cdd, vs, ccs, f, tf, z⟩ := fileB_ok hfile
  exact ⟨ccl, cdd, vs, ccs, f, tf, z⟩
/-! ### the hook -/
def asE (g : Addr → Option Obj) (n : Nat) (es : List He.DefD) : List Addr :=
  He.asD g n ++ (cStatics :: es.flatMap fun d => match (He.frG g (He.asD g n)).lookup (He.fAd (He.frG g (He.asD g n)) d.at_) with
    | some ⟨_, _, .func fd, _⟩ => fd.closure.map (·.2)
    | _ => [])
abbrev AlE : Type := He.AlD × List He.FnW
def obsE (n : Nat) (fa : List He.Fa) (fn : List He.DefD) (ex : PySem.W.Frag → List Bool) (es : List He.DefD) (g : Addr → Option Obj) : AlE :=
  let K := He.frG g (asE g n es)
  (((He.obsD fa fn K).1 && (ex K).all id, (He.obsD fa fn K).2), es.map fun d => fnC K d.at_)
def hookE (n : Nat) (fa : List He.Fa) (fn : List He.DefD) (ex : PySem.W.Frag → List Bool) (es : List He.DefD) : PySem.W.Hook where
  α := AlE
  obs s := obsE n fa fn ex es s.heap.get?
  val _ := (He.valD fn, es.map He.DefD.val)
  says _ h := ∃ K : PySem.W.Frag, K.In h ∧ He.SaysD fa fn K ∧ (ex K).all id = true ∧ es.map (fun d => fnC K d.at_) = es.map He.DefD.val
  of _ _ e := by
    have e0 := congrArg (fun z : AlE => z.1) e
    have e1 := congrArg (fun z : He.AlD => z.1) e0
    have e2 := congrArg (fun z : He.AlD => z.2) e0
    have e3 := congrArg (fun z : AlE => z.2) e
    obtain ⟨a, b⟩ := Bool.and_eq_true_iff.mp e1
    exact ⟨_, He.frG_in, Prod.ext a e2, b, e3⟩
  keeps _ _ _ c k := let ⟨K, hK, c⟩ := c; ⟨K, PySem.W.Frag.In.keeps hK k, c⟩
theorem obsE_eq {n : Nat} {fa : List He.Fa} {fn : List He.DefD} {ex : PySem.W.Frag → List Bool} {es : List He.DefD} {g : Addr → Option Obj} {s : Shared} (h : ∀ a, g a = s.heap.get? a) : obsE n fa fn ex es g = (hookE n fa fn ex es).obs s := by
  obtain rfl : g = s.heap.get? := funext h
  rfl
theorem fnC_at {K : PySem.W.Frag} {es : List He.DefD} (h : es.map (fun d => fnC K d.at_) = es.map He.DefD.val) (i : Nat) {d : He.DefD} (hd : es[i]? = some d) : fnC K d.at_ = d.val := by
  have e2 : (es.map fun d => fnC K d.at_)[i]? = (es.map He.DefD.val)[i]? := by rw [h]
  rw [List.getElem?_map, List.getElem?_map, hd] at e2
  exact Option.some.inj e2
end TKE
set_option maxHeartbeats 2000000
set_option pp.maxSteps 300
/-! Texts with such classes: the pieces that the generated terms name. -/
namespace TKE
open PySem PySem.Spec PyProof.Rows L2 NdefX TK
def isS : V → Prop := fun y => ∃ z : Str, y = .str z ∧ z.length ≤ 1000
def isI : V → Prop := fun y => ∃ z : Int, y = .int z ∧ z.natAbs.log2 < 1920 ∧ (toString z : Str).length ≤ 1000
theorem ex_l1 {z : Str} (hz : z.length ≤ 1000) : z.length ≤ sizeLine := Nat.le_trans hz (by decide)
theorem ex_l2 {p z : Str} (hp : p.length ≤ 200) (hz : z.length ≤ 1000) : (p ++ z).length ≤ sizeLine := by
  rw [cat_len, sizeLine_eq]
  omega
theorem ex_l3 {p z q : Str} (hp : p.length ≤ 200) (hq : q.length ≤ 200) (hz : z.length ≤ 1000) : (p ++ z ++ q).length ≤ sizeLine := by
  rw [cat_len, cat_len, sizeLine_eq]
  omega
theorem pg_tupK {X : Cx} (K : PySem.W.Frag) (e : X.K = K) {es : List Expr} {k : Nat} {t : TGs} {n : Nat} {pos : Pos} (hc : X.calm = true) (h : PGs X es t)
    (hn : (assignEach es X.env).length = n := by rfl) (hst : (assignEach es X.env).findIdx? (·.1) = none := by rfl) : PG X (.Tuple es k pos) (gTup K n t) := by
  subst e
  exact pg_tup hc h hn hst
def rTupOf (K : PySem.W.Frag) : List V → Hp → VK → Prop := fun xs H Q => ∃ p ys, xs = [.ref p] ∧ ((SqL K H p ys ∧ ∀ l, H l = none → Q (.ref l) (upd H l (.tup ys))) ∨ (SqT K H p ys ∧ Q (.ref p) H))
theorem tupOfK {X : Cx} (K : PySem.W.Frag) (e : X.K = K) : CallR X (.type "tuple") (rTupOf K) := by
  subst e
  exact call_tuple_of
section
variable {P : Program} {w : World} {K : PySem.W.Frag} {mg : Str → Option Value} {base : Heap}
theorem makX_of {x qual : Str} {C f : Addr} {params : Arguments} {body : List Stmt} {scope : Scope} {fd : FuncData} {ps : List Str} {k n : Nat} {sp : Sp} (M : Mk K C f) (hm : mg x = some (.ref C)) (F : FunD K "__init__" qual params body scope [] [] f fd) (G : FnOk P w K mg base (L2.CX P w) k f fd ps sp) (hn : ps.length = n + 1)
    (h : ∀ (kV doc pm : Value) (an : Option Addr) (cdv ct : Value) (us : List Value), us.length = ps.length → bindArgs (PySem.W.fnOf "__init__" qual params body scope .none kV doc pm an cdv ct) ⟨us, []⟩ = pure (ps.zip us)) : MakX P w K mg base k x C sp n [] (fun vs _ => vs) :=
  ⟨f, fd, ps, fun us _ => us, M, G, hm, ⟨fun s us ws _ h1 _ => F.bindsA h s us (h1.trans hn.symm), fun r _ => r⟩⟩
end
end TKE
set_option maxHeartbeats 1000000
namespace K10
open PySem PySem.Spec PyProof.Rows L2 SX TK NdefX
open C8 (pe_c)
def top (i : Nat) : Stmt := PySem.Challenge.pw_trunkland_k10_tariffs.main.body.getD i (.Pass ⟨0, 0, 0, 0⟩)
abbrev s_Tariff___init : Stmt := inClass (top 7) 0
abbrev s_Tariff_units : Stmt := inClass (top 7) 1
abbrev s_Tariff_cost : Stmt := inClass (top 7) 2
abbrev s_is_unit : Stmt := top 8
abbrev s_is_price : Stmt := top 9
abbrev s_are_bands : Stmt := top 10
abbrev s_law_state : Stmt := top 12
abbrev s_law_draw : Stmt := top 13
abbrev s_law_pick : Stmt := top 14
abbrev s_law_value : Stmt := top 15
abbrev s_law_cost : Stmt := top 16
abbrev s_law_fault : Stmt := top 17
abbrev s_law_refused : Stmt := top 18
abbrev s_law : Stmt := top 19
abbrev si_ConfigError : Stmt := inClass (top 2) 0
theorem sc_Tariff___init : FnScope ["self", "unit", "bands", "last", "band"] ["self", "unit", "bands", "last"] (defScope s_Tariff___init) := ⟨rfl, rfl, rfl, by decide +kernel, rfl, by decide +kernel, by decide +kernel⟩
theorem sc_Tariff_units : FnScope ["self", "span"] ["self", "span"] (defScope s_Tariff_units) := ⟨rfl, rfl, rfl, by decide +kernel, rfl, by decide +kernel, by decide +kernel⟩
theorem sc_Tariff_cost : FnScope ["self", "span", "left", "total", "many", "price", "taken"] ["self", "span"] (defScope s_Tariff_cost) := ⟨rfl, rfl, rfl, by decide +kernel, rfl, by decide +kernel, by decide +kernel⟩
theorem sc_is_unit : FnScope ["number"] ["number"] (defScope s_is_unit) := ⟨rfl, rfl, rfl, by decide +kernel, rfl, by decide +kernel, by decide +kernel⟩
theorem sc_is_price : FnScope ["number"] ["number"] (defScope s_is_price) := ⟨rfl, rfl, rfl, by decide +kernel, rfl, by decide +kernel, by decide +kernel⟩
theorem sc_are_bands : FnScope ["bands", "many", "price"] ["bands"] (defScope s_are_bands) := ⟨rfl, rfl, rfl, by decide +kernel, rfl, by decide +kernel, by decide +kernel⟩
theorem sc_law_state : FnScope ["script", "seed", "cell"] ["script"] (defScope s_law_state) := ⟨rfl, rfl, rfl, by decide +kernel, rfl, by decide +kernel, by decide +kernel⟩
theorem sc_law_draw : FnScope ["state", "many", "cells", "value", "mixed"] ["state", "many"] (defScope s_law_draw) := ⟨rfl, rfl, rfl, by decide +kernel, rfl, by decide +kernel, by decide +kernel⟩
theorem sc_law_pick : FnScope ["state", "row"] ["state", "row"] (defScope s_law_pick) := ⟨rfl, rfl, rfl, by decide +kernel, rfl, by decide +kernel, by decide +kernel⟩
theorem sc_law_value : FnScope ["state", "least"] ["state", "least"] (defScope s_law_value) := ⟨rfl, rfl, rfl, by decide +kernel, rfl, by decide +kernel, by decide +kernel⟩
theorem sc_law_cost : FnScope ["unit", "bands", "last", "span", "units", "total", "many", "price"] ["unit", "bands", "last", "span"] (defScope s_law_cost) := ⟨rfl, rfl, rfl, by decide +kernel, rfl, by decide +kernel, by decide +kernel⟩
theorem sc_law_fault : FnScope ["unit", "bands", "last", "band"] ["unit", "bands", "last"] (defScope s_law_fault) := ⟨rfl, rfl, rfl, by decide +kernel, rfl, by decide +kernel, by decide +kernel⟩
theorem sc_law_refused : FnScope ["state", "unit", "bands", "last", "kind", "wrong", "at", "due", "e", "k"] ["state", "unit", "bands", "last"] (defScope s_law_refused) := ⟨rfl, rfl, rfl, by decide +kernel, rfl, by decide +kernel, by decide +kernel⟩
theorem sc_law : FnScope ["script", "state", "unit", "bands", "last", "given", "tariff", "edge", "spans", "many", "price", "before", "span", "cost", "k"] ["script"] (defScope s_law) := ⟨rfl, rfl, rfl, by decide +kernel, rfl, by decide +kernel, by decide +kernel⟩
structure Tx (K : PySem.W.Frag) (mg : Str → Option Value) : Prop where
  g_GREATEST_PRICE : ∃ t, mg "GREATEST_PRICE" = some (.int 10000 t)
  g_GREATEST_UNIT : ∃ t, mg "GREATEST_UNIT" = some (.int 10000 t)
  g_MOST_BANDS : ∃ t, mg "MOST_BANDS" = some (.int 8 t)
  f_abs : mg "abs" = none
  f_all : mg "all" = none
  f_bool : mg "bool" = none
  f_int : mg "int" = none
  f_isinstance : mg "isinstance" = none
  f_len : mg "len" = none
  f_list : mg "list" = none
  f_max : mg "max" = none
  f_min : mg "min" = none
  f_range : mg "range" = none
  f_sorted : mg "sorted" = none
  f_super : mg "super" = none
  f_tuple : mg "tuple" = none
  cl_Tariff : Cls K (He.ga K "Tariff")
  na_Tariff_unit : NoAttr K (He.ga K "Tariff") "unit"
  na_Tariff_bands : NoAttr K (He.ga K "Tariff") "bands"
  na_Tariff_last : NoAttr K (He.ga K "Tariff") "last"
  g_TrunklandError : mg "TrunklandError" = some (.ref (He.ga K "TrunklandError"))
  g_ConfigError : mg "ConfigError" = some (.ref (He.ga K "ConfigError"))
  xf_ConfigError : XfC K (He.ga K "ConfigError")
  ec_ConfigError : ExcC K (He.ga K "ConfigError")
  no_ConfigError : PySem.W.findIn K (.ref (He.ga K "ConfigError")) "setting" = some none
  te_ConfigError_ConfigError : PySem.W.exmOne K (.ref (He.ga K "ConfigError")) (.ref (He.ga K "ConfigError")) = some true
  ki_ConfigError_TrunklandError : PySem.W.kitOne K (.ref (He.ga K "ConfigError")) (.ref (He.ga K "TrunklandError")) = some true
theorem ok_exc_ConfigError {P : Program} {w : World} {K : PySem.W.Frag} {mg : Str → Option Value} {base : Heap} (hm : mg "super" = none) (htop : (P.main.scope.names.lookup ("super" : Str)).isSome = false) (hg : mg "ConfigError" = some (.ref (He.ga K "ConfigError")))
    (T : TKE.ExTxt K P "ConfigError" "setting" "ConfigError.__init__" (defArgs si_ConfigError) (defBody si_ConfigError) (defScope si_ConfigError)) : TKE.ExcMk P w K mg base "ConfigError" (He.ga K "ConfigError") "setting" TKE.isS := by
  obtain ⟨cda, cc, oc, od, doc, pm, an, ct, osl, S, hl, hcd⟩ := T.ex
  refine ⟨_, _, ["self", "setting"], S.oex, S.iC, S.tI, TKE.fnok_sup S hl hcd (nscope_by (by decide +kernel)) rfl rfl rfl rfl rfl hm htop (fun vs H Q E h => ?_) (fun A outer s H vs Q E h => ?_) (fun _ _ _ _ _ => rfl) (fun _ _ _ _ _ => rfl) (fun _ _ _ _ _ => rfl) (fun _ _ _ _ _ => rfl), .all (fun us hl => match us, hl with | [_, _], _ => rfl), hg⟩
  · obtain ⟨a, y, rfl, _⟩ := h
    rfl
  · obtain ⟨a, y, rfl, ⟨z, rfl, hz⟩, ha, k⟩ := h
    refine ⟨a, _, _, _, rfl, ha, pe_joined (PJ.cons pe_str (PJ.cons (pe_fmt (pv 1)) (PJ.cons pe_str PJ.nil))), pss_one (ps_ost (pv 0) (pv 1)), _, rfl, by decide +kernel, _, rfl, ?_⟩
    refine .inl ⟨z, rfl, TKE.ex_l1 hz, _, rfl, TKE.ex_l2 (by decide +kernel) hz, _, rfl, TKE.ex_l3 (by decide +kernel) (by decide +kernel) hz, ?_⟩
    exact ⟨ha, ⟨_, rfl, _, rfl, a, _, rfl, S.oex, T.no, .inl ⟨ha, k⟩⟩, rfl⟩
/-! ### the law's source of draws -/
def spState (K : PySem.W.Frag) : Sp := fun vs H Q _ => ∃ (a : Addr) (ns : List Int), vs = [.ref a] ∧ SqL K H a (ns.map V.int) ∧ ns.length ≤ 63 ∧ ∀ s c H', Same H H' → H s = none → H c = none → StAt H' s c → Q (.ref s) H'
theorem ok_law_state {P : Program} {w : World} {K : PySem.W.Frag} {mg : Str → Option Value} {base : Heap} {f : Addr} {fd : FuncData} (T : Tx K mg) 
    (F : FunD K "_law_state" "_law_state" (defArgs s_law_state) (defBody s_law_state) (defScope s_law_state) [] [] f fd) : FnOk P w K mg base CX0 1 f fd ["script"] (spState K) := by
  refine F.ok sc_law_state (fun vs H Q E h => ?_) (fun cdv A outer s H vs Q E hr h => ?_)
  · obtain ⟨a, ns, rfl, _⟩ := h
    rfl
  · obtain ⟨a, ns, rfl, hS, hn, k⟩ := h
    refine ⟨_, PSs.nox (pss_cons (ps_set (i := 1) sc_law_state.nd rfl (Or.inl rfl) pe_int) (pss_cons (ps_for PassesOwn.never rfl (pi_list (pv 0)) (pg_name (i := 2) sc_law_state.nd rfl (Or.inl rfl)) (pss_one (ps_set (i := 1) sc_law_state.nd rfl (Or.inl rfl) (pe_op op_mod (pe_callTy call_int1 rfl T.f_int (by decide +kernel) (pa_cons (pe_op op_add (pe_op op_mul (pv 1) pe_int) (pv 2)) pa_nil)) pe_int)))) (pss_one (ps_ret (pe_lst (pa_cons (pe_lc (own := [("cell", 2)]) (g := gName 2) rfl sc_law_state.nd (pi_list (pv 0)) (blkOk_by (own := [("cell", 2)]) (N := ["script", "seed", "cell"]) (sc := defScope s_law_state) (by decide +kernel)) (fun _ _ _ _ _ => pg_name (i := 2) sc_law_state.nd rfl (Or.inl rfl)) (fun _ _ _ _ _ => pts_nil) (fun _ _ _ _ _ => (pe_callB call_abs rfl T.f_abs (by decide +kernel) (pa_cons (pv 2) pa_nil)))) (pa_cons (pe_op op_add (pv 1) pe_int) pa_nil))))))), ?_⟩
    refine ⟨_, rfl, a, rfl, ⟨_, hS⟩, for_list (K := K) (a := a) (xs := ns.map V.int) (fun i σ H' => H' = H ∧ ∃ (n : Int) (v : Option V), σ = [some (.ref a), some (.int n), v]) ⟨rfl, 7, none, rfl⟩ (fun i σ H' _ q => q.1 ▸ hS) ?_ ?_⟩
    · rintro i y σ H' hi ⟨rfl, n, v, rfl⟩
      obtain ⟨z, rfl⟩ : ∃ z, y = V.int z := by
        obtain ⟨z, _, e⟩ := List.mem_map.mp (List.mem_of_getElem? hi)
        exact ⟨z, e.symm⟩
      refine ⟨_, rfl, _, _, rfl, rfl, .inr ⟨by decide, by decide⟩, _, rfl, _, _, rfl, rfl, .inl ⟨_, rfl, _, _, rfl, rfl, (by show (0 : Int) < 1000003; decide), rfl, _, _, rfl⟩⟩
    · rintro σ H' ⟨rfl, n, v, rfl⟩
      refine ⟨_, rfl, a, rfl, ⟨_, hS⟩, fun D hD => ?_⟩
      have hS2 : ∀ o, SqL K (upd H' D o) a (ns.map V.int) := fun o => (same_upd hD).seq hS
      refine lc_pureN walk_list (fun i => V.int (if ns.getD i 0 < 0 then -(ns.getD i 0) else ns.getD i 0)) (by rw [List.length_map]; exact Nat.le_trans hn (by decide)) (fun _ _ => hS2 _) (fun i x H1 kk hi y q => ?_) ?_
      · obtain ⟨rfl, hx⟩ := y
        refine ⟨rfl, _, rfl, ns.getD i 0, ?_, q⟩
        rw [List.getElem?_map] at hx
        rw [List.length_map] at hi
        rw [List.getElem?_eq_getElem hi] at hx
        rw [List.getD_eq_getElem?_getD, List.getElem?_eq_getElem hi]
        exact congrArg (fun v => [v]) (Option.some.inj hx).symm
      · refine ⟨_, rfl, _, _, rfl, rfl, by show 2 ≤ sizeLine; decide, fun p hp => ?_⟩
        have npD : p ≠ D := fun e => by
          rw [e, upd_same] at hp
          cases hp
        have hp0 : H' p = none := by
          rw [upd_ne npD] at hp
          exact hp
        refine k p D _ ((same_upd hD).trans (same_upd hp)) hp0 hD ⟨npD, ⟨_, upd_same⟩, ns.map (fun i => if i < 0 then -i else i), ?_, ?_⟩
        · rw [upd_ne npD.symm, upd_same, List.length_map, List.map_map]
          exact congrArg (fun l => some (HO.lst l)) (range_map_getD ns 0 fun i => V.int (if i < 0 then -i else i))
        · rw [List.length_map]
          exact hn
def spDraw : Sp := fun vs H Q _ => ∃ (s c : Addr) (m : Int), vs = [.ref s, .int m] ∧ StAt H s c ∧ 0 < m ∧ m < 1073741824 ∧ ∀ r H', 0 ≤ r → r < m → StAt H' s c → Keep H H' s c → Q (.int r) H'
theorem ok_law_draw {P : Program} {w : World} {K : PySem.W.Frag} {mg : Str → Option Value} {base : Heap} {f : Addr} {fd : FuncData} (T : Tx K mg) 
    (F : FunD K "_law_draw" "_law_draw" (defArgs s_law_draw) (defBody s_law_draw) (defScope s_law_draw) [] [] f fd) : FnOk P w K mg base CX0 1 f fd ["state", "many"] spDraw := by
  refine F.ok sc_law_draw (fun vs H Q E h => ?_) (fun cdv A outer s0 H vs Q E hr h => ?_)
  · obtain ⟨s, c, m, rfl, _⟩ := h
    rfl
  · obtain ⟨s, c, m, rfl, ⟨ne, ⟨n, h1⟩, ns, h2, h3⟩, hm0, hm1, k⟩ := h
    refine ⟨_, PSs.nox (pss_cons (ps_set (i := 2) sc_law_draw.nd rfl (Or.inl rfl) (pe_ix ix_list (pv 0) pe_int (fun _ _ => rfl))) (C8.pss_cut (ps_while PassesOwn.never (PW.pt (pw_and (pt_cmpR op_gt (pe_callB call_len_seq rfl T.f_len PySem.boot_len (pa_cons (pv 2) pa_nil)) pe_int (nomark _)) (pw_and1 (pt_cmpR op_eq (pe_ix ix_list (pv 2) pe_int (fun _ _ => rfl)) pe_int (nomark _))))) (pss_one (ps_expr (pe_bm PySem.F.plainAttrs_list PySem.F.slot_list_pop PySem.F.type_list_pop mt_popAt (pv 2) (pa_cons pe_int pa_nil))))) (C8.pss_cut (ps_if (pt_cmpR op_gt (pe_callB call_len_seq rfl T.f_len PySem.boot_len (pa_cons (pv 2) pa_nil)) pe_int (nomark _)) (pss_cons (ps_set (i := 3) sc_law_draw.nd rfl (Or.inl rfl) (pe_ix ix_list (pv 2) pe_int (fun _ _ => rfl))) (pss_cons (ps_asg (pe_op op_fdiv (pv 3) (pv 1)) (pg_sub (pv 2) pe_int set_list)) (pss_one (ps_ret (pe_op op_mod (pe_callTy call_int1 rfl T.f_int (by decide +kernel) (pa_cons (pv 3) pa_nil)) (pv 1)))))) pss_nil) (pss_cons (ps_set (i := 4) sc_law_draw.nd rfl (Or.inl rfl) (pe_op op_mod (pe_callTy call_int1 rfl T.f_int (by decide +kernel) (pa_cons (pe_op op_add (pe_op op_mul (pe_ix ix_list (pv 0) pe_int (fun _ _ => rfl)) pe_int) pe_int) pa_nil)) pe_int)) (pss_cons (ps_asg (pv 4) (pg_sub (pv 0) pe_int set_list)) (pss_one (ps_ret (pe_op op_mod (pe_callTy call_int1 rfl T.f_int (by decide +kernel) (pa_cons (pe_op op_fdiv (pv 4) pe_int) pa_nil)) (pv 1))))))))), ?_⟩
    refine ⟨_, rfl, s, _, 0, _, rfl, rfl, SqL.of h1, rfl, ?_⟩
    let I : L2.St → Hp → List Int → Prop := fun σ H' ns' => σ = [some (.ref s), some (.int m), some (.ref c), none, none] ∧ H' s = some (.lst [.ref c, .int n]) ∧ Keep H H' s c ∧ H' c = some (.lst (ns'.map V.int)) ∧ ns'.length ≤ 63
    refine ⟨fun σ H' => ∃ ns', I σ H' ns', ?_, ?_⟩
    · refine ⟨fun l σ H' => ∃ ns', l = ns'.length ∧ I σ H' ns', ⟨ns.length, ns, rfl, rfl, h1, Keep.refl _ _ _, h2, h3⟩, ?_⟩
      rintro l σ H' ⟨ns', rfl, rfl, g1, kp, g2, g3⟩
      refine ⟨_, rfl, c, _, rfl, .inl (SqL.of g2), _, _, rfl, rfl, _, rfl, ?_⟩
      cases ns' with
      | nil => exact iteF (iteF ⟨[], rfl, g1, kp, g2, g3⟩)
      | cons v r =>
        rw [List.length_map, decide_eq_true (by rw [List.length_cons]; omega)]
        refine iteT ?_
        refine ⟨_, rfl, c, _, 0, V.int v, rfl, rfl, SqL.of g2, atC _ _, rfl, _, rfl, ?_⟩
        refine ite2 (fun h5 => ?_) (fun h5 => ⟨v :: r, rfl, g1, kp, g2, g3⟩)
        refine ⟨fun σ' H2 => ∃ l, l < (v :: r).length ∧ ∃ ns', l = ns'.length ∧ I σ' H2 ns', fun _ _ q => q, ?_⟩
        refine ⟨_, rfl, .inl ⟨rfl, _, SqL.of g2⟩, c, _, 0, 0, V.int v, rfl, rfl, g2, by decide, by decide, sqC _ _, rfl, ?_⟩
        refine ⟨r.length, Nat.lt_succ_self _, r, rfl, rfl, ?_, fun b o e q1 q2 => ?_, upd_same, Nat.le_of_succ_le g3⟩
        · rw [upd_ne ne]
          exact g1
        · rw [upd_ne q2]
          exact kp b o e q1 q2
    · rintro σ H' ⟨ns', rfl, g1, kp, g2, g3⟩
      refine ⟨fun σ' H2 => σ' = [some (.ref s), some (.int m), some (.ref c), none, none] ∧ H2 = H', ?_, ?_⟩
      · refine ⟨_, rfl, c, _, rfl, .inl (SqL.of g2), _, _, rfl, rfl, _, rfl, ?_⟩
        cases ns' with
        | nil => exact iteF ⟨rfl, rfl⟩
        | cons v r =>
          rw [List.length_map, decide_eq_true (by rw [List.length_cons]; omega)]
          refine iteT ?_
          refine ⟨_, rfl, c, _, 0, V.int v, rfl, rfl, SqL.of g2, atC _ _, ?_⟩
          refine ⟨_, rfl, _, rfl, _, _, rfl, rfl, ⟨hm0, hm1⟩, _, rfl, c, _, 0, 0, rfl, rfl, g2, ixC _ _, ?_⟩
          refine ⟨_, rfl, .inl ⟨_, rfl, _, rfl, _, _, rfl, rfl, hm0, ?_⟩⟩
          refine k _ _ (Int.emod_nonneg _ (by omega)) (Int.emod_lt_of_pos _ hm0) ⟨ne, ⟨n, ?_⟩, (v / m) :: r, upd_same, g3⟩ (fun b o e q1 q2 => ?_)
          · rw [upd_ne ne]
            exact g1
          · rw [upd_ne q2]
            exact kp b o e q1 q2
      · rintro σ' H2 ⟨rfl, rfl⟩
        refine ⟨_, rfl, s, _, 1, _, rfl, rfl, SqL.of g1, rfl, _, _, rfl, rfl, .inr ⟨by decide, by decide⟩, _, _, rfl, rfl, .inl ⟨_, rfl, _, _, rfl, rfl, (by show (0 : Int) < 2147483647; decide), ?_⟩⟩
        refine ⟨_, rfl, _, rfl, s, _, 1, 1, rfl, rfl, g1, rfl, ?_⟩
        refine ⟨_, rfl, _, _, rfl, rfl, ⟨by decide, by decide⟩, .inl ⟨_, rfl, _, rfl, _, _, rfl, rfl, hm0, ?_⟩⟩
        refine k _ _ (Int.emod_nonneg _ (by omega)) (Int.emod_lt_of_pos _ hm0) ⟨ne, ⟨_, upd_same⟩, ns', ?_, g3⟩ (fun b o e q1 q2 => ?_)
        · rw [upd_ne ne.symm]
          exact g2
        · rw [upd_ne q1]
          exact kp b o e q1 q2
/-- of a text: one of its signs; of a list: one of its items -/
def spPick : Sp := fun vs H Q _ => ∃ (s c : Addr) (x : V), vs = [.ref s, x] ∧ StAt H s c ∧
  ((∃ z : Str, x = .str z ∧ 0 < z.length ∧ z.length ≤ 1000 ∧ ∀ ch H', ch ∈ TL.tl z → StAt H' s c → Keep H H' s c → Q (.str (S [ch])) H') ∨
   (∃ a xs, x = .ref a ∧ H a = some (.lst xs) ∧ a ≠ s ∧ a ≠ c ∧ 0 < xs.length ∧ xs.length ≤ 1000 ∧ ∀ v ∈ xs, ∀ H', StAt H' s c → Keep H H' s c → Q v H'))
theorem ok_law_pick {P : Program} {w : World} {K : PySem.W.Frag} {mg : Str → Option Value} {base : Heap} {f : Addr} {fd : FuncData} (T : Tx K mg) (c_law_draw : C8.Cal P w K mg base 1 "_law_draw" spDraw [])
    (F : FunD K "_law_pick" "_law_pick" (defArgs s_law_pick) (defBody s_law_pick) (defScope s_law_pick) [] [] f fd) : FnOk P w K mg base CX0 2 f fd ["state", "row"] spPick := by
  refine F.ok sc_law_pick (fun vs H Q E h => ?_) (fun cdv A outer s0 H vs Q E hr h => ?_)
  · obtain ⟨s, c, x, rfl, _⟩ := h
    rfl
  · obtain ⟨s, c, x, rfl, hst, h⟩ := h
    refine ⟨_, PSs.nox (pss_one (ps_ret (pe_ix ix_seq (pv 1) (pe_c c_law_draw hr (by decide) rfl (pa_cons (pv 0) (pa_cons (pe_callB call_len rfl T.f_len PySem.boot_len (pa_cons (pv 1) pa_nil)) pa_nil))) (fun _ _ => rfl)))), ?_⟩
    rcases h with ⟨z, rfl, z0, z1, k⟩ | ⟨a, xs, rfl, ha, as, ac, x0, x1, k⟩
    · have hz2 : z.length ≤ sizeLine := Nat.le_trans z1 (by decide)
      refine ⟨_, rfl, _, rfl, _, rfl, _, z.length, rfl, ⟨hz2, rfl⟩, s, c, _, rfl, hst, by omega, by omega, fun r H' r0 r1 st' kp' => ?_⟩
      have hl : r < ((TL.tl z).length : Nat) := by rw [← len_eq]; exact r1
      refine .inr (.inr ⟨z, r, _, rfl, rfl, hz2, atN 0 r0 hl, ?_⟩)
      refine k _ H' ?_ st' kp'
      have hl2 : r.toNat < (TL.tl z).length := by omega
      rw [List.getD_eq_getElem?_getD, List.getElem?_eq_getElem hl2]
      exact List.getElem_mem _
    · have hx2 : xs.length ≤ sizeLine := Nat.le_trans x1 (by decide)
      refine ⟨_, rfl, _, rfl, _, rfl, _, xs.length, rfl, .inl ⟨xs, SqL.of ha, rfl⟩, s, c, _, rfl, hst, by omega, by omega, fun r H' r0 r1 st' kp' => ?_⟩
      refine .inl ⟨a, xs, r, _, rfl, rfl, SqL.of (kp' a _ ha as ac), atN .non r0 r1, ?_⟩
      refine k _ ?_ H' st' kp'
      rw [List.getD_eq_getElem?_getD, List.getElem?_eq_getElem (by omega)]
      exact List.getElem_mem _

end K10
set_option maxHeartbeats 1000000
set_option pp.maxSteps 500
namespace K10
open PySem PySem.Spec PyProof.Rows L2 SX TK NdefX
open C8 (pe_c)
abbrev Bd : Type := Int × Int
def tupV (b : Bd) : List V := [.int b.1, .int b.2]
def TupsAt (H : Hp) : List Addr → List Bd → Prop
  | [], [] => True
  | t :: ts, b :: bs => H t = some (.tup (tupV b)) ∧ TupsAt H ts bs
  | _, _ => False
theorem TupsAt.mono {H H' : Hp} (s : ∀ x b, H x = some (.tup (tupV b)) → H' x = some (.tup (tupV b))) : ∀ {ts : List Addr} {bs : List Bd}, TupsAt H ts bs → TupsAt H' ts bs
  | [], [], _ => trivial
  | t :: ts, b :: bs, h => ⟨s _ _ h.1, TupsAt.mono s h.2⟩
  | [], _ :: _, h => h
  | _ :: _, [], h => h
theorem TupsAt.snoc {H : Hp} {t : Addr} {b : Bd} (ht : H t = some (.tup (tupV b))) : ∀ {ts : List Addr} {bs : List Bd}, TupsAt H ts bs → TupsAt H (ts ++ [t]) (bs ++ [b])
  | [], [], _ => ⟨ht, trivial⟩
  | _ :: _, _ :: _, h => ⟨h.1, TupsAt.snoc ht h.2⟩
  | [], _ :: _, h => h.elim
  | _ :: _, [], h => h.elim
theorem TupsAt.app {H : Hp} : ∀ {ts ts' : List Addr} {bs bs' : List Bd}, TupsAt H ts bs → TupsAt H ts' bs' → TupsAt H (ts ++ ts') (bs ++ bs')
  | [], _, [], _, _, h => h
  | _ :: _, _, _ :: _, _, h, h' => ⟨h.1, TupsAt.app h.2 h'⟩
  | [], _, _ :: _, _, h, _ => h.elim
  | _ :: _, _, [], _, h, _ => h.elim
theorem TupsAt.take {H : Hp} : ∀ {ts : List Addr} {bs : List Bd} (n : Nat), TupsAt H ts bs → TupsAt H (ts.take n) (bs.take n)
  | [], [], n, _ => by rw [List.take_nil, List.take_nil]; trivial
  | _ :: _, _ :: _, 0, _ => trivial
  | _ :: _, _ :: _, n + 1, h => ⟨h.1, TupsAt.take n h.2⟩
  | [], _ :: _, _, h => h.elim
  | _ :: _, [], _, h => h.elim
theorem TupsAt.drop {H : Hp} : ∀ {ts : List Addr} {bs : List Bd} (n : Nat), TupsAt H ts bs → TupsAt H (ts.drop n) (bs.drop n)
  | [], [], n, _ => by rw [List.drop_nil, List.drop_nil]; trivial
  | _ :: _, _ :: _, 0, h => h
  | _ :: _, _ :: _, n + 1, h => TupsAt.drop n h.2
  | [], _ :: _, _, h => h.elim
  | _ :: _, [], _, h => h.elim
theorem TupsAt.len {H : Hp} : ∀ {ts : List Addr} {bs : List Bd}, TupsAt H ts bs → ts.length = bs.length
  | [], [], _ => rfl
  | _ :: _, _ :: _, h => congrArg Nat.succ (TupsAt.len h.2)
  | [], _ :: _, h => h.elim
  | _ :: _, [], h => h.elim
theorem TupsAt.at_ {H : Hp} : ∀ {ts : List Addr} {bs : List Bd}, TupsAt H ts bs → ∀ (i : Nat) (x : V), (ts.map V.ref)[i]? = some x → ∃ t, x = .ref t ∧ ts[i]? = some t ∧ i < bs.length ∧ H t = some (.tup (tupV (bs.getD i (0, 0))))
  | [], [], _, i, x, h => by cases h
  | t :: _, b :: _, h, 0, x, e => ⟨t, (Option.some.inj e).symm, rfl, Nat.succ_pos _, h.1⟩
  | _ :: ts, _ :: bs, h, i + 1, x, e => by
    obtain ⟨t, e1, e2, e3, e4⟩ := TupsAt.at_ h.2 i x e
    exact ⟨t, e1, e2, Nat.succ_lt_succ e3, e4⟩
  | [], _ :: _, h, _, _, _ => h.elim
  | _ :: _, [], h, _, _, _ => h.elim
def BAt (H : Hp) (r : Addr) (bs : List Bd) : Prop := ∃ ts : List Addr, H r = some (.lst (ts.map V.ref)) ∧ TupsAt H ts bs
theorem BAt.same {H H' : Hp} {r : Addr} {bs : List Bd} (h : BAt H r bs) (s : Same H H') : BAt H' r bs := by
  obtain ⟨ts, e, t⟩ := h
  exact ⟨ts, s _ _ e, t.mono fun x b e => s _ _ e⟩
theorem BAt.keep {H H' : Hp} {r s c : Addr} {bs : List Bd} (h : BAt H r bs) (hs : StAt H s c) (k : Keep H H' s c) (h1 : r ≠ s) (h2 : r ≠ c) : BAt H' r bs := by
  obtain ⟨ts, e, t⟩ := h
  obtain ⟨_, ⟨n, hn⟩, ns, hc, _⟩ := hs
  exact ⟨ts, k _ _ e h1 h2, t.mono fun x b e => k _ _ e (ne_of e hn (by intro z; cases z)) (ne_of e hc (by intro z; cases z))⟩
def okU (i : Int) : Bool := if 1 ≤ i then decide (i ≤ 10000) else false
def okP (i : Int) : Bool := if 0 ≤ i then decide (i ≤ 10000) else false
def okD (b : Bd) : Bool := if okU b.1 = true then okP b.2 else false
def okB (bs : List Bd) : Bool := if bs.length ≤ 8 then bs.all okD else false
def spIsU : Sp := fun vs H Q _ => ∃ i : Int, vs = [.int i] ∧ Q (.bl (okU i)) H
def spIsP : Sp := fun vs H Q _ => ∃ i : Int, vs = [.int i] ∧ Q (.bl (okP i)) H
def spAreB (K : PySem.W.Frag) : Sp := fun vs H Q _ => ∃ (r : Addr) (bs : List Bd), vs = [.ref r] ∧ BAt H r bs ∧ bs.length ≤ 40 ∧ ∀ H', Same H H' → Q (.bl (okB bs)) H'
theorem ok_is_unit {P : Program} {w : World} {K : PySem.W.Frag} {mg : Str → Option Value} {base : Heap} {f : Addr} {fd : FuncData} (T : Tx K mg) 
    (F : FunD K "_is_unit" "_is_unit" (defArgs s_is_unit) (defBody s_is_unit) (defScope s_is_unit) [] [] f fd) : FnOk P w K mg base CX0 1 f fd ["number"] spIsU := by
  refine F.ok sc_is_unit (fun vs H Q E h => ?_) (fun cdv A outer s0 H vs Q E hr h => ?_)
  · obtain ⟨i, rfl, _⟩ := h
    rfl
  · obtain ⟨i, rfl, k⟩ := h
    refine ⟨_, PSs.nox (pss_one (ps_ret (pe_chain op_le op_le pe_int (pv 0) (pgI T.g_GREATEST_UNIT)))), ?_⟩
    refine ⟨_, rfl, _, _, rfl, rfl, _, rfl, ?_⟩
    unfold okU at k
    by_cases c : 1 ≤ i
    · rw [if_pos c] at k
      rw [decide_eq_true c]
      exact iteT ⟨_, _, rfl, rfl, k⟩
    · rw [if_neg c] at k
      rw [decide_eq_false c]
      exact iteF k
theorem ok_is_price {P : Program} {w : World} {K : PySem.W.Frag} {mg : Str → Option Value} {base : Heap} {f : Addr} {fd : FuncData} (T : Tx K mg) 
    (F : FunD K "_is_price" "_is_price" (defArgs s_is_price) (defBody s_is_price) (defScope s_is_price) [] [] f fd) : FnOk P w K mg base CX0 1 f fd ["number"] spIsP := by
  refine F.ok sc_is_price (fun vs H Q E h => ?_) (fun cdv A outer s0 H vs Q E hr h => ?_)
  · obtain ⟨i, rfl, _⟩ := h
    rfl
  · obtain ⟨i, rfl, k⟩ := h
    refine ⟨_, PSs.nox (pss_one (ps_ret (pe_chain op_le op_le pe_int (pv 0) (pgI T.g_GREATEST_PRICE)))), ?_⟩
    refine ⟨_, rfl, _, _, rfl, rfl, _, rfl, ?_⟩
    unfold okP at k
    by_cases c : 0 ≤ i
    · rw [if_pos c] at k
      rw [decide_eq_true c]
      exact iteT ⟨_, _, rfl, rfl, k⟩
    · rw [if_neg c] at k
      rw [decide_eq_false c]
      exact iteF k
theorem ok_are_bands {P : Program} {w : World} {K : PySem.W.Frag} {mg : Str → Option Value} {base : Heap} {f : Addr} {fd : FuncData} (T : Tx K mg) (c_is_unit : C8.Cal P w K mg base 1 "_is_unit" spIsU []) (c_is_price : C8.Cal P w K mg base 1 "_is_price" spIsP [])
    (F : FunD K "_are_bands" "_are_bands" (defArgs s_are_bands) (defBody s_are_bands) (defScope s_are_bands) [] [] f fd) : FnOk P w K mg base CX0 2 f fd ["bands"] (spAreB K) := by
  refine F.ok sc_are_bands (fun vs H Q E h => ?_) (fun cdv A outer s0 H vs Q E hr h => ?_)
  · obtain ⟨r, bs, rfl, _⟩ := h
    rfl
  · obtain ⟨r, bs, rfl, hB, hn, k⟩ := h
    refine ⟨_, PSs.nox (pss_one (ps_ret (pe_and (pe_cmpR op_le (pe_callB call_len_seq rfl T.f_len PySem.boot_len (pa_cons (pv 0) pa_nil)) (pgI T.g_MOST_BANDS) (nomark _)) (pe_one (pe_callB (cr_all rfl) rfl T.f_all (by decide +kernel) (pa_cons (pe_lc (own := [("many", 1), ("price", 2)]) rfl sc_are_bands.nd (pi_list (pv 0)) (blkOk_by (own := [("many", 1), ("price", 2)]) (N := ["bands", "many", "price"]) (sc := defScope s_are_bands) (by decide +kernel)) (fun _ _ _ _ _ => TKE.pg_tupK (n := 2) K rfl rfl (pgs_cons (pg_name (i := 1) sc_are_bands.nd rfl (Or.inl rfl)) (pgs_cons (pg_name (i := 2) sc_are_bands.nd rfl (Or.inl rfl)) pgs_nil))) (fun _ _ _ _ _ => pts_nil) (fun _ _ _ _ _ => (pe_and (pe_c c_is_unit hr (by decide) rfl (pa_cons (pv 1) pa_nil)) (pe_one (pe_c c_is_price hr (by decide) rfl (pa_cons (pv 2) pa_nil)))))) pa_nil)))))), ?_⟩
    obtain ⟨ts, e, q⟩ := hB
    refine ⟨_, rfl, r, _, rfl, .inl (SqL.of e), _, _, rfl, rfl, _, rfl, ?_⟩
    have hl := q.len
    unfold okB at k
    by_cases c : bs.length ≤ 8
    · rw [List.length_map, hl, decide_eq_true (by omega)]
      simp only [if_pos c] at k
      refine iteT ?_
      refine ⟨_, rfl, r, rfl, ⟨_, SqL.of e⟩, fun D hD => ?_⟩
      have hnm : (ts.map V.ref).length ≤ sizeLine := by rw [List.length_map, hl, sizeLine_eq]; omega
      have hR : ∀ o, SqL K (upd H D o) r (ts.map V.ref) := fun o => SqL.of ((same_upd hD) _ _ e)
      refine lc_pure walk_list (fun i => V.bl (okD (bs.getD i (0, 0)))) hnm (fun _ _ => hR _) (fun i x H1 kk hi y qq => ?_) (fun _ _ _ _ h q => h _ _ q) (fun x σ H Q Q' h z => ?_) ?_
      · obtain ⟨rfl, hx⟩ := y
        obtain ⟨t, rfl, _, _, ht⟩ := q.at_ i x hx
        refine ⟨t, _, rfl, SqT.of ((same_upd hD) _ _ ht), rfl, _, _, rfl, _, _, rfl, rfl, rfl, rfl, ?_⟩
        generalize bs.getD i (0, 0) = b at qq
        refine ⟨_, rfl, b.1, rfl, _, rfl, ?_⟩
        unfold okD at qq
        by_cases c1 : okU b.1 = true
        · rw [if_pos c1] at qq
          rw [c1]
          exact iteT ⟨_, rfl, b.2, rfl, qq⟩
        · rw [if_neg c1] at qq
          rw [ef c1]
          exact iteF qq
      · obtain ⟨a, xs, e1, e2, e3, v1, r1, e4, v2, r2, e5, e6, q⟩ := z
        exact ⟨a, xs, e1, e2, e3, v1, r1, e4, v2, r2, e5, e6, h _ _ q⟩
      · refine ⟨D, bs.map okD, rfl, ?_, ?_⟩
        · have e9 : (List.range (ts.map V.ref).length).map (fun i => V.bl (okD (bs.getD i (0, 0)))) = (bs.map okD).map V.bl := by
            rw [List.length_map, hl, range_map_getD bs (0, 0) fun b => V.bl (okD b), List.map_map]
            rfl
          rw [e9]
          exact SqL.of upd_same
        · rw [List.all_map] 
          exact k _ (same_upd hD)
    · rw [List.length_map, hl, decide_eq_false (by omega)]
      simp only [if_neg c] at k
      exact iteF (k _ fun _ _ e => e)
end K10
set_option maxHeartbeats 1000000
set_option pp.maxSteps 500
namespace K10
open PySem PySem.Spec PyProof.Rows L2 SX TK NdefX
open C8 (pe_c)
def minI (i j : Int) : Int := if j < i then j else i
def step (s : Int × Int) (b : Bd) : Int × Int := (s.1 - minI s.1 b.1, s.2 + minI s.1 b.1 * b.2)
def unitsI (u span : Int) : Int := (span + u - 1) / u
def costI (u : Int) (bs : List Bd) (l span : Int) : Int := (bs.foldl step (unitsI u span, 0)).2 + (bs.foldl step (unitsI u span, 0)).1 * l
def tfl (u : Int) (r : Addr) (l : Int) : List (Str × V) := [("unit", .int u), ("bands", .ref r), ("last", .int l)]
def TAt (K : PySem.W.Frag) (H : Hp) (p r : Addr) (u : Int) (bs : List Bd) (l : Int) : Prop := ∃ dx, H p = some (.ins (He.ga K "Tariff") dx (tfl u r l)) ∧ BAt H r bs
theorem TAt.same {K : PySem.W.Frag} {H H' : Hp} {p r : Addr} {u : Int} {bs : List Bd} {l : Int} (h : TAt K H p r u bs l) (s : Same H H') : TAt K H' p r u bs l := by
  obtain ⟨dx, e, t⟩ := h
  exact ⟨dx, s _ _ e, t.same s⟩
theorem okD_get {bs : List Bd} (h : okB bs = true) {i : Nat} (hi : i < bs.length) : okU (bs.getD i (0, 0)).1 = true ∧ okP (bs.getD i (0, 0)).2 = true := by
  unfold okB at h
  by_cases c : bs.length ≤ 8
  · rw [if_pos c, List.all_eq_true] at h
    have e := h (bs.getD i (0, 0)) (by rw [List.getD_eq_getElem?_getD, List.getElem?_eq_getElem hi]; exact List.getElem_mem _)
    unfold okD at e
    by_cases c1 : okU (bs.getD i (0, 0)).1 = true
    · rw [if_pos c1] at e
      exact ⟨c1, e⟩
    · rw [if_neg c1] at e
      cases e
  · rw [if_neg c] at h
    cases h
theorem okB_len {bs : List Bd} (h : okB bs = true) : bs.length ≤ 8 := by
  unfold okB at h
  by_cases c : bs.length ≤ 8
  · exact c
  · rw [if_neg c] at h
    cases h
theorem okU_to {i : Int} (h : okU i = true) : 1 ≤ i ∧ i ≤ 10000 := by
  unfold okU at h
  by_cases c : 1 ≤ i
  · rw [if_pos c] at h
    exact ⟨c, of_decide_eq_true h⟩
  · rw [if_neg c] at h
    cases h
theorem okP_to {i : Int} (h : okP i = true) : 0 ≤ i ∧ i ≤ 10000 := by
  unfold okP at h
  by_cases c : 0 ≤ i
  · rw [if_pos c] at h
    exact ⟨c, of_decide_eq_true h⟩
  · rw [if_neg c] at h
    cases h
theorem take_step {bs : List Bd} {i : Nat} (hi : i < bs.length) (s0 : Int × Int) : (bs.take (i + 1)).foldl step s0 = step ((bs.take i).foldl step s0) (bs.getD i (0, 0)) := by
  rw [List.take_add_one, List.getElem?_eq_getElem hi, List.foldl_append, List.getD_eq_getElem?_getD, List.getElem?_eq_getElem hi]
  rfl
def spUnits (K : PySem.W.Frag) : Sp := fun vs H Q _ => ∃ (p dx r : Addr) (u l span : Int), vs = [.ref p, .int span] ∧ H p = some (.ins (He.ga K "Tariff") dx (tfl u r l)) ∧ 1 ≤ u ∧ u ≤ 10000 ∧ Q (.int (unitsI u span)) H
theorem ok_Tariff_units {P : Program} {w : World} {K : PySem.W.Frag} {mg : Str → Option Value} {base : Heap} {f : Addr} {fd : FuncData} (T : Tx K mg) 
    (F : FunD K "units" "Tariff.units" (defArgs s_Tariff_units) (defBody s_Tariff_units) (defScope s_Tariff_units) [] [] f fd) : FnOk P w K mg base CX0 1 f fd ["self", "span"] (spUnits K) := by
  refine F.ok sc_Tariff_units (fun vs H Q E h => ?_) (fun cdv A outer s0 H vs Q E hr h => ?_)
  · obtain ⟨p, dx, r, u, l, span, rfl, _⟩ := h
    rfl
  · obtain ⟨p, dx, r, u, l, span, rfl, hp, h1, h2, k⟩ := h
    refine ⟨_, PSs.nox (pss_one (ps_ret (pe_op op_fdiv (pe_op op_sub (pe_op op_add (pv 1) (pe_fldC rfl T.cl_Tariff T.na_Tariff_unit (pv 0) rfl)) pe_int) (pe_fldC rfl T.cl_Tariff T.na_Tariff_unit (pv 0) rfl)))), ?_⟩
    exact ⟨_, rfl, _, rfl, p, dx, _, _, rfl, hp, rfl, _, _, rfl, rfl, _, _, rfl, rfl, _, rfl, p, dx, _, _, rfl, hp, rfl, _, _, rfl, rfl, ⟨by omega, by omega⟩, k⟩
def spCost (K : PySem.W.Frag) : Sp := fun vs H Q _ => ∃ (p r : Addr) (u l span : Int) (bs : List Bd), vs = [.ref p, .int span] ∧ TAt K H p r u bs l ∧ okU u = true ∧ okB bs = true ∧ okP l = true ∧ Q (.int (costI u bs l span)) H
theorem ok_Tariff_cost {P : Program} {w : World} {K : PySem.W.Frag} {mg : Str → Option Value} {base : Heap} {f : Addr} {fd : FuncData} (T : Tx K mg) (c_Tariff_units : C8.Met P w K mg base 1 (He.ga K "Tariff") "units" (spUnits K) [])
    (F : FunD K "cost" "Tariff.cost" (defArgs s_Tariff_cost) (defBody s_Tariff_cost) (defScope s_Tariff_cost) [] [] f fd) : FnOk P w K mg base CX0 2 f fd ["self", "span"] (spCost K) := by
  refine F.ok sc_Tariff_cost (fun vs H Q E h => ?_) (fun cdv A outer s0 H vs Q E hr h => ?_)
  · obtain ⟨p, r, u, l, span, bs, rfl, _⟩ := h
    rfl
  · obtain ⟨p, r, u, l, span, bs, rfl, ⟨dx, hp, ts, e, q⟩, h1, h2, h3, k⟩ := h
    refine ⟨_, PSs.nox (pss_cons (ps_set (i := 2) sc_Tariff_cost.nd rfl (Or.inl rfl) (C8.pe_mt c_Tariff_units hr (by decide) (pv 0) (pa_cons (pv 1) pa_nil))) (pss_cons (ps_set (i := 3) sc_Tariff_cost.nd rfl (Or.inl rfl) pe_int) (pss_cons (ps_for PassesOwn.never rfl (pi_list (pe_fldC rfl T.cl_Tariff T.na_Tariff_bands (pv 0) rfl)) (pg_tup rfl (pgs_cons (pg_name (i := 4) sc_Tariff_cost.nd rfl (Or.inl rfl)) (pgs_cons (pg_name (i := 5) sc_Tariff_cost.nd rfl (Or.inl rfl)) pgs_nil))) (pss_cons (ps_set (i := 6) sc_Tariff_cost.nd rfl (Or.inl rfl) (pe_callB (call_min2 rfl) rfl T.f_min (by decide +kernel) (pa_cons (pv 2) (pa_cons (pv 4) pa_nil)))) (pss_cons (ps_aug (i := 3) sc_Tariff_cost.nd rfl (Or.inl rfl) (pe_op op_mul (pv 6) (pv 5)) ip_add) (pss_one (ps_aug (i := 2) sc_Tariff_cost.nd rfl (Or.inl rfl) (pv 6) ip_sub))))) (pss_one (ps_ret (pe_op op_add (pv 3) (pe_op op_mul (pv 2) (pe_fldC rfl T.cl_Tariff T.na_Tariff_last (pv 0) rfl)))))))), ?_⟩
    have hl := q.len
    have hu := okU_to h1
    have hlp := okP_to h3
    refine ⟨_, rfl, p, dx, _, rfl, hp, rfl, _, rfl, p, dx, r, u, l, span, rfl, hp, hu.1, hu.2, ?_⟩
    refine ⟨_, rfl, p, dx, _, _, rfl, hp, rfl, r, rfl, ⟨_, SqL.of e⟩, for_list (K := K) (a := r) (xs := ts.map V.ref) (fun i σ H' => H' = H ∧ ∃ (v1 v2 v3 : Option V), σ = [some (.ref p), some (.int span), some (.int ((bs.take i).foldl step (unitsI u span, 0)).1), some (.int ((bs.take i).foldl step (unitsI u span, 0)).2), v1, v2, v3]) ⟨rfl, none, none, none, rfl⟩ (fun i σ H' _ q => q.1 ▸ SqL.of e) ?_ ?_⟩
    · rintro i y σ H' hi ⟨rfl, v1, v2, v3, rfl⟩
      obtain ⟨t, rfl, _, hib, ht⟩ := q.at_ i y hi
      obtain ⟨b1, b2⟩ := okD_get h2 hib
      have hb2 := okP_to b2
      have e9 := take_step hib (unitsI u span, 0)
      rw [e9]
      generalize (bs.take i).foldl step (unitsI u span, 0) = st
      generalize bs.getD i (0, 0) = b at ht b1 b2 hb2
      refine ⟨t, _, rfl, SqT.of ht, rfl, _, _, rfl, _, _, rfl, rfl, ?_⟩
      refine ⟨_, rfl, _, rfl, _, _, rfl, ?_⟩
      refine ⟨_, rfl, _, rfl, _, rfl, _, _, rfl, rfl, .inr ⟨by omega, by omega⟩, ?_⟩
      exact ⟨_, _, rfl, rfl, _, rfl, _, rfl, _, _, rfl, rfl, rfl, some (.int b.1), some (.int b.2), some (.int (minI st.1 b.1)), rfl⟩
    · rintro σ H' ⟨rfl, v1, v2, v3, rfl⟩
      rw [List.length_map, hl, List.take_length]
      refine ⟨_, rfl, _, rfl, _, rfl, p, dx, _, _, rfl, hp, rfl, _, _, rfl, rfl, .inr ⟨by omega, by omega⟩, _, _, rfl, rfl, k⟩
def fltS (u : Int) (bs : List Bd) (l : Int) : Str := if okU u = true then (if okB bs = true then (if okP l = true then "" else "last") else "bands") else "unit"
def spTInit (K : PySem.W.Frag) : Sp := fun vs H Q E => ∃ (p dx a : Addr) (u l : Int) (bs : List Bd), vs = [.ref p, .int u, .ref a, .int l] ∧ H p = some (.ins (He.ga K "Tariff") dx []) ∧ BAt H a bs ∧ bs.length ≤ 40 ∧
  (fltS u bs l = "" → ∀ r H', H' p = some (.ins (He.ga K "Tariff") dx (tfl u r l)) → BAt H' r bs → H r = none → (∀ c o, H c = some o → c ≠ p → H' c = some o) → Q .non H') ∧
  (fltS u bs l ≠ "" → ∀ d H', H' d = some (.xd [("setting", .str (fltS u bs l))]) → Same H H' → E (.ref (He.ga K "ConfigError")) (some d) H')
theorem ok_Tariff___init {P : Program} {w : World} {K : PySem.W.Frag} {mg : Str → Option Value} {base : Heap} {f : Addr} {fd : FuncData} (T : Tx K mg) (x_ConfigError : TKE.ExcMk P w K mg base "ConfigError" (He.ga K "ConfigError") "setting" TKE.isS) (c_is_unit : C8.Cal P w K mg base 1 "_is_unit" spIsU []) (c_is_price : C8.Cal P w K mg base 1 "_is_price" spIsP []) (c_are_bands : C8.Cal P w K mg base 2 "_are_bands" (spAreB K) [])
    (F : FunD K "__init__" "Tariff.__init__" (defArgs s_Tariff___init) (defBody s_Tariff___init) (defScope s_Tariff___init) [] [] f fd) : FnOk P w K mg base (L2.CX P w) 3 f fd ["self", "unit", "bands", "last"] (spTInit K) := by
  refine F.ok sc_Tariff___init (fun vs H Q E h => ?_) (fun cdv A outer s0 H vs Q E hr h => ?_)
  · obtain ⟨p, dx, a, u, l, bs, rfl, _⟩ := h
    rfl
  · obtain ⟨p, dx, a, u, l, bs, rfl, hp, hB, hn, k1, k2⟩ := h
    refine ⟨_, (C8.pss_cut (ps_if (pt_not (pt_val (pe_c c_is_unit hr (by decide) rfl (pa_cons (pv 1) pa_nil)))) (pss_one (TKE.ps_raiseE x_ConfigError rfl (takes_of rfl rfl rfl rfl) hr (by decide) rfl pe_str)) pss_nil) (C8.pss_cut (ps_if (pt_not (pt_val (pe_c c_are_bands hr (by decide) rfl (pa_cons (pv 2) pa_nil)))) (pss_one (TKE.ps_raiseE x_ConfigError rfl (takes_of rfl rfl rfl rfl) hr (by decide) rfl pe_str)) pss_nil) (C8.pss_cut (ps_if (pt_not (pt_val (pe_c c_is_price hr (by decide) rfl (pa_cons (pv 3) pa_nil)))) (pss_one (TKE.ps_raiseE x_ConfigError rfl (takes_of rfl rfl rfl rfl) hr (by decide) rfl pe_str)) pss_nil) (pss_cons (ps_fldC rfl T.cl_Tariff T.na_Tariff_unit (pv 0) (pv 1) rfl) (pss_cons (ps_fldC rfl T.cl_Tariff T.na_Tariff_bands (pv 0) (pe_lc (own := [("band", 4)]) (g := gName 4) rfl sc_Tariff___init.nd (pi_list (pv 2)) (blkOk_by (own := [("band", 4)]) (N := ["self", "unit", "bands", "last", "band"]) (sc := defScope s_Tariff___init) (by decide +kernel)) (fun _ _ _ _ _ => pg_name (i := 4) sc_Tariff___init.nd rfl (Or.inl rfl)) (fun _ _ _ _ _ => pts_nil) (fun _ _ _ _ _ => (pe_callTy (TKE.tupOfK K rfl) rfl T.f_tuple (by decide +kernel) (pa_cons (pv 4) pa_nil)))) rfl) (pss_one (ps_fldC rfl T.cl_Tariff T.na_Tariff_last (pv 0) (pv 3) rfl))))))), ?_⟩
    refine ⟨fun σ' H' => okU u = true ∧ σ' = [some (.ref p), some (.int u), some (.ref a), some (.int l), none] ∧ H' = H, ?_, ?_⟩
    · refine ⟨_, rfl, u, rfl, _, rfl, ?_⟩
      by_cases c : okU u = true
      · rw [c]
        exact iteF ⟨rfl, rfl, rfl⟩
      · rw [ef c]
        refine iteT ⟨⟨"unit", rfl, by decide⟩, fun d hd => ?_⟩
        have ef1 : fltS u bs l = "unit" := by unfold fltS; rw [if_neg c]
        exact k2 (by rw [ef1]; decide) d _ (by rw [ef1]; exact upd_same) (same_upd hd)
    · rintro σ' H' ⟨cu, rfl, rfl⟩
      refine ⟨fun σ' H2 => okB bs = true ∧ σ' = [some (.ref p), some (.int u), some (.ref a), some (.int l), none] ∧ Same H' H2, ?_, ?_⟩
      · refine ⟨_, rfl, a, bs, rfl, hB, hn, fun H1 s1 => ⟨_, rfl, ?_⟩⟩
        by_cases c : okB bs = true
        · rw [c]
          exact iteF ⟨rfl, rfl, s1⟩
        · rw [ef c]
          refine iteT ⟨⟨"bands", rfl, by decide⟩, fun d hd => ?_⟩
          have ef1 : fltS u bs l = "bands" := by unfold fltS; rw [if_pos cu, if_neg c]
          exact k2 (by rw [ef1]; decide) d _ (by rw [ef1]; exact upd_same) (s1.trans (same_upd hd))
      · rintro σ' H2 ⟨cb, rfl, s2⟩
        refine ⟨fun σ' H3 => okP l = true ∧ σ' = [some (.ref p), some (.int u), some (.ref a), some (.int l), none] ∧ H3 = H2, ?_, ?_⟩
        · refine ⟨_, rfl, l, rfl, _, rfl, ?_⟩
          by_cases c : okP l = true
          · rw [c]
            exact iteF ⟨rfl, rfl, rfl⟩
          · rw [ef c]
            refine iteT ⟨⟨"last", rfl, by decide⟩, fun d hd => ?_⟩
            have ef1 : fltS u bs l = "last" := by unfold fltS; rw [if_pos cu, if_pos cb, if_neg c]
            exact k2 (by rw [ef1]; decide) d _ (by rw [ef1]; exact upd_same) (s2.trans (same_upd hd))
        · rintro σ' H3 ⟨cl, rfl, rfl⟩
          have ef1 : fltS u bs l = "" := by unfold fltS; rw [if_pos cu, if_pos cb, if_pos cl]
          have k := k1 ef1
          clear k1 k2
          have hp3 := s2 _ _ hp
          obtain ⟨ts, e, q⟩ := hB.same s2
          have pa : a ≠ p := ne_of e hp3 (by intro z; cases z)
          refine ⟨_, rfl, _, rfl, p, dx, _, rfl, hp3, sm, ?_⟩
          refine ⟨_, rfl, a, rfl, ⟨_, SqL.of ((upd_ne pa).trans e)⟩, fun D hD => ?_⟩
          have Dp : D ≠ p := fun z => by rw [z, upd_same] at hD; cases hD
          have hD3 : H3 D = none := by rw [upd_ne Dp] at hD; exact hD
          have aD : a ≠ D := ne_of_none e hD3
          have hl := q.len
          have hR : ∀ o, SqL K (upd (upd H3 p (.ins (He.ga K "Tariff") dx (putF "unit" (.int u) []))) D o) a (ts.map V.ref) := fun o => SqL.of ((upd_ne aD).trans ((upd_ne pa).trans e))
          refine lc_pureN walk_list (fun i => V.ref (ts.getD i 0)) (by rw [List.length_map, hl, sizeLine_eq]; omega) (fun _ _ => hR _) (fun i x H1 kk hi y qq => ?_) ?_
          · obtain ⟨rfl, hx⟩ := y
            obtain ⟨t, rfl, ht0, _, ht⟩ := q.at_ i x hx
            refine ⟨rfl, _, rfl, t, _, rfl, .inr ⟨SqT.of ((upd_ne (ne_of_none ht hD3)).trans ((upd_ne (ne_of ht hp3 (by intro z; cases z))).trans ht)), ?_⟩⟩
            have e0 : ts.getD i 0 = t := getD_at 0 ht0
            rw [e0] at qq
            exact qq
          · have e9 : (List.range (ts.map V.ref).length).map (fun i => V.ref (ts.getD i 0)) = ts.map V.ref := by
              rw [List.length_map, range_map_getD ts 0 V.ref]
            rw [e9]
            refine ⟨_, rfl, p, dx, _, rfl, (upd_ne Dp.symm).trans upd_same, sm, ?_⟩
            refine ⟨_, rfl, _, rfl, p, dx, _, rfl, upd_same, sm, ?_⟩
            rw [upd_upd]
            have hH : ∀ c o, H3 c = some o → c ≠ p → (upd (upd (upd H3 p (.ins (He.ga K "Tariff") dx (putF "unit" (.int u) []))) D (.lst (ts.map V.ref))) p (.ins (He.ga K "Tariff") dx (tfl u D l))) c = some o := fun c o ec hc =>
              (upd_ne hc).trans ((upd_ne (ne_of_none ec hD3)).trans ((upd_ne hc).trans ec))
            refine k D _ upd_same ⟨ts, (upd_ne Dp).trans upd_same, q.mono fun x b ex => hH _ _ ex (ne_of ex hp3 (by intro z; cases z))⟩ ?_ fun c o ec hc => hH c o (s2 _ _ ec) hc
            cases eD : H' D with
            | none => rfl
            | some o => rw [s2 _ _ eD] at hD3; cases hD3
end K10
set_option maxHeartbeats 1000000
set_option pp.maxSteps 500
namespace K10
open PySem PySem.Spec PyProof.Rows L2 SX TK NdefX
open C8 (pe_c)
def spValue : Sp := fun vs H Q _ => ∃ (s c : Addr) (m : Int), vs = [.ref s, .int m] ∧ StAt H s c ∧ 0 ≤ m ∧ m ≤ 1 ∧ ∀ r H', m ≤ r → r ≤ 10000 → StAt H' s c → Keep H H' s c → Q (.int r) H'
theorem ok_law_value {P : Program} {w : World} {K : PySem.W.Frag} {mg : Str → Option Value} {base : Heap} {f : Addr} {fd : FuncData} (T : Tx K mg) (c_law_draw : C8.Cal P w K mg base 1 "_law_draw" spDraw []) (c_law_pick : C8.Cal P w K mg base 2 "_law_pick" spPick [])
    (F : FunD K "_law_value" "_law_value" (defArgs s_law_value) (defBody s_law_value) (defScope s_law_value) [] [] f fd) : FnOk P w K mg base CX0 3 f fd ["state", "least"] spValue := by
  refine F.ok sc_law_value (fun vs H Q E h => ?_) (fun cdv A outer s0 H vs Q E hr h => ?_)
  · obtain ⟨s, c, m, rfl, _⟩ := h
    rfl
  · obtain ⟨s, c, m, rfl, hst, h0, h1, k⟩ := h
    refine ⟨_, PSs.nox (pss_one (ps_ret (pe_c c_law_pick hr (by decide) rfl (pa_cons (pv 0) (pa_cons (pe_lst (pa_cons (pv 1) (pa_cons pe_int (pa_cons pe_int (pa_cons pe_int (pa_cons (pe_op op_add (pv 1) (pe_c c_law_draw hr (by decide) rfl (pa_cons (pv 0) (pa_cons pe_int pa_nil)))) (pa_cons (pe_op op_add (pv 1) (pe_c c_law_draw hr (by decide) rfl (pa_cons (pv 0) (pa_cons pe_int pa_nil)))) pa_nil))))))) pa_nil))))), ?_⟩
    refine ⟨_, rfl, _, rfl, _, rfl, _, rfl, s, c, 20, rfl, hst, by decide, by decide, fun r1 H1 a1 b1 st1 kp1 => ?_⟩
    refine ⟨_, _, rfl, rfl, _, rfl, _, rfl, s, c, 10000, rfl, st1, by decide, by decide, fun r2 H2 a2 b2 st2 kp2 => ?_⟩
    refine ⟨_, _, rfl, rfl, by show 6 ≤ sizeLine; decide, fun p hp => ?_⟩
    obtain ⟨ps, pc⟩ := st2.tracked hp
    refine ⟨s, c, _, rfl, st2.upd ps pc, .inr ⟨p, _, rfl, upd_same, ps, pc, by simp, by simp, fun v hv H' st3 kp3 => ?_⟩⟩
    have kk : Keep H H' s c := ((kp1.trans kp2).trans (Keep.of_same (same_upd hp))).trans kp3
    simp only [List.mem_cons, List.not_mem_nil, or_false] at hv
    rcases hv with rfl | rfl | rfl | rfl | rfl | rfl
    · exact k _ _ (Int.le_refl _) (by omega) st3 kk
    · exact k _ _ (by omega) (by omega) st3 kk
    · exact k _ _ (by omega) (by omega) st3 kk
    · exact k _ _ (by omega) (by omega) st3 kk
    · exact k _ _ (by omega) (by omega) st3 kk
    · exact k _ _ (by omega) (by omega) st3 kk
def maxI (i j : Int) : Int := if j > i then j else i
def stepL (s : Int × Int) (b : Bd) : Int × Int := (s.1 - b.1, s.2 + b.2 * maxI 0 (minI b.1 s.1))
theorem take_stepL {bs : List Bd} {i : Nat} (hi : i < bs.length) (s0 : Int × Int) : (bs.take (i + 1)).foldl stepL s0 = stepL ((bs.take i).foldl stepL s0) (bs.getD i (0, 0)) := by
  rw [List.take_add_one, List.getElem?_eq_getElem hi, List.foldl_append, List.getD_eq_getElem?_getD, List.getElem?_eq_getElem hi]
  rfl
theorem fold_same {bs : List Bd} (h : ∀ b ∈ bs, 1 ≤ b.1) : ∀ s : Int × Int, bs.foldl step (maxI 0 s.1, s.2) = (maxI 0 (bs.foldl stepL s).1, (bs.foldl stepL s).2) := by
  induction bs with
  | nil => exact fun s => rfl
  | cons b r ih =>
    intro s
    rw [List.foldl_cons, List.foldl_cons]
    have h1 := h b (List.mem_cons_self ..)
    have e : step (maxI 0 s.1, s.2) b = (maxI 0 (stepL s b).1, (stepL s b).2) := by
      unfold step stepL
      have e1 : minI (maxI 0 s.1) b.1 = maxI 0 (minI b.1 s.1) := by
        unfold minI maxI
        repeat' split
        all_goals omega
      have e2 : maxI 0 s.1 - minI (maxI 0 s.1) b.1 = maxI 0 (s.1 - b.1) := by
        unfold minI maxI
        repeat' split
        all_goals omega
      rw [e2, e1, Int.mul_comm]
    rw [e]
    exact ih (fun b hb => h b (List.mem_cons_of_mem _ hb)) _
theorem units_same {u span : Int} (h : 1 ≤ u) : -(-span / u) = unitsI u span := by
  unfold unitsI
  have e1 := Int.emod_add_mul_ediv (-span) u
  have e2 := Int.emod_nonneg (-span) (show u ≠ 0 by omega)
  have e3 := Int.emod_lt_of_pos (-span) (show 0 < u by omega)
  generalize -span / u = q at *
  generalize -span % u = r at *
  have e4 : span + u - 1 = (u - 1 - r) + u * (-q) := by
    rw [Int.mul_neg]
    omega
  rw [e4, Int.add_mul_ediv_left _ _ (by omega), Int.ediv_eq_zero_of_lt (by omega) (by omega)]
  omega
theorem units_nn {u span : Int} (h : 1 ≤ u) (hs : 0 ≤ span) : 0 ≤ unitsI u span := Int.ediv_nonneg (by omega) (by omega)
theorem cost_same {u span l : Int} {bs : List Bd} (h : 1 ≤ u) (hs : 0 ≤ span) (hb : ∀ b ∈ bs, 1 ≤ b.1) : (bs.foldl stepL (-(-span / u), 0)).2 + l * maxI 0 (bs.foldl stepL (-(-span / u), 0)).1 = costI u bs l span := by
  rw [units_same h]
  have e := fold_same hb (unitsI u span, 0)
  have e1 : maxI 0 (unitsI u span) = unitsI u span := by
    have := units_nn h hs
    unfold maxI
    split <;> omega
  dsimp only at e
  rw [e1] at e
  unfold costI
  rw [e, Int.mul_comm]
theorem okD_mem {bs : List Bd} (h : okB bs = true) : ∀ b ∈ bs, okU b.1 = true ∧ okP b.2 = true := by
  intro b hb
  obtain ⟨i, hi, rfl⟩ := List.mem_iff_getElem.mp hb
  have e := okD_get h hi
  rw [List.getD_eq_getElem?_getD, List.getElem?_eq_getElem hi] at e
  exact e
def spLCost (K : PySem.W.Frag) : Sp := fun vs H Q _ => ∃ (a : Addr) (u l span : Int) (bs : List Bd), vs = [.int u, .ref a, .int l, .int span] ∧ BAt H a bs ∧ okU u = true ∧ okB bs = true ∧ okP l = true ∧ 0 ≤ span ∧ Q (.int (costI u bs l span)) H
theorem ok_law_cost {P : Program} {w : World} {K : PySem.W.Frag} {mg : Str → Option Value} {base : Heap} {f : Addr} {fd : FuncData} (T : Tx K mg) 
    (F : FunD K "_law_cost" "_law_cost" (defArgs s_law_cost) (defBody s_law_cost) (defScope s_law_cost) [] [] f fd) : FnOk P w K mg base CX0 1 f fd ["unit", "bands", "last", "span"] (spLCost K) := by
  refine F.ok sc_law_cost (fun vs H Q E h => ?_) (fun cdv A outer s0 H vs Q E hr h => ?_)
  · obtain ⟨a, u, l, span, bs, rfl, _⟩ := h
    rfl
  · obtain ⟨a, u, l, span, bs, rfl, ⟨ts, e, q⟩, h1, h2, h3, hs, k⟩ := h
    refine ⟨_, PSs.nox (pss_cons (ps_set (i := 4) sc_law_cost.nd rfl (Or.inl rfl) (pe_un un_neg (pe_op op_fdiv (pe_un un_neg (pv 3)) (pv 0)))) (pss_cons (ps_set (i := 5) sc_law_cost.nd rfl (Or.inl rfl) pe_int) (pss_cons (ps_for PassesOwn.never rfl (pi_list (pv 1)) (pg_tup rfl (pgs_cons (pg_name (i := 6) sc_law_cost.nd rfl (Or.inl rfl)) (pgs_cons (pg_name (i := 7) sc_law_cost.nd rfl (Or.inl rfl)) pgs_nil))) (pss_cons (ps_set (i := 5) sc_law_cost.nd rfl (Or.inl rfl) (pe_op op_add (pv 5) (pe_op op_mul (pv 7) (pe_callB (call_max2 rfl) rfl T.f_max (by decide +kernel) (pa_cons pe_int (pa_cons (pe_callB (call_min2 rfl) rfl T.f_min (by decide +kernel) (pa_cons (pv 6) (pa_cons (pv 4) pa_nil))) pa_nil)))))) (pss_one (ps_set (i := 4) sc_law_cost.nd rfl (Or.inl rfl) (pe_op op_sub (pv 4) (pv 6)))))) (pss_one (ps_ret (pe_op op_add (pv 5) (pe_op op_mul (pv 2) (pe_callB (call_max2 rfl) rfl T.f_max (by decide +kernel) (pa_cons pe_int (pa_cons (pv 4) pa_nil)))))))))), ?_⟩
    have hl := q.len
    have hu := okU_to h1
    have hlp := okP_to h3
    refine ⟨_, rfl, _, rfl, _, rfl, _, _, rfl, rfl, ⟨by omega, by omega⟩, _, rfl, ?_⟩
    refine ⟨_, rfl, a, rfl, ⟨_, SqL.of e⟩, for_list (K := K) (a := a) (xs := ts.map V.ref) (fun i σ H' => H' = H ∧ ∃ (v1 v2 : Option V), σ = [some (.int u), some (.ref a), some (.int l), some (.int span), some (.int ((bs.take i).foldl stepL (-(-span / u), 0)).1), some (.int ((bs.take i).foldl stepL (-(-span / u), 0)).2), v1, v2]) ⟨rfl, none, none, rfl⟩ (fun i σ H' _ q => q.1 ▸ SqL.of e) ?_ ?_⟩
    · rintro i y σ H' hi ⟨rfl, v1, v2, rfl⟩
      obtain ⟨t, rfl, _, hib, ht⟩ := q.at_ i y hi
      obtain ⟨b1, b2⟩ := okD_get h2 hib
      have hb2 := okP_to b2
      have e9 := take_stepL hib (-(-span / u), 0)
      rw [e9]
      generalize (bs.take i).foldl stepL (-(-span / u), 0) = st
      generalize bs.getD i (0, 0) = b at ht b1 b2 hb2
      refine ⟨t, _, rfl, SqT.of ht, rfl, _, _, rfl, _, _, rfl, rfl, ?_⟩
      refine ⟨_, rfl, _, rfl, _, rfl, _, rfl, _, _, rfl, _, _, rfl, ?_⟩
      exact ⟨_, _, rfl, rfl, .inl ⟨by omega, by omega⟩, _, _, rfl, rfl, _, rfl, _, rfl, _, _, rfl, rfl, rfl, some (.int b.1), some (.int b.2), rfl⟩
    · rintro σ H' ⟨rfl, v1, v2, rfl⟩
      rw [List.length_map, hl, List.take_length]
      refine ⟨_, rfl, _, rfl, _, rfl, _, _, rfl, _, _, rfl, rfl, .inl ⟨by omega, by omega⟩, _, _, rfl, rfl, ?_⟩
      have e9 := cost_same (l := l) hu.1 hs fun b hb => (okU_to (okD_mem h2 b hb).1).1
      rw [← e9] at k
      exact k
def bD (b : Bd) : PyData := .tuple [.int b.1, .int b.2]
def dataB (l : List Bd) : PyData := .list (l.map bD)
theorem lay_bs : ∀ l : List Bd, PyData.canLayAll0 (l.map bD) = true
  | [] => by simp [PyData.canLayAll0]
  | z :: l => by simp [PyData.canLayAll0, PyData.canLay0, bD, lay_bs l]
theorem depth_bs : ∀ l : List Bd, PyData.depthAll (l.map bD) ≤ 2
  | [] => by simp [PyData.depthAll]
  | z :: l => by
    have := depth_bs l
    simp [PyData.depthAll, PyData.depth, bD]
    omega
theorem dataB_ok {l : List Bd} : SeqAt.shaped (dataB l) = true ∧ PyData.eqv (dataB l) (dataB l) = true := by
  have c : (dataB l).canLay0 = true := by unfold dataB; simp [PyData.canLay0, lay_bs l]
  have d := depth_bs l
  refine ⟨?_, SeqAt.eqv_refl _ c⟩
  unfold SeqAt.shaped
  rw [c, Bool.true_and, decide_eq_true_eq]
  simp [dataB, PyData.depth]
  omega
theorem dpAll_bs {K : PySem.W.Frag} {H : Hp} : ∀ {ts : List Addr} {l : List Bd}, TupsAt H ts l → DpAll K H (ts.map V.ref) (l.map bD)
  | [], [], _ => .nil
  | t :: ts, b :: bs, h => .cons (.tup (SqT.of h.1) (.cons (.int _) (.cons (.int _) .nil))) (dpAll_bs h.2)
  | [], _ :: _, h => h.elim
  | _ :: _, [], h => h.elim
theorem dataB_dp {K : PySem.W.Frag} {H : Hp} {a : Addr} {l : List Bd} (h : BAt H a l) : Dp K H (.ref a) (dataB l) := by
  obtain ⟨ts, e, q⟩ := h
  exact .lst (SqL.of e) (dpAll_bs q)
theorem eqv_nil (l : List Bd) : PyData.eqv (dataB l) (dataB []) = l.isEmpty := by
  cases l with
  | nil => exact dataB_ok.2
  | cons b r => simp [dataB, PyData.eqv, PyData.eqvAll]
def badD (b : Bd) : Bool := !okD b
theorem TupsAt.filt {H : Hp} (p : Bd → Bool) : ∀ {ts : List Addr} {bs : List Bd}, TupsAt H ts bs → ∃ ts', (((List.range bs.length).filter fun i => p (bs.getD i (0, 0))).map fun i => V.ref (ts.getD i 0)) = ts'.map V.ref ∧ TupsAt H ts' (bs.filter p) := by
  intro ts bs h
  refine ⟨((List.range bs.length).filter fun i => p (bs.getD i (0, 0))).map fun i => ts.getD i 0, by rw [List.map_map]; rfl, ?_⟩
  have key : ∀ {ts : List Addr} {bs : List Bd}, TupsAt H ts bs → TupsAt H (((ts.zip bs).filter fun q => p q.2).map (·.1)) (bs.filter p) := by
    intro ts bs h
    induction bs generalizing ts with
    | nil =>
      cases ts with
      | nil => trivial
      | cons _ _ => exact h.elim
    | cons b r ih =>
      cases ts with
      | nil => exact h.elim
      | cons t ts =>
        rw [List.zip_cons_cons]
        cases c : p b with
        | true =>
          rw [List.filter_cons_of_pos (by exact c), List.filter_cons_of_pos (by exact c)]
          exact ⟨h.1, ih h.2⟩
        | false =>
          rw [List.filter_cons_of_neg (by simp [c]), List.filter_cons_of_neg (by simp [c])]
          exact ih h.2
  have e : (((List.range bs.length).filter fun i => p (bs.getD i (0, 0))).map fun i => ts.getD i 0) = ((ts.zip bs).filter fun q => p q.2).map (·.1) := by
    have hl : (ts.zip bs).length = bs.length := by rw [List.length_zip, h.len, Nat.min_self]
    have e1 := range_filter_getD (ts.zip bs) ((0, (0, 0)) : Addr × Bd) (fun q => p q.2) (·.1)
    rw [hl] at e1
    rw [← e1]
    have e2 : ∀ i, (ts.zip bs).getD i (0, (0, 0)) = (ts.getD i 0, bs.getD i (0, 0)) ∨ bs.length ≤ i := by
      intro i
      by_cases hi : i < bs.length
      · left
        have ht : i < ts.length := by rw [h.len]; exact hi
        rw [List.getD_eq_getElem?_getD, List.getD_eq_getElem?_getD, List.getD_eq_getElem?_getD, List.getElem?_eq_getElem hi, List.getElem?_eq_getElem ht, List.getElem?_eq_getElem (by rw [hl]; exact hi), List.getElem_zip]
        rfl
      · right
        omega
    have e3 : ((List.range bs.length).filter fun i => p (bs.getD i (0, 0))) = (List.range bs.length).filter fun i => p ((ts.zip bs).getD i (0, (0, 0))).2 := by
      apply List.filter_congr
      intro i hi
      have := List.mem_range.mp hi
      rcases e2 i with z | z
      · rw [z]
      · omega
    rw [e3]
    apply List.map_congr_left
    intro i hi
    have := List.mem_range.mp (List.mem_filter.mp hi).1
    rcases e2 i with z | z
    · rw [z]
    · omega
  rw [e]
  exact key h
def spFault (K : PySem.W.Frag) : Sp := fun vs H Q _ => ∃ (a : Addr) (u l : Int) (bs : List Bd), vs = [.int u, .ref a, .int l] ∧ BAt H a bs ∧ bs.length ≤ 40 ∧ ∀ H', Same H H' → Q (.str (fltS u bs l)) H'
theorem ok_law_fault {P : Program} {w : World} {K : PySem.W.Frag} {mg : Str → Option Value} {base : Heap} {f : Addr} {fd : FuncData} (T : Tx K mg) 
    (F : FunD K "_law_fault" "_law_fault" (defArgs s_law_fault) (defBody s_law_fault) (defScope s_law_fault) [] [] f fd) : FnOk P w K mg base CX0 1 f fd ["unit", "bands", "last"] (spFault K) := by
  refine F.ok sc_law_fault (fun vs H Q E h => ?_) (fun cdv A outer s0 H vs Q E hr h => ?_)
  · obtain ⟨a, u, l, bs, rfl, _⟩ := h
    rfl
  · obtain ⟨a, u, l, bs, rfl, ⟨ts, e, q⟩, hn, k⟩ := h
    refine ⟨_, PSs.nox (C8.pss_cut (ps_if (PW.pt (pw_or (pt_cmpR op_lt (pv 0) pe_int (nomark _)) (pw_or1 (pt_cmpR op_gt (pv 0) pe_int (nomark _))))) (pss_one (ps_ret pe_str)) pss_nil) (C8.pss_cut (ps_if (PW.pt (pw_or (pt_cmpR op_gt (pe_callB call_len_seq rfl T.f_len PySem.boot_len (pa_cons (pv 1) pa_nil)) pe_int (nomark _)) (pw_or1 (pt_cmpR (op_neD hr.units) (pe_lc (own := [("band", 3)]) (g := gName 3) rfl sc_law_fault.nd (pi_list (pv 1)) (blkOk_by (own := [("band", 3)]) (N := ["unit", "bands", "last", "band"]) (sc := defScope s_law_fault) (by decide +kernel)) (fun _ _ _ _ _ => pg_name (i := 3) sc_law_fault.nd rfl (Or.inl rfl)) (fun _ _ _ _ _ => pts_one (PW.pt (pw_or (pt_not (pt_chain op_le op_le pe_int (pe_ix (ixTupK K rfl) (pv 3) pe_int (fun _ _ => rfl)) pe_int)) (pw_or1 (pt_not (pt_chain op_le op_le pe_int (pe_ix (ixTupK K rfl) (pv 3) pe_int (fun _ _ => rfl)) pe_int)))))) (fun _ _ _ _ _ => (pv 3))) (pe_lst pa_nil) (nomark _))))) (pss_one (ps_ret pe_str)) pss_nil) (pss_one (ps_ret (pe_ix ix_list (pe_lst (pa_cons pe_str (pa_cons pe_str pa_nil))) (pe_callTy call_int1 rfl T.f_int (by decide +kernel) (pa_cons (pe_or (pe_cmpR op_lt (pv 2) pe_int (nomark _)) (pe_one (pe_cmpR op_gt (pv 2) pe_int (nomark _)))) pa_nil)) (fun _ _ => rfl)))))), ?_⟩
    have hl := q.len
    refine ⟨fun σ' H' => okU u = true ∧ σ' = [some (.int u), some (.ref a), some (.int l), none] ∧ H' = H, ?_, ?_⟩
    · refine ⟨_, rfl, _, _, rfl, rfl, _, rfl, ?_⟩
      have ku : okU u = false → Q (.str "unit") H := fun c => by
        have z := k H fun _ _ e => e
        unfold fltS at z
        rw [if_neg (by rw [c]; decide)] at z
        exact z
      by_cases c1 : u < 1
      · rw [decide_eq_true c1]
        exact iteT (iteT (ku (by unfold okU; rw [if_neg (by omega)])))
      · rw [decide_eq_false c1]
        refine iteF ⟨_, rfl, _, _, rfl, rfl, _, rfl, ?_⟩
        by_cases c2 : 10000 < u
        · rw [decide_eq_true c2]
          exact iteT (ku (by unfold okU; rw [if_pos (by omega), decide_eq_false (by omega)]))
        · rw [decide_eq_false c2]
          exact iteF ⟨by unfold okU; rw [if_pos (by omega), decide_eq_true (by omega)], rfl, rfl⟩
    · rintro σ' H' ⟨cu, rfl, rfl⟩
      have kb : okB bs = false → ∀ H1, Same H' H1 → Q (.str "bands") H1 := fun c H1 s1 => by
        have z := k H1 s1
        unfold fltS at z
        rw [if_pos cu, if_neg (by rw [c]; decide)] at z
        exact z
      refine ⟨fun σ' H2 => okB bs = true ∧ σ' = [some (.int u), some (.ref a), some (.int l), none] ∧ Same H' H2, ?_, ?_⟩
      · refine ⟨_, rfl, a, _, rfl, .inl (SqL.of e), _, _, rfl, rfl, _, rfl, ?_⟩
        rw [List.length_map, hl]
        by_cases c1 : 8 < bs.length
        · rw [decide_eq_true (by omega)]
          exact iteT (iteT (kb (by unfold okB; rw [if_neg (by omega)]) _ fun _ _ e => e))
        · rw [decide_eq_false (by omega)]
          refine iteF ?_
          refine ⟨_, rfl, a, rfl, ⟨_, SqL.of e⟩, fun D hD => ?_⟩
          have hR : ∀ o, SqL K (upd H' D o) a (ts.map V.ref) := fun o => SqL.of ((same_upd hD) _ _ e)
          have hn0 : (ts.map V.ref).length = bs.length := by rw [List.length_map, hl]
          refine lc_filt walk_list (fun i => V.ref (ts.getD i 0)) (fun i => badD (bs.getD i (0, 0))) (by rw [hn0, sizeLine_eq]; omega) (fun _ _ => hR _) (fun i x H1 kk hi y qq => ?_) (fun i x H1 kk hi hb y qq => ?_) ?_
          · obtain ⟨rfl, hx⟩ := y
            obtain ⟨t, rfl, _, _, ht⟩ := q.at_ i x hx
            have ht2 := (same_upd (o := .lst (List.map (fun i => V.ref (ts.getD i 0)) (List.filter (fun i => badD (bs.getD i (0, 0))) (List.range i)))) hD) _ _ ht
            refine ⟨rfl, ?_⟩
            generalize bs.getD i (0, 0) = b at qq ht2
            refine ⟨_, rfl, t, _, 0, _, rfl, rfl, SqT.of ht2, rfl, ?_⟩
            refine ⟨_, _, rfl, rfl, _, rfl, ?_⟩
            by_cases c3 : 1 ≤ b.1
            · rw [decide_eq_true c3]
              refine iteT ⟨_, _, rfl, rfl, _, rfl, ?_⟩
              by_cases c4 : b.1 ≤ 10000
              · rw [decide_eq_true c4]
                refine iteF ⟨_, rfl, t, _, 1, _, rfl, rfl, SqT.of ht2, rfl, _, _, rfl, rfl, _, rfl, ?_⟩
                by_cases c5 : 0 ≤ b.2
                · rw [decide_eq_true c5]
                  refine iteT ⟨_, _, rfl, rfl, _, rfl, ?_⟩
                  by_cases c6 : b.2 ≤ 10000
                  · have eb : badD b = false := by simp [badD, okD, okU, okP, c3, c4, c5, c6]
                    rw [eb] at qq
                    rw [decide_eq_true c6]
                    exact qq
                  · have eb : badD b = true := by simp [badD, okD, okU, okP, c3, c4, c5, c6]
                    rw [eb] at qq
                    rw [decide_eq_false c6]
                    exact qq
                · have eb : badD b = true := by simp [badD, okD, okU, okP, c3, c4, c5]
                  rw [eb] at qq
                  rw [decide_eq_false c5]
                  exact iteF ⟨_, rfl, qq⟩
              · have eb : badD b = true := by simp [badD, okD, okU, okP, c3, c4]
                rw [eb] at qq
                rw [decide_eq_false c4]
                exact iteT qq
            · have eb : badD b = true := by simp [badD, okD, okU, okP, c3]
              rw [eb] at qq
              rw [decide_eq_false c3]
              exact iteF ⟨_, rfl, iteT qq⟩
          · obtain ⟨rfl, hx⟩ := y
            obtain ⟨t, rfl, ht0, _, _⟩ := q.at_ i x hx
            have e0 : ts.getD i 0 = t := getD_at 0 ht0
            rw [e0] at qq
            exact ⟨_, rfl, qq⟩
          · obtain ⟨ts', e', q'⟩ := q.filt badD
            rw [hn0, e']
            refine ⟨by show 0 ≤ sizeLine; decide, fun p hp => ?_⟩
            have pD : p ≠ D := fun z => by rw [z, upd_same] at hp; cases hp
            have sD : Same H' (upd H' D (.lst (ts'.map V.ref))) := same_upd hD
            refine ⟨dataB (bs.filter badD), dataB [], dataB_dp ⟨ts', (upd_ne pD.symm).trans upd_same, q'.mono fun x b ex => (same_upd hp) _ _ (sD _ _ ex)⟩, dataB_dp ⟨[], upd_same, trivial⟩, dataB_ok.1, dataB_ok.1, _, rfl, ?_⟩
            rw [eqv_nil]
            cases ce : (bs.filter badD).isEmpty with
            | true =>
              refine iteF ⟨?_, rfl, sD.trans (same_upd hp)⟩
              have h9 := List.filter_eq_nil_iff.mp (List.isEmpty_iff.mp ce)
              unfold okB
              rw [if_pos (by omega), List.all_eq_true]
              intro b hb
              have := h9 b hb
              simpa [badD] using this
            | false =>
              refine iteT (kb ?_ _ (sD.trans (same_upd hp)))
              apply Bool.eq_false_iff.mpr
              intro z
              have h8 : bs.filter badD = [] := List.filter_eq_nil_iff.mpr fun b hb => by
                have e1 := okD_mem z b hb
                simp [badD, okD, e1.1, e1.2]
              rw [h8] at ce
              cases ce
      · rintro σ' H2 ⟨cb, rfl, s2⟩
        refine ⟨by show 2 ≤ sizeLine; decide, fun p hp => ⟨_, rfl, _, _, rfl, rfl, _, rfl, ?_⟩⟩
        have k3 : ∀ H3, Same H2 H3 → Q (.str (if okP l = true then "" else "last")) H3 := fun H3 s3 => by
          have z := k H3 (s2.trans s3)
          unfold fltS at z
          rw [if_pos cu, if_pos cb] at z
          exact z
        by_cases c1 : l < 0
        · rw [decide_eq_true c1]
          have eb : okP l = false := by unfold okP; rw [if_neg (by omega)]
          rw [eb] at k3
          exact iteT (.inr ⟨_, rfl, p, _, 1, _, rfl, rfl, SqL.of upd_same, rfl, k3 _ (same_upd hp)⟩)
        · rw [decide_eq_false c1]
          refine iteF ⟨_, rfl, _, _, rfl, rfl, .inr ⟨_, rfl, ?_⟩⟩
          by_cases c2 : 10000 < l
          · rw [decide_eq_true c2]
            have eb : okP l = false := by unfold okP; rw [if_pos (by omega), decide_eq_false (by omega)]
            rw [eb] at k3
            exact ⟨p, _, 1, _, rfl, rfl, SqL.of upd_same, rfl, k3 _ (same_upd hp)⟩
          · rw [decide_eq_false c2]
            have eb : okP l = true := by unfold okP; rw [if_pos (by omega), decide_eq_true (by omega)]
            rw [eb] at k3
            exact ⟨p, _, 0, _, rfl, rfl, SqL.of upd_same, rfl, k3 _ (same_upd hp)⟩
end K10
set_option maxHeartbeats 1000000
set_option pp.maxSteps 500
namespace K10
open PySem PySem.Spec PyProof.Rows L2 SX TK NdefX
open C8 (pe_c)
theorem cutB {H : Hp} {ts : List Addr} {bs : List Bd} (q : TupsAt H ts bs) (lo hi : Option Int) : ∃ (ts' : List Addr) (bs' : List Bd), cutV (ts.map V.ref) lo hi = ts'.map V.ref ∧ TupsAt H ts' bs' ∧ bs'.length ≤ bs.length := by
  unfold cutV
  generalize HT.sIx (ts.map V.ref).length 0 lo = A
  generalize HT.sIx (ts.map V.ref).length (ts.map V.ref).length hi - A = B
  refine ⟨(ts.drop A).take B, (bs.drop A).take B, ?_, (q.drop A).take B, ?_⟩
  · rw [← List.map_drop, ← List.map_take]
  · rw [List.length_take, List.length_drop]
    omega
def spRefused (K : PySem.W.Frag) : Sp := fun vs H Q _ => ∃ (s c a : Addr) (u l : Int) (bs : List Bd), vs = [.ref s, .int u, .ref a, .int l] ∧ StAt H s c ∧ BAt H a bs ∧ a ≠ s ∧ a ≠ c ∧ bs.length ≤ 8 ∧ ∀ H', Q (.bl true) H'
theorem ok_law_refused {P : Program} {w : World} {K : PySem.W.Frag} {mg : Str → Option Value} {base : Heap} {f : Addr} {fd : FuncData} (T : Tx K mg) (c_law_draw : C8.Cal P w K mg base 1 "_law_draw" spDraw []) (c_law_pick : C8.Cal P w K mg base 2 "_law_pick" spPick []) (c_law_fault : C8.Cal P w K mg base 1 "_law_fault" (spFault K) []) (c_mkx_Tariff : TKE.MakX P w K mg base 3 "Tariff" (He.ga K "Tariff") (spTInit K) 3 [] (fun vs _ => vs))
    (F : FunD K "_law_refused" "_law_refused" (defArgs s_law_refused) (defBody s_law_refused) (defScope s_law_refused) [] [] f fd) : FnOk P w K mg base CX0 5 f fd ["state", "unit", "bands", "last"] (spRefused K) := by
  refine F.ok sc_law_refused (fun vs H Q E h => ?_) (fun cdv A outer s0 H vs Q E hr h => ?_)
  · obtain ⟨s, c, a, u, l, bs, rfl, _⟩ := h
    rfl
  · obtain ⟨s, c, a, u, l, bs, rfl, hst, hB, as, ac, hn, k⟩ := h
    refine ⟨_, (pss_cons (ps_set (i := 4) sc_law_refused.nd rfl (Or.inl rfl) (pe_c c_law_draw hr (by decide) rfl (pa_cons (pv 0) (pa_cons pe_int pa_nil)))) (C8.pss_cut (ps_if (pt_cmpR op_eq (pv 4) pe_int (nomark _)) (pss_one (ps_set (i := 1) sc_law_refused.nd rfl (Or.inl rfl) (pe_c c_law_pick hr (by decide) rfl (pa_cons (pv 0) (pa_cons (pe_lst (pa_cons pe_int (pa_cons (pe_un un_neg pe_int) (pa_cons pe_int pa_nil)))) pa_nil))))) pss_nil) (C8.pss_cut (ps_if (PW.pt (pw_or (pt_cmpR op_eq (pv 4) pe_int (nomark _)) (pw_or1 (pt_cmpR op_eq (pv 4) pe_int (nomark _))))) (pss_cons (ps_set (i := 5) sc_law_refused.nd rfl (Or.inl rfl) (pe_c c_law_pick hr (by decide) rfl (pa_cons (pv 0) (pa_cons (pe_lst (pa_cons (pe_tup (pa_cons pe_int (pa_cons pe_int pa_nil))) (pa_cons (pe_tup (pa_cons pe_int (pa_cons (pe_un un_neg pe_int) pa_nil))) (pa_cons (pe_tup (pa_cons pe_int (pa_cons pe_int pa_nil))) (pa_cons (pe_tup (pa_cons pe_int (pa_cons pe_int pa_nil))) pa_nil))))) pa_nil)))) (pss_cons (ps_set (i := 6) sc_law_refused.nd rfl (Or.inl rfl) (pe_c c_law_draw hr (by decide) rfl (pa_cons (pv 0) (pa_cons (pe_op op_add (pe_callB call_len_seq rfl T.f_len PySem.boot_len (pa_cons (pv 2) pa_nil)) pe_int) pa_nil)))) (pss_one (ps_set (i := 2) sc_law_refused.nd rfl (Or.inl rfl) (pe_op op_cat (pe_op op_cat (pe_slice sl_list (pv 2) po_none (po_some (pv 6))) (pe_lst (pa_cons (pv 5) pa_nil))) (pe_slice sl_list (pv 2) (po_some (pv 6)) po_none)))))) pss_nil) (C8.pss_cut (ps_if (PW.pt (pw_or (pt_cmpR op_eq (pv 4) pe_int (nomark _)) (pw_or1 (pt_cmpR op_eq (pv 4) pe_int (nomark _))))) (pss_one (ps_set (i := 3) sc_law_refused.nd rfl (Or.inl rfl) (pe_c c_law_pick hr (by decide) rfl (pa_cons (pv 0) (pa_cons (pe_lst (pa_cons (pe_un un_neg pe_int) (pa_cons pe_int (pa_cons (pv 3) pa_nil)))) pa_nil))))) pss_nil) (C8.pss_cut (ps_if (pt_cmpR op_eq (pv 4) pe_int (nomark _)) (pss_one (ps_set (i := 2) sc_law_refused.nd rfl (Or.inl rfl) (pe_op op_cat (pv 2) (pe_lc (own := [("k", 9)]) (g := gName 9) rfl sc_law_refused.nd (pi_range1 rfl T.f_range (pa_cons pe_int pa_nil)) (blkOk_by (own := [("k", 9)]) (N := ["state", "unit", "bands", "last", "kind", "wrong", "at", "due", "e", "k"]) (sc := defScope s_law_refused) (by decide +kernel)) (fun _ _ _ _ _ => pg_name (i := 9) sc_law_refused.nd rfl (Or.inl rfl)) (fun _ _ _ _ _ => pts_nil) (fun _ _ _ _ _ => (pe_tup (pa_cons pe_int (pa_cons pe_int pa_nil)))))))) pss_nil) (pss_cons (ps_set (i := 7) sc_law_refused.nd rfl (Or.inl rfl) (pe_c c_law_fault hr (by decide) rfl (pa_cons (pv 1) (pa_cons (pv 2) (pa_cons (pv 3) pa_nil))))) (pss_cons (ps_try_as (i := 8) (Wout := fun _ _ _ _ => False) rfl rfl sc_law_refused.nd rfl rfl ⟨rfl, by decide, Or.inl T.g_ConfigError⟩ takes0 (fun W pn xe tk _ => (pss_one (ps_expr (TKE.pe_makX c_mkx_Tariff hr (by decide) (fun σ => passAt tk σ) rfl (pa_cons (pv 1) (pa_cons (pv 2) (pa_cons (pv 3) pa_nil))))))) (fun a oe cls d pn hz hf => (pss_one (ps_ret (pe_and (pe_callB (TKE.call_isD T.ec_ConfigError hz hf) rfl T.f_isinstance (by decide +kernel) (pa_cons (pv 8) (pa_cons (pgR T.g_TrunklandError) pa_nil))) (pe_and (pe_cmpR op_ne (pv 7) pe_str (nomark _)) (pe_one (pe_cmpR op_eq (L2.pe_xf T.xf_ConfigError T.no_ConfigError hz hf (pv 8)) (pv 7) (nomark _))))))))) (pss_one (ps_ret (pe_cmpR op_eq (pv 7) pe_str (nomark _))))))))))), ?_⟩
    refine ⟨_, rfl, s, c, 7, rfl, hst, by decide, by decide, fun kd H1 _ _ st1 kp1 => ?_⟩
    have hB1 := hB.keep hst kp1 as ac
    clear hB hst kp1
    refine ⟨fun σ H2 => ∃ u', σ = [some (.ref s), some (.int u'), some (.ref a), some (.int l), some (.int kd), none, none, none, none, none] ∧ StAt H2 s c ∧ BAt H2 a bs, ?_, ?_⟩
    · refine ⟨_, rfl, rfl, _, rfl, ?_⟩
      rw [dec_int]
      cases kd == 0 with
      | false => exact iteF ⟨u, rfl, st1, hB1⟩
      | true =>
        refine iteT ⟨_, rfl, _, rfl, by show 3 ≤ sizeLine; decide, fun p hp => ?_⟩
        obtain ⟨ps, pc⟩ := st1.tracked hp
        refine ⟨s, c, _, rfl, st1.upd ps pc, .inr ⟨p, _, rfl, upd_same, ps, pc, by simp, by simp, fun v hv H' st3 kp3 => ?_⟩⟩
        have hB3 := (hB1.same (same_upd hp)).keep (st1.upd ps pc) kp3 as ac
        simp only [List.mem_cons, List.not_mem_nil, or_false] at hv
        rcases hv with rfl | rfl | rfl
        · exact ⟨_, rfl, st3, hB3⟩
        · exact ⟨_, rfl, st3, hB3⟩
        · exact ⟨_, rfl, st3, hB3⟩
    · rintro σ H2 ⟨u', rfl, st2, hB2⟩
      refine ⟨fun σ H3 => ∃ (a' : Addr) (bs' : List Bd) (w1 w2 : Option V), σ = [some (.ref s), some (.int u'), some (.ref a'), some (.int l), some (.int kd), w1, w2, none, none, none] ∧ StAt H3 s c ∧ BAt H3 a' bs' ∧ a' ≠ s ∧ a' ≠ c ∧ bs'.length ≤ 17, ?_, ?_⟩
      · refine ⟨_, rfl, rfl, _, rfl, ?_⟩
        rw [dec_int]
        have kno : ∃ (a' : Addr) (bs' : List Bd) (w1 w2 : Option V), [some (.ref s), some (.int u'), some (.ref a), some (.int l), some (.int kd), none, none, none, none, none] = [some (.ref s), some (.int u'), some (.ref a'), some (.int l), some (.int kd), w1, w2, none, none, none] ∧ StAt H2 s c ∧ BAt H2 a' bs' ∧ a' ≠ s ∧ a' ≠ c ∧ bs'.length ≤ 17 := ⟨a, bs, none, none, rfl, st2, hB2, as, ac, by omega⟩
        have h3 : (kd == 1) = true ∨ ((kd == 1) = false ∧ (kd == 2) = true) ∨ ((kd == 1) = false ∧ (kd == 2) = false) := by
          cases kd == 1 <;> cases kd == 2 <;> simp
        rcases h3 with e1 | ⟨e1, e2⟩ | ⟨e1, e2⟩
        rotate_left 2
        · rw [e1]
          refine iteF ⟨_, rfl, rfl, _, rfl, ?_⟩
          rw [dec_int, e2]
          exact iteF kno
        case' inl =>
          rw [e1]
          refine iteT (iteT ?_)
        case' inr.inl =>
          rw [e1]
          refine iteF ⟨_, rfl, rfl, _, rfl, ?_⟩
          rw [dec_int, e2]
          refine iteT ?_
        all_goals
          clear kno
          refine ⟨_, rfl, by show 2 ≤ sizeLine; decide, fun p1 h1 => ⟨1, rfl, by show 2 ≤ sizeLine; decide, fun p2 h2 => ⟨by show 2 ≤ sizeLine; decide, fun p3 h3 => ⟨by show 2 ≤ sizeLine; decide, fun p4 h4 => ⟨by show 4 ≤ sizeLine; decide, fun p5 h5 => ?_⟩⟩⟩⟩⟩
          obtain ⟨ps1, pc1⟩ := st2.tracked h1
          have g1 := st2.upd (o := .tup [.int 0, .int 1]) ps1 pc1
          obtain ⟨ps2, pc2⟩ := g1.tracked h2
          have g2 := g1.upd (o := .tup [.int 1, .int (-1)]) ps2 pc2
          obtain ⟨ps3, pc3⟩ := g2.tracked h3
          have g3 := g2.upd (o := .tup [.int 10001, .int 1]) ps3 pc3
          obtain ⟨ps4, pc4⟩ := g3.tracked h4
          have g4 := g3.upd (o := .tup [.int 1, .int 10001]) ps4 pc4
          obtain ⟨ps5, pc5⟩ := g4.tracked h5
          have g5 := g4.upd (o := .lst [.ref p1, .ref p2, .ref p3, .ref p4]) ps5 pc5
          have s5 : Same _ (upd _ p5 (.lst [.ref p1, .ref p2, .ref p3, .ref p4])) := same_upd h5
          have s4 : Same _ (upd _ p4 (.tup [.int 1, .int 10001])) := same_upd h4
          have s3 : Same _ (upd _ p3 (.tup [.int 10001, .int 1])) := same_upd h3
          have s2 : Same _ (upd _ p2 (.tup [.int 1, .int (-1)])) := same_upd h2
          have s1 : Same _ (upd _ p1 (.tup [.int 0, .int 1])) := same_upd h1
          have hB5 := hB2.same (s1.trans (s2.trans (s3.trans (s4.trans s5))))
          have t1 := s5 _ _ (s4 _ _ (s3 _ _ (s2 _ _ (upd_same (H := H2) (a := p1) (o := .tup [.int 0, .int 1])))))
          have t2 := s5 _ _ (s4 _ _ (s3 _ _ (upd_same (a := p2) (o := .tup [.int 1, .int (-1)]))))
          have t3 := s5 _ _ (s4 _ _ (upd_same (a := p3) (o := .tup [.int 10001, .int 1])))
          have t4 := s5 _ _ (upd_same (a := p4) (o := .tup [.int 1, .int 10001]))
          refine ⟨s, c, _, rfl, g5, .inr ⟨p5, _, rfl, upd_same, ps5, pc5, by simp, by simp, fun v hv H6 st6 kp6 => ?_⟩⟩
          have hB6 := hB5.keep g5 kp6 as ac
          obtain ⟨t, b, rfl, ht⟩ : ∃ (t : Addr) (b : Bd), v = .ref t ∧ H6 t = some (.tup (tupV b)) := by
            obtain ⟨_, ⟨ns, hns⟩, cs, hcs, _⟩ := g5
            have go : ∀ {t : Addr} {l : List V}, _ = some (HO.tup l) → H6 t = some (.tup l) := fun {t l} z => kp6 _ _ z (ne_of z hns (by intro z; cases z)) (ne_of z hcs (by intro z; cases z))
            simp only [List.mem_cons, List.not_mem_nil, or_false] at hv
            rcases hv with rfl | rfl | rfl | rfl
            · exact ⟨p1, (0, 1), rfl, go t1⟩
            · exact ⟨p2, (1, -1), rfl, go t2⟩
            · exact ⟨p3, (10001, 1), rfl, go t3⟩
            · exact ⟨p4, (1, 10001), rfl, go t4⟩
          clear t1 t2 t3 t4 s1 s2 s3 s4 s5 g1 g2 g3 g4 g5 hB5 kp6 hv h1 h2 h3 h4 h5
          obtain ⟨ts, e, q⟩ := hB6
          have hl := q.len
          refine ⟨_, rfl, _, rfl, a, _, rfl, .inl (SqL.of e), _, _, rfl, rfl, s, c, _, rfl, st6, by rw [List.length_map, hl]; omega, by rw [List.length_map, hl]; omega, fun r H7 r0 r1 st7 kp7 => ?_⟩
          obtain ⟨ts, e, q⟩ := (show BAt H6 a bs from ⟨ts, e, q⟩).keep st6 kp7 as ac
          have ht7 : H7 t = some (.tup (tupV b)) := by
            obtain ⟨_, ⟨ns, hns⟩, cs, hcs, _⟩ := st6
            exact kp7 _ _ ht (ne_of ht hns (by intro z; cases z)) (ne_of ht hcs (by intro z; cases z))
          have hl := q.len
          obtain ⟨ta, ba, ea, qa, la⟩ := cutB q none (some r)
          obtain ⟨tb, bb, eb, qb, lb⟩ := cutB q (some r) none
          have la2 := qa.len
          have lb2 := qb.len
          refine ⟨_, rfl, _, rfl, _, rfl, a, _, rfl, SqL.of e, fun pa hpa => ?_⟩
          have sa := same_upd (o := .lst (cutV (ts.map V.ref) none (some r))) hpa
          refine ⟨_, rfl, by show 1 ≤ sizeLine; decide, fun pw hpw => ?_⟩
          have sw := same_upd (o := .lst [.ref t]) hpw
          have hsz : ∀ n : Nat, n ≤ 20 → n ≤ sizeLine := fun n h => by rw [sizeLine_eq]; omega
          refine ⟨pa, pw, _, _, rfl, rfl, sw _ _ upd_same, upd_same, hsz _ ?_, fun pc hpc => ?_⟩
          · rw [ea, List.length_map]
            show ta.length + 1 ≤ 20
            omega
          have sc := same_upd (o := .lst (cutV (ts.map V.ref) none (some r) ++ [.ref t])) hpc
          refine ⟨_, rfl, _, rfl, _, rfl, a, _, rfl, SqL.of (sc _ _ (sw _ _ (sa _ _ e))), fun pb hpb => ?_⟩
          have sb := same_upd (o := .lst (cutV (ts.map V.ref) (some r) none)) hpb
          refine ⟨pc, pb, _, _, rfl, rfl, sb _ _ upd_same, upd_same, hsz _ ?_, fun pr hpr => ?_⟩
          · rw [ea, eb, List.length_append, List.length_map, List.length_map]
            show ta.length + 1 + tb.length ≤ 20
            omega
          have sr := same_upd (o := .lst (cutV (ts.map V.ref) none (some r) ++ [.ref t] ++ cutV (ts.map V.ref) (some r) none)) hpr
          have f1 := st7.tracked hpa
          have f2 := (st7.upd (o := .lst (cutV (ts.map V.ref) none (some r))) f1.1 f1.2).tracked hpw
          have sall := sa.trans (sw.trans (sc.trans (sb.trans sr)))
          have st8 := st7.same sall
          obtain ⟨hrs, hrc⟩ : pr ≠ s ∧ pr ≠ c := ((st7.same (sa.trans (sw.trans (sc.trans sb)))).tracked hpr)
          refine ⟨pr, ba ++ [b] ++ bb, _, _, rfl, st8, ⟨ta ++ [t] ++ tb, ?_, ?_⟩, hrs, hrc, ?_⟩
          · rw [upd_same, ea, eb, List.map_append, List.map_append]
            rfl
          · refine TupsAt.mono (fun x b ex => sall _ _ ex) ((qa.app (ts' := [t]) (bs' := [b]) ⟨ht7, trivial⟩).app qb)
          · rw [List.length_append, List.length_append]
            show ba.length + 1 + bb.length ≤ 17
            omega
      · rintro σ H3 ⟨a', bs', w1, w2, rfl, st3, hB3, as3, ac3, hn3⟩
        refine ⟨fun σ H4 => ∃ l', σ = [some (.ref s), some (.int u'), some (.ref a'), some (.int l'), some (.int kd), w1, w2, none, none, none] ∧ StAt H4 s c ∧ BAt H4 a' bs', ?_, ?_⟩
        · refine ⟨_, rfl, rfl, _, rfl, ?_⟩
          rw [dec_int]
          have st4 : ∀ p, H3 p = none → ∀ v ∈ [V.int (-1), V.int 10001, V.int l], ∀ H', StAt H' s c → Keep (upd H3 p (.lst [V.int (-1), V.int 10001, V.int l])) H' s c → ∃ l', v = .int l' ∧ StAt H' s c ∧ BAt H' a' bs' := fun p hp v hv H' st4 kp4 => by
            obtain ⟨ps, pc⟩ := st3.tracked hp
            have hB4 := (hB3.same (same_upd hp)).keep (st3.upd ps pc) kp4 as3 ac3
            simp only [List.mem_cons, List.not_mem_nil, or_false] at hv
            rcases hv with rfl | rfl | rfl
            · exact ⟨_, rfl, st4, hB4⟩
            · exact ⟨_, rfl, st4, hB4⟩
            · exact ⟨_, rfl, st4, hB4⟩
          cases kd == 3 with
          | true =>
            refine iteT (iteT ⟨_, rfl, _, rfl, _, rfl, by show 3 ≤ sizeLine; decide, fun p hp => ?_⟩)
            obtain ⟨ps, pc⟩ := st3.tracked hp
            refine ⟨s, c, _, rfl, st3.upd ps pc, .inr ⟨p, _, rfl, upd_same, ps, pc, by simp, by simp, fun v hv H' st5 kp5 => ?_⟩⟩
            obtain ⟨l', rfl, q1, q2⟩ := st4 p hp v hv H' st5 kp5
            exact ⟨l', rfl, q1, q2⟩
          | false =>
            refine iteF ⟨_, rfl, rfl, _, rfl, ?_⟩
            rw [dec_int]
            cases kd == 0 with
            | false => exact iteF ⟨l, rfl, st3, hB3⟩
            | true =>
              refine iteT ⟨_, rfl, _, rfl, _, rfl, by show 3 ≤ sizeLine; decide, fun p hp => ?_⟩
              obtain ⟨ps, pc⟩ := st3.tracked hp
              refine ⟨s, c, _, rfl, st3.upd ps pc, .inr ⟨p, _, rfl, upd_same, ps, pc, by simp, by simp, fun v hv H' st5 kp5 => ?_⟩⟩
              obtain ⟨l', rfl, q1, q2⟩ := st4 p hp v hv H' st5 kp5
              exact ⟨l', rfl, q1, q2⟩
        · rintro σ H4 ⟨l', rfl, st4, hB4⟩
          refine ⟨fun σ H5 => ∃ (a5 : Addr) (b5 : List Bd), σ = [some (.ref s), some (.int u'), some (.ref a5), some (.int l'), some (.int kd), w1, w2, none, none, none] ∧ BAt H5 a5 b5 ∧ b5.length ≤ 26, ?_, ?_⟩
          · refine ⟨_, rfl, rfl, _, rfl, ?_⟩
            rw [dec_int]
            cases kd == 4 with
            | false => exact iteF ⟨a', bs', rfl, hB4, by omega⟩
            | true =>
              obtain ⟨ts4, e4, q4⟩ := hB4
              refine iteT ⟨_, rfl, 9, rfl, by omega, by omega, fun D hD => ?_⟩
              refine lc_itN walk_range (fun i H' => Same H4 H' ∧ ∃ ts : List Addr, H' D = some (.lst (ts.map V.ref)) ∧ TupsAt H' ts (List.replicate i (1, 1))) ⟨same_upd hD, [], upd_same, trivial⟩ (fun _ _ _ _ => trivial) (fun i x H6 H7 hi p y => ?_) (fun H6 p => ?_)
              · obtain ⟨s6, ts, e1, e2⟩ := p
                obtain ⟨rfl, rfl⟩ := y
                refine ⟨rfl, by show 2 ≤ sizeLine; decide, fun p hp => ⟨_, (upd_ne (ne_of_none e1 hp)).trans e1, ?_, ?_, ts ++ [p], ?_, ?_⟩⟩
                · rw [List.length_map, e2.len, List.length_replicate]
                  exact Nat.lt_of_lt_of_le hi (by decide)
                · exact fun b o eb => by
                    have hbD : b ≠ D := ne_of_none eb hD
                    rw [upd_ne hbD]
                    exact (same_upd hp) _ _ (s6 _ _ eb)
                · rw [upd_same, List.map_append]
                  rfl
                · rw [List.replicate_succ']
                  have hpD : p ≠ D := fun z => by rw [z, e1] at hp; cases hp
                  refine TupsAt.snoc (b := (1, 1)) ((upd_ne hpD).trans upd_same) (e2.mono fun x b ex => ?_)
                  exact (upd_ne (ne_of ex e1 (by intro z; cases z))).trans ((same_upd hp) _ _ ex)
              · obtain ⟨s6, ts, e1, e2⟩ := p
                have l1 := q4.len
                have l2 := e2.len
                rw [List.length_replicate] at l2
                refine ⟨_, D, _, _, rfl, rfl, s6 _ _ e4, e1, ?_, fun r hr0 => ⟨r, bs' ++ List.replicate 9 (1, 1), rfl, ⟨ts4 ++ ts, ?_, ?_⟩, ?_⟩⟩
                · rw [List.length_map, List.length_map, l1, l2, sizeLine_eq]
                  show bs'.length + 9 ≤ _
                  omega
                · rw [upd_same, List.map_append]
                · exact (TupsAt.app (q4.mono fun x b ex => s6 _ _ ex) e2).mono fun x b ex => (same_upd hr0) _ _ ex
                · rw [List.length_append, List.length_replicate]
                  omega
          · rintro σ H5 ⟨a5, b5, rfl, hB5, hn5⟩
            refine ⟨_, rfl, _, rfl, _, rfl, a5, u', l', b5, rfl, hB5, by omega, fun H6 s6 => ?_⟩
            have hB6 := hB5.same s6
            refine ⟨_, rfl, _, rfl, _, rfl, rfl, rfl, fun x dx hx hdx ne => ?_⟩
            refine ⟨x, dx, a5, u', l', b5, rfl, upd_same, ?_, by omega, fun ef r H7 _ _ _ _ => ⟨rfl, ?_⟩, fun ef d H7 hd s7 => ?_⟩
            · exact hB6.same (same_own hx hdx)
            · refine ⟨_, rfl, rfl, ?_⟩
              have e9 : decide (V.str (fltS u' b5 l') = V.str "") = true := decide_eq_true (by rw [ef])
              rw [e9]
              exact k _
            · refine ⟨true, T.te_ConfigError_ConfigError, fun _ ae hae => ?_, fun z => by cases z⟩
              refine ⟨_, rfl, _, _, true, d, _, rfl, fun u h => h, T.ki_ConfigError_TrunklandError, rfl, rfl, hd, _, rfl, iteT ?_⟩
              have e9 : (!decide (V.str (fltS u' b5 l') = V.str "")) = true := by
                rw [decide_eq_false]
                · rfl
                · intro z
                  injection z with z
                  exact ef z
              refine ⟨_, rfl, rfl, _, rfl, ?_⟩
              rw [e9]
              refine iteT ⟨_, rfl, rfl, rfl, d, _, _, rfl, hd, rfl, _, rfl, rfl, ?_⟩
              have e8 : decide (V.str (fltS u' b5 l') = V.str (fltS u' b5 l')) = true := decide_eq_true rfl
              rw [e8]
              exact k _
end K10
set_option maxHeartbeats 1000000
set_option pp.maxSteps 500
namespace K10
open PySem PySem.Spec PyProof.Rows L2 SX TK NdefX
open C8 (pe_c)
theorem fold_mono {bs : List Bd} (h : ∀ b ∈ bs, 0 ≤ b.2) : ∀ s t : Int × Int, s.1 ≤ t.1 → s.2 ≤ t.2 → (bs.foldl step s).1 ≤ (bs.foldl step t).1 ∧ (bs.foldl step s).2 ≤ (bs.foldl step t).2 := by
  induction bs with
  | nil => exact fun s t h1 h2 => ⟨h1, h2⟩
  | cons b r ih =>
    intro s t h1 h2
    rw [List.foldl_cons, List.foldl_cons]
    have hb := h b (List.mem_cons_self ..)
    have e1 : minI s.1 b.1 ≤ minI t.1 b.1 := by
      unfold minI
      repeat' split
      all_goals omega
    refine ih (fun b hb => h b (List.mem_cons_of_mem _ hb)) _ _ ?_ ?_
    · show s.1 - minI s.1 b.1 ≤ t.1 - minI t.1 b.1
      unfold minI
      repeat' split
      all_goals omega
    · show s.2 + minI s.1 b.1 * b.2 ≤ t.2 + minI t.1 b.1 * b.2
      have := Int.mul_le_mul_of_nonneg_right e1 hb
      omega
theorem cost_mono {bs : List Bd} {u l x y : Int} (h : ∀ b ∈ bs, 0 ≤ b.2) (hu : 1 ≤ u) (hl : 0 ≤ l) (hxy : x ≤ y) : costI u bs l x ≤ costI u bs l y := by
  have e0 : unitsI u x ≤ unitsI u y := Int.ediv_le_ediv (by omega) (by omega)
  obtain ⟨e1, e2⟩ := fold_mono h (unitsI u x, 0) (unitsI u y, 0) e0 (Int.le_refl _)
  have := Int.mul_le_mul_of_nonneg_right e1 hl
  unfold costI
  omega
theorem fold_nn {bs : List Bd} (h : ∀ b ∈ bs, 0 ≤ b.1 ∧ 0 ≤ b.2) : ∀ s : Int × Int, 0 ≤ s.1 → 0 ≤ s.2 → 0 ≤ (bs.foldl step s).1 ∧ 0 ≤ (bs.foldl step s).2 := by
  induction bs with
  | nil => exact fun s h1 h2 => ⟨h1, h2⟩
  | cons b r ih =>
    intro s h1 h2
    rw [List.foldl_cons]
    have hb := h b (List.mem_cons_self ..)
    have e1 : 0 ≤ minI s.1 b.1 ∧ minI s.1 b.1 ≤ s.1 := by
      unfold minI
      split <;> omega
    refine ih (fun b hb => h b (List.mem_cons_of_mem _ hb)) _ ?_ ?_
    · show 0 ≤ s.1 - minI s.1 b.1
      omega
    · show 0 ≤ s.2 + minI s.1 b.1 * b.2
      have := Int.mul_nonneg e1.1 hb.2
      omega
theorem cost_nn {bs : List Bd} {u l x : Int} (h : ∀ b ∈ bs, 0 ≤ b.1 ∧ 0 ≤ b.2) (hu : 1 ≤ u) (hl : 0 ≤ l) (hx : 0 ≤ x) : 0 ≤ costI u bs l x := by
  obtain ⟨e1, e2⟩ := fold_nn h (unitsI u x, 0) (units_nn hu hx) (Int.le_refl _)
  have := Int.mul_nonneg e1 hl
  unfold costI
  omega
theorem refs_inj : ∀ {l m : List Addr}, l.map V.ref = m.map V.ref → l = m
  | [], [], _ => rfl
  | a :: l, b :: m, h => by
    rw [List.map_cons, List.map_cons] at h
    injection h with h1 h2
    injection h1 with h1
    rw [h1, refs_inj h2]
  | [], _ :: _, h => by cases h
  | _ :: _, [], h => by cases h
structure LS (K : PySem.W.Frag) (H : Hp) (s c ba x r : Addr) (u l : Int) (bs : List Bd) : Prop where
  st : StAt H s c
  hB : BAt H ba bs
  hT : TAt K H x r u bs l
  n1 : ba ≠ s
  n2 : ba ≠ c
  n3 : r ≠ s
  n4 : r ≠ c
theorem LS.same {K : PySem.W.Frag} {H H' : Hp} {s c ba x r : Addr} {u l : Int} {bs : List Bd} (h : LS K H s c ba x r u l bs) (e : Same H H') : LS K H' s c ba x r u l bs := ⟨h.st.same e, h.hB.same e, h.hT.same e, h.n1, h.n2, h.n3, h.n4⟩
theorem LS.keep {K : PySem.W.Frag} {H H' : Hp} {s c ba x r : Addr} {u l : Int} {bs : List Bd} (h : LS K H s c ba x r u l bs) (st : StAt H' s c) (k : Keep H H' s c) : LS K H' s c ba x r u l bs := by
  obtain ⟨dx, e, t⟩ := h.hT
  obtain ⟨_, ⟨n, hn⟩, ns, hc, _⟩ := id h.st
  exact ⟨st, h.hB.keep h.st k h.n1 h.n2, ⟨dx, k _ _ e (ne_of e hn (by intro z; cases z)) (ne_of e hc (by intro z; cases z)), t.keep h.st k h.n3 h.n4⟩, h.n1, h.n2, h.n3, h.n4⟩
theorem LS.updL {K : PySem.W.Frag} {H : Hp} {s c ba x r g : Addr} {u l : Int} {bs : List Bd} {xs ys : List V} (h : LS K H s c ba x r u l bs) (hg : H g = some (.lst xs)) (gs : g ≠ s) (gc : g ≠ c) (gb : ba ≠ g) (gr : r ≠ g) : LS K (upd H g (.lst ys)) s c ba x r u l bs := by
  obtain ⟨dx, e, ts, e1, q⟩ := h.hT
  obtain ⟨ts2, e2, q2⟩ := h.hB
  have ht : ∀ {t : Addr} {l : List V}, H t = some (.tup l) → (upd H g (.lst ys)) t = some (.tup l) := fun z => (upd_ne (ne_of z hg (by intro z; cases z))).trans z
  exact ⟨h.st.upd gs gc, ⟨ts2, (upd_ne gb).trans e2, q2.mono fun x b ex => ht ex⟩, ⟨dx, (upd_ne (ne_of e hg (by intro z; cases z))).trans e, ts, (upd_ne gr).trans e1, q.mono fun x b ex => ht ex⟩, h.n1, h.n2, h.n3, h.n4⟩
def cPrev (u : Int) (bs : List Bd) (l : Int) (ns : List Int) (i : Nat) : Int := if i = 0 then 0 else costI u bs l (ns.getD (i - 1) 0)
theorem cPrev_le {u l : Int} {bs : List Bd} {ns : List Int} {i : Nat} {z : Int} (h : ∀ b ∈ bs, 0 ≤ b.1 ∧ 0 ≤ b.2) (hu : 1 ≤ u) (hl : 0 ≤ l) (hn : ∀ n ∈ ns, 0 ≤ n) (pw : ns.Pairwise (· ≤ ·)) (hi : ns[i]? = some z) : cPrev u bs l ns i ≤ costI u bs l z := by
  unfold cPrev
  by_cases c : i = 0
  · rw [if_pos c]
    exact cost_nn h hu hl (hn z (List.mem_of_getElem? hi))
  · rw [if_neg c]
    obtain ⟨hi2, e⟩ := List.getElem?_eq_some_iff.mp hi
    have hj : i - 1 < ns.length := by omega
    rw [List.getD_eq_getElem?_getD, List.getElem?_eq_getElem hj]
    refine cost_mono (fun b hb => (h b hb).2) hu hl ?_
    rw [← e]
    exact List.pairwise_iff_getElem.mp pw (i - 1) i hj hi2 (by omega)
def spLaw (K : PySem.W.Frag) : Sp := fun vs H Q _ => ∃ (a : Addr) (ns : List Int), vs = [.ref a] ∧ SqL K H a (ns.map V.int) ∧ ns.length ≤ 63 ∧ ∀ H', Q (.bl true) H'
theorem ok_law {P : Program} {w : World} {K : PySem.W.Frag} {mg : Str → Option Value} {base : Heap} {f : Addr} {fd : FuncData} (T : Tx K mg) (c_law_state : C8.Cal P w K mg base 1 "_law_state" (spState K) []) (c_law_draw : C8.Cal P w K mg base 1 "_law_draw" spDraw []) (c_law_value : C8.Cal P w K mg base 3 "_law_value" spValue []) (c_law_cost : C8.Cal P w K mg base 1 "_law_cost" (spLCost K) []) (c_law_refused : C8.Cal P w K mg base 5 "_law_refused" (spRefused K) []) (c_mkx_Tariff : TKE.MakX P w K mg base 3 "Tariff" (He.ga K "Tariff") (spTInit K) 3 [] (fun vs _ => vs)) (c_Tariff_cost : C8.Met P w K mg base 2 (He.ga K "Tariff") "cost" (spCost K) []) (c_Tariff_units : C8.Met P w K mg base 1 (He.ga K "Tariff") "units" (spUnits K) [])
    (F : FunD K "law" "law" (defArgs s_law) (defBody s_law) (defScope s_law) [] [] f fd) : FnOk P w K mg base CX0 6 f fd ["script"] (spLaw K) := by
  refine F.ok sc_law (fun vs H Q E h => ?_) (fun cdv A outer s0 H vs Q E hr h => ?_)
  · obtain ⟨a, ns, rfl, _⟩ := h
    rfl
  · obtain ⟨a, ns, rfl, hS, hn, k⟩ := h
    refine ⟨_, PSs.nox (pss_cons (ps_set (i := 1) sc_law.nd rfl (Or.inr rfl) (pe_c c_law_state hr (by decide) rfl (pa_cons (pv 0) pa_nil))) (pss_cons (ps_set (i := 2) sc_law.nd rfl (Or.inl rfl) (pe_c c_law_value hr (by decide) rfl (pa_cons (pv 1) (pa_cons pe_int pa_nil)))) (pss_cons (ps_setLc (i := 3) (own := [("k", 14)]) (g := gName 14) rfl sc_law.nd rfl rfl (sw_true rfl rfl rfl (by decide +kernel)) (pi_range1 rfl T.f_range (pa_cons (pe_c c_law_draw hr (by decide) rfl (pa_cons (pv 1) (pa_cons pe_int pa_nil))) pa_nil)) (blkOk_by (own := [("k", 14)]) (N := ["script", "state", "unit", "bands", "last", "given", "tariff", "edge", "spans", "many", "price", "before", "span", "cost", "k"]) (sc := defScope s_law) (by decide +kernel)) (fun _ _ _ _ _ => pg_name (i := 14) sc_law.nd rfl (Or.inl rfl)) (fun _ _ _ _ _ => pts_nil) (fun _ _ _ _ _ => (pe_tup (pa_cons (pe_c c_law_value hr (by decide) rfl (pa_cons (pv 1) (pa_cons pe_int pa_nil))) (pa_cons (pe_c c_law_value hr (by decide) rfl (pa_cons (pv 1) (pa_cons pe_int pa_nil))) pa_nil))))) (pss_cons (ps_set (i := 4) sc_law.nd rfl (Or.inl rfl) (pe_c c_law_value hr (by decide) rfl (pa_cons (pv 1) (pa_cons pe_int pa_nil)))) (pss_cons (ps_set (i := 5) sc_law.nd rfl (Or.inl rfl) (pe_callTy call_list_of rfl T.f_list (by decide +kernel) (pa_cons (pv 3) pa_nil))) (pss_cons (ps_set (i := 6) sc_law.nd rfl (Or.inl rfl) (TKE.pe_makX c_mkx_Tariff hr (by decide) TKE.none_out rfl (pa_cons (pv 2) (pa_cons (pv 5) (pa_cons (pv 4) pa_nil))))) (pss_cons (ps_expr (pe_bm PySem.F.plainAttrs_list PySem.F.slot_list_append PySem.F.type_list_append mt_append (pv 5) (pa_cons (pe_tup (pa_cons pe_int (pa_cons pe_int pa_nil))) pa_nil))) (pss_cons (ps_set (i := 7) sc_law.nd rfl (Or.inl rfl) pe_int) (pss_cons (ps_set (i := 8) sc_law.nd rfl (Or.inl rfl) (pe_lst (pa_cons pe_int (pa_cons pe_int (pa_cons (pv 2) (pa_cons (pe_op op_add (pv 2) pe_int) (pa_cons (pe_c c_law_draw hr (by decide) rfl (pa_cons (pv 1) (pa_cons pe_int pa_nil))) pa_nil))))))) (pss_cons (ps_for PassesOwn.never rfl (pi_list (pv 3)) (pg_tup rfl (pgs_cons (pg_name (i := 9) sc_law.nd rfl (Or.inl rfl)) (pgs_cons (pg_name (i := 10) sc_law.nd rfl (Or.inl rfl)) pgs_nil))) (pss_cons (ps_set (i := 7) sc_law.nd rfl (Or.inl rfl) (pe_op op_add (pv 7) (pe_op op_mul (pv 9) (pv 2)))) (pss_one (ps_set (i := 8) sc_law.nd rfl (Or.inl rfl) (pe_op op_cat (pv 8) (pe_lst (pa_cons (pe_op op_sub (pv 7) pe_int) (pa_cons (pv 7) (pa_cons (pe_op op_add (pv 7) pe_int) pa_nil))))))))) (pss_cons (ps_set (i := 11) sc_law.nd rfl (Or.inl rfl) (pe_lst (pa_cons pe_int (pa_cons pe_int pa_nil)))) (pss_cons (ps_for PassesOwn.never rfl (pi_list (pe_callB cr_sorted rfl T.f_sorted (by decide +kernel) (pa_cons (pv 8) pa_nil))) (pg_name (i := 12) sc_law.nd rfl (Or.inl rfl)) (pss_cons (ps_set (i := 13) sc_law.nd rfl (Or.inl rfl) (C8.pe_mt c_Tariff_cost hr (by decide) (pv 6) (pa_cons (pv 12) pa_nil))) (C8.pss_cut (ps_if (PW.pt (pw_or (pt_val (pe_callB call_isi rfl T.f_isinstance (by decide +kernel) (pa_cons (pv 13) (pa_cons (pe_bltn (v := .ty "bool") rfl T.f_bool (by decide +kernel) rfl) pa_nil)))) (pw_or1 (pt_cmpR op_ne (pv 13) (pe_c c_law_cost hr (by decide) rfl (pa_cons (pv 2) (pa_cons (pv 3) (pa_cons (pv 4) (pa_cons (pv 12) pa_nil))))) (nomark _))))) (pss_one (ps_ret pe_bl)) pss_nil) (C8.pss_cut (ps_if (pt_cmpR op_ne (C8.pe_mt c_Tariff_units hr (by decide) (pv 6) (pa_cons (pv 12) pa_nil)) (pe_un un_neg (pe_op op_fdiv (pe_un un_neg (pv 12)) (pv 2))) (nomark _)) (pss_one (ps_ret pe_bl)) pss_nil) (C8.pss_cut (ps_if (pt_cmpR op_lt (pv 13) (pe_ix ix_list (pv 11) pe_int (fun _ _ => rfl)) (nomark _)) (pss_one (ps_ret pe_bl)) pss_nil) (pss_one (ps_set (i := 11) sc_law.nd rfl (Or.inl rfl) (pe_lst (pa_cons (pv 12) (pa_cons (pv 13) pa_nil)))))))))) (C8.pss_cut (ps_if (PW.pt (pw_or (pt_cmpR op_ne (pe_fldC rfl T.cl_Tariff T.na_Tariff_unit (pv 6) rfl) (pv 2) (nomark _)) (pw_or (pt_cmpR (op_neD hr.units) (pe_fldC rfl T.cl_Tariff T.na_Tariff_bands (pv 6) rfl) (pv 3) (nomark _)) (pw_or1 (pt_cmpR op_ne (pe_fldC rfl T.cl_Tariff T.na_Tariff_last (pv 6) rfl) (pv 4) (nomark _)))))) (pss_one (ps_ret pe_bl)) pss_nil) (pss_one (ps_ret (pe_c c_law_refused hr (by decide) rfl (pa_cons (pv 1) (pa_cons (pv 2) (pa_cons (pv 3) (pa_cons (pv 4) pa_nil)))))))))))))))))))), ?_⟩
    refine ⟨_, rfl, a, ns, rfl, hS, hn, fun s c H1 _ _ _ st1 => ?_⟩
    refine ⟨_, rfl, s, c, 1, rfl, st1, by decide, by decide, fun u H2 u0 u1 st2 _ => ?_⟩
    clear st1 hS
    refine ⟨_, rfl, s, c, 9, rfl, st2, by decide, by decide, fun nb H3 n0 n1 st3 _ => ?_⟩
    refine ⟨nb, rfl, by omega, by omega, fun D hD => ?_⟩
    clear st2
    obtain ⟨Ds, Dc⟩ := st3.tracked hD
    refine lc_itN walk_range (fun i H' => StAt H' s c ∧ ∃ (ts : List Addr) (bs : List Bd), H' D = some (.lst (ts.map V.ref)) ∧ TupsAt H' ts bs ∧ bs.length = i ∧ ∀ b ∈ bs, okU b.1 = true ∧ okP b.2 = true) ⟨st3.upd Ds Dc, [], [], upd_same, trivial, rfl, fun _ h => nomatch h⟩ (fun _ _ _ _ => trivial) (fun i x Ha Hb hi p y => ?_) (fun H4 p => ?_)
    · obtain ⟨sta, ts, bs, e1, e2, e3, e4⟩ := p
      obtain ⟨rfl, rfl⟩ := y
      refine ⟨rfl, _, rfl, s, c, 1, rfl, sta, by decide, by decide, fun v1 Hc a1 b1 stc kpc => ?_⟩
      refine ⟨_, rfl, s, c, 0, rfl, stc, by decide, by decide, fun v2 Hd a2 b2 std kpd => ?_⟩
      refine ⟨by show 2 ≤ sizeLine; decide, fun p hp => ?_⟩
      have kk := kpc.trans kpd
      have e1d := kk _ _ e1 Ds Dc
      have e2d : TupsAt Hd ts bs := (BAt.keep ⟨ts, e1, e2⟩ sta kk Ds Dc).elim fun ts' q => by
        obtain ⟨q1, q2⟩ := q
        have : ts' = ts := by
          rw [e1d] at q1
          injection q1 with q1
          injection q1 with q1
          exact (refs_inj q1).symm
        rw [← this]
        exact q2
      obtain ⟨ps, pc⟩ := std.tracked hp
      have pD : p ≠ D := fun z => by rw [z, e1d] at hp; cases hp
      refine ⟨_, (upd_ne pD.symm).trans e1d, ?_, (std.upd ps pc).upd Ds Dc, ts ++ [p], bs ++ [(v1, v2)], ?_, ?_, ?_, ?_⟩
      · rw [List.length_map, e2d.len, e3, sizeLine_eq]
        omega
      · rw [upd_same, List.map_append]
        rfl
      · refine TupsAt.snoc (b := (v1, v2)) ((upd_ne pD).trans upd_same) (e2d.mono fun x b ex => ?_)
        exact (upd_ne (ne_of ex e1d (by intro z; cases z))).trans ((same_upd hp) _ _ ex)
      · rw [List.length_append, e3]
        rfl
      · intro b hb
        rcases List.mem_append.mp hb with h | h
        · exact e4 b h
        · rw [List.mem_singleton.mp h]
          constructor
          · show okU v1 = true
            unfold okU
            rw [if_pos a1, decide_eq_true b1]
          · show okP v2 = true
            unfold okP
            rw [if_pos a2, decide_eq_true b2]
    · obtain ⟨st4, ts, bs, e1, e2, e3, e4⟩ := p
      have hbl : bs.length ≤ 8 := by omega
      have hob : okB bs = true := by
        unfold okB
        rw [if_pos hbl, List.all_eq_true]
        intro b hb
        unfold okD
        rw [if_pos (e4 b hb).1]
        exact (e4 b hb).2
      have hou : okU u = true := by
        unfold okU
        rw [if_pos u0, decide_eq_true u1]
      clear e3 n0 n1 st3 hD
      refine ⟨_, rfl, s, c, 0, rfl, st4, by decide, by decide, fun l H5 l0 l1 st5 kp5 => ?_⟩
      have hol : okP l = true := by
        unfold okP
        rw [if_pos l0, decide_eq_true l1]
      have hB5 : BAt H5 D bs := BAt.keep ⟨ts, e1, e2⟩ st4 kp5 Ds Dc
      clear e1 e2 st4 kp5
      obtain ⟨ts, e1, e2⟩ := hB5
      -- given
      refine ⟨_, rfl, D, _, rfl, .inl (SqL.of e1), fun g hg => ?_⟩
      obtain ⟨gs, gc⟩ := st5.tracked hg
      have s6 := same_upd (o := .lst (ts.map V.ref)) hg
      have hBg : BAt (upd H5 g (.lst (ts.map V.ref))) g bs := ⟨ts, upd_same, e2.mono fun x b ex => s6 _ _ ex⟩
      have st6 := st5.same s6
      have hB6 : BAt (upd H5 g (.lst (ts.map V.ref))) D bs := BAt.same ⟨ts, e1, e2⟩ s6
      have gD : D ≠ g := ne_of_none e1 hg
      have eg : (upd H5 g (.lst (ts.map V.ref))) g = some (.lst (ts.map V.ref)) := upd_same
      have hl2 := e2.len
      clear e1 e2 st5 hg s6
      generalize upd H5 g (.lst (ts.map V.ref)) = H6 at *
      refine ⟨_, rfl, _, rfl, _, rfl, rfl, rfl, fun x dx hx hdx ne => ?_⟩
      have s7 := same_own (C := He.ga K "Tariff") (fs := []) hx hdx
      refine ⟨x, dx, g, u, l, bs, rfl, upd_same, hBg.same (same_own hx hdx), by omega, fun _ r H8 f1 f2 f3 f4 => ⟨rfl, ?_⟩, fun ef => absurd (by unfold fltS; rw [if_pos hou, if_pos hob, if_pos hol]) ef⟩
      have fr : Same H6 H8 := fun b o e => f4 b o (s7 _ _ e) (ne_of_none e hx)
      have rne : ∀ {b : Addr} {o : HO}, H6 b = some o → r ≠ b := fun {b o} e z => by
        rw [z, s7 _ _ e] at f3
        cases f3
      have L8 : LS K H8 s c D x r u l bs := by
        obtain ⟨_, ⟨n, hn⟩, cs, hc, _⟩ := id st6
        exact ⟨st6.same fr, hB6.same fr, ⟨dx, f1, f2⟩, Ds, Dc, rne hn, rne hc⟩
      have eg8 := fr _ _ eg
      have rg := rne eg
      clear f1 f2 f3 f4 fr rne s7 hx hdx ne hBg hB6 st6 eg
      refine ⟨_, rfl, .inl ⟨rfl, _, SqL.of eg8⟩, by show 2 ≤ sizeLine; decide, fun p hp => ⟨g, _, _, rfl, rfl, (same_upd hp) _ _ eg8, ?_, ?_⟩⟩
      · rw [List.length_map, hl2, sizeLine_eq]
        omega
      have L9 := (L8.same (same_upd (o := .tup [.int 1, .int 1]) hp)).updL (ys := ts.map V.ref ++ [.ref p]) ((same_upd hp) _ _ eg8) gs gc gD rg
      clear L8 eg8
      refine ⟨_, rfl, _, rfl, _, _, rfl, rfl, _, rfl, s, c, 1000000, rfl, L9.st, by decide, by decide, fun d Ha d0 _ sta kpa => ⟨by show 5 ≤ sizeLine; decide, fun sp hsp => ?_⟩⟩
      have La := (L9.keep sta kpa).same (same_upd (o := .lst [.int 0, .int 1, .int u, .int (u + 1), .int d]) hsp)
      have esp : (upd Ha sp (.lst [.int 0, .int 1, .int u, .int (u + 1), .int d])) sp = some (.lst (([0, 1, u, u + 1, d] : List Int).map V.int)) := upd_same
      have hns0 : ∀ n ∈ ([0, 1, u, u + 1, d] : List Int), 0 ≤ n := by
        intro n hn
        simp only [List.mem_cons, List.not_mem_nil, or_false] at hn
        omega
      clear L9 sta kpa hp
      clear hsp
      generalize upd Ha sp (.lst [.int 0, .int 1, .int u, .int (u + 1), .int d]) = Hb at *
      have lns0 : ([0, 1, u, u + 1, d] : List Int).length = 5 := rfl
      generalize ([0, 1, u, u + 1, d] : List Int) = ns0 at *
      obtain ⟨tb, eb, qb⟩ := La.hB
      have hlb := qb.len
      refine ⟨_, rfl, D, rfl, ⟨_, SqL.of eb⟩, for_list (K := K) (a := D) (xs := tb.map V.ref) (fun i σ H' => Same Hb H' ∧ ∃ (edge : Int) (sq : Addr) (ns : List Int) (v1 v2 : Option V), σ = [some (.ref a), some (.ref s), some (.int u), some (.ref D), some (.int l), some (.ref g), some (.ref x), some (.int edge), some (.ref sq), v1, v2, none, none, none, none] ∧ 0 ≤ edge ∧ H' sq = some (.lst (ns.map V.int)) ∧ ns.length = 5 + 3 * i ∧ ∀ n ∈ ns, 0 ≤ n)
        ⟨fun _ _ e => e, 0, sp, ns0, none, none, rfl, Int.le_refl _, esp, lns0, hns0⟩ (fun i σ H' _ q => SqL.of (q.1 _ _ eb)) ?_ ?_⟩
      · rintro i y σ H' hi ⟨sH, edge, sq, ns, v1, v2, rfl, he0, esq, lsq, hns⟩
        obtain ⟨t, rfl, _, hib, ht⟩ := qb.at_ i y hi
        obtain ⟨b1, b2⟩ := okD_get hob hib
        have hb1 := okU_to b1
        generalize bs.getD i (0, 0) = b at ht b1 b2 hb1
        have hbu : 0 < b.1 * u := Int.mul_pos (by omega) (by omega)
        refine ⟨t, _, rfl, SqT.of (sH _ _ ht), rfl, _, _, rfl, _, _, rfl, rfl, ?_⟩
        refine ⟨_, rfl, _, rfl, _, rfl, _, _, rfl, rfl, .inl ⟨by omega, by omega⟩, _, _, rfl, rfl, ?_⟩
        refine ⟨_, rfl, _, rfl, _, _, rfl, rfl, _, rfl, _, rfl, _, _, rfl, rfl, by show 3 ≤ sizeLine; decide, fun q hq => ?_⟩
        have sq1 := same_upd (o := .lst [.int (edge + b.1 * u - 1), .int (edge + b.1 * u), .int (edge + b.1 * u + 1)]) hq
        refine ⟨sq, q, _, _, rfl, rfl, sq1 _ _ esq, upd_same, ?_, fun w hw => ?_⟩
        · rw [List.length_map, lsq, sizeLine_eq]
          show 5 + 3 * i + 3 ≤ _
          omega
        refine ⟨(sH.trans sq1).trans (same_upd hw), edge + b.1 * u, w, ns ++ [edge + b.1 * u - 1, edge + b.1 * u, edge + b.1 * u + 1], _, _, rfl, by omega, ?_, ?_, ?_⟩
        · rw [upd_same, List.map_append]
          rfl
        · rw [List.length_append, lsq]
          show 5 + 3 * i + 3 = _
          omega
        · intro n hn
          rcases List.mem_append.mp hn with h | h
          · exact hns n h
          · simp only [List.mem_cons, List.not_mem_nil, or_false] at h
            omega
      · rintro σ H' ⟨sH, edge, sq, ns, v1, v2, rfl, he0, esq, lsq, hns⟩
        have Lc := La.same sH
        clear La sH esp hns0 lns0 eb qb
        rw [List.length_map, hlb] at lsq
        refine ⟨by show 2 ≤ sizeLine; decide, fun bf hbf => ?_⟩
        have sbf := same_upd (o := .lst [.int 0, .int 0]) hbf
        have ebf : (upd H' bf (.lst [.int 0, .int 0])) bf = some (.lst [.int 0, .int 0]) := upd_same
        have Ld := Lc.same sbf
        have esq2 := sbf _ _ esq
        clear Lc sbf hbf esq
        generalize upd H' bf (.lst [.int 0, .int 0]) = Hd at *
        refine ⟨_, rfl, sq, ns, rfl, SqL.of esq2, by omega, fun ns' p perm pw hp => ?_⟩
        have sp1 := same_upd (o := .lst (ns'.map V.int)) hp
        have ep : (upd Hd p (.lst (ns'.map V.int))) p = some (.lst (ns'.map V.int)) := upd_same
        have Le := Ld.same sp1
        have ebf2 := sp1 _ _ ebf
        clear Ld sp1 hp esq2 ebf
        generalize upd Hd p (.lst (ns'.map V.int)) = He at *
        have hns' : ∀ n ∈ ns', 0 ≤ n := fun n hn => hns n (perm.mem_iff.mp hn)
        refine ⟨p, rfl, ⟨_, SqL.of ep⟩, for_list (K := K) (a := p) (xs := ns'.map V.int) (fun i σ H' => Same He H' ∧ ∃ (b2 : Addr) (x0 : Int) (w1 w2 : Option V), σ = [some (.ref a), some (.ref s), some (.int u), some (.ref D), some (.int l), some (.ref g), some (.ref x), some (.int edge), some (.ref sq), v1, v2, some (.ref b2), w1, w2, none] ∧ H' b2 = some (.lst [.int x0, .int (cPrev u bs l ns' i)]))
          ⟨fun _ _ e => e, bf, 0, none, none, rfl, ebf2⟩ (fun i σ H' _ q => SqL.of (q.1 _ _ ep)) ?_ ?_⟩
        · rintro i y σ H2 hi ⟨s2, b2, x0, w1, w2, rfl, eb2⟩
          obtain ⟨z, hz, rfl⟩ : ∃ z, ns'[i]? = some z ∧ y = V.int z := by
            rw [List.getElem?_map] at hi
            obtain ⟨z, hz, e⟩ := Option.map_eq_some_iff.mp hi
            exact ⟨z, hz, e.symm⟩
          have Lf := Le.same s2
          obtain ⟨dxt, et, tst⟩ := id Lf.hT
          have hz0 := hns' z (List.mem_of_getElem? hz)
          have hcp := cPrev_le (u := u) (l := l) (bs := bs) (i := i) (fun b hb => ⟨by have := (okU_to (okD_mem hob b hb).1).1; omega, (okP_to (okD_mem hob b hb).2).1⟩) u0 l0 hns' pw hz
          have ec : cPrev u bs l ns' (i + 1) = costI u bs l z := by
            unfold cPrev
            rw [if_neg (by omega), Nat.add_sub_cancel, List.getD_eq_getElem?_getD, hz]
            rfl
          refine ⟨_, rfl, x, dxt, _, rfl, et, rfl, _, rfl, x, r, u, l, z, bs, rfl, ⟨dxt, et, tst⟩, hou, hob, hol, ?_⟩
          have ne0 : ∀ j : Int, (!decide (V.int j = V.int j)) = false := fun j => by simp
          refine ⟨fun σ' H3 => σ' = [some (.ref a), some (.ref s), some (.int u), some (.ref D), some (.int l), some (.ref g), some (.ref x), some (.int edge), some (.ref sq), v1, v2, some (.ref b2), some (.int z), some (.int (costI u bs l z)), none] ∧ H3 = H2, ?_, ?_⟩
          · refine ⟨_, rfl, _, _, _, _, false, rfl, ClsV.ty "bool", TyX.base (TyOf.int _), kit_ty (by decide +kernel), _, rfl, iteF ?_⟩
            refine ⟨_, rfl, _, rfl, _, rfl, _, rfl, _, rfl, D, u, l, z, bs, rfl, Lf.hB, hou, hob, hol, hz0, rfl, _, rfl, ?_⟩
            rw [ne0]
            exact iteF ⟨rfl, rfl⟩
          · rintro σ' H3 ⟨rfl, rfl⟩
            refine ⟨fun σ' H4 => σ' = [some (.ref a), some (.ref s), some (.int u), some (.ref D), some (.int l), some (.ref g), some (.ref x), some (.int edge), some (.ref sq), v1, v2, some (.ref b2), some (.int z), some (.int (costI u bs l z)), none] ∧ H4 = H3, ?_, ?_⟩
            · refine ⟨_, rfl, x, dxt, _, rfl, et, rfl, _, rfl, x, dxt, r, u, l, z, rfl, et, u0, u1, _, rfl, _, rfl, _, rfl, _, _, rfl, rfl, ⟨by omega, by omega⟩, _, rfl, rfl, _, rfl, ?_⟩
              have e9 : (!decide (V.int (unitsI u z) = V.int (-(-z / u)))) = false := by simp [units_same u0]
              dsimp only
              rw [e9]
              exact iteF ⟨rfl, rfl⟩
            · rintro σ' H4 ⟨rfl, rfl⟩
              refine ⟨fun σ' H5 => σ' = [some (.ref a), some (.ref s), some (.int u), some (.ref D), some (.int l), some (.ref g), some (.ref x), some (.int edge), some (.ref sq), v1, v2, some (.ref b2), some (.int z), some (.int (costI u bs l z)), none] ∧ H5 = H4, ?_, ?_⟩
              · refine ⟨_, rfl, _, rfl, b2, _, 1, _, rfl, rfl, SqL.of eb2, rfl, _, _, rfl, rfl, _, rfl, ?_⟩
                rw [decide_eq_false (by omega)]
                exact iteF ⟨rfl, rfl⟩
              · rintro σ' H5 ⟨rfl, rfl⟩
                refine ⟨_, rfl, _, rfl, by show 2 ≤ sizeLine; decide, fun q hq => ⟨s2.trans (same_upd hq), q, z, _, _, rfl, ?_⟩⟩
                rw [upd_same, ec]
        · rintro σ H2 ⟨s2, b2, x0, w1, w2, rfl, eb2⟩
          have Lf := Le.same s2
          obtain ⟨dxt, et, tst⟩ := id Lf.hT
          have ne0 : ∀ j : Int, (!decide (V.int j = V.int j)) = false := fun j => by simp
          refine ⟨fun σ' H3 => σ' = [some (.ref a), some (.ref s), some (.int u), some (.ref D), some (.int l), some (.ref g), some (.ref x), some (.int edge), some (.ref sq), v1, v2, some (.ref b2), w1, w2, none] ∧ H3 = H2, ?_, ?_⟩
          · refine ⟨_, rfl, x, dxt, _, _, rfl, et, rfl, _, rfl, rfl, _, rfl, ?_⟩
            rw [ne0]
            refine iteF ⟨_, rfl, x, dxt, _, _, rfl, et, rfl, _, rfl, dataB bs, dataB bs, dataB_dp tst, dataB_dp Lf.hB, dataB_ok.1, dataB_ok.1, _, rfl, ?_⟩
            rw [dataB_ok.2]
            refine iteF ⟨_, rfl, x, dxt, _, _, rfl, et, rfl, _, rfl, rfl, _, rfl, ?_⟩
            rw [ne0]
            exact iteF ⟨rfl, rfl⟩
          · rintro σ' H3 ⟨rfl, rfl⟩
            exact ⟨_, rfl, _, rfl, _, rfl, _, rfl, s, c, D, u, l, bs, rfl, Lf.st, Lf.hB, Ds, Dc, hbl, k⟩
end K10
set_option maxHeartbeats 0
namespace K10
open PySem PySem.Spec PyProof.Rows L2 SX TK NdefX
/-! ### the head: facts by names, the run -/
def d_Tariff___init : He.DefD := ⟨("Tariff", some "__init__"), "__init__", "Tariff.__init__", defArgs s_Tariff___init, defBody s_Tariff___init, defScope s_Tariff___init, [], []⟩
def d_Tariff_units : He.DefD := ⟨("Tariff", some "units"), "units", "Tariff.units", defArgs s_Tariff_units, defBody s_Tariff_units, defScope s_Tariff_units, [], []⟩
def d_Tariff_cost : He.DefD := ⟨("Tariff", some "cost"), "cost", "Tariff.cost", defArgs s_Tariff_cost, defBody s_Tariff_cost, defScope s_Tariff_cost, [], []⟩
def d_is_unit : He.DefD := ⟨("_is_unit", none), "_is_unit", "_is_unit", defArgs s_is_unit, defBody s_is_unit, defScope s_is_unit, [], []⟩
def d_is_price : He.DefD := ⟨("_is_price", none), "_is_price", "_is_price", defArgs s_is_price, defBody s_is_price, defScope s_is_price, [], []⟩
def d_are_bands : He.DefD := ⟨("_are_bands", none), "_are_bands", "_are_bands", defArgs s_are_bands, defBody s_are_bands, defScope s_are_bands, [], []⟩
def d_law_state : He.DefD := ⟨("_law_state", none), "_law_state", "_law_state", defArgs s_law_state, defBody s_law_state, defScope s_law_state, [], []⟩
def d_law_draw : He.DefD := ⟨("_law_draw", none), "_law_draw", "_law_draw", defArgs s_law_draw, defBody s_law_draw, defScope s_law_draw, [], []⟩
def d_law_pick : He.DefD := ⟨("_law_pick", none), "_law_pick", "_law_pick", defArgs s_law_pick, defBody s_law_pick, defScope s_law_pick, [], []⟩
def d_law_value : He.DefD := ⟨("_law_value", none), "_law_value", "_law_value", defArgs s_law_value, defBody s_law_value, defScope s_law_value, [], []⟩
def d_law_cost : He.DefD := ⟨("_law_cost", none), "_law_cost", "_law_cost", defArgs s_law_cost, defBody s_law_cost, defScope s_law_cost, [], []⟩
def d_law_fault : He.DefD := ⟨("_law_fault", none), "_law_fault", "_law_fault", defArgs s_law_fault, defBody s_law_fault, defScope s_law_fault, [], []⟩
def d_law_refused : He.DefD := ⟨("_law_refused", none), "_law_refused", "_law_refused", defArgs s_law_refused, defBody s_law_refused, defScope s_law_refused, [], []⟩
def d_law : He.DefD := ⟨("law", none), "law", "law", defArgs s_law, defBody s_law, defScope s_law, [], []⟩
def fnL : List He.DefD := [d_Tariff___init, d_Tariff_units, d_Tariff_cost, d_is_unit, d_is_price, d_are_bands, d_law_state, d_law_draw, d_law_pick, d_law_value, d_law_cost, d_law_fault, d_law_refused, d_law]
def faL : List He.Fa := [.int "GREATEST_PRICE" 10000, .int "GREATEST_UNIT" 10000, .int "MOST_BANDS" 8, .free "abs", .free "all", .free "bool", .free "int", .free "isinstance", .free "len", .free "list", .free "max", .free "min", .free "range", .free "sorted", .free "super", .free "tuple", .cls "Tariff", .noat "Tariff" "unit", .noat "Tariff" "bands", .noat "Tariff" "last", .glo "Tariff", .mkr "Tariff", .glo "TrunklandError", .glo "ConfigError", .exm "ConfigError" "ConfigError" true, .meth "Tariff" "units", .meth "Tariff" "cost", .glo "_is_unit", .glo "_is_price", .glo "_are_bands", .glo "_law_state", .glo "_law_draw", .glo "_law_pick", .glo "_law_value", .glo "_law_cost", .glo "_law_fault", .glo "_law_refused", .glo "law"]
def loose0 : List Str := ["GREATEST_UNIT", "GREATEST_PRICE", "MOST_BANDS", "_is_unit", "_is_price", "_are_bands", "_law_state", "_law_draw", "_law_pick", "_law_value", "_law_cost", "_law_fault", "_law_refused", "TrunklandError", "ConfigError", "Tariff"]
abbrev Row0 : PySem.W.OpenRow := PySem.W.OpenLaw.row PySem.Challenge.rw_trunkland_k10_tariffs
def exL (K : PySem.W.Frag) : List Bool := [TKE.excAll K "ConfigError" "setting" "ConfigError.__init__" PySem.Challenge.pw_trunkland_k10_tariffs.main.file, decide (PySem.W.kitOne K (.ref (He.ga K "ConfigError")) (.ref (He.ga K "TrunklandError")) = some true)]
def e_ConfigError : He.DefD := ⟨("ConfigError", some "__init__"), "__init__", "ConfigError.__init__", defArgs si_ConfigError, defBody si_ConfigError, defScope si_ConfigError, [], []⟩
def esL : List He.DefD := [e_ConfigError]
abbrev hk : PySem.W.Hook := TKE.hookE 6 faL fnL exL esL
def ob (s : PySem.W.SharedT) : TKE.AlE := TKE.obsE 6 faL fnL exL esL (HandSHeadRun.getT s)
theorem ob_eq (s : PySem.W.SharedT) : ob s = hk.obs s.abs := TKE.obsE_eq (HandSHeadRun.getT_eq s)
theorem run (w : World) : HandSHeadRun.RunEq Row0 (PySem.W.view Row0.prog [19]) hk ob 4000 (loose0) w := by
  intro os
  kernel_rfl
theorem facts {P : Program} {w : World} {K : PySem.W.Frag} {h : Heap} {mg : Str → Option Value} {f : Addr} (X : K.In h) (G : h.Ns mainGlobals mg) (hfa : mg ("law" : Str) = some (.ref f)) (c : He.SaysD faL fnL K) (cx : (exL K).all id = true) (ce : esL.map (fun d => TKE.fnC K d.at_) = esL.map He.DefD.val) (hP : P.main.file = PySem.Challenge.pw_trunkland_k10_tariffs.main.file) (htop : (P.main.scope.names.lookup ("super" : Str)).isSome = false) :
    ∃ fd : FuncData, (∀ (s : Shared) (v : Value), BindsTo s fd ⟨[v], []⟩ [("script", v)]) ∧ ∀ base : Heap, K.In base → base.Ns mainGlobals mg → FnOk P w K mg base CX0 6 f fd ["script"] (spLaw K) := by
  have b_ConfigError := TKE.exTxt_of (P := P) (TK.exAt cx 0 rfl) hP (TKE.fnC_at ce 0 (d := e_ConfigError) rfl)
  have T : Tx K mg := ⟨He.int_ok X G (c.fact 0 (f := .int "GREATEST_PRICE" 10000) rfl), He.int_ok X G (c.fact 1 (f := .int "GREATEST_UNIT" 10000) rfl), He.int_ok X G (c.fact 2 (f := .int "MOST_BANDS" 8) rfl), He.free_ok X G (c.fact 3 (f := .free "abs") rfl), He.free_ok X G (c.fact 4 (f := .free "all") rfl), He.free_ok X G (c.fact 5 (f := .free "bool") rfl), He.free_ok X G (c.fact 6 (f := .free "int") rfl), He.free_ok X G (c.fact 7 (f := .free "isinstance") rfl), He.free_ok X G (c.fact 8 (f := .free "len") rfl), He.free_ok X G (c.fact 9 (f := .free "list") rfl), He.free_ok X G (c.fact 10 (f := .free "max") rfl), He.free_ok X G (c.fact 11 (f := .free "min") rfl), He.free_ok X G (c.fact 12 (f := .free "range") rfl), He.free_ok X G (c.fact 13 (f := .free "sorted") rfl), He.free_ok X G (c.fact 14 (f := .free "super") rfl), He.free_ok X G (c.fact 15 (f := .free "tuple") rfl), He.cls_ok (c.fact 16 (f := .cls "Tariff") rfl), He.noat_ok (c.fact 17 (f := .noat "Tariff" "unit") rfl), He.noat_ok (c.fact 18 (f := .noat "Tariff" "bands") rfl), He.noat_ok (c.fact 19 (f := .noat "Tariff" "last") rfl), He.glo_ok X G (c.fact 22 (f := .glo "TrunklandError") rfl), He.glo_ok X G (c.fact 23 (f := .glo "ConfigError") rfl), b_ConfigError.xf, b_ConfigError.ec, b_ConfigError.no, of_decide_eq_true (c.fact 24 (f := .exm "ConfigError" "ConfigError" true) rfl), of_decide_eq_true (TK.exAt cx 1 rfl)⟩
  obtain ⟨fd_Tariff___init, F_Tariff___init⟩ := c.def_ 0 (d := d_Tariff___init) rfl
  obtain ⟨fd_Tariff_units, F_Tariff_units⟩ := c.def_ 1 (d := d_Tariff_units) rfl
  obtain ⟨fd_Tariff_cost, F_Tariff_cost⟩ := c.def_ 2 (d := d_Tariff_cost) rfl
  obtain ⟨fd_is_unit, F_is_unit⟩ := c.def_ 3 (d := d_is_unit) rfl
  obtain ⟨fd_is_price, F_is_price⟩ := c.def_ 4 (d := d_is_price) rfl
  obtain ⟨fd_are_bands, F_are_bands⟩ := c.def_ 5 (d := d_are_bands) rfl
  obtain ⟨fd_law_state, F_law_state⟩ := c.def_ 6 (d := d_law_state) rfl
  obtain ⟨fd_law_draw, F_law_draw⟩ := c.def_ 7 (d := d_law_draw) rfl
  obtain ⟨fd_law_pick, F_law_pick⟩ := c.def_ 8 (d := d_law_pick) rfl
  obtain ⟨fd_law_value, F_law_value⟩ := c.def_ 9 (d := d_law_value) rfl
  obtain ⟨fd_law_cost, F_law_cost⟩ := c.def_ 10 (d := d_law_cost) rfl
  obtain ⟨fd_law_fault, F_law_fault⟩ := c.def_ 11 (d := d_law_fault) rfl
  obtain ⟨fd_law_refused, F_law_refused⟩ := c.def_ 12 (d := d_law_refused) rfl
  obtain ⟨fd_law, F_law⟩ := c.def_ 13 (d := d_law) rfl
  have e := hfa.symm.trans (He.glo_ok X G (c.fact 37 (f := .glo "law") rfl))
  cases e
  have b := FunD.bindsA (ps := ["script"]) F_law fun _ _ _ _ _ _ us hl => match us, hl with | [_], _ => rfl
  refine ⟨fd_law, fun s v => b s [v] rfl, fun base _ _ => ?_⟩
  have x_ConfigError := ok_exc_ConfigError (w := w) (base := base) T.f_super htop T.g_ConfigError b_ConfigError
  have c_law_state := cal_of (P := P) (w := w) (base := base) F_law_state (ok_law_state T  F_law_state) (He.glo_ok X G (c.fact 30 (f := .glo "_law_state") rfl)) fun _ _ _ _ _ _ us hl => match us, hl with | [_], _ => rfl
  have c_law_draw := cal_of (P := P) (w := w) (base := base) F_law_draw (ok_law_draw T  F_law_draw) (He.glo_ok X G (c.fact 31 (f := .glo "_law_draw") rfl)) fun _ _ _ _ _ _ us hl => match us, hl with | [_, _], _ => rfl
  have c_law_pick := cal_of (P := P) (w := w) (base := base) F_law_pick (ok_law_pick T c_law_draw F_law_pick) (He.glo_ok X G (c.fact 32 (f := .glo "_law_pick") rfl)) fun _ _ _ _ _ _ us hl => match us, hl with | [_, _], _ => rfl
  have c_is_unit := cal_of (P := P) (w := w) (base := base) F_is_unit (ok_is_unit T  F_is_unit) (He.glo_ok X G (c.fact 27 (f := .glo "_is_unit") rfl)) fun _ _ _ _ _ _ us hl => match us, hl with | [_], _ => rfl
  have c_is_price := cal_of (P := P) (w := w) (base := base) F_is_price (ok_is_price T  F_is_price) (He.glo_ok X G (c.fact 28 (f := .glo "_is_price") rfl)) fun _ _ _ _ _ _ us hl => match us, hl with | [_], _ => rfl
  have c_are_bands := cal_of (P := P) (w := w) (base := base) F_are_bands (ok_are_bands T c_is_unit c_is_price F_are_bands) (He.glo_ok X G (c.fact 29 (f := .glo "_are_bands") rfl)) fun _ _ _ _ _ _ us hl => match us, hl with | [_], _ => rfl
  have c_Tariff_units := met_of (P := P) (w := w) (base := base) T.cl_Tariff (He.meth_ok (c.fact 25 (f := .meth "Tariff" "units") rfl)) F_Tariff_units (ok_Tariff_units T  F_Tariff_units) fun _ _ _ _ _ _ us hl => match us, hl with | [_, _], _ => rfl
  have c_Tariff_cost := met_of (P := P) (w := w) (base := base) T.cl_Tariff (He.meth_ok (c.fact 26 (f := .meth "Tariff" "cost") rfl)) F_Tariff_cost (ok_Tariff_cost T c_Tariff_units F_Tariff_cost) fun _ _ _ _ _ _ us hl => match us, hl with | [_, _], _ => rfl
  have c_mkx_Tariff := TKE.makX_of (P := P) (w := w) (base := base) (n := 3) (He.mkr_ok (c.fact 21 (f := .mkr "Tariff") rfl)) (He.glo_ok X G (c.fact 20 (f := .glo "Tariff") rfl)) F_Tariff___init (ok_Tariff___init T x_ConfigError c_is_unit c_is_price c_are_bands F_Tariff___init) rfl fun _ _ _ _ _ _ us hl => match us, hl with | [_, _, _, _], _ => rfl
  have c_law_value := cal_of (P := P) (w := w) (base := base) F_law_value (ok_law_value T c_law_draw c_law_pick F_law_value) (He.glo_ok X G (c.fact 33 (f := .glo "_law_value") rfl)) fun _ _ _ _ _ _ us hl => match us, hl with | [_, _], _ => rfl
  have c_law_cost := cal_of (P := P) (w := w) (base := base) F_law_cost (ok_law_cost T  F_law_cost) (He.glo_ok X G (c.fact 34 (f := .glo "_law_cost") rfl)) fun _ _ _ _ _ _ us hl => match us, hl with | [_, _, _, _], _ => rfl
  have c_law_fault := cal_of (P := P) (w := w) (base := base) F_law_fault (ok_law_fault T  F_law_fault) (He.glo_ok X G (c.fact 35 (f := .glo "_law_fault") rfl)) fun _ _ _ _ _ _ us hl => match us, hl with | [_, _, _], _ => rfl
  have c_law_refused := cal_of (P := P) (w := w) (base := base) F_law_refused (ok_law_refused T c_law_draw c_law_pick c_law_fault c_mkx_Tariff F_law_refused) (He.glo_ok X G (c.fact 36 (f := .glo "_law_refused") rfl)) fun _ _ _ _ _ _ us hl => match us, hl with | [_, _, _, _], _ => rfl
  exact ok_law T c_law_state c_law_draw c_law_value c_law_cost c_law_refused c_mkx_Tariff c_Tariff_cost c_Tariff_units F_law
end K10
open PySem PySem.W PySem.Calls PyProof.Rows
theorem PySem.Challenge.cw_trunkland_k10_tariffs_holds : PySem.Challenge.rw_trunkland_k10_tariffs.Holds := by
  w_on; o_law
  refine HandSHeadRun.head_any (r := OpenLaw.row PySem.Challenge.rw_trunkland_k10_tariffs) (q := view (OpenLaw.row PySem.Challenge.rw_trunkland_k10_tariffs).prog [19]) (H := K10.hk) (ob := K10.ob) (M := 4000) (loose := K10.loose0) (d := HandSHeadRun.topDef (OpenLaw.row PySem.Challenge.rw_trunkland_k10_tariffs).prog 19) (kwd := []) K10.ob_eq
    (by kernel_rfl) (fun s => by kernel_rfl) K10.run (by kernel_rfl) (by kernel_rfl) (by kernel_rfl) (by rfl) (by first | assumption | decide +kernel) (by decide +kernel) ⟨rfl, rfl, rfl, rfl, rfl, by decide +kernel⟩ ?hw ?hc
  case hw => w_witness2
  case hc =>
    refine L2.walk_ofE (l := PySem.Challenge.rw_trunkland_k10_tariffs) (n := 63) (k := 6) (x := "script") (CX := L2.CX0) rfl (by decide) (by kernel_rfl) ⟨rfl, by decide, by decide⟩ ?F (fun _ _ _ _ z => z)
    intro w mg fa h Y G hmg0
    obtain ⟨K, KX, c, cx, ce⟩ := Y
    have hmg : mg ("law" : PySem.Str) = some (.ref fa) := by
      have e : (HandSHeadRun.topDef (OpenLaw.row PySem.Challenge.rw_trunkland_k10_tariffs).prog 19).name = ("law" : PySem.Str) := by kernel_rfl
      rw [← e]
      exact hmg0
    obtain ⟨fd, hb, hF⟩ := K10.facts (P := (PySem.Challenge.rw_trunkland_k10_tariffs).prog) (w := w) KX G hmg c cx ce rfl (by kernel_rfl)
    exact ⟨K, fd, K10.spLaw K, KX, hb, fun H a ns hl _ hS => ⟨a, ns, rfl, hS, hl, fun _ => rfl⟩, hF⟩
