import PyProof.Rows.All
import Wide.All
import OpenK.AllK
import Wide.FinOn
import HandS.ForMost
import HandS.Defaults
import HandS.Codes
import HandS.IsInst
import HandS.NoneIn
import HandS.Replace
import HandS.Walk
import HandS.Head0
import HandS.Head1
import HandS.Head2
import HandS.HeadEnd
import HandS.HeadHook1
import HandS.HeadHook2
import HandS.MakeKw
import HandS.MakeKwOnly
import HandS.FStr
import HandS.Deep
import HandS.SetKeys
import HandS.Strs
import HandS.ExcInit
import HandS.ExcIs
import HandS.ExcField
import HandS.ExcCtx
import HandS.ClsMeth
import HandS.Nested
import KE.KExcSuper
import KE.KExcIs
import KE.KIsAll
import HandS.WordsExc
import HandS.SetFor
import PySem.Challenge.RW_trunkland_k14_settings
set_option Elab.async false
set_option linter.all false
set_option maxRecDepth 100000
set_option maxHeartbeats 4000000
/-! Helpers of mine over the hand layer, the same for every law of this program. -/
namespace TK
open PySem PySem.Spec PyProof.Rows L2 C8 SX
section
variable {X : Cx} {x : Str} {pos p : Pos} {k j : Nat} {sp : Sp} {dvs : List V}
theorem pgI {i : Int} (h : ∃ t, X.mg x = some (.int i t)) (hg : Gl X x := by rfl) (hd : (x == ("__debug__" : Str)) = false := by decide) : PE X (.Name x pos) (tC (.int i)) := by
  obtain ⟨t, e⟩ := h
  exact pe_glob hg e ⟨t, rfl⟩ hd
theorem pgS {z : Str} (h : ∃ t, X.mg x = some (.str z t)) (hg : Gl X x := by rfl) (hd : (x == ("__debug__" : Str)) = false := by decide) : PE X (.Name x pos) (tC (.str z)) := by
  obtain ⟨t, e⟩ := h
  exact pe_glob hg e ⟨t, rfl⟩ hd
theorem pgR {a : Addr} (h : X.mg x = some (.ref a)) (hg : Gl X x := by rfl) (hd : (x == ("__debug__" : Str)) = false := by decide) : PE X (.Name x pos) (tC (.ref a)) := pe_glob hg h rfl hd
theorem pe_c0 (c : Cal X.prog X.w X.K X.mg X.base k x sp dvs) (hr : Room j X.A) (hk : k ≤ j) (hg : Gl X x) (hdb : (x == ("__debug__" : Str)) = false := by decide) :
    PE X (.Call (.Name x p) [] [] pos) (tCall sp dvs L2.E0 tNil) := by
  obtain ⟨f, fd, ps, ds, F, hm, kp, b, d⟩ := c.ex
  exact pe_call0 F (hr.mono hk) hg hm kp b d L2.pass0 hdb
end
section
variable {P : Program} {w : World} {K : PySem.W.Frag} {mg : Str → Option Value} {base : Heap}
/-- a def without defaults, as callers want it -/
theorem cal_of {x qual : Str} {params : Arguments} {body : List Stmt} {scope : Scope} {f : Addr} {fd : FuncData} {ps : List Str} {k : Nat} {sp : Sp} (F : FunD K x qual params body scope [] [] f fd) (G : FnOk P w K mg base L2.CX0 k f fd ps sp) (hm : mg x = some (.ref f))
    (h : ∀ (kV doc pm : Value) (an : Option Addr) (cdv ct : Value) (us : List Value), us.length = ps.length → bindArgs (PySem.W.fnOf x qual params body scope .none kV doc pm an cdv ct) ⟨us, []⟩ = pure (ps.zip us)) : Cal P w K mg base k x sp [] :=
  ⟨f, fd, ps, [], G, hm, F.kp, F.bindsN h, .nil⟩
end
/-! ### heaps -/
/-- all that was tracked is as it was, but what stands at two places -/
def Keep (H H' : Hp) (a c : Addr) : Prop := ∀ b o, H b = some o → b ≠ a → b ≠ c → H' b = some o
theorem Keep.refl (H : Hp) (a c : Addr) : Keep H H a c := fun _ _ h _ _ => h
theorem Keep.trans {H H1 H2 : Hp} {a c : Addr} (h : Keep H H1 a c) (k : Keep H1 H2 a c) : Keep H H2 a c := fun b o e h1 h2 => k b o (h b o e h1 h2) h1 h2
theorem Keep.of_same {H H' : Hp} {a c : Addr} (h : Same H H') : Keep H H' a c := fun b o e _ _ => h b o e
theorem same_upd {H : Hp} {p : Addr} {o : HO} (h : H p = none) : Same H (upd H p o) := fun b u e => by
  rw [upd_ne (ne_of_none e h)]
  exact e
/-- the law's source of draws: a list of a list of cells and a seed -/
structure StAt (H : Hp) (s c : Addr) : Prop where
  ne : s ≠ c
  at_ : ∃ n : Int, H s = some (.lst [.ref c, .int n])
  cells : ∃ ns : List Int, H c = some (.lst (ns.map V.int)) ∧ ns.length ≤ 63
theorem StAt.same {H H' : Hp} {s c : Addr} (h : StAt H s c) (e : Same H H') : StAt H' s c := by
  obtain ⟨ne, ⟨n, h1⟩, ns, h2, h3⟩ := h
  exact ⟨ne, ⟨n, e _ _ h1⟩, ns, e _ _ h2, h3⟩
end TK
namespace TK
open PySem PySem.Spec PyProof.Rows L2 C8 SX
/-! ### comprehensions whose elements leave the heap alone -/
theorem lc_pure {J : It} {n : Nat} {G : Hp → Prop} {Y : Nat → Hp → V → Hp → Prop} (w : Walk J n G Y) (f : Nat → V) {g : TG} {tt : TT} {te : TE} {vs : List Nat} {σ : L2.St} {H1 : Hp} {D : Addr} {Qd : Hp → Prop} (hn : n ≤ sizeLine)
    (hG : ∀ i, i ≤ n → G (upd H1 D (.lst ((List.range i).map f))))
    (hs : ∀ (i : Nat) (x : V) (H' : Hp) (k : V → Hp → Prop), i < n → Y i (upd H1 D (.lst ((List.range i).map f))) x H' → k (f i) (upd H1 D (.lst ((List.range i).map f))) →
      g x (wipe σ vs) H' fun σ2 H2 => wipe σ2 vs = wipe σ vs ∧ tt σ2 H2 fun b H3 => b = true ∧ te σ2 H3 k)
    (ht : ∀ σ H Q Q', (∀ b H', Q b H' → Q' b H') → tt σ H Q → tt σ H Q') (hg : ∀ x σ H Q Q', (∀ σ' H', Q σ' H' → Q' σ' H') → g x σ H Q → g x σ H Q')
    (hd : Qd (upd H1 D (.lst ((List.range n).map f)))) :
    ∃ W : Nat → Nat → Hp → Prop, (∃ m, W 0 m (upd H1 D (.lst []))) ∧ ∀ i m H, W i m H →
      (J.stop i H ∧ Qd H) ∨ (J.go i H ∧ ∃ Nx : Hp → Prop, (∀ H', Nx H' → ∃ m', m' < m ∧ W (i + 1) m' H') ∧ ∀ x H', J.yld i H x H' → g x (wipe σ vs) H' fun σ2 H2 => wipe σ2 vs = wipe σ vs ∧ tt σ2 H2 fun b H3 =>
        if b = true then te σ2 H3 fun y H4 => ∃ acc, H4 D = some (.lst acc) ∧ acc.length < sizeLine ∧ Nx (upd H4 D (.lst (acc ++ [y]))) else Nx H3) := by
  refine lc_it w (fun i H => H = upd H1 D (.lst ((List.range i).map f))) rfl (fun i H hi e => e ▸ hG i hi) (fun i x H H' hi e y => ?_) (fun H e => e ▸ hd)
  subst e
  refine hg _ _ _ _ _ (fun σ2 H2 q => ⟨q.1, ht _ _ _ _ (fun b H3 r => ?_) q.2⟩) (hs i x H' (fun y H4 => ∃ acc, H4 D = some (.lst acc) ∧ acc.length < sizeLine ∧ upd H4 D (.lst (acc ++ [y])) = upd H1 D (.lst ((List.range (i + 1)).map f))) hi y ⟨_, upd_same, ?_, ?_⟩)
  · rw [if_pos r.1]
    exact r.2
  · rw [List.length_map, List.length_range]
    omega
  · rw [upd_upd, List.range_succ, List.map_append]
    rfl
/-- the usual target and no test -/
theorem lc_pureN {J : It} {n : Nat} {G : Hp → Prop} {Y : Nat → Hp → V → Hp → Prop} (w : Walk J n G Y) (f : Nat → V) {j : Nat} {te : TE} {vs : List Nat} {σ : L2.St} {H1 : Hp} {D : Addr} {Qd : Hp → Prop} (hn : n ≤ sizeLine)
    (hG : ∀ i, i ≤ n → G (upd H1 D (.lst ((List.range i).map f))))
    (hs : ∀ (i : Nat) (x : V) (H' : Hp) (k : V → Hp → Prop), i < n → Y i (upd H1 D (.lst ((List.range i).map f))) x H' → k (f i) (upd H1 D (.lst ((List.range i).map f))) →
      wipe ((wipe σ vs).set j (some x)) vs = wipe σ vs ∧ te ((wipe σ vs).set j (some x)) H' k)
    (hd : Qd (upd H1 D (.lst ((List.range n).map f)))) :
    ∃ W : Nat → Nat → Hp → Prop, (∃ m, W 0 m (upd H1 D (.lst []))) ∧ ∀ i m H, W i m H →
      (J.stop i H ∧ Qd H) ∨ (J.go i H ∧ ∃ Nx : Hp → Prop, (∀ H', Nx H' → ∃ m', m' < m ∧ W (i + 1) m' H') ∧ ∀ x H', J.yld i H x H' → gName j x (wipe σ vs) H' fun σ2 H2 => wipe σ2 vs = wipe σ vs ∧ tYes σ2 H2 fun b H3 =>
        if b = true then te σ2 H3 fun y H4 => ∃ acc, H4 D = some (.lst acc) ∧ acc.length < sizeLine ∧ Nx (upd H4 D (.lst (acc ++ [y]))) else Nx H3) :=
  lc_pure w f hn hG (fun i x H' k hi y q => ⟨(hs i x H' k hi y q).1, rfl, (hs i x H' k hi y q).2⟩) (fun _ _ _ _ h q => h _ _ q) (fun _ _ _ _ _ h q => h _ _ q) hd
theorem size_tl (z : Str) : z.cps.size = (TL.tl z).length := by simp [TL.tl]
theorem len_eq (z : Str) : z.length = (TL.tl z).length := TL.len_tl z
theorem range_map_getD {α β : Type} (l : List α) (d : α) (f : α → β) : (List.range l.length).map (fun i => f (l.getD i d)) = l.map f := by
  apply List.ext_getElem
  · simp
  · intro i h1 h2
    simp at h1
    simp [h1]
end TK
namespace TK
open PySem PySem.Spec PyProof.Rows L2 SX
theorem ef {b : Bool} (h : ¬ b = true) : b = false := Bool.eq_false_iff.mpr h
/-! ### places in texts -/
theorem at0 {α : Type} {l : List α} (d : α) (h : 0 < l.length) : atI l 0 = some (l.getD 0 d) := by
  cases l with
  | nil => exact absurd h (Nat.lt_irrefl 0)
  | cons a r =>
    show ((if (0 : Int) ≤ 0 then (if (0 : Int) < ((a :: r).length : Nat) then some (0 : Int).toNat else none) else _) : Option Nat).bind _ = _
    rw [if_pos (Int.le_refl 0), if_pos (by rw [List.length_cons]; omega)]
    rfl
theorem atN {α : Type} {l : List α} {i : Int} (d : α) (h0 : 0 ≤ i) (h : i < l.length) : atI l i = some (l.getD i.toNat d) := by
  show ((if (0 : Int) ≤ i then (if i < (l.length : Nat) then some i.toNat else none) else _) : Option Nat).bind _ = _
  rw [if_pos h0, if_pos h]
  show l[i.toNat]? = _
  rw [List.getD_eq_getElem?_getD, List.getElem?_eq_getElem (by omega)]
  rfl
theorem atC {α : Type} (a : α) (r : List α) : atI (a :: r) 0 = some a := at0 a (by simp)
theorem ixP {n : Nat} {i : Int} (h0 : 0 ≤ i) (h : i < n) : ixN n i = some i.toNat := by
  unfold ixN
  rw [if_pos h0, if_pos h]
theorem sqP {n : Nat} {i : Int} (h0 : 0 ≤ i) (h : i < n) : seqIndex? i n = some i.toNat := (ixN_seq (ixP h0 h)).1
theorem ixC {α : Type} (a : α) (r : List α) : ixN (a :: r).length 0 = some 0 := ixP (by decide) (by rw [List.length_cons]; omega)
theorem sqC {α : Type} (a : α) (r : List α) : seqIndex? 0 (a :: r).length = some 0 := sqP (by decide) (by rw [List.length_cons]; omega)
/-- the first place of a sign -/
theorem occ_first1 {l : List Nat} {c : Nat} (h : c ∈ l) : ∃ rest, Builtin.Str.occurrences (S l) (S [c]) 0 (S l).length 1 = l.idxOf c :: rest := by
  have at_iff : ∀ i, StrLaws.At (S l) (S [c]) (S l).length i ↔ l[i]? = some c := by
    intro i
    have e := TL.at_iff (x := S l) (y := S [c]) (by show [c] ≠ []; simp) i
    refine e.trans ?_
    show (((l.drop i).take 1 == [c]) = true) ↔ _
    rw [beq_iff_eq]
    constructor
    · intro q
      cases e2 : l.drop i with
      | nil =>
        rw [e2] at q
        cases q
      | cons a r =>
        rw [e2] at q
        have e3 : a = c := by
          simpa using q
        rw [← e3]
        have e4 : (l.drop i)[0]? = some a := by rw [e2]; rfl
        rw [List.getElem?_drop] at e4
        exact e4
    · intro q
      have hi : i < l.length := (List.getElem?_eq_some_iff.mp q).1
      rw [List.drop_eq_getElem_cons hi]
      have e3 : l[i] = c := (List.getElem?_eq_some_iff.mp q).2
      rw [e3]
      rfl
  rcases StrLaws.occ_head (S l) (S [c]) 1 (Nat.le_refl 1) with ⟨_, hn⟩ | ⟨i, r, e, ha, hn⟩
  · obtain ⟨i, hi, e⟩ := List.mem_iff_getElem.mp h
    exact absurd ((at_iff i).mpr (by rw [List.getElem?_eq_getElem hi, e])) (hn i)
  · refine ⟨r, ?_⟩
    rw [e]
    congr 1
    have h1 := (at_iff i).mp ha
    have hi : i < l.length := (List.getElem?_eq_some_iff.mp h1).1
    have e1 : l[i] = c := (List.getElem?_eq_some_iff.mp h1).2
    have hj : l.idxOf c < l.length := List.idxOf_lt_length_iff.mpr h
    have e2 : l[l.idxOf c] = c := List.getElem_idxOf hj
    rcases Nat.lt_trichotomy i (l.idxOf c) with z | z | z
    · exfalso
      have := List.not_of_lt_findIdx (p := (· == c)) (xs := l) (i := i) z
      simp [e1] at this
    · exact z
    · exfalso
      exact hn _ z ((at_iff _).mpr (by rw [List.getElem?_eq_getElem hj, e2]))
/-- a list cut at the first sign c -/
theorem cut_first {l : List Nat} {c : Nat} (h : c ∈ l) : l = l.take (l.idxOf c) ++ c :: l.drop (l.idxOf c + 1) ∧ c ∉ l.take (l.idxOf c) := by
  have hj : l.idxOf c < l.length := List.idxOf_lt_length_iff.mpr h
  refine ⟨?_, ?_⟩
  · have e2 : l[l.idxOf c] = c := List.getElem_idxOf hj
    have e3 := List.drop_eq_getElem_cons hj
    rw [e2] at e3
    rw [← e3, List.take_append_drop]
  · intro hm
    obtain ⟨i, hi, e⟩ := List.mem_iff_getElem.mp hm
    rw [List.length_take] at hi
    have hi1 : i < l.idxOf c := by omega
    have := List.not_of_lt_findIdx (p := (· == c)) (xs := l) (i := i) hi1
    rw [List.getElem_take] at e
    simp [e] at this
theorem cut_unique {a b a' b' : List Nat} {c : Nat} (h : a ++ c :: b = a' ++ c :: b') (ha : c ∉ a) (ha' : c ∉ a') : a = a' ∧ b = b' := by
  induction a generalizing a' with
  | nil =>
    cases a' with
    | nil => exact ⟨rfl, by simpa using h⟩
    | cons d r =>
      have e : c = d := by simpa using (List.cons.inj h).1
      exact absurd (List.mem_cons.mpr (.inl e)) ha'
  | cons d r ih =>
    cases a' with
    | nil =>
      have e : d = c := by simpa using (List.cons.inj h).1
      exact absurd (List.mem_cons.mpr (.inl e.symm)) ha
    | cons d' r' =>
      obtain ⟨e1, e2⟩ := List.cons.inj h
      obtain ⟨e3, e4⟩ := ih e2 (fun z => ha (List.mem_cons_of_mem _ z)) (fun z => ha' (List.mem_cons_of_mem _ z))
      exact ⟨by rw [e1, e3], e4⟩
end TK
namespace TK
open PySem PySem.Spec PyProof.Rows L2 SX
theorem Keep.upd {H H' : Hp} {s c D : Addr} {o : HO} (k : Keep H H' s c) (hD : H D = none) : Keep H (upd H' D o) s c := fun b u e h1 h2 => by
  rw [upd_ne (ne_of_none e hD)]
  exact k b u e h1 h2
theorem StAt.upd {H : Hp} {s c D : Addr} {o : HO} (h : StAt H s c) (h1 : D ≠ s) (h2 : D ≠ c) : StAt (upd H D o) s c := by
  obtain ⟨ne, ⟨n, a⟩, ns, b, l⟩ := h
  exact ⟨ne, ⟨n, by rw [upd_ne h1.symm]; exact a⟩, ns, by rw [upd_ne h2.symm]; exact b, l⟩
theorem StAt.tracked {H : Hp} {s c D : Addr} (h : StAt H s c) (hD : H D = none) : D ≠ s ∧ D ≠ c := by
  obtain ⟨ne, ⟨n, a⟩, ns, b, l⟩ := h
  exact ⟨fun e => (by rw [e, a] at hD; cases hD), fun e => (by rw [e, b] at hD; cases hD)⟩
theorem Keep.none {H H' : Hp} {s c b : Addr} (k : Keep H H' s c) (h : H' b = Option.none) (h1 : b ≠ s) (h2 : b ≠ c) : H b = Option.none := by
  cases e : H b with
  | none => rfl
  | some o =>
    rw [k b o e h1 h2] at h
    cases h
theorem joinL_nil : ∀ l : List (List Nat), TL.joinL [] l = l.flatten
  | [] => rfl
  | [p] => by simp [TL.joinL]
  | p :: q :: r => by
    show p ++ ([] ++ TL.joinL [] (q :: r)) = _
    rw [joinL_nil (q :: r)]
    rfl
/-- texts of one sign, joined -/
theorem join_ones {ys : List Str} (h : ∀ z ∈ ys, z.length = 1) : (Txt.join "" ys).length = ys.length := by
  have e : (Txt.join ("" : Str) ys) = Str.join "" ys := TL.join_eq "" ys
  rw [e, len_eq, TL.tl_join, show TL.tl ("" : Str) = [] by decide +kernel, joinL_nil]
  induction ys with
  | nil => rfl
  | cons a r ih =>
    have h1 := h a (List.mem_cons_self ..)
    rw [len_eq] at h1
    rw [List.map_cons, List.flatten_cons, List.length_append, ih (fun z hz => h z (List.mem_cons_of_mem _ hz)) (TL.join_eq "" r), List.length_cons, h1]
    omega
theorem sum_ones {ys : List Str} (h : ∀ z ∈ ys, z.length = 1) : (ys.map (·.length)).sum = ys.length := by
  induction ys with
  | nil => rfl
  | cons a r ih =>
    rw [List.map_cons, List.sum_cons, ih (fun z hz => h z (List.mem_cons_of_mem _ hz)), h a (List.mem_cons_self ..), List.length_cons]
    omega
theorem cat_len (a b : Str) : (a ++ b).length = a.length + b.length := by
  rw [len_eq, TL.tl_append, List.length_append, ← len_eq, ← len_eq]
end TK
namespace TK
open PySem PySem.Spec PyProof.Rows L2 SX
/-- lc_it with a plain name as target and no test -/
theorem lc_itN {J : It} {n : Nat} {G : Hp → Prop} {Y : Nat → Hp → V → Hp → Prop} (w : Walk J n G Y) {j : Nat} {te : TE} {vs : List Nat} {σ : L2.St} {H1 : Hp} {D : Addr} {Qd : Hp → Prop} (Pv : Nat → Hp → Prop) (h0 : Pv 0 (upd H1 D (.lst []))) (hG : ∀ i H, i ≤ n → Pv i H → G H)
    (hs : ∀ i x H H', i < n → Pv i H → Y i H x H' → wipe ((wipe σ vs).set j (some x)) vs = wipe σ vs ∧ te ((wipe σ vs).set j (some x)) H' fun y H4 => ∃ acc, H4 D = some (.lst acc) ∧ acc.length < sizeLine ∧ Pv (i + 1) (upd H4 D (.lst (acc ++ [y])))) (hd : ∀ H, Pv n H → Qd H) :
    ∃ W : Nat → Nat → Hp → Prop, (∃ m, W 0 m (upd H1 D (.lst []))) ∧ ∀ i m H, W i m H →
      (J.stop i H ∧ Qd H) ∨ (J.go i H ∧ ∃ Nx : Hp → Prop, (∀ H', Nx H' → ∃ m', m' < m ∧ W (i + 1) m' H') ∧ ∀ x H', J.yld i H x H' → gName j x (wipe σ vs) H' fun σ2 H2 => wipe σ2 vs = wipe σ vs ∧ tYes σ2 H2 fun b H3 =>
        if b = true then te σ2 H3 fun y H4 => ∃ acc, H4 D = some (.lst acc) ∧ acc.length < sizeLine ∧ Nx (upd H4 D (.lst (acc ++ [y]))) else Nx H3) :=
  lc_it w Pv h0 hG (fun i x H H' hi p y => ⟨(hs i x H H' hi p y).1, (hs i x H H' hi p y).2⟩) hd
end TK
namespace TK
open PySem PySem.Spec PyProof.Rows L2 SX
theorem slTo (z : Str) {i : Int} (h : 0 ≤ i) : Txt.slice z none (some i) = S ((TL.tl z).take i.toNat) := slice_to (a := TL.tl z) h
theorem slFrom (z : Str) {i : Int} (h : 0 ≤ i) : Txt.slice z (some i) none = S ((TL.tl z).drop i.toNat) := slice_from (a := TL.tl z) h
theorem log_small {i : Int} (h : i.natAbs < 2 ^ 1900) : i.natAbs.log2 < 1920 := by
  by_cases h0 : i.natAbs = 0
  · rw [h0]
    decide
  · exact (Nat.log2_lt h0).mpr (Nat.lt_of_lt_of_le h (Nat.pow_le_pow_right (by decide) (by decide)))
end TK
namespace TK
open PySem PySem.Spec PyProof.Rows L2 SX
/-! ### comprehensions with a test, the heap left alone -/
theorem lc_filt {J : It} {n : Nat} {G : Hp → Prop} {Y : Nat → Hp → V → Hp → Prop} (w : Walk J n G Y) (f : Nat → V) (b : Nat → Bool) {j : Nat} {tt : TT} {te : TE} {vs : List Nat} {σ : L2.St} {H1 : Hp} {D : Addr} {Qd : Hp → Prop} (hn : n ≤ sizeLine)
    (hG : ∀ i, i ≤ n → G (upd H1 D (.lst (((List.range i).filter b).map f))))
    (ht : ∀ (i : Nat) (x : V) (H' : Hp) (k : Bool → Hp → Prop), i < n → Y i (upd H1 D (.lst (((List.range i).filter b).map f))) x H' → k (b i) (upd H1 D (.lst (((List.range i).filter b).map f))) →
      wipe ((wipe σ vs).set j (some x)) vs = wipe σ vs ∧ tt ((wipe σ vs).set j (some x)) H' k)
    (he : ∀ (i : Nat) (x : V) (H' : Hp) (k : V → Hp → Prop), i < n → b i = true → Y i (upd H1 D (.lst (((List.range i).filter b).map f))) x H' → k (f i) (upd H1 D (.lst (((List.range i).filter b).map f))) →
      te ((wipe σ vs).set j (some x)) (upd H1 D (.lst (((List.range i).filter b).map f))) k)
    (hd : Qd (upd H1 D (.lst (((List.range n).filter b).map f)))) :
    ∃ W : Nat → Nat → Hp → Prop, (∃ m, W 0 m (upd H1 D (.lst []))) ∧ ∀ i m H, W i m H →
      (J.stop i H ∧ Qd H) ∨ (J.go i H ∧ ∃ Nx : Hp → Prop, (∀ H', Nx H' → ∃ m', m' < m ∧ W (i + 1) m' H') ∧ ∀ x H', J.yld i H x H' → gName j x (wipe σ vs) H' fun σ2 H2 => wipe σ2 vs = wipe σ vs ∧ tt σ2 H2 fun b H3 =>
        if b = true then te σ2 H3 fun y H4 => ∃ acc, H4 D = some (.lst acc) ∧ acc.length < sizeLine ∧ Nx (upd H4 D (.lst (acc ++ [y]))) else Nx H3) := by
  refine lc_it w (fun i H => H = upd H1 D (.lst (((List.range i).filter b).map f))) rfl (fun i H hi e => e ▸ hG i hi) (fun i x H H' hi e y => ?_) (fun H e => e ▸ hd)
  subst e
  refine ht i x H' _ hi y ?_
  cases hb : b i with
  | true =>
    refine iteT (he i x H' _ hi hb y ⟨_, upd_same, ?_, ?_⟩)
    · rw [List.length_map]
      exact Nat.lt_of_le_of_lt (List.length_filter_le _ _) (by rw [List.length_range]; omega)
    · rw [upd_upd, List.range_succ, List.filter_append, List.map_append, List.filter_cons_of_pos hb]
      rfl
  | false =>
    refine iteF ?_
    rw [List.range_succ, List.filter_append, List.filter_cons_of_neg (by rw [hb]; exact Bool.false_ne_true), List.filter_nil, List.append_nil]
theorem range_filter_getD {α β : Type} (l : List α) (d : α) (p : α → Bool) (f : α → β) : ((List.range l.length).filter (fun i => p (l.getD i d))).map (fun i => f (l.getD i d)) = (l.filter p).map f := by
  have e := range_map_getD l d (fun x => x)
  rw [List.map_id'] at e
  have h : (l.filter p).map f = (((List.range l.length).map (fun i => l.getD i d)).filter p).map f := by rw [e]
  rw [h, List.filter_map, List.map_map]
  rfl
theorem getD_at {α : Type} {l : List α} {i : Nat} {x : α} (d : α) (h : l[i]? = some x) : l.getD i d = x := by
  rw [List.getD_eq_getElem?_getD, h]
  rfl
/-! ### heads with tables -/
def obsX (n : Nat) (fa : List He.Fa) (fn : List He.DefD) (ex : PySem.W.Frag → List Bool) (g : Addr → Option Obj) : He.AlD :=
  ((He.obsD fa fn (He.frG g (He.asD g n))).1 && (ex (He.frG g (He.asD g n))).all id, (He.obsD fa fn (He.frG g (He.asD g n))).2)
def hookX (n : Nat) (fa : List He.Fa) (fn : List He.DefD) (ex : PySem.W.Frag → List Bool) : PySem.W.Hook where
  α := He.AlD
  obs s := obsX n fa fn ex s.heap.get?
  val _ := He.valD fn
  says _ h := ∃ K : PySem.W.Frag, K.In h ∧ He.SaysD fa fn K ∧ (ex K).all id = true
  of _ _ e := by
    have e1 := congrArg (fun z : He.AlD => z.1) e
    have e2 := congrArg (fun z : He.AlD => z.2) e
    obtain ⟨a, b⟩ := Bool.and_eq_true_iff.mp e1
    exact ⟨_, He.frG_in, Prod.ext a e2, b⟩
  keeps _ _ _ c k := let ⟨K, hK, c1, c2⟩ := c; ⟨K, PySem.W.Frag.In.keeps hK k, c1, c2⟩
theorem obsX_eq {n : Nat} {fa : List He.Fa} {fn : List He.DefD} {ex : PySem.W.Frag → List Bool} {g : Addr → Option Obj} {s : Shared} (h : ∀ a, g a = s.heap.get? a) : obsX n fa fn ex g = (hookX n fa fn ex).obs s := by
  obtain rfl : g = s.heap.get? := funext h
  rfl
theorem exAt {l : List Bool} (h : l.all id = true) (i : Nat) {b : Bool} (e : l[i]? = some b) : b = true := List.all_eq_true.mp h b (List.mem_of_getElem? e)
end TK
namespace TK
open PySem PySem.Spec PyProof.Rows L2 SX
/-! ### rules that name the written part, for use within a comprehension -/
section
variable {X : Cx}
theorem inSeqK (K : PySem.W.Frag) (e : X.K = K) : OpR X (compareOp .In) (rIn K false) := by
  subst e
  exact op_in_seq
theorem notInSeqK (K : PySem.W.Frag) (e : X.K = K) : OpR X (compareOp .NotIn) (rIn K true) := by
  subst e
  exact op_notIn_seq
theorem ixListK (K : PySem.W.Frag) (e : X.K = K) : IxR X (rIxL K) := by
  subst e
  exact ix_list
theorem ixTupK (K : PySem.W.Frag) (e : X.K = K) : IxR X (rIxT K) := by
  subst e
  exact ix_tup
theorem isiK (K : PySem.W.Frag) (e : X.K = K) : CallR X (.builtin "isinstance") (rIsi K) := by
  subst e
  exact call_isi
end
end TK
set_option maxHeartbeats 4000000
namespace TK
open PySem PySem.Spec PyProof.Rows L2 SX
theorem same_upd2 {H H' : Hp} {D : Addr} {o : HO} (s : Same H H') (hD : H D = none) : Same H (upd H' D o) := fun b u e => by
  rw [upd_ne (ne_of_none e hD)]
  exact s b u e
theorem joinL_len (y : List Nat) : ∀ l : List (List Nat), (TL.joinL y l).length ≤ (l.map (·.length)).sum + l.length * y.length
  | [] => by simp [TL.joinL]
  | [p] => by simp [TL.joinL]
  | p :: q :: r => by
    have ih := joinL_len y (q :: r)
    show (p ++ (y ++ TL.joinL y (q :: r))).length ≤ _
    rw [List.length_append, List.length_append, List.map_cons, List.sum_cons, List.length_cons (a := p), Nat.succ_mul]
    omega
theorem join_len (y : Str) (ys : List Str) : (Txt.join y ys).length ≤ (ys.map (·.length)).sum + ys.length * y.length := by
  rw [show Txt.join y ys = Str.join y ys from TL.join_eq y ys, len_eq, TL.tl_join]
  have q := joinL_len (TL.tl y) (ys.map TL.tl)
  rw [List.length_map, List.map_map] at q
  have e : (ys.map (fun x : Str => x.length)) = ys.map ((fun x : List Nat => x.length) ∘ TL.tl) := List.map_congr_left fun x _ => len_eq x
  rw [e, len_eq y]
  exact q
theorem sum_le {m : Nat} : ∀ {ys : List Str}, (∀ z ∈ ys, z.length ≤ m) → (ys.map (·.length)).sum ≤ ys.length * m
  | [], _ => Nat.zero_le _
  | a :: r, h => by
    have ih := sum_le (ys := r) fun z hz => h z (List.mem_cons_of_mem _ hz)
    have h1 := h a (List.mem_cons_self ..)
    rw [List.map_cons, List.sum_cons, List.length_cons, Nat.succ_mul]
    omega
theorem nodup_inr : ∀ ys : List Str, (ys.map (Sum.inr : Str → Key)).Nodup ↔ ys.Nodup
  | [] => by simp
  | a :: r => by
    rw [List.map_cons, List.nodup_cons, List.nodup_cons, nodup_inr r, List.mem_map]
    constructor
    · intro q
      exact ⟨fun m => q.1 ⟨a, m, rfl⟩, q.2⟩
    · intro q
      exact ⟨fun ⟨b, m, e⟩ => q.1 (Sum.inr.inj e ▸ m), q.2⟩
theorem key_strs (ys : List Str) : (ys.map (Sum.inr : Str → Key)).map kV = ys.map V.str := by
  rw [List.map_map]
  rfl
/-- the parts of a text are no longer than the text -/
theorem part_len {z y p : Str} (h : p ∈ Txt.split z y) : p.length ≤ z.length := by
  have j := StrLaws.join_split z y
  have sub : ∀ (l : List (List Nat)) (s : List Nat), ∀ x ∈ l, x.length ≤ (TL.joinL s l).length := by
    intro l s
    induction l with
    | nil => exact fun x hx => nomatch hx
    | cons a r ih =>
      intro x hx
      cases r with
      | nil =>
        rw [List.mem_singleton.mp hx]
        exact Nat.le_refl _
      | cons b r =>
        show x.length ≤ (a ++ (s ++ TL.joinL s (b :: r))).length
        rw [List.length_append, List.length_append]
        rcases List.mem_cons.mp hx with q | q
        · rw [q]
          omega
        · have := ih x q
          omega
  have q := sub ((Txt.split z y).map TL.tl) (TL.tl y) (TL.tl p) (List.mem_map.mpr ⟨p, h, rfl⟩)
  rw [← TL.tl_join, j] at q
  rw [len_eq, len_eq]
  exact q
end TK
namespace TK
open PySem PySem.Spec PyProof.Rows L2 SX
/-! ### a word between an expression and what follows -/
def tCutE (t : TE) : TE := fun σ H Q => ∃ Mid : VK, t σ H Mid ∧ ∀ v H', Mid v H' → Q v H'
def tCutT (t : TT) : TT := fun σ H Q => ∃ Mid : Bool → Hp → Prop, t σ H Mid ∧ ∀ b H', Mid b H' → Q b H'
section
variable {X : Cx} {e : Expr}
theorem pe_cut {t : TE} (h : PE X e t) : PE X e (tCutE t) := ⟨fun pins s σ H _ I ⟨Mid, hm, hq⟩ => thn (h.run pins s σ H Mid I hm) fun _ _ ⟨v, H', I', r, q⟩ => ⟨v, H', I', r, hq v H' q⟩⟩
theorem pt_cut {t : TT} (h : PT X e t) : PT X e (tCutT t) := ⟨fun pins s σ H _ I ⟨Mid, hm, hq⟩ => thn (h.run pins s σ H Mid I hm) fun b _ ⟨H', I', q⟩ => ⟨H', I', hq b H' q⟩⟩
end
end TK
set_option maxHeartbeats 4000000
/-! Own classes: rules that name the class, makers and methods by their promises. -/
namespace TK
open PySem PySem.Spec PyProof.Rows L2 SX
def tFldC (C : Addr) (ta : TE) (f : Str) : TE := fun σ H Q => ta σ H fun x H1 => ∃ a dx fs v, x = .ref a ∧ H1 a = some (.ins C dx fs) ∧ fs.lookup f = some v ∧ Q v H1
def sFldC (C : Addr) (ta tv : TE) (f : Str) : TS := fun D σ H => tv σ H fun y H1 => ta σ H1 fun x H2 => ∃ a dx fs, x = .ref a ∧ H2 a = some (.ins C dx fs) ∧ fs.length < 1000 ∧ D.nx σ (upd H2 a (.ins C dx (putF f y fs)))
section
variable {X : Cx} {K : PySem.W.Frag} {C : Addr} {e o value : Expr} {f : Str} {pos pos' : Pos} {ta tv : TE}
theorem pe_fldC (eK : X.K = K) (c : Cls K C) (n : NoAttr K C f) (he : PE X e ta) (hb : attributeBase e f X.env (eval e X.env) = eval e X.env) : PE X (.Attribute e f pos) (tFldC C ta f) := by
  subst eK
  exact ⟨fun pins s σ H Q I h => (pe_fld (pe_cut he) hb).run pins s σ H Q I ⟨_, h, fun v H' ⟨a, dx, fs, w, e1, e2, e3, q⟩ => ⟨a, C, dx, fs, w, e1, e2, c, n, e3, q⟩⟩⟩
theorem ps_fldC (eK : X.K = K) (c : Cls K C) (n : NoAttr K C f) (ha : PE X o ta) (hv : PE X value tv) (hs : swapsWith value (some (.Attribute o f pos')) pos.line X.env = pure false) : PS X (.Assign [.Attribute o f pos'] value pos) (sFldC C ta tv f) := by
  subst eK
  exact ⟨fun pins s σ H D I h => (ps_fld (pe_cut ha) (pe_cut hv) hs).run pins s σ H D I ⟨_, h, fun v H' h2 => ⟨_, h2, fun x H2 ⟨a, dx, fs, e1, e2, e3, q⟩ => ⟨a, C, dx, fs, e1, e2, c, n, e3, q⟩⟩⟩⟩
end
/-! ### few attributes -/
class SmallF (fs : List (Str × V)) (n : outParam Nat) : Prop where
  le : fs.length ≤ n
instance : SmallF [] 0 := ⟨Nat.le_refl _⟩
instance {x : Str × V} {l : List (Str × V)} {n : Nat} [h : SmallF l n] : SmallF (x :: l) (n + 1) := ⟨Nat.succ_le_succ h.le⟩
theorem putF_len {f : Str} {v : V} : ∀ fs : List (Str × V), (putF f v fs).length ≤ fs.length + 1
  | [] => Nat.le_refl _
  | (g, x) :: r => by
    show (if g = f then (g, v) :: r else (g, x) :: putF f v r).length ≤ _
    by_cases h : g = f
    · rw [if_pos h]
      exact Nat.le_succ _
    · rw [if_neg h]
      exact Nat.succ_le_succ (putF_len r)
instance {f : Str} {v : V} {l : List (Str × V)} {n : Nat} [h : SmallF l n] : SmallF (putF f v l) (n + 1) := ⟨Nat.le_trans (putF_len l) (Nat.succ_le_succ h.le)⟩
theorem sm {fs : List (Str × V)} {n : Nat} [h : SmallF fs n] (hn : n < 1000 := by decide) : fs.length < 1000 := Nat.lt_of_le_of_lt h.le hn
/-! ### makers -/
section
variable {P : Program} {w : World} {K : PySem.W.Frag} {mg : Str → Option Value} {base : Heap}
structure MakK (P : Program) (w : World) (K : PySem.W.Frag) (mg : Str → Option Value) (base : Heap) (k : Nat) (x : Str) (C : Addr) (sp : Sp) (n : Nat) (ks : List Str) (gV : List V → List V → List V) : Prop where
  ex : ∃ (f : Addr) (fd : FuncData) (ps : List Str) (g : List Value → List Value → List Value), Mk K C f ∧ FnOk P w K mg base L2.CX0 k f fd ps sp ∧ mg x = some (.ref C) ∧ KBn K fd ps (n + 1) ks g gV
theorem mak_of {C : Addr} {x n qual : Str} {params : Arguments} {body : List Stmt} {scope : Scope} {f : Addr} {fd : FuncData} {ps : List Str} {k : Nat} {sp : Sp} (M : Mk K C f) (hm : mg x = some (.ref C)) (F : FunD K n qual params body scope [] [] f fd) (G : FnOk P w K mg base L2.CX0 k f fd ps sp)
    (h : ∀ (kV doc pm : Value) (an : Option Addr) (cdv ct : Value) (us : List Value), us.length = ps.length → bindArgs (PySem.W.fnOf n qual params body scope .none kV doc pm an cdv ct) ⟨us, []⟩ = pure (ps.zip us)) : C8.Mak P w K mg base k x C sp [] :=
  ⟨f, fd, ps, [], M, G, hm, F.bindsN h, .nil⟩
theorem met_of {C : Addr} {n qual : Str} {params : Arguments} {body : List Stmt} {scope : Scope} {f : Addr} {fd : FuncData} {ps : List Str} {k : Nat} {sp : Sp} (c : Cls K C) (m : Meth K C n f) (F : FunD K n qual params body scope [] [] f fd) (G : FnOk P w K mg base L2.CX0 k f fd ps sp)
    (h : ∀ (kV doc pm : Value) (an : Option Addr) (cdv ct : Value) (us : List Value), us.length = ps.length → bindArgs (PySem.W.fnOf n qual params body scope .none kV doc pm an cdv ct) ⟨us, []⟩ = pure (ps.zip us)) : C8.Met P w K mg base k C n sp [] :=
  ⟨f, fd, ps, [], c, m, G, F.bindsN h, .nil⟩
theorem metD_of {C : Addr} {n qual : Str} {params : Arguments} {body : List Stmt} {scope : Scope} {dvs : List V} {f : Addr} {fd : FuncData} {ps : List Str} {k : Nat} {sp : Sp} (c : Cls K C) (m : Meth K C n f) (F : FunD K n qual params body scope dvs [] f fd) (G : FnOk P w K mg base L2.CX0 k f fd ps sp) (hd : dvs ≠ []) (hn : dvs.length ≤ ps.length)
    (h : ∀ (T : Addr) (kV doc pm : Value) (an : Option Addr) (cdv ct : Value) (us its : List Value), us.length = ps.length - dvs.length → its.length = dvs.length →
      ∃ k, bindArgs (PySem.W.fnOf n qual params body scope (.ref T) kV doc pm an cdv ct) ⟨us, []⟩ = seqItems? (.ref T) >>= k ∧ k (some its.toArray) = pure (ps.zip (us ++ its.drop 0))) : C8.Met P w K mg base k C n sp dvs := by
  obtain ⟨ds, h1, h2⟩ := F.binds1 (ps := ps) (ps.length - dvs.length) 0 hd (by omega) h
  exact ⟨f, fd, ps, ds, c, m, G, h2, by simpa using h1⟩
end
section
variable {X : Cx} {k j n : Nat} {C : Addr} {x : Str} {sp : Sp} {p pos : Pos} {e : Expr} {es : List Expr} {kws : List Keyword} {ks : List Str} {t tk : TA} {gV : List V → List V → List V}
theorem pe_mk0 {dvs : List V} (c : C8.Mak X.prog X.w X.K X.mg X.base k x C sp dvs) (hr : Room j X.A) (hk : k + 1 ≤ j) (hg : Gl X x) (hdb : (x == ("__debug__" : Str)) = false := by decide) : PE X (.Call (.Name x p) [] [] pos) (tMake C sp dvs L2.E0 tNil) := by
  obtain ⟨f, fd, ps, ds, M, F, hm, b, d⟩ := c.ex
  exact pe_make0 M F (hr.mono hk) hg hm b d L2.pass0 hdb
theorem pe_mkK0 (c : MakK X.prog X.w X.K X.mg X.base k x C sp 0 ks gV) (hr : Room j X.A) (hk : k + 1 ≤ j) (hg : Gl X x) (hkw : PK X kws tk)
    (hall : (backToKw pos (keywordEach kws X.env)).all (·.1.isSome) = true := by rfl) (hks : (backToKw pos (keywordEach kws X.env)).filterMap (·.1) = ks := by rfl) (hdb : (x == ("__debug__" : Str)) = false := by decide)
    (hpl : ((backTo pos (starEach [] X.env)).any (·.1) || (backToKw pos (keywordEach kws X.env)).any (·.1.isNone)) = false := by rfl) :
    PE X (.Call (.Name x p) [] kws pos) (tMakeK C 0 ks.length sp gV L2.E0 tNil tk) := by
  obtain ⟨f, fd, ps, g, M, F, hm, b⟩ := c.ex
  exact pe_makeK0 M F (hr.mono hk) hg hm b L2.pass0 hkw hall hks hdb hpl
end
/-! ### new objects -/
theorem same_own {H : Hp} {x dx C : Addr} {fs : List (Str × V)} (hx : H x = none) (hd : H dx = none) : Same H (upd (upd H dx (.own x)) x (.ins C dx fs)) := fun b o e => by
  rw [upd_ne (ne_of_none e hx), upd_ne (ne_of_none e hd)]
  exact e
theorem Same.upd_of {H H' : Hp} {a : Addr} {o : HO} (s : Same H H') (h : H a = none) : Same H (upd H' a o) := fun b u e => by
  rw [upd_ne (ne_of_none e h)]
  exact s b u e
/-! ### texts that can be laid -/
theorem ok_iff {z : Str} : PyData.strOk z = true ↔ ∀ c ∈ TL.tl z, c < 0x110000 := by
  unfold PyData.strOk TL.tl
  rw [Array.all_eq_true']
  constructor
  · intro h c hc
    simpa using h c (by simpa using hc)
  · intro h c hc
    simpa using h c (by simpa using hc)
theorem ok_cat {a b : Str} (ha : PyData.strOk a = true) (hb : PyData.strOk b = true) : PyData.strOk (a ++ b) = true := by
  rw [ok_iff] at *
  intro c hc
  rw [TL.tl_append, List.mem_append] at hc
  exact hc.elim (ha c) (hb c)
theorem joinL_mem {s : List Nat} {c : Nat} : ∀ l : List (List Nat), c ∈ TL.joinL s l → c ∈ s ∨ ∃ p ∈ l, c ∈ p
  | [], h => by simp [TL.joinL] at h
  | [p], h => .inr ⟨p, List.mem_singleton.mpr rfl, by simpa [TL.joinL] using h⟩
  | p :: q :: r, h => by
    have h2 : c ∈ p ++ (s ++ TL.joinL s (q :: r)) := h
    rw [List.mem_append, List.mem_append] at h2
    rcases h2 with h2 | h2 | h2
    · exact .inr ⟨p, List.mem_cons_self .., h2⟩
    · exact .inl h2
    · rcases joinL_mem (q :: r) h2 with h3 | ⟨x, h3, h4⟩
      · exact .inl h3
      · exact .inr ⟨x, List.mem_cons_of_mem _ h3, h4⟩
theorem ok_join {y : Str} {l : List Str} (hy : PyData.strOk y = true) (hl : ∀ z ∈ l, PyData.strOk z = true) : PyData.strOk (Txt.join y l) = true := by
  rw [TL.join_eq, ok_iff]
  intro c hc
  rw [TL.tl_join] at hc
  rcases joinL_mem _ hc with h | ⟨p, hp, h⟩
  · exact ok_iff.mp hy c h
  · obtain ⟨z, hz, rfl⟩ := List.mem_map.mp hp
    exact ok_iff.mp (hl z hz) c h
def numS (i : Int) : Str := Str.ofString (toString i)
theorem numS_tl {i : Int} (h : 0 ≤ i) : TL.tl (numS i) = TL.numL i.toNat := by
  have e : i = ((i.toNat : Nat) : Int) := (Int.toNat_of_nonneg h).symm
  rw [e]
  exact TL.tl_num _
theorem ok_num {i : Int} (h : 0 ≤ i) : PyData.strOk (numS i) = true := by
  rw [ok_iff, numS_tl h]
  intro c hc
  exact Nat.lt_of_not_le fun q => TL.numL_free (n := i.toNat) (s := c) (.inr (by omega)) hc
theorem numS_len {i : Int} (h : i.natAbs < 1000000000) : (numS i).length ≤ 10 := by
  have e := int_text_length_le10 (a := i) (k := 9) (by decide) (by omega)
  show (Str.ofString (toString i)).length ≤ 10
  rw [PySem.ofString_length]
  omega
theorem numS_log {i : Int} (h : i.natAbs < 1000000000) : i.natAbs.log2 < 1920 := log_small (Nat.lt_of_lt_of_le h (by decide))
theorem szl {z : Str} (h : z.length ≤ 100000) : z.length ≤ sizeLine := Nat.le_trans h (by decide)
theorem ne_ins {H : Hp} {a b C C' dx dx' : Addr} {fs fs' : List (Str × V)} (h : H a = some (.ins C dx fs)) (h' : H b = some (.ins C' dx' fs')) (n : fs.length ≠ fs'.length) : a ≠ b :=
  ne_of h h' fun e => by
    injection e with _ _ e2
    exact n (congrArg List.length e2)
/-- only what stands at A has changed -/
def Fr (A : List Addr) (H H' : Hp) : Prop := ∀ b o, H b = some o → b ∉ A → H' b = some o
theorem Fr.of_same {A : List Addr} {H H' : Hp} (s : Same H H') : Fr A H H' := fun b o e _ => s b o e
theorem Fr.refl (A : List Addr) (H : Hp) : Fr A H H := fun _ _ e _ => e
theorem Fr.trans {A : List Addr} {H H1 H2 : Hp} (s : Fr A H H1) (t : Fr A H1 H2) : Fr A H H2 := fun b o e n => t b o (s b o e n) n
theorem Fr.trans_new {A A' : List Addr} {H H1 H2 : Hp} (s : Fr A H H1) (t : Fr A' H1 H2) (n : ∀ b ∈ A', b ∈ A ∨ H b = none) : Fr A H H2 := fun b o e hn => t b o (s b o e hn) fun m => (n b m).elim hn fun z => by rw [e] at z; cases z
end TK
set_option maxHeartbeats 1000000
/-! Calls with keywords of defs with many keyword-only parameters: the binding by names, without unfolding it at each name. -/
namespace TK
open PySem PySem.Spec PyProof.Rows L2
open PySem.W (Looks)
theorem forIn_looks {M : Model} {h : Heap} {α β : Type} {f : α → β → Sem (ForInStep β)} {g : β → α → β} : ∀ (l : List α) (b : β), (∀ pre a post, l = pre ++ a :: post → Looks M h (f a (pre.foldl g b)) (.yield (g (pre.foldl g b) a))) → Looks M h (forIn l b f) (l.foldl g b)
  | [], b, _ => by rw [List.forIn_nil]; exact Looks.of_pure rfl
  | a :: r, b, H => by
    rw [List.forIn_cons]
    exact Looks.andThen (H [] a r rfl) (forIn_looks r (g b a) fun pre c post e => H (a :: pre) c post (by rw [e]; rfl))
abbrev Sl : Type := List (Str × Value)
def g1 (s : Sl × Sl) (p : Str × Value) : Sl × Sl := (s.1 ++ [(p.1, p.2)], s.2)
theorem fold1 : ∀ (l : Sl) (s : Sl × Sl), l.foldl g1 s = (s.1 ++ l, s.2)
  | [], s => by rw [List.foldl_nil, List.append_nil]
  | p :: r, s => by
    rw [List.foldl_cons, fold1 r]
    unfold g1
    rw [List.append_assoc]
    rfl
theorem lookup_none {k : Str} : ∀ {l : Sl}, k ∉ l.map (·.1) → l.lookup k = none
  | [], _ => rfl
  | (a, b) :: r, h => by
    rw [List.map_cons, List.mem_cons, not_or] at h
    rw [List.lookup_cons, show (k == a) = false from beq_eq_false_iff_ne.mpr h.1]
    exact lookup_none h.2
theorem lookup_some {k : Str} : ∀ {l : Sl}, k ∈ l.map (·.1) → ∃ v, l.lookup k = some v
  | [], h => by cases h
  | (a, b) :: r, h => by
    rw [List.lookup_cons]
    by_cases e : (k == a) = true
    · rw [e]
      exact ⟨b, rfl⟩
    · rw [show (k == a) = false by simpa using e]
      rw [List.map_cons, List.mem_cons] at h
      exact lookup_some (h.resolve_left fun z => e (by rw [z]; exact beq_self_eq_true a))
def g2 (dv : Str → Value) (s : Sl × List Str) (n : Str) : Sl × List Str := if (s.1.lookup n).isNone = true then (s.1 ++ [(n, dv n)], s.2) else (s.1, s.2)
theorem fold2 {dv : Str → Value} : ∀ (l : List Str) (s : Sl × List Str), ∃ t, l.foldl (g2 dv) s = (s.1 ++ t, s.2)
  | [], s => ⟨[], by rw [List.foldl_nil, List.append_nil]⟩
  | n :: r, s => by
    rw [List.foldl_cons]
    obtain ⟨t, e⟩ := fold2 r (g2 dv s n)
    rw [e]
    unfold g2
    by_cases h : (s.1.lookup n).isNone = true
    · rw [if_pos h]
      exact ⟨(n, dv n) :: t, by rw [List.append_assoc]; rfl⟩
    · rw [if_neg h]
      exact ⟨t, rfl⟩
def bindR (self : Str) (L : List Str) (u : Value) (kw : Sl) (dv : Str → Value) : Sl :=
  ([self] ++ L).filterMap fun n => ((L.foldl (g2 dv) ((self, u) :: kw, [])).1.lookup n).map fun x => (n, x)
theorem bind_kw {K : PySem.W.Frag} {M : Model} {h : Heap} {x qual : Str} {params : Arguments} {body : List Stmt} {scope : Scope} {D : Addr} {doc pm : Value} {an : Option Addr} {cdv ct : Value} {u : Value} {kw : Sl} {L ks : List Str} {self : Str}
    (X : K.In h) (h1 : params.posonlyargs.map (·.arg) = []) (h2 : params.args.map (·.arg) = [self]) (h3 : params.kwonlyargs.map (·.arg) = L) (h4 : params.vararg = none) (h5 : params.kwarg = none) (hk : kw.map (·.1) = ks) (nd : (self :: ks).Nodup) (hin : ∀ k ∈ ks, k ∈ L)
    (dv : Str → Value) (hd : ∀ n ∈ L, n ∉ ks → PySem.W.nsIn K D n = some (some (dv n))) :
    Looks M h (bindArgs (PySem.W.fnOf x qual params body scope .none (.ref D) doc pm an cdv ct) ⟨[u], kw⟩) (bindR self L u kw dv) := by
  unfold bindArgs
  simp only [PySem.W.fnOf, h1, h2, h3, h4, h5]
  have e1 : ∀ pre, pre.foldl g1 ((([] : List Str) ++ [self]).zip [u], []) = ((self, u) :: pre, []) := fun pre => fold1 pre _
  refine Looks.andThen (a := ((self, u) :: kw, [])) ?_ ?_
  · rw [← e1 kw]
    refine forIn_looks kw _ fun pre p post e => ?_
    rw [e1 pre]
    have mk : p.1 ∈ ks := by rw [← hk, e, List.map_append, List.map_cons]; exact List.mem_append_right _ (List.mem_cons_self ..)
    have c1 : ([self].contains p.1 || L.contains p.1) = true := by rw [show L.contains p.1 = true by simpa using hin _ mk, Bool.or_true]
    have nk : p.1 ∉ ((self, u) :: pre).map (·.1) := by
      rw [← hk, e, List.map_append, List.map_cons] at nd
      obtain ⟨n1, n2⟩ := List.nodup_cons.mp nd
      rw [List.map_cons, List.mem_cons, not_or]
      refine ⟨fun z => n1 (by have z2 : p.1 = self := z; rw [← z2]; exact List.mem_append_right _ (List.mem_cons_self ..)), fun z => ?_⟩
      exact (List.nodup_append.mp n2).2.2 _ z _ (List.mem_cons_self ..) rfl
    rw [if_pos c1, if_neg (by rw [lookup_none nk]; exact Bool.false_ne_true)]
    exact Looks.of_pure rfl
  · refine Looks.andThen (a := none) (Looks.of_pure rfl) ?_
    have el : ((self, u) :: kw).lookup self = some u := by rw [List.lookup_cons, beq_self_eq_true]
    rw [if_neg (by show ¬ (decide (1 > 1) && _) = true; simp)]
    have em : List.filter (fun n => (List.lookup n (((self, u) :: kw, ([] : Sl)) : Sl × Sl).fst).isNone) [self] = [] := by
      rw [List.filter_cons, if_neg (by show ¬ (List.lookup self ((self, u) :: kw)).isNone = true; rw [el]; exact Bool.false_ne_true)]
      rfl
    refine (fun z => ?_) em
    rw [if_neg (by show ¬ (!(List.filter (fun n => (List.lookup n (((self, u) :: kw, ([] : Sl)) : Sl × Sl).fst).isNone) [self]).isEmpty) = true; rw [em]; exact Bool.false_ne_true)]
    refine Looks.andThen (a := (self, u) :: kw) (Looks.of_pure rfl) ?_
    refine Looks.andThen (a := L.foldl (g2 dv) ((self, u) :: kw, [])) (forIn_looks L _ fun pre n post e => ?_) ?_
    · obtain ⟨t, et⟩ := fold2 (dv := dv) pre ((self, u) :: kw, [])
      rw [show List.foldl (g2 dv) ((self, u) :: kw, []) pre = (((self, u) :: kw) ++ t, []) from et]
      unfold g2
      by_cases hl : (List.lookup n (((self, u) :: kw) ++ t)).isNone = true
      · rw [if_pos hl, if_pos hl]
        have nks : n ∉ ks := fun m => by
          have m2 : n ∈ (((self, u) :: kw) ++ t).map (·.1) := by
            rw [List.map_append, List.map_cons, hk]
            exact List.mem_append_left _ (List.mem_cons_of_mem _ m)
          obtain ⟨v, ev⟩ := lookup_some m2
          rw [ev] at hl
          cases hl
        refine Looks.andThen (a := some (dv n)) (PySem.W.looks_nsIn X (hd n (by rw [e]; exact List.mem_append_right _ (List.mem_cons_self ..)) nks)) (Looks.of_pure rfl)
      · rw [if_neg hl, if_neg hl]
        exact Looks.of_pure rfl
    · obtain ⟨t, et⟩ := fold2 (dv := dv) L ((self, u) :: kw, [])
      rw [if_neg (by rw [et]; exact Bool.false_ne_true)]
      exact Looks.of_pure rfl
theorem kbn_of {K : PySem.W.Frag} {x qual : Str} {params : Arguments} {body : List Stmt} {scope : Scope} {kws : List (Str × V)} {f : Addr} {fd : FuncData} {ps ks L : List Str} {self : Str} (F : FunD K x qual params body scope [] kws f fd) (ms : List (Str × V)) (g : {α : Type} → List α → List α → List α → List α) (hkws : kws ≠ [])
    (hrel : ∀ {vs mz zs : List V} {us mv ws : List Value}, Vals vs us → Vals mz mv → Vals zs ws → Vals (g vs mz zs) (g us mv ws))
    (h1 : params.posonlyargs.map (·.arg) = []) (h2 : params.args.map (·.arg) = [self]) (h3 : params.kwonlyargs.map (·.arg) = L) (h4 : params.vararg = none) (h5 : params.kwarg = none) (nd : (self :: ks).Nodup) (hin : ∀ k ∈ ks, k ∈ L) (hms : ∀ q ∈ ms, q ∈ kws) (hcov : ∀ n ∈ L, n ∉ ks → n ∈ ms.map (·.1))
    (heq : ∀ (u : Value) (mv ws : List Value), mv.length = ms.length → ws.length = ks.length → bindR self L u (ks.zip ws) (fun n => (((ms.map (·.1)).zip mv).lookup n).getD .none) = ps.zip (g [u] mv ws)) :
    ∃ mv : List Value, KBn K fd ps 1 ks (fun us ws => g us mv ws) (fun vs zs => g vs (ms.map (·.2)) zs) := by
  obtain ⟨oc, od, dV, kV, doc, pm, an, cdv, ct, osl, rfl, lk, hcd, hD, hK⟩ := F.ex
  have edV : dV = .none := by
    rcases hD with ⟨_, e⟩ | ⟨e, _⟩
    · exact e
    · exact absurd rfl e
  subst edV
  rcases hK with e | ⟨D, rfl, hq⟩
  · exact absurd e hkws
  obtain ⟨mv, hl, rk, hks⟩ := kwd_vals (ms := ms) fun q hm => hq q (hms q hm)
  refine ⟨mv, ⟨fun s us ws X l1 l2 => ?_, fun r1 r2 => hrel r1 rk r2⟩⟩
  obtain ⟨u, rfl⟩ : ∃ u, us = [u] := by
    cases us with
    | nil => cases l1
    | cons a r =>
      cases r with
      | nil => exact ⟨a, rfl⟩
      | cons b r => cases l1
  refine BindsTo.of_looks fun M => ?_
  show Looks M s.heap _ (ps.zip (g [u] mv ws))
  rw [← heq u mv ws hl l2]
  refine bind_kw X h1 h2 h3 h4 h5 (List.map_fst_zip (by omega)) nd hin _ fun n hn nk => ?_
  have lm : ((ms.map (·.1)).zip mv).map (·.1) = ms.map (·.1) := List.map_fst_zip (by rw [List.length_map]; omega)
  obtain ⟨v, ev⟩ := lookup_some (k := n) (l := (ms.map (·.1)).zip mv) (by rw [lm]; exact hcov n hn nk)
  rw [ev]
  have mem : ∀ {l : Sl}, l.lookup n = some v → (n, v) ∈ l := by
    intro l
    induction l with
    | nil => intro h; cases h
    | cons a r ih =>
      obtain ⟨a1, a2⟩ := a
      intro h
      rw [List.lookup_cons] at h
      by_cases e : (n == a1) = true
      · rw [e] at h
        rw [Option.some.inj h, beq_iff_eq.mp e]
        exact List.mem_cons_self ..
      · rw [show (n == a1) = false by simpa using e] at h
        exact List.mem_cons_of_mem _ (ih h)
  exact hks _ (mem ev)
end TK
set_option maxHeartbeats 4000000
/-! set(xs) of a list of ints and texts, of any length below the model's bound: mine. -/
namespace TKS
open PySem PySem.Spec PyProof.Rows L2 SX TK
def inK (l : List Key) (x : Key) : Bool := l.any fun y => decide (y = x)
def addK (l : List Key) (x : Key) : List Key := if inK l x = true then l else l ++ [x]
/-- the keys met so far, each once -/
def metK (kk : Nat → Key) : Nat → List Key
  | 0 => []
  | i + 1 => addK (metK kk i) (kk i)
theorem inK_iff {l : List Key} {x : Key} : inK l x = true ↔ x ∈ l := by
  unfold inK
  rw [List.any_eq_true]
  exact ⟨fun ⟨y, h, e⟩ => of_decide_eq_true e ▸ h, fun h => ⟨x, h, decide_eq_true rfl⟩⟩
theorem addK_len (l : List Key) (x : Key) : (addK l x).length = if inK l x = true then l.length else l.length + 1 := by
  unfold addK
  split
  · rfl
  · rw [List.length_append, List.length_singleton]
theorem metK_len (kk : Nat → Key) : ∀ i, (metK kk i).length ≤ i
  | 0 => Nat.le_refl 0
  | i + 1 => by
    have ih := metK_len kk i
    show (addK (metK kk i) (kk i)).length ≤ i + 1
    rw [addK_len]
    split <;> omega
theorem addK_in (l : List Key) (x y : Key) : inK (addK l x) y = (inK l y || decide (y = x)) := by
  unfold addK
  by_cases h : inK l x = true
  · rw [if_pos h]
    by_cases e : y = x
    · rw [e, h]
      rfl
    · rw [decide_eq_false e, Bool.or_false]
  · rw [if_neg h]
    show (l ++ [x]).any (fun z => decide (z = y)) = _
    rw [List.any_append]
    have e2 : [x].any (fun z => decide (z = y)) = decide (y = x) := by
      by_cases e : y = x
      · rw [e]
        simp
      · rw [decide_eq_false e]
        simp
        exact fun z => e z.symm
    rw [e2]
    rfl
theorem setOf_as {P : Program} {w : World} {h : Heap} {a : Addr} {S S' : Key → Bool} {n n' : Nat} (q : h.SetOf (mixKind P w) a S n) (e : ∀ k, S k = S' k) (en : n = n') : h.SetOf (mixKind P w) a S' n' := by
  obtain rfl : S = S' := funext e
  exact en ▸ q
section
variable {P : Program} {w : World} {A : Around} {R : Result → Shared → Prop} {it : Addr} {fp wr : List Addr} {G : Array GenState → Array GenState → Prop} {n : Nat} {Y : Nat → Value → Prop} {Z : Nat → Shared → Prop}
theorem set_loop (W : WalksS P w A.in1 it fp wr G n Y Z) (D : Addr) (nf : D ∉ fp) (kk : Nat → Key) (hv : ∀ i v, Y i v → RelV (kV (kk i)) v) (room : n + 1 < scanBound) : ∀ (m i : Nat) (s : Shared), n - i = m → i ≤ n → Z i s → s.heap.SetOf (mixKind P w) D (inK (metK kk i)) (metK kk i).length →
    (∀ s2, Moved (D :: wr) G s s2 → s2.heap.SetOf (mixKind P w) D (inK (metK kk n)) (metK kk n).length → R (.ok (.ret .none)) s2) → codeAny (model P w) A (.builtin "set.update.loop" ⟨[.ref D, .ref it], []⟩) R s := by
  have nw : D ∉ wr := fun q => nf (W.sub _ q)
  have more : ∀ b ∈ wr, b ∈ D :: wr := fun _ q => .tail _ q
  have stays : ∀ {s1 s2 : Shared} {S : Key → Bool} {c : Nat}, Moved wr G s1 s2 → s1.heap.SetOf (mixKind P w) D S c → s2.heap.SetOf (mixKind P w) D S c := fun mv q => setOf_at q fun o e => mv.heap D o nw e
  intro m
  induction m with
  | zero =>
    intro i s em hi z q k
    obtain rfl : i = n := by omega
    refine codeAny_builtin PyProof.Rows.F.entry_set_update_loop (?_ : wpAny _ _ _ _ _ _)
    rw [Around.under_plainId PyProof.Rows.F.plain_set_update_loop _] <;> exact wpAny_bind (W.done s _ _ z fun s2 mv => wpAny_pure (k s2 (mv.mono more) (stays mv q)))
  | succ m ih =>
    intro i s em hi z q k
    have lt : i < n := by omega
    refine codeAny_builtin PyProof.Rows.F.entry_set_update_loop (?_ : wpAny _ _ _ _ _ _)
    rw [Around.under_plainId PyProof.Rows.F.plain_set_update_loop _]
    refine wpAny_bind (W.item i s _ _ lt z fun v s2 y z2 mv => (?_ : wpAny _ A.in1 (holding [v] (setAdd D v) >>= _) _ _ s2))
    have rv := hv i v y
    have q2 := stays mv q
    have small := metK_len kk i
    refine wpAny_bind (wpAny_holding (?_ : wpAny _ A.in1 (setAdd D v) _ _ s2))
    unfold setAdd
    refine wpAny_holding (wpAny_bind ((mixKind P w).pyHash (k := kk i) (kV_is rv) (wpAny_setAddHashed_of (knd := mixKind P w) (s := { s2 with toks := s2.toks + 1 }) (kV_is rv) (key_scan rv) q2 (by omega) fun h3 but q3 => ?_)))
    have q4 : h3.SetOf (mixKind P w) D (inK (metK kk (i + 1))) (metK kk (i + 1)).length := setOf_as q3 (fun x => (addK_in (metK kk i) (kk i) x).symm) (addK_len (metK kk i) (kk i)).symm
    refine wpAny_pure ⟨plainId_quiet PyProof.Rows.F.plain_set_update_loop _, ih (i + 1) _ (by omega) lt (W.frame _ s2 _ _ z2 (Nat.le_succ _) fun b hb o e => (but.2 b fun z => nf (z ▸ hb)).trans e) q4 fun s5 mv5 q5 => k s5 ?_ q5⟩
    exact Moved.trans W.gtrans ((mv.mono more).then_heap (Nat.le_succ _) fun b o hb e => (but.2 b fun z => hb (z ▸ .head _)).trans e) mv5
/-- an empty set as the boot lays it -/
abbrev bare (b : Bool) : Obj := ⟨.type "set", none, .set #[] 0 (.fresh 0 0 b), #[]⟩
abbrev walker (l : Addr) : Obj := ⟨.type "list_iterator", none, .fields #[.ref l, .int 0 0], #[]⟩
theorem bare_of {h : Heap} {a : Addr} {b : Bool} (e : h.get? a = some (bare b)) : h.SetOf (mixKind P w) a (inK (metK (fun _ => .inl 0) 0)) 0 := by
  refine ⟨_, #[], 0, _, e, ⟨rfl, rfl, rfl⟩, rfl, ?_, ?_, ?_, ?_, ?_⟩
  · exact fun x hx => nomatch (show x ∈ ([] : List _) by simpa using hx)
  · exact fun k => ⟨fun q => (nomatch q), fun ⟨x, hx, _⟩ => nomatch (show x ∈ ([] : List _) by simpa using hx)⟩
  · decide
  · rfl
  · rfl
variable {E : Value → Shared → Prop} {s : Shared}
theorem vals_key {ks : List Key} : ∀ {us : List Value}, Vals (ks.map kV) us → ∀ (i : Nat) (v : Value), us[i]? = some v → RelV (kV (ks.getD i (.inl 0))) v := by
  induction ks with
  | nil =>
    intro us r i v h
    cases r
    cases h
  | cons k ks ih =>
    intro us r i v h
    cases r with
    | cons r1 r2 =>
      cases i with
      | zero =>
        cases h
        exact r1
      | succ i => exact ih r2 i v h
/-- set(xs) -/
theorem call_set_keys {l : Addr} {items : Array Value} {ks : List Key} {Q : Value → Shared → Prop} (calm : A.handled = none) (hl : s.heap.IsList l items) (rv : Vals (ks.map kV) items.toList) (room : items.size + 1 < scanBound)
    (k : ∀ (h2 : Heap) (tk : Nat), h2.SetOf (mixKind P w) s.heap.objs.size (inK (metK (fun i => ks.getD i (.inl 0)) items.size)) (metK (fun i => ks.getD i (.inl 0)) items.size).length → (∀ c o, c < s.heap.objs.size → s.heap.get? c = some o → h2.get? c = some o) → Q (.ref s.heap.objs.size) { s with heap := h2, toks := tk }) :
    wpAny (model P w) A (call (.type "set") [.ref l]) Q E s := by
  have cs := PySem.F.called_set
  obtain ⟨c, tl, y1⟩ := cs.mro
  have y2 := cs.made
  have y3 := cs.sub
  have y4 := cs.notType
  have y5 := cs.canCreate
  have y6 := PySem.F.typeCall_set_1 (.ref l)
  refine wpAny_call (codeAny_of_tree (?_ : wpAny _ _ (callAny (.type "set") _) _ _ _))
  refine wpAny_pure ⟨Code.quiet_builtin _ (by decide +kernel), codeAny_builtin PySem.F.entry_type_call ?_⟩
  rw [Around.under_plain (weight_type_call_type "set" [.ref l] []) rfl]
  repeat (any_goals (first | assumption | wp_step))
  refine codeAny_mono (code_set_new_1 (.ref l) (E := E) (Q₁ := fun v t => ∃ b : Bool, v = .ref s.heap.objs.size ∧ t = { s with heap := s.heap.push (bare b) }) fun b => ⟨b, rfl, rfl⟩) fun r t hr => ?_
  match r, hr with
  | .error e, hr => exact hr
  | .ok (.ret obj), hr =>
    obtain ⟨b, rfl, rfl⟩ := hr
    have g1 : (s.heap.push (bare b)).get? s.heap.objs.size = some (bare b) := Heap.get?_push_size _ rfl
    have g2 : Shared.TypeIs { s with heap := s.heap.push (bare b) } (.ref s.heap.objs.size) "set" := ⟨_, g1, rfl⟩
    have g3 := cs.init.lookup
    have g4 := cs.init.bind (.ref s.heap.objs.size)
    repeat (any_goals (first | assumption | wp_step))
    refine codeAny_mono (codeAny_call_builtin (R := wants (fun v t => v = .none ∧ ∃ h2 tk, t = { s with heap := h2, toks := tk } ∧ h2.SetOf (mixKind P w) s.heap.objs.size (inK (metK (fun i => ks.getD i (.inl 0)) items.size)) (metK (fun i => ks.getD i (.inl 0)) items.size).length ∧
      ∀ c o, c < s.heap.objs.size → s.heap.get? c = some o → h2.get? c = some o) E) cs.init.plain PySem.F.entry_set_init (check_set_init_1 g2 ?_)) fun r2 t2 hr2 => ?_
    · have hl1 : (s.heap.push (bare b)).IsList l items := hl.push _
      obtain ⟨ob, lo, lc, ln, ld⟩ := id hl
      have lt : l < s.heap.objs.size := Heap.lt_size lo
      have n1 : l ≠ (s.heap.push (bare b)).objs.size := by
        rw [Heap.size_push]
        exact Nat.ne_of_lt (.step lt)
      have n2 : s.heap.objs.size ∉ [(s.heap.push (bare b)).objs.size, l] := by
        rw [Heap.size_push]
        intro q
        rcases List.mem_cons.mp q with q | q
        · exact absurd q (Nat.ne_of_lt (Nat.lt_succ_self _))
        · rw [List.mem_singleton.mp q] at lt
          exact Nat.lt_irrefl _ lt
      obtain ⟨q1, q2, q3, q4⟩ := ob
      obtain rfl : q1 = .type "list" := lc
      obtain rfl : q3 = .seq items ln := ld
      have lo1 : (s.heap.push (bare b)).get? l = some ⟨.type "list", q2, .seq items ln, q4⟩ := Heap.get?_push_of_some _ lo
      have z1 := PySem.F.sub_list_set
      have z2 := PySem.F.sub_list_frozenset
      have z3 : (Value.type "list" == Value.type "dict") = false := by decide
      unfold Builtin.«set.__init__» noKeywords Builtin.Frozenset.updateFrom
      generalize hI : pyIter = I
      wp_walk
      subst hI
      refine wpAny_pyIter_list hl1 (wpAny_bind (wpAny_runValue ?_))
      have calm3 : A.in1.in1.in1.handled = none := by simp [calm]
      refine set_loop ((Walks.list calm3 _ l n1 items).toS) s.heap.objs.size n2 (fun i => ks.getD i (.inl 0)) (fun i v e => vals_key rv i v (by rw [Array.getElem?_toList]; exact e)) room items.size 0 _ (Nat.sub_zero _) (Nat.zero_le _) ⟨⟨_, Heap.get?_push_size _ rfl, rfl, rfl⟩, hl1.push _⟩ (bare_of (b := b) (Heap.get?_push_of_some _ g1)) fun t mv q => ?_
      obtain ⟨h2, t2, t3, tk, t5⟩ := t
      obtain rfl : t2 = s.gens := mv.gens
      obtain rfl : t3 = s.drawn := mv.drawn
      obtain rfl : t5 = s.os := mv.os
      refine wpAny_pure (wpAny_pure ⟨rfl, h2, tk, rfl, q, fun c o lc e => ?_⟩)
      refine mv.heap c o (fun m => ?_) (Heap.get?_push_of_some _ (Heap.get?_push_of_some _ e))
      rcases List.mem_cons.mp m with m | m
      · exact Nat.lt_irrefl _ (m ▸ lc)
      · have m2 := List.mem_singleton.mp m
        rw [Heap.size_push] at m2
        exact Nat.lt_irrefl _ (Nat.lt_trans (m2 ▸ lc) (Nat.lt_succ_self _))
    · match r2, hr2 with
      | .error e, hr2 => exact hr2
      | .ok (.ret v), hr2 =>
        obtain ⟨rfl, h2, tk, rfl, q1, q2⟩ := hr2
        repeat (any_goals (first | assumption | wp_step))
        exact k _ _ q1 q2
      | .ok .next, hr2 => exact hr2.elim
      | .ok .brk, hr2 => exact hr2.elim
      | .ok .cont, hr2 => exact hr2.elim
  | .ok .next, hr => exact hr.elim
  | .ok .brk, hr => exact hr.elim
  | .ok .cont, hr => exact hr.elim
end
/-! ### len(set(xs)) -/
section
variable {X : Cx} {p p2 q pos : Pos}
def tLenSetK (K : PySem.W.Frag) (ta : TE) : TE := fun σ H Q => ta σ H fun x H1 => ∃ (l : Addr) (ks : List Key), x = .ref l ∧ SqL K H1 l (ks.map kV) ∧ ks.length ≤ 4000 ∧ Q (.int ((metK (fun i => ks.getD i (.inl 0)) ks.length).length : Nat)) H1
theorem pe_lenSetK {a : Expr} {ta : TE} (ha : PE X a ta) (hm : X.mg "len" = none) (hm2 : X.mg "set" = none) (hg : Gl X "len" := by rfl) (hg2 : Gl X "set" := by rfl) (hc : X.calm = true := by rfl)
    (na : starEach [a] X.env = (false, eval a X.env) :: starEach [] X.env := by rfl) : PE X (.Call (.Name "len" p) [.Call (.Name "set" p2) [a] [] q] [] pos) (tLenSetK X.K ta) := by
  refine ⟨fun pins s σ H Q I h => Call_ (ld_blt I hg hm boot_len (PyProof.Rows.callWith_builtin1 (PyProof.Rows.args_cons (Call_ (ld_blt I hg2 hm2 boot_set ?_)) rfl) rfl rfl))⟩
  refine PyProof.Rows.callWith_type1 (PyProof.Rows.args_cons (thn (ha.run pins s σ H _ I h) fun v t ⟨x, H1, I1, rx, l, ks, ex, sq, small, z⟩ => PyProof.Rows.args_nil ?_) na) na rfl
  subst ex
  cases rx
  obtain ⟨its, r, pl, _⟩ := I1.list sq
  have n : its.toArray.size = ks.length := by
    rw [List.size_toArray, ← r.length, List.length_map]
  have lim : (4000 : Nat) + 1 < scanBound := by decide
  refine call_set_keys (ks := ks) (I1.ok.hd hc) pl.isList (by simpa using r) (by omega) fun h2 tk so kp => PyProof.Rows.args_nil ?_
  rw [n] at so
  have le := metK_len (fun i => ks.getD i (.inl 0)) ks.length
  have I2 : Inv X pins σ H1 { t with heap := h2, toks := tk } := I1.kept fun b o e => kp b o (Heap.lt_size e) e
  obtain ⟨o, es, ep, tb, ho, ex, hd, _, _, _, hf, hn⟩ := so
  exact call_len_set ho ex hd hf (by rw [hn]; omega) ⟨.int (metK (fun i => ks.getD i (.inl 0)) ks.length).length, H1, I2.tok _, ⟨_, by rw [hn]⟩, z⟩
end
/-- as many as there are, just if none is there twice -/
theorem met_nodup (ks : List Key) : ∀ i, i ≤ ks.length → (∀ x, x ∈ metK (fun i => ks.getD i (.inl 0)) i ↔ x ∈ ks.take i) ∧ ((metK (fun i => ks.getD i (.inl 0)) i).length = i ↔ (ks.take i).Nodup)
  | 0, _ => ⟨fun x => by simp [metK], by simp [metK]⟩
  | i + 1, hi => by
    obtain ⟨a, b⟩ := met_nodup ks i (by omega)
    have e : ks.getD i (.inl 0) = ks[i] := by
      rw [List.getD_eq_getElem?_getD, List.getElem?_eq_getElem (by omega)]
      rfl
    have t : ks.take (i + 1) = ks.take i ++ [ks[i]] := by
      rw [List.take_add_one, List.getElem?_eq_getElem (by omega)]
      rfl
    have le := metK_len (fun i => ks.getD i (.inl 0)) i
    show (∀ x, x ∈ addK _ (ks.getD i (.inl 0)) ↔ _) ∧ ((addK _ (ks.getD i (.inl 0))).length = i + 1 ↔ _)
    rw [e, t]
    refine ⟨fun x => ?_, ?_⟩
    · rw [← inK_iff, addK_in, Bool.or_eq_true, inK_iff, decide_eq_true_eq, a, List.mem_append, List.mem_singleton]
    · rw [addK_len, List.nodup_append]
      by_cases h : inK (metK (fun i => ks.getD i (.inl 0)) i) ks[i] = true
      · rw [if_pos h]
        rw [inK_iff, a] at h
        constructor
        · intro q
          omega
        · intro q
          exact absurd rfl (q.2.2 _ h _ (List.mem_singleton.mpr rfl))
      · rw [if_neg h]
        rw [inK_iff, a] at h
        constructor
        · intro q
          refine ⟨b.mp (by omega), by simp, fun x hx y hy => ?_⟩
          rw [List.mem_singleton.mp hy]
          exact fun z => h (z ▸ hx)
        · intro q
          rw [b.mpr q.1]
theorem met_all (ks : List Key) : (metK (fun i => ks.getD i (.inl 0)) ks.length).length = ks.length ↔ ks.Nodup := by
  have q := (met_nodup ks ks.length (Nat.le_refl _)).2
  rw [List.take_length] at q
  exact q
end TKS
set_option maxHeartbeats 2000000
/-! Own exceptions over own classes over ValueError, whose __init__ says super().__init__(text) and keeps one field. -/
namespace TKE
open PySem PySem.Spec PyProof.Rows L2
structure SupTxt (K : PySem.W.Frag) (P : Program) (C fI cda cc : Addr) : Prop where
  oex : OexC K C
  iC : PySem.W.findIn K (.ref C) "__init__" = some (some (.ref fI))
  tI : PySem.W.typeIn K (.ref fI) = some (.type "function")
  sup : PySem.W.ks_superIn K C C "__init__" = some (some (.builtin "ValueError.__init__"))
  subVE : PySem.W.subIn K (.ref C) (.type "ValueError") = some true
  mroC : PySem.W.mroIn K C (.ref C) = some true
  hop : PySem.W.nsIn K cStatics "thirdparty.any" = some none
  code : ∃ ccl cdd vs ccs file tf, K.lookup cda = some ⟨ccl, cdd, .fields vs, ccs⟩ ∧ vs[2]? = some (.str file tf) ∧ ((P.main.file : Str) == file) = true
  cell : ∃ cl cld csl, K.lookup cc = some ⟨cl, cld, .cell (some (.ref C)), csl⟩
section
variable {prog : Program} {w : World} {A : Around} {E : Value → Shared → Prop} {h : Heap} {g : Array GenState} {d : Drawn} {t : Nat} {os : OsState}
/-- the bound ValueError.__init__, called -/
theorem mw_call {nm q : Str} {C N u a t0 : Addr} {bs bm : List Value} {hdct : Bool} {sn : List Str} {sub : List Value} {ab : Bool} {col : Option Bool} {dd : Option Addr} {k0 k1 k2 k3 k5 : Option Value} {rest : List Value} {Q : Value → Shared → Prop}
    (hC : h.get? C = some (excClassObj nm q C N bs bm hdct sn sub ab col dd k0 k1 k2 k3 k5 "ValueError.__new__"))
    (he : h.get? a = some ({ cls := .ref C, dict := none, data := .fields #[.ref t0, .none, .none, .none, .bool false, .none] } : Obj)) (hu : h.get? u = some (PySem.W.kxs_mw "ValueError.__init__" a)) (hz : rest.length ≤ sizeLine)
    (hq : ∀ h' t', (∀ b o, b ≠ a → h.get? b = some o → h'.get? b = some o) → h'.get? a = some ({ cls := .ref C, dict := none, data := .fields #[.ref t', .none, .none, .none, .bool false, .none] } : Obj) → Q .none ⟨h', g, d, t, os⟩) :
    wpAny (model prog w) A (call (.ref u) rest) Q E ⟨h, g, d, t, os⟩ := by
  have FB := F.excBase_ValueError
  refine wpAny_call (codeAny_of_tree ?_)
  change wpAny _ A.in1 (callAny (.ref u) ⟨rest, []⟩) _ _ _
  simp only [callAny]
  refine wpAny_bind (wpAny_load hu ?_)
  have em : (Value.type "method-wrapper" == Value.type "method" || Value.type "method-wrapper" == Value.type "builtin_function_or_method" || Value.type "method-wrapper" == Value.type "method-wrapper") = true := by decide
  simp only [PySem.W.kxs_mw, em, if_true]
  refine PySem.W.KFB.if_so (by decide) ?_
  refine wpAny_bind (PySem.W.check_bound_init FB.toExcCallFacts hC he rfl (wpAny_bind (wpAny_pure (wpAny_pure ?_))))
  refine ⟨plainId_quiet FB.init.plain _, codeAny_builtin FB.initEntry (PySem.W.exc_init_tree (t0 := t0) (cls := .ref C) (dv := none) (c2 := .none) (c3 := .none) (b4 := .bool false) he hz fun h' k e' _ => hq h' _ k e')⟩
end
theorem boot_super : bootBuiltins "super" = some (.type "super") := by first | boot_by_name | rfl | kernel_rfl
section
variable {X : Cx} {pins : List (Addr × Obj)} {σ : L2.St} {H : Hp} {s : Shared} {C fI cda cc a : Addr} {body : List Stmt} {p0 p1 apos pos pos' : Pos} {e : Expr} {te : TE} {pl : Sem Bool} {fd : FuncData} {ar : Arg} {Q' : Hp → Prop} {oc : Value} {od : Option Addr} {osl : Array (Option Value)}
theorem sup_stmt (T : SupTxt X.K X.prog C fI cda cc) (hfu : X.env.func = some fI) (hf : X.K.lookup fI = some ⟨oc, od, .func fd, osl⟩) (hp : (fd.params.posonlyargs ++ fd.params.args).head? = some ar) (hco : X.env.code = .ref cda)
    (hks : X.env.kindOf "super" = some .globalImplicit) (hkc : X.env.kindOf "__class__" = some .free) (hcl : X.env.cells.lookup ("__class__" : Str) = some cc) (hka : X.env.kindOf ar.arg = some .local) (hN : X.N[0]? = some ar.arg)
    (hm : X.mg "super" = none) (htop : (X.prog.main.scope.names.lookup ("super" : Str)).isSome = false)
    (I : Inv X pins σ H s) (hσ : σ[0]? = some (some (.ref a))) (ha : H a = some (exo a C none)) (he : PE X e te) (h : te σ H fun v H1 => H1 a = some (exo a C none) ∧ Q' H1 ∧ [v].length = 1)
    (hev : eval (.Call (.Attribute (.Call (.Name "super" p0) [] [] p1) "__init__" apos) [e] [] pos) X.env = (do
      let ov ← attributeBase (.Call (.Name "super" p0) [] [] p1) "__init__" X.env (eval (.Call (.Name "super" p0) [] [] p1) X.env)
      standAt apos.atName
      let (f, first) ← holding [ov] (getMethod ov "__init__" pl)
      callWith pos f first (backTo pos (starEach [e] X.env)) []))
    (hi : interactive X.env = false) (hsw : swapsWith (.Call (.Attribute (.Call (.Name "super" p0) [] [] p1) "__init__" apos) [e] [] pos) none pos'.line X.env = pure false)
    (hst : starEach [e] X.env = (false, eval e X.env) :: starEach [] X.env) :
    _root_.PySem.wpAt (model X.prog X.w) X.A (.func body X.env) (exec (.Expr (.Call (.Attribute (.Call (.Name "super" p0) [] [] p1) "__init__" apos) [e] [] pos) pos') X.env) (fun fl s' => fl = .next ∧ ∃ H1, Inv X pins σ H1 s' ∧ Q' H1) X.xe s := by
  have KX := I.kIn
  refine ks_wpAt_Expr_any (ks_wpAt_MethodCall (pl := pl) ?_ hev) hi hsw
  obtain ⟨ccl, cdd, vs, ccs, file, tf, hcd, hvs, hfile⟩ := T.code
  obtain ⟨cl, cld, csl, hcc⟩ := T.cell
  refine ks_wpAt_super_base hks hkc (by decide) hfu (KX _ _ hf) rfl hp hco (KX _ _ hcd) rfl hvs hfile htop ?_
  obtain ⟨mb, hb1, hb2⟩ := I.mod.blt
  refine PySem.W.ks_loadName_global I.ok.kind hks (Calls.loadGlobal_builtin (by rw [I.ok.glob]; exact I.mod.glob.keeps I.bk) hm (by rw [I.ok.blt]; exact hb1.keeps I.bk) ((hb2 _ (by decide)).trans boot_super) ⟨rfl, ?_⟩)
  refine wpAny_loadName_free I.ok.kind hkc hcl ⟨_, KX _ _ hcc, rfl⟩ ?_
  obtain ⟨m, hns, hloc⟩ := I.loc
  obtain ⟨u, ru, hlk⟩ := hloc 0 ar.arg (.ref a) hN hσ (.inl hka)
  obtain rfl : u = Value.ref a := ru
  have hv : m ar.arg = some (.ref a) := by
    rcases hlk with ⟨_, z⟩ | ⟨z, _⟩
    · exact z
    · rw [hka] at z
      rcases z with z | z <;> cases z
  refine wpAny_loadName_local I.ok.kind hka hns hv ?_
  obtain ⟨nm, q, N, bs, bm, sn, sub, ab, col, dd, k0, k1, k2, k3, k5, hC, hbm⟩ := T.oex.cls
  obtain ⟨t1, ho⟩ := exo_at I.hok ha
  have hkC := KX _ _ hC
  obtain ⟨hp0, g, d, t, os⟩ := s
  refine ks_wpAny_isType_cls hkC rfl ⟨rfl, ?_⟩
  refine ks_wpAny_call_super hkC rfl ho rfl (fun c z => nomatch z) (PySem.W.looks_mroIn KX T.mroC) (fun h1 e1 kk => ?_)
  have I1 : Inv X pins σ H ⟨h1, g, d, t, os⟩ := I.kept (t' := t) kk
  have ho1 := kk _ _ ho
  have aC : a ≠ C := fun z => by
    rw [z] at ho
    have := ho.symm.trans hkC
    cases this
  have hcls : PySem.W.clsIn X.K C = some { name := nm, bases := bs, mro := .ref C :: bm, ns := N, qualname := q, hasDict := true, slotNames := sn, subclasses := sub, abstract := ab, collection := col, hasDel := false } := by unfold PySem.W.clsIn; rw [hC] <;> rfl
  have hsup := T.sup
  unfold PySem.W.ks_superIn at hsup
  rw [hcls] at hsup
  have II : PySem.W.InstAt h1 a ({ cls := .ref C, dict := none, data := .fields #[.ref t1, .none, .none, .none, .bool false, .none] } : Obj) C none := ⟨ho1, rfl, rfl, trivial⟩
  refine PySem.W.kxs_getMethod PySem.W.kxs_ValueError e1 (PySem.W.looks_opaque I1.kIn T.hop) (fun A Q E s k q => wpAny_bind ((PySem.W.looks_clsIn I1.kIn hcls) A _ E s k (wpAny_pure q))) rfl I1.kIn hsup (II.type.andThen (PySem.W.looks_subIn I1.kIn T.subVE)) aC (by decide) ?_
  have I2 : Inv X ((h1.objs.size, PySem.W.kxs_mw "ValueError.__init__" a) :: pins) σ H ⟨h1.push (PySem.W.kxs_mw "ValueError.__init__" a), g, d, t + 1, os⟩ :=
    ClX.pin_new I1 (fun b o z => Heap.get?_push_of_some _ z) (Nat.le_refl _) (Heap.get?_push_at rfl rfl) (fun v z => nomatch z)
  refine PySem.W.kxs_callWith (i := "ValueError.__init__") (x := a) (by rw [hst]; rfl) ?_
  rw [hst]
  refine Calls.evalArgs_plain ?_
  have hpa := (pa_cons he pa_nil hst).run pos _ _ σ H (fun vs H1 => H1 a = some (exo a C none) ∧ Q' H1 ∧ vs.length = 1) I2 h
  rw [hst] at hpa
  refine thn hpa fun us s2 ⟨vs2, H2, I3, r, q1, q2, q3⟩ => ?_
  obtain ⟨t2, ho2⟩ := exo_at I3.hok q1
  refine ⟨ClX.pin_at I3, ?_⟩
  obtain ⟨hp2, g2, d2, t2', os2⟩ := s2
  refine mw_call (I3.kIn _ _ hC) ho2 (ClX.pin_at I3) (by show us.length ≤ sizeLine; rw [← r.length, q3]; decide) fun h' t' k' e' => ⟨rfl, H2, ?_, q2⟩
  have J := (ClX.unpin I3).write (t' := t2') (x := a) (e := a) (o := exo a C none) (by rw [q1]; exact True.intro) (.inl rfl) k' ⟨_, e'⟩ (exo_ok e')
  have eu : upd H2 a (exo a C none) = H2 := by
    funext b
    by_cases hb : b = a
    · rw [hb, upd_same, q1]
    · rw [upd_ne hb]
  rw [eu] at J
  exact J
end
end TKE
set_option maxHeartbeats 2000000
set_option pp.maxSteps 300
/-! The __init__ of such an exception as a def; raising it; makers that may raise; isinstance of a caught one. -/
namespace TKE
open PySem PySem.Spec PyProof.Rows L2 NdefX
section
variable {P : Program} {w : World} {K : PySem.W.Frag} {mg : Str → Option Value} {base : Heap}
abbrev supN (x : Str) : List Str := ["self", x, "__class__"]
abbrev supF (qual : Str) (params : Arguments) (body : List Stmt) (scope : Scope) (cda cc : Addr) : NF := ⟨"__init__", qual, params, body, scope, [("__class__", cc)], cda⟩
theorem fnok_sup {C fI cda cc : Addr} {qual x : Str} {params : Arguments} {body : List Stmt} {scope : Scope} {doc pm ct : Value} {an : Option Addr} {oc : Value} {od : Option Addr} {osl : Array (Option Value)} {sp : Sp}
    {p0 p1 apos pos pos' : Pos} {e : Expr} {rest : List Stmt} {ar : Arg} {pl : Sem Bool}
    (T : SupTxt K P C fI cda cc)
    (hK : K.lookup fI = some ⟨oc, od, .func (PySem.W.fnX "__init__" qual params body scope [("__class__", cc)] .none .none doc pm an (.ref cda) ct), osl⟩) (hcd : PySem.W.codeIn K (.ref cda) qual = true)
    (S : NScope (supN x) ["self", x] ["__class__"] scope) (hsup : scope.names.lookup ("super" : Str) = some .globalImplicit) (hcls : scope.names.lookup ("__class__" : Str) = some .free)
    (hp : (params.posonlyargs ++ params.args).head? = some ar) (har : ar.arg = "self")
    (hbody : body = .Expr (.Call (.Attribute (.Call (.Name "super" p0) [] [] p1) "__init__" apos) [e] [] pos) pos' :: rest)
    (hm : mg "super" = none) (htop : (P.main.scope.names.lookup ("super" : Str)).isSome = false)
    (len : ∀ vs H Q E, sp vs H Q E → vs.length = 2)
    (hb : ∀ (A : Around) (outer : List Env) (s : Shared) (H : Hp) (vs : List V) (Q : VK) (E : XK), sp vs H Q E → ∃ (a : Addr) (y : V) (te : TE) (t2 : TS), vs = [.ref a, y] ∧ H a = some (exo a C none) ∧
      PE (ncx CX0 P w K mg base (supN x) (supF qual params body scope cda cc) fI A outer s H E) e te ∧ PSs (ncx CX0 P w K mg base (supN x) (supF qual params body scope cda cc) fI A outer s H E) rest t2 ∧
      te (startF (supN x) vs [none]) H fun v H1 => H1 a = some (exo a C none) ∧ t2 { nx := fun _ H' => Q .non H', rt := Q } (startF (supN x) vs [none]) H1 ∧ [v].length = 1)
    (hev : ∀ (A : Around) (outer : List Env) (s : Shared) (H : Hp) (E : XK), eval (.Call (.Attribute (.Call (.Name "super" p0) [] [] p1) "__init__" apos) [e] [] pos) (ncx CX0 P w K mg base (supN x) (supF qual params body scope cda cc) fI A outer s H E).env = (do
      let ov ← attributeBase (.Call (.Name "super" p0) [] [] p1) "__init__" (ncx CX0 P w K mg base (supN x) (supF qual params body scope cda cc) fI A outer s H E).env (eval (.Call (.Name "super" p0) [] [] p1) (ncx CX0 P w K mg base (supN x) (supF qual params body scope cda cc) fI A outer s H E).env)
      standAt apos.atName
      let (f, first) ← holding [ov] (getMethod ov "__init__" pl)
      callWith pos f first (backTo pos (starEach [e] (ncx CX0 P w K mg base (supN x) (supF qual params body scope cda cc) fI A outer s H E).env)) []))
    (hi : ∀ (A : Around) (outer : List Env) (s : Shared) (H : Hp) (E : XK), interactive (ncx CX0 P w K mg base (supN x) (supF qual params body scope cda cc) fI A outer s H E).env = false)
    (hsw : ∀ (A : Around) (outer : List Env) (s : Shared) (H : Hp) (E : XK), swapsWith (.Call (.Attribute (.Call (.Name "super" p0) [] [] p1) "__init__" apos) [e] [] pos) none pos'.line (ncx CX0 P w K mg base (supN x) (supF qual params body scope cda cc) fI A outer s H E).env = pure false)
    (hst : ∀ (A : Around) (outer : List Env) (s : Shared) (H : Hp) (E : XK), starEach [e] (ncx CX0 P w K mg base (supN x) (supF qual params body scope cda cc) fI A outer s H E).env = (false, eval e (ncx CX0 P w K mg base (supN x) (supF qual params body scope cda cc) fI A outer s H E).env) :: starEach [] (ncx CX0 P w K mg base (supN x) (supF qual params body scope cda cc) fI A outer s H E).env) :
    FnOk P w K mg base CX0 1 fI (PySem.W.fnX "__init__" qual params body scope [("__class__", cc)] .none .none doc pm an (.ref cda) ct) ["self", x] sp := by
  refine ⟨len, fun A outer s H args us vs Q E hr e0 hbi r hsp => ?_⟩
  have KX : K.In s.heap := e0.mod.kin.keeps fun b o z => (e0.bs b o z).1
  have lim : s.heap.NoLimit := e0.mod.nolimit.keeps fun b o z => (e0.bs b o z).1
  have hl : vs.length = (["self", x] : List Str).length := len _ _ _ _ hsp
  obtain ⟨cl, cld, csl, hcc⟩ := T.cell
  have cat : CellsAt [("__class__", cc)] ["__class__"] [none] s.heap H := by
    have hcell : s.heap.IsCell cc (some (.ref C)) := ⟨_, KX _ _ hcc, rfl⟩
    have hnone : H cc = none := (e0.bs cc _ (e0.mod.kin _ _ hcc)).2
    have key : ∀ (y : Str) (c : Addr), List.lookup y [(("__class__" : Str), cc)] = some c → c = cc ∧ y = "__class__" := by
      intro y c hy
      rw [List.lookup_cons] at hy
      by_cases q : (y == ("__class__" : Str)) = true
      · rw [q] at hy
        exact ⟨(Option.some.inj hy).symm, beq_iff_eq.mp q⟩
      · rw [show (y == ("__class__" : Str)) = false by simpa using q] at hy
        cases hy
    refine ⟨rfl, fun y c hy => ?_, fun y z c h1 h2 => ?_, fun i y hy => ?_⟩
    · obtain ⟨rfl, _⟩ := key y c hy
      exact ⟨hnone, _, hcell⟩
    · rw [(key y c h1).2, (key z c h2).2]
    · refine ⟨cc, ?_, fun v hv => ?_⟩
      · match i, hy with
        | 0, hy =>
          cases hy
          rfl
      · match i, hv with
        | 0, hv => cases hv
  obtain ⟨a, y, te, t2, ev, ha, he, h2, hq⟩ := hb A outer s H vs Q E hsp
  refine ks_codeAny_call_defAt (fd := PySem.W.fnX "__init__" qual params body scope [("__class__", cc)] .none .none doc pm an (.ref cda) ct) (body := body) (binds := (["self", x] : List Str).zip us) hr.depth (KX _ _ hK) rfl lim (PySem.W.codeRec_of KX hcd) rfl hbi S.nocell
    (fun ⟨n, _⟩ hy => S.par n (List.of_mem_zip hy).1) (fun h₁ hns kp => ?_) S.co S.gen S.kind
  have I : Inv (ncx CX0 P w K mg base (supN x) (supF qual params body scope cda cc) fI A outer s H E) [] (startF (supN x) vs [none]) H { s with heap := h₁, toks := s.toks + ((["self", x] : List Str).zip us).length } := inv_startN S hr.hd e0 hl r cat hns kp
  have hT : SupTxt (ncx CX0 P w K mg base (supN x) (supF qual params body scope cda cc) fI A outer s H E).K (ncx CX0 P w K mg base (supN x) (supF qual params body scope cda cc) fI A outer s H E).prog C fI cda cc := T
  have q1 := sup_stmt (body := body) (pl := pl) (ar := ar) hT rfl hK hp rfl hsup hcls rfl (by rw [har]; exact S.par _ (List.mem_cons_self ..)) (by rw [har]; rfl) hm htop I (by rw [ev]; rfl) ha he hq (hev A outer s H E) (hi A outer s H E) (hsw A outer s H E) (hst A outer s H E)
  have fin : ∀ {σ' : L2.St} {H' : Hp} {v : V} {u : Value} {s' : Shared}, Inv (ncx CX0 P w K mg base (supN x) (supF qual params body scope cda cc) fI A outer s H E) [] σ' H' s' → RelV v u → Q v H' → CE outer P w H s Q u s' := fun {σ' H' v u s'} J rv q => ⟨v, H', J.os, J.bare, J.base, J.hok, rv, q⟩
  rw [hbody] at q1 ⊢
  refine ks_wpAt_execs_cons (ks_wpAt_mono q1 (fun fl s' hfl => ?_) fun e s' z => z)
  obtain ⟨rfl, H1, I1, q⟩ := hfl
  refine wpAt_of_wpAny (wpAny_mono (h2.run [] _ _ H1 _ I1 q) (fun fl s' hs => ?_) fun e s' z => z)
  cases fl with
  | ret u =>
    obtain ⟨v, σ', H', J, rv, q⟩ := hs
    exact fin J rv q
  | next =>
    obtain ⟨σ', H', J, q⟩ := hs
    exact fin (v := V.non) (u := Value.none) J rfl q
  | brk =>
    obtain ⟨_, _, _, z⟩ := hs
    exact False.elim z
  | cont =>
    obtain ⟨_, _, _, z⟩ := hs
    exact False.elim z
end
end TKE
set_option maxHeartbeats 2000000
set_option pp.maxSteps 300
/-! Raising such an exception; makers that may raise; isinstance of a caught one. -/
namespace TKE
open PySem PySem.Spec PyProof.Rows L2 NdefX TK
/-- the promise of its __init__ -/
def spExc (C : Addr) (fld : Str) (ok : V → Prop) : Sp := fun vs H Q _ => ∃ (a : Addr) (y : V), vs = [.ref a, y] ∧ ok y ∧ H a = some (exo a C none) ∧ ∀ dx, H dx = none → dx ≠ a → Q .non (upd (upd H dx (exd dx [(fld, y)])) a (exo a C (some dx)))
section
variable {P : Program} {w : World} {K : PySem.W.Frag} {mg : Str → Option Value} {base : Heap}
structure ExcMk (P : Program) (w : World) (K : PySem.W.Frag) (mg : Str → Option Value) (base : Heap) (x : Str) (C : Addr) (fld : Str) (ok : V → Prop) : Prop where
  ex : ∃ (fI : Addr) (fd : FuncData) (ps : List Str), OexC K C ∧ PySem.W.findIn K (.ref C) "__init__" = some (some (.ref fI)) ∧ PySem.W.typeIn K (.ref fI) = some (.type "function") ∧ FnOk P w K mg base CX0 1 fI fd ps (spExc C fld ok) ∧ Binds K fd ps [] ∧ mg x = some (.ref C)
end
section
variable {X : Cx} {W : WX} {C : Addr} {x fld : Str} {ok : V → Prop} {p pos pos' : Pos} {e : Expr} {es : List Expr} {te : TE} {j : Nat}
theorem ps_raiseE (c : ExcMk X.prog X.w X.K X.mg X.base x C fld ok) (hc : X.calm = true) (tk : Takes X W) (hr : Room j X.A) (hk : 2 ≤ j) (hg : Gl X x) (he : PE X e te)
    (hdb : (x == ("__debug__" : Str)) = false := by decide) (hs : starEach (e :: es) X.env = (false, eval e X.env) :: starEach es X.env := by rfl) (hes : es = [] := by rfl) (hpl : (backTo pos (starEach es X.env)).any (·.1) = false := by rfl) :
    PS X (.Raise (some (.Call (.Name x p) (e :: es) [] pos)) none pos') (fun _ σ H => te σ H fun y H1 => ok y ∧ ∀ d, H1 d = none → W (.ref C) (some d) σ (upd H1 d (.xd [(fld, y)]))) := by
  subst hes
  obtain ⟨fI, fd, ps, T, iC, tI, F1, hb, hm⟩ := c.ex
  refine ⟨fun pins s σ H D I h => ?_⟩
  refine (ps_raise hc tk (pmk_oex T iC tI F1 (hr.mono hk) hb .nil (fun _ _ _ _ _ _ _ z => z.elim) hg hm (pa_cons (pe_cut he) pa_nil hs) hdb hs hpl)).run pins s σ H D I ?_
  refine ⟨_, h, fun y H1 hy => ⟨by show 1 ≤ 1000; decide, fun a ha => ⟨a, y, rfl, hy.1, upd_same, fun dx hdx hne => ⟨rfl, dx, [(fld, y)], upd_same, ?_, ?_, ?_⟩⟩⟩⟩
  · rw [upd_ne hne, upd_same]
  · rw [upd_ne hne] at hdx
    exact hdx
  · have hd1 : H1 dx = none := by
      rw [upd_ne hne] at hdx
      exact hdx
    have q := hy.2 dx hd1
    have eh : upd (L2.del (upd (upd (upd H1 a (exo a C none)) dx (exd dx [(fld, y)])) a (exo a C (some dx))) a) dx (.xd [(fld, y)]) = upd H1 dx (.xd [(fld, y)]) := by
      funext b
      by_cases h1 : b = dx
      · rw [h1, upd_same, upd_same]
      · rw [upd_ne h1, upd_ne h1]
        by_cases h2 : b = a
        · rw [h2, L2.del_same, ha]
        · rw [L2.del_ne h2, upd_ne h2, upd_ne h1, upd_ne h2]
    rw [eh]
    exact q
end
/-! ### makers that may raise -/
section
variable {P : Program} {w : World} {K : PySem.W.Frag} {mg : Str → Option Value} {base : Heap}
structure MakX (P : Program) (w : World) (K : PySem.W.Frag) (mg : Str → Option Value) (base : Heap) (k : Nat) (x : Str) (C : Addr) (sp : Sp) (n : Nat) (ks : List Str) (gV : List V → List V → List V) : Prop where
  ex : ∃ (f : Addr) (fd : FuncData) (ps : List Str) (g : List Value → List Value → List Value), Mk K C f ∧ FnOk P w K mg base (L2.CX P w) k f fd ps sp ∧ mg x = some (.ref C) ∧ KBn K fd ps (n + 1) ks g gV
/-- C(e, ..) as an expression: at σ, what it lets out is WE W σ -/
def tMakX (C : Addr) (n m : Nat) (sp : Sp) (gV : List V → List V → List V) (E : L2.St → XK) (t tk : TA) : TE := fun σ H Q => t σ H fun vs H1 => tk σ H1 fun zs H2 => vs.length = n ∧ zs.length = m ∧ ∀ x dx, H2 x = none → H2 dx = none → dx ≠ x →
  sp (gV (.ref x :: vs) zs) (upd (upd H2 dx (.own x)) x (.ins C dx [])) (fun v H3 => v = .non ∧ Q (.ref x) H3) (E σ)
end
section
variable {X : Cx} {W : WX} {k j n : Nat} {f C : Addr} {fd : FuncData} {ps ks : List Str} {sp : Sp} {x : Str} {p pos : Pos} {e : Expr} {es : List Expr} {kws : List Keyword} {t tk : TA} {g : List Value → List Value → List Value} {gV : List V → List V → List V}
theorem run_makX {pins : List (Addr × Obj)} {σ : L2.St} {H : Hp} {s : Shared} {Q : VK} {us ws : List Value} {vs zs : List V} {E : XK} (M : Mk X.K C f) (F : FnOk X.prog X.w X.K X.mg X.base (L2.CX X.prog X.w) k f fd ps sp) (hr : Room (k + 1) X.A) (hb : KBn X.K fd ps (n + 1) ks g gV) (hx : PassesAt (L2.CX X.prog X.w) X σ E)
    (I : Inv X pins σ H s) (r : Vals vs us) (rz : Vals zs ws) (l1 : vs.length = n) (l2 : zs.length = ks.length)
    (h : ∀ x dx, H x = none → H dx = none → dx ≠ x → sp (gV (.ref x :: vs) zs) (upd (upd H dx (.own x)) x (.ins C dx [])) (fun v H2 => v = .non ∧ Q (.ref x) H2) E) :
    wpAny (model X.prog X.w) X.A (call (.ref C) us (ks.zip ws)) (EP X pins σ Q) X.xe s := by
  let q := s.heap.objs.size
  have fr1 : H (q + 1) = none := I.hok.fresh (Nat.le_succ q)
  have fr2 : H q = none := I.hok.fresh (Nat.le_refl q)
  have told := h (q + 1) q fr1 fr2 (Nat.ne_of_lt (Nat.lt_succ_self q))
  have J := Inv.made (C := C) I
  have ra : Vals (V.ref (q + 1) :: vs) (Value.ref (q + 1) :: us) := .cons rfl r
  have na : (Value.ref (q + 1) :: us).length = n + 1 := by
    have := ra.length
    rw [← this, List.length_cons, l1]
  have run := F.run _ X.stack _ _ ⟨Value.ref (q + 1) :: us, ks.zip ws⟩ (g (Value.ref (q + 1) :: us) ws) _ _ E (hr.make C us (ks.zip ws)) (J.env0.make C us (ks.zip ws)) (hb.to _ (Value.ref (q + 1) :: us) ws J.kIn na (rz.length.symm.trans l2)) (hb.rel ra rz) told
  refine wpAny_call (make_map (f := f) I.kIn M.makes M.init (beq_iff_eq.mp M.fn) (codeAny_mono run fun o s' ho => ?_))
  match o, ho with
  | .error e, ho => exact hx pins _ _ e s' J ho
  | .ok (.ret u), ho =>
    obtain ⟨v, H', I3, rv, ev, q3⟩ := J.after ho
    subst ev
    exact ⟨rv, ⟨V.ref (q + 1), H', I3, rfl, q3⟩⟩
  | .ok .next, ho => exact False.elim ho
  | .ok .brk, ho => exact False.elim ho
  | .ok .cont, ho => exact False.elim ho
theorem pe_makX {E : L2.St → XK} (c : MakX X.prog X.w X.K X.mg X.base k x C sp n [] gV) (hr : Room j X.A) (hk : k + 1 ≤ j) (hx : ∀ σ, PassesAt (L2.CX X.prog X.w) X σ (E σ)) (hg : Gl X x) (ha : PA X (e :: es) t)
    (hdb : (x == ("__debug__" : Str)) = false := by decide) (he : starEach (e :: es) X.env = (false, eval e X.env) :: starEach es X.env := by rfl) (hpl : (backTo pos (starEach es X.env)).any (·.1) = false := by rfl) :
    PE X (.Call (.Name x p) (e :: es) [] pos) (tMakX C n 0 sp gV E t tNil) := by
  obtain ⟨f, fd, ps, g, M, F, hm, b⟩ := c.ex
  refine ⟨fun pins s σ H Q I h => ?_⟩
  refine wpAny_Call_Name_kw (ld_glob I hg hm ?_ hdb)
  refine PySem.W.callWith_K (h₀ := X.base) I.ok.mod.kin M.kp (thn (ha.run pos pins s σ H _ I h) fun us s1 ⟨vs, H1, I1, r, l1, l2, q⟩ => ⟨I1.kIn, ?_⟩) he hpl
  exact run_makX (zs := []) (ws := []) M F (hr.mono hk) b (hx σ) I1 r .nil l1 rfl q
theorem pe_makXK {E : L2.St → XK} (c : MakX X.prog X.w X.K X.mg X.base k x C sp 0 ks gV) (hr : Room j X.A) (hk : k + 1 ≤ j) (hx : ∀ σ, PassesAt (L2.CX X.prog X.w) X σ (E σ)) (hg : Gl X x) (hkw : PK X kws tk)
    (hall : (backToKw pos (keywordEach kws X.env)).all (·.1.isSome) = true := by rfl) (hks : (backToKw pos (keywordEach kws X.env)).filterMap (·.1) = ks := by rfl) (hdb : (x == ("__debug__" : Str)) = false := by decide)
    (hpl : ((backTo pos (starEach [] X.env)).any (·.1) || (backToKw pos (keywordEach kws X.env)).any (·.1.isNone)) = false := by rfl) :
    PE X (.Call (.Name x p) [] kws pos) (tMakX C 0 ks.length sp gV E tNil tk) := by
  obtain ⟨f, fd, ps, g, M, F, hm, b⟩ := c.ex
  refine ⟨fun pins s σ H Q I h => ?_⟩
  refine wpAny_Call_Name_kw (ld_glob I hg hm ?_ hdb)
  refine PySem.W.callWith_KW0 (h₀ := X.base) I.ok.mod.kin M.kp hall ?_ hpl
  refine thn (hkw.run pos pins s σ H _ I h) fun ws s2 ⟨zs, H2, I2, rz, l1, l2, q2⟩ => ⟨I2.kIn, ?_⟩
  rw [hks]
  exact run_makX (us := []) (vs := []) M F (hr.mono hk) b (hx σ) I2 .nil rz rfl l2 q2
/-- nothing is let out here -/
theorem none_out {X : Cx} : ∀ σ : L2.St, PassesAt (L2.CX X.prog X.w) X σ E0 := fun _ _ _ _ _ _ _ z => by
  obtain ⟨_, _, _, _, _, _, _, _, _, _, _, _, y⟩ := z
  exact y.elim
end
end TKE
set_option maxHeartbeats 2000000
set_option pp.maxSteps 300
/-! isinstance of a caught exception that has its dict; what is to be looked up of such a class; a hook with such defs. -/
namespace TKE
open PySem PySem.Spec PyProof.Rows L2 NdefX TK
def rIsD (K : PySem.W.Frag) (D a : Addr) (cls : Value) (d : Option Addr) : List V → Hp → VK → Prop := fun xs H Q => ∃ (c : V) (cv : Value) (b : Bool) (dd : Addr) (fs : List (Str × V)), xs = [.ref a, c] ∧ (∀ u, RelV c u → u = cv) ∧ PySem.W.kitOne K (.ref D) cv = some b ∧ cls = .ref D ∧ d = some dd ∧ H dd = some (.xd fs) ∧ Q (.bl b) H
theorem call_isD {X : Cx} {a D : Addr} {oe : Obj} {cls : Value} {d : Option Addr} {pn : List (Addr × Obj)} (C : ExcC X.K D) (hz : Zc cls d oe) (hf : ∃ vs, oe.data = .fields vs) : CallR (X.suite a ((a, oe) :: pn)) (.builtin "isinstance") (rIsD X.K D a cls d) := by
  intro pins s σ H xs us Q I r h
  obtain ⟨c, cv, b, dd, fs, rfl, hcv, e, rfl, rfl, ed, q⟩ := h
  obtain ⟨u1, u2, rfl, rx, rt⟩ : ∃ u1 u2, us = [u1, u2] ∧ RelV (.ref a) u1 ∧ RelV c u2 := by
    cases r with
    | cons h1 t1 =>
      cases t1 with
      | cons h2 t2 =>
        cases t2
        exact ⟨_, _, rfl, h1, h2⟩
  obtain rfl : u1 = Value.ref a := rx
  obtain rfl := hcv _ rt
  obtain ⟨hget, _⟩ := I.pin (a, oe) (List.mem_append.mpr (.inl List.mem_cons_self))
  obtain ⟨vs, hv⟩ := hf
  have ob : ObjOk X.prog X.w H s.heap dd (.xd fs) := I.hok dd _ ed
  obtain ⟨mA, ⟨od, es, ep, ho, hr2⟩, hr⟩ := ob
  have J : PySem.W.InstAt s.heap a oe D (some od) := ⟨hget, hz.1, by unfold PySem.W.notCls; rw [hv] <;> rfl, by rw [hz.2]; exact ho⟩
  have hcl : (PySem.W.clsIn X.K D).isSome = true := by
    obtain ⟨cd, hc, _⟩ := PySem.W.any_some C.hd
    rw [hc]
    rfl
  exact PySem.W.kia_one (PySem.W.kitx_exc hcl C.hg C.hk C.hs C.ha C.hn C.ht C.hm) I.kIn J e (fun z => nomatch z) fun tk => ⟨.bl b, H, I.kept (t' := tk) fun _ _ z => z, rfl, q⟩
end TKE
set_option maxHeartbeats 2000000
set_option pp.maxSteps 300
/-! What the heap behind the top says of such classes: a check, what it gives, a hook with their __init__. -/
namespace TKE
open PySem PySem.Spec PyProof.Rows L2 NdefX TK
open He (ga ma)
def clsB (K : PySem.W.Frag) (C : Addr) : Bool := match K.lookup C with
  | some ⟨.type "type", _, .cls cd, sl⟩ => (match cd.mro, sl.toList with
    | .ref C' :: bm, [_, _, _, _, some (.builtin n), _] => C' == C && (n == "ValueError.__new__" && (!cd.hasDel && (cd.hasDict && PySem.HandSPX.refsVE bm)))
    | _, _ => false)
  | _ => false
theorem clsB_ok {K : PySem.W.Frag} {C : Addr} (q : clsB K C = true) : ∃ nm q N bs bm sn sub ab col dd k0 k1 k2 k3 k5, K.lookup C = some (excClassObj nm q C N bs bm true sn sub ab col dd k0 k1 k2 k3 k5 "ValueError.__new__") ∧ PySem.HandSPX.refsVE bm = true := by
  unfold clsB at q
  split at q
  · rename_i dd cd sl ho
    split at q
    · rename_i C' bm k0 k1 k2 k3 n k5 hm hs
      simp only [Bool.and_eq_true, beq_iff_eq, Bool.not_eq_true'] at q
      obtain ⟨rfl, rfl, hdel, hd, ht⟩ := q
      obtain ⟨nm, bs, mro, ns, qn, hd', sn, sub, ab, col, del⟩ := cd
      dsimp only at hm hdel hd
      subst hm hdel hd
      have hsl : sl = #[k0, k1, k2, k3, some (.builtin "ValueError.__new__"), k5] := by
        obtain ⟨l⟩ := sl
        simp only at hs
        rw [hs]
      subst hsl
      exact ⟨nm, qn, ns, bs, bm, sn, sub, ab, col, dd, k0, k1, k2, k3, k5, ho, ht⟩
    · cases q
  · cases q
def cellB (K : PySem.W.Frag) (cc C : Addr) : Bool := match K.lookup cc with
  | some ⟨_, _, .cell (some (.ref C')), _⟩ => C' == C
  | _ => false
theorem cellB_ok {K : PySem.W.Frag} {cc C : Addr} (q : cellB K cc C = true) : ∃ cl cld csl, K.lookup cc = some ⟨cl, cld, .cell (some (.ref C)), csl⟩ := by
  unfold cellB at q
  split at q
  · rename_i cl cld C' csl ho
    obtain rfl := beq_iff_eq.mp q
    exact ⟨_, _, _, ho⟩
  · cases q
def fileB (K : PySem.W.Frag) (cda : Addr) (file : Str) : Bool := match K.lookup cda with
  | some ⟨_, _, .fields vs, _⟩ => (match (vs[2]? : Option Value) with
    | some (Value.str f _) => file == f
    | _ => false)
  | _ => false
theorem fileB_ok {K : PySem.W.Frag} {cda : Addr} {file : Str} (q : fileB K cda file = true) : ∃ ccl cdd vs ccs f tf, K.lookup cda = some ⟨ccl, cdd, .fields vs, ccs⟩ ∧ vs[2]? = some (.str f tf) ∧ (file == f) = true := by
  unfold fileB at q
  split at q
  · rename_i cl cld vs csl ho
    split at q
    · rename_i f tf hv
      exact ⟨_, _, _, _, _, _, ho, hv, q⟩
    · cases q
  · cases q
def fnB (K : PySem.W.Frag) (f C : Addr) (qual file : Str) : Bool := match K.lookup f with
  | some ⟨_, _, .func fd, _⟩ => (match fd.closure, fd.code, fd.defaults, fd.kwdefaults with
    | [(n, cc)], .ref cda, .none, .none => n == "__class__" && (PySem.W.codeIn K (.ref cda) qual && (cellB K cc C && fileB K cda file))
    | _, _, _, _ => false)
  | _ => false
def fnC (K : PySem.W.Frag) (p : Str × Option Str) : He.FnW := match K.lookup (He.fAd K p) with
  | some ⟨_, _, .func fd, _⟩ => some (fd.name, fd.qualname, fd.params, fd.body, fd.scope, fd.globals, [], fd.builtins)
  | _ => none
theorem fnB_ok {K : PySem.W.Frag} {p : Str × Option Str} {C : Addr} {nm qual file : Str} {params : Arguments} {body : List Stmt} {scope : Scope} (e : fnC K p = He.DefD.val ⟨p, nm, qual, params, body, scope, [], []⟩) (q : fnB K (He.fAd K p) C qual file = true) :
    ∃ cda cc oc od doc pm an ct osl, K.lookup (He.fAd K p) = some ⟨oc, od, .func (PySem.W.fnX nm qual params body scope [("__class__", cc)] .none .none doc pm an (.ref cda) ct), osl⟩ ∧ PySem.W.codeIn K (.ref cda) qual = true ∧ cellB K cc C = true ∧ fileB K cda file = true := by
  unfold fnB at q
  unfold fnC at e
  split at q
  · rename_i oc od fd osl ho
    rw [ho] at e
    split at q
    · rename_i n cc cda h1 h2 h3 h4
      simp only [Bool.and_eq_true, beq_iff_eq] at q
      obtain ⟨rfl, q1, q2, q3⟩ := q
      obtain ⟨n1, n2, n3, n4, n5, n6, n7, n8, n9, n10, n11, n12, n13, n14, n15⟩ := fd
      dsimp only at h1 h2 h3 h4
      subst h1 h2 h3 h4
      have e2 : (some (n1, n2, n3, n4, n5, n6, [], n15) : He.FnW) = some (nm, qual, params, .stmts body, scope, mainGlobals, [], builtinsNs) := e
      simp only [Option.some.injEq, Prod.mk.injEq] at e2
      obtain ⟨h1, h2, h3, h4, h5, h6, h7, h8⟩ := e2
      subst h1 h2 h3 h4 h5 h6 h8
      exact ⟨cda, cc, oc, od, _, _, _, _, osl, ho, q1, q2, q3⟩
    · cases q
  · cases q
/-- the class named x, its field fld, its __init__'s qualified name, the text's file -/
def excB (K : PySem.W.Frag) (x fld qual file : Str) : List Bool := [clsB K (ga K x),
  decide (PySem.W.findIn K (.ref (ga K x)) "__setattr__" = some (some (.builtin "object.__setattr__"))), decide (PySem.W.subIn K (.ref (ga K x)) (.type "BaseException") = some true), decide (PySem.W.typeIn K (.ref (ga K x)) = some (.type "type")), PySem.W.keepIn K (.ref (ga K x)),
  decide (PySem.W.findIn K (.ref (ga K x)) "__init__" = some (some (.ref (ma K (ga K x) "__init__")))), decide (PySem.W.typeIn K (.ref (ma K (ga K x) "__init__")) = some (.type "function")), decide (PySem.W.ks_superIn K (ga K x) (ga K x) "__init__" = some (some (.builtin "ValueError.__init__"))),
  decide (PySem.W.subIn K (.ref (ga K x)) (.type "ValueError") = some true), decide (PySem.W.mroIn K (ga K x) (.ref (ga K x)) = some true), decide (PySem.W.nsIn K cStatics "thirdparty.any" = some none),
  fnB K (ma K (ga K x) "__init__") (ga K x) qual file, decide (PySem.W.findIn K (.ref (ga K x)) fld = some none),
  decide (PySem.W.findIn K (.ref (ga K x)) "__getattribute__" = some (some (.builtin "BaseException.__getattribute__"))), decide (PySem.W.findIn K (.ref (ga K x)) "__getattr__" = some none), PySem.W.hasDictIn K (ga K x),
  decide (PySem.W.findIn K (.ref (ga K x)) "__class__" = some (some (.builtin "object.__class__"))), decide (PySem.W.specialIn K (.builtin "object.__class__") "__get__" = some (some (.builtin "getset_descriptor.__get__"))),
  decide (PySem.W.takesIn K (.builtin "object.__class__") = some true), decide (PySem.W.mroIn K (ga K x) (.type "object") = some true)]
def excAll (K : PySem.W.Frag) (x fld qual file : Str) : Bool := (excB K x fld qual file).all id
structure ExTxt (K : PySem.W.Frag) (P : Program) (x fld qual : Str) (params : Arguments) (body : List Stmt) (scope : Scope) : Prop where
  ex : ∃ cda cc oc od doc pm an ct osl, SupTxt K P (ga K x) (ma K (ga K x) "__init__") cda cc ∧ K.lookup (ma K (ga K x) "__init__") = some ⟨oc, od, .func (PySem.W.fnX "__init__" qual params body scope [("__class__", cc)] .none .none doc pm an (.ref cda) ct), osl⟩ ∧ PySem.W.codeIn K (.ref cda) qual = true
  no : PySem.W.findIn K (.ref (ga K x)) fld = some none
  ec : ExcC K (ga K x)
  xf : XfC K (ga K x)
theorem exTxt_of {K : PySem.W.Frag} {P : Program} {x fld qual file : Str} {params : Arguments} {body : List Stmt} {scope : Scope} (h : excAll K x fld qual file = true) (hP : P.main.file = file)
    (e : fnC K (x, some "__init__") = He.DefD.val ⟨(x, some "__init__"), "__init__", qual, params, body, scope, [], []⟩) : ExTxt K P x fld qual params body scope := by
  have a : ∀ (i : Nat) (b : Bool), (excB K x fld qual file)[i]? = some b → b = true := fun i b hi => exAt h i hi
  obtain ⟨cda, cc, oc, od, doc, pm, an, ct, osl, hl, hcd, hcell, hfile⟩ := fnB_ok (C := ga K x) (file := file) e (a 11 _ rfl)
  have h2 := of_decide_eq_true (a 2 _ rfl)
  have h13 := of_decide_eq_true (a 13 _ rfl)
  have h14 := of_decide_eq_true (a 14 _ rfl)
  have oex : OexC K (ga K x) := ⟨clsB_ok (a 0 _ rfl), of_decide_eq_true (a 1 _ rfl), h2, of_decide_eq_true (a 3 _ rfl), a 4 _ rfl⟩
  refine ⟨⟨cda, cc, oc, od, doc, pm, an, ct, osl, ⟨oex, of_decide_eq_true (a 5 _ rfl), of_decide_eq_true (a 6 _ rfl), of_decide_eq_true (a 7 _ rfl), of_decide_eq_true (a 8 _ rfl), of_decide_eq_true (a 9 _ rfl), of_decide_eq_true (a 10 _ rfl), ?_, cellB_ok hcell⟩, hl, hcd⟩, of_decide_eq_true (a 12 _ rfl),
    ⟨h13, h14, h2, a 15 _ rfl, of_decide_eq_true (a 16 _ rfl), of_decide_eq_true (a 17 _ rfl), of_decide_eq_true (a 18 _ rfl), of_decide_eq_true (a 19 _ rfl)⟩, ⟨h13, h14, h2, a 15 _ rfl⟩⟩
  rw [hP]
  obtain ⟨ccl, cdd, vs, ccs, f, tf, z⟩ := fileB_ok hfile
  exact ⟨ccl, cdd, vs, ccs, f, tf, z⟩
/-! ### the hook -/
def asE (g : Addr → Option Obj) (n : Nat) (es : List He.DefD) : List Addr :=
  He.asD g n ++ (cStatics :: es.flatMap fun d => match (He.frG g (He.asD g n)).lookup (He.fAd (He.frG g (He.asD g n)) d.at_) with
    | some ⟨_, _, .func fd, _⟩ => fd.closure.map (·.2)
    | _ => [])
abbrev AlE : Type := He.AlD × List He.FnW
def obsE (n : Nat) (fa : List He.Fa) (fn : List He.DefD) (ex : PySem.W.Frag → List Bool) (es : List He.DefD) (g : Addr → Option Obj) : AlE :=
  let K := He.frG g (asE g n es)
  (((He.obsD fa fn K).1 && (ex K).all id, (He.obsD fa fn K).2), es.map fun d => fnC K d.at_)
def hookE (n : Nat) (fa : List He.Fa) (fn : List He.DefD) (ex : PySem.W.Frag → List Bool) (es : List He.DefD) : PySem.W.Hook where
  α := AlE
  obs s := obsE n fa fn ex es s.heap.get?
  val _ := (He.valD fn, es.map He.DefD.val)
  says _ h := ∃ K : PySem.W.Frag, K.In h ∧ He.SaysD fa fn K ∧ (ex K).all id = true ∧ es.map (fun d => fnC K d.at_) = es.map He.DefD.val
  of _ _ e := by
    have e0 := congrArg (fun z : AlE => z.1) e
    have e1 := congrArg (fun z : He.AlD => z.1) e0
    have e2 := congrArg (fun z : He.AlD => z.2) e0
    have e3 := congrArg (fun z : AlE => z.2) e
    obtain ⟨a, b⟩ := Bool.and_eq_true_iff.mp e1
    exact ⟨_, He.frG_in, Prod.ext a e2, b, e3⟩
  keeps _ _ _ c k := let ⟨K, hK, c⟩ := c; ⟨K, PySem.W.Frag.In.keeps hK k, c⟩
theorem obsE_eq {n : Nat} {fa : List He.Fa} {fn : List He.DefD} {ex : PySem.W.Frag → List Bool} {es : List He.DefD} {g : Addr → Option Obj} {s : Shared} (h : ∀ a, g a = s.heap.get? a) : obsE n fa fn ex es g = (hookE n fa fn ex es).obs s := by
  obtain rfl : g = s.heap.get? := funext h
  rfl
theorem fnC_at {K : PySem.W.Frag} {es : List He.DefD} (h : es.map (fun d => fnC K d.at_) = es.map He.DefD.val) (i : Nat) {d : He.DefD} (hd : es[i]? = some d) : fnC K d.at_ = d.val := by
  have e2 : (es.map fun d => fnC K d.at_)[i]? = (es.map He.DefD.val)[i]? := by rw [h]
  rw [List.getElem?_map, List.getElem?_map, hd] at e2
  exact Option.some.inj e2
end TKE
set_option maxHeartbeats 2000000
set_option pp.maxSteps 300
/-! Texts with such classes: the pieces that the generated terms name. -/
namespace TKE
open PySem PySem.Spec PyProof.Rows L2 NdefX TK
def isS : V → Prop := fun y => ∃ z : Str, y = .str z ∧ z.length ≤ 1000
def isI : V → Prop := fun y => ∃ z : Int, y = .int z ∧ z.natAbs.log2 < 1920 ∧ (toString z : Str).length ≤ 1000
theorem ex_l1 {z : Str} (hz : z.length ≤ 1000) : z.length ≤ sizeLine := Nat.le_trans hz (by decide)
theorem ex_l2 {p z : Str} (hp : p.length ≤ 200) (hz : z.length ≤ 1000) : (p ++ z).length ≤ sizeLine := by
  rw [cat_len, sizeLine_eq]
  omega
theorem ex_l3 {p z q : Str} (hp : p.length ≤ 200) (hq : q.length ≤ 200) (hz : z.length ≤ 1000) : (p ++ z ++ q).length ≤ sizeLine := by
  rw [cat_len, cat_len, sizeLine_eq]
  omega
theorem pg_tupK {X : Cx} (K : PySem.W.Frag) (e : X.K = K) {es : List Expr} {k : Nat} {t : TGs} {n : Nat} {pos : Pos} (hc : X.calm = true) (h : PGs X es t)
    (hn : (assignEach es X.env).length = n := by rfl) (hst : (assignEach es X.env).findIdx? (·.1) = none := by rfl) : PG X (.Tuple es k pos) (gTup K n t) := by
  subst e
  exact pg_tup hc h hn hst
def rTupOf (K : PySem.W.Frag) : List V → Hp → VK → Prop := fun xs H Q => ∃ p ys, xs = [.ref p] ∧ ((SqL K H p ys ∧ ∀ l, H l = none → Q (.ref l) (upd H l (.tup ys))) ∨ (SqT K H p ys ∧ Q (.ref p) H))
theorem tupOfK {X : Cx} (K : PySem.W.Frag) (e : X.K = K) : CallR X (.type "tuple") (rTupOf K) := by
  subst e
  exact call_tuple_of
section
variable {P : Program} {w : World} {K : PySem.W.Frag} {mg : Str → Option Value} {base : Heap}
theorem makX_of {x qual : Str} {C f : Addr} {params : Arguments} {body : List Stmt} {scope : Scope} {fd : FuncData} {ps : List Str} {k n : Nat} {sp : Sp} (M : Mk K C f) (hm : mg x = some (.ref C)) (F : FunD K "__init__" qual params body scope [] [] f fd) (G : FnOk P w K mg base (L2.CX P w) k f fd ps sp) (hn : ps.length = n + 1)
    (h : ∀ (kV doc pm : Value) (an : Option Addr) (cdv ct : Value) (us : List Value), us.length = ps.length → bindArgs (PySem.W.fnOf "__init__" qual params body scope .none kV doc pm an cdv ct) ⟨us, []⟩ = pure (ps.zip us)) : MakX P w K mg base k x C sp n [] (fun vs _ => vs) :=
  ⟨f, fd, ps, fun us _ => us, M, G, hm, ⟨fun s us ws _ h1 _ => F.bindsA h s us (h1.trans hn.symm), fun r _ => r⟩⟩
end
end TKE
set_option maxHeartbeats 1000000
/-! xs.count(k) of a list of texts. -/
namespace TK
open PySem PySem.Spec PyProof.Rows L2 SX
def rCntS (K : PySem.W.Frag) : V → List V → Hp → VK → Prop := fun x xs H Q => ∃ (p : Addr) (ns : List Str) (k : Str), x = .ref p ∧ xs = [.str k] ∧ SqL K H p (ns.map V.str) ∧ Q (.int (ns.count k : Nat)) H
theorem flat_strs : ∀ ns : List Str, (ns.map V.str).all flatV = true
  | [] => rfl
  | _ :: r => by
    rw [List.map_cons, List.all_cons, flat_strs r]
    rfl
theorem count_eqU {k : Str} : ∀ {ns : List Str} {us : List Value}, Vals (ns.map V.str) us → us.countP (eqU (.str k)) = ns.count k
  | [], _, .nil => rfl
  | z :: ns, u :: us, .cons r t => by
    have e : eqU (.str k) u = (z == k) := by
      rw [eqU_of r rfl]
      rfl
    rw [List.countP_cons, count_eqU t, List.count_cons, e]
theorem mt_lcountS {X : Cx} : MtR X "list.count" (rCntS X.K) := by
  intro pins s σ H x xs v us Q I rx rxs h
  obtain ⟨p, ns, k, rfl, rfl, hs, q⟩ := h
  cases rx
  obtain ⟨u, rfl, ru⟩ := rxs.one
  obtain ⟨its, rv, ⟨⟨cls, dd, data, sl⟩, n, ho, hc, hdn, hd⟩, hlen⟩ := I.list hs
  simp only at hc hd
  subst hc hd
  refine call_meets PySem.F.slot_list_count ⟨_, ho, rfl⟩ PySem.F.entry_list_count (PySem.F.args_list_count_2 _ _)
    (SeqAt.list_countAt p its.toArray n dd sl u (eqU (.str k))) ⟨ho, fun y hy => mem_eqAt ru rfl rv (flat_strs ns) y (by simpa using hy), ?_⟩
  have ec : its.toArray.toList.countP (eqU (.str k)) = ns.count k := count_eqU rv
  refine ⟨.int (ns.count k : Nat), H, I.tok _, ⟨s.toks, ?_⟩, q⟩
  show Value.int ((its.toArray.toList.countP (eqU (.str k)) : Nat) : Int) s.toks = Value.int ((ns.count k : Nat) : Int) s.toks
  rw [ec]
theorem lcountK {X : Cx} (K : PySem.W.Frag) (e : X.K = K) : MtR X "list.count" (rCntS K) := by
  subst e
  exact mt_lcountS
theorem nodup_count : ∀ {l : List Str}, l.Nodup ↔ ∀ z ∈ l, l.count z ≤ 1
  | [] => by simp
  | a :: r => by
    rw [List.nodup_cons, nodup_count (l := r)]
    constructor
    · rintro ⟨h1, h2⟩ z hz
      rw [List.count_cons]
      by_cases e : a = z
      · subst e
        rw [List.count_eq_zero.mpr h1]
        simp
      · rw [if_neg (by simpa using e)]
        rcases List.mem_cons.mp hz with q | q
        · exact absurd q.symm e
        · exact h2 z q
    · intro h
      refine ⟨fun ha => ?_, fun z hz => ?_⟩
      · have q := h a (List.mem_cons_self ..)
        rw [List.count_cons, if_pos (by simp)] at q
        have := List.count_pos_iff.mpr ha
        omega
      · have q := h z (List.mem_cons_of_mem _ hz)
        rw [List.count_cons] at q
        omega
end TK
set_option maxHeartbeats 1000000
namespace K14
open PySem PySem.Spec PyProof.Rows L2 SX TK NdefX
open C8 (pe_c)
def top (i : Nat) : Stmt := PySem.Challenge.pw_trunkland_k14_settings.main.body.getD i (.Pass ⟨0, 0, 0, 0⟩)
abbrev s_wall : Stmt := top 0
abbrev s_is_name : Stmt := top 8
abbrev s_consists_of : Stmt := top 9
abbrev s_Config___init : Stmt := inClass (top 12) 0
abbrev s_judged : Stmt := top 13
abbrev s_are_names : Stmt := top 14
abbrev s_Tariff___init : Stmt := inClass (top 19) 0
abbrev s_Tariff_units : Stmt := inClass (top 19) 1
abbrev s_Tariff_cost : Stmt := inClass (top 19) 2
abbrev s_is_unit : Stmt := top 20
abbrev s_is_price : Stmt := top 21
abbrev s_are_bands : Stmt := top 22
abbrev s_law_state : Stmt := top 24
abbrev s_law_draw : Stmt := top 25
abbrev s_law_pick : Stmt := top 26
abbrev s_law_names : Stmt := top 27
abbrev s_law_value : Stmt := top 28
abbrev s_law_is_name : Stmt := top 29
abbrev s_law_names_right : Stmt := top 30
abbrev s_law_due : Stmt := top 31
abbrev s_law : Stmt := top 32
abbrev si_ConfigError : Stmt := inClass (top 3) 0
theorem sc_wall : FnScope ["k"] ["k"] (defScope s_wall) := ⟨rfl, rfl, rfl, by decide +kernel, rfl, by decide +kernel, by decide +kernel⟩
theorem sc_is_name : FnScope ["word"] ["word"] (defScope s_is_name) := ⟨rfl, rfl, rfl, by decide +kernel, rfl, by decide +kernel, by decide +kernel⟩
theorem sc_consists_of : FnScope ["word", "marks", "longest", "mark"] ["word", "marks", "longest"] (defScope s_consists_of) := ⟨rfl, rfl, rfl, by decide +kernel, rfl, by decide +kernel, by decide +kernel⟩
theorem sc_Config___init : FnScope ["self", "host", "users", "stations", "tariff", "first", "patience", "check", "longest", "most_calls", "save", "setting", "is_right"] ["self", "host", "users", "stations", "tariff", "first", "patience", "check", "longest", "most_calls", "save"] (defScope s_Config___init) := ⟨rfl, rfl, rfl, by decide +kernel, rfl, by decide +kernel, by decide +kernel⟩
theorem sc_judged : FnScope ["config"] ["config"] (defScope s_judged) := ⟨rfl, rfl, rfl, by decide +kernel, rfl, by decide +kernel, by decide +kernel⟩
theorem sc_are_names : FnScope ["words", "word"] ["words"] (defScope s_are_names) := ⟨rfl, rfl, rfl, by decide +kernel, rfl, by decide +kernel, by decide +kernel⟩
theorem sc_Tariff___init : FnScope ["self", "unit", "bands", "last", "band"] ["self", "unit", "bands", "last"] (defScope s_Tariff___init) := ⟨rfl, rfl, rfl, by decide +kernel, rfl, by decide +kernel, by decide +kernel⟩
theorem sc_Tariff_units : FnScope ["self", "span"] ["self", "span"] (defScope s_Tariff_units) := ⟨rfl, rfl, rfl, by decide +kernel, rfl, by decide +kernel, by decide +kernel⟩
theorem sc_Tariff_cost : FnScope ["self", "span"] ["self", "span"] (defScope s_Tariff_cost) := ⟨rfl, rfl, rfl, by decide +kernel, rfl, by decide +kernel, by decide +kernel⟩
theorem sc_is_unit : FnScope ["number"] ["number"] (defScope s_is_unit) := ⟨rfl, rfl, rfl, by decide +kernel, rfl, by decide +kernel, by decide +kernel⟩
theorem sc_is_price : FnScope ["number"] ["number"] (defScope s_is_price) := ⟨rfl, rfl, rfl, by decide +kernel, rfl, by decide +kernel, by decide +kernel⟩
theorem sc_are_bands : FnScope ["bands", "many", "price"] ["bands"] (defScope s_are_bands) := ⟨rfl, rfl, rfl, by decide +kernel, rfl, by decide +kernel, by decide +kernel⟩
theorem sc_law_state : FnScope ["script", "seed", "cell"] ["script"] (defScope s_law_state) := ⟨rfl, rfl, rfl, by decide +kernel, rfl, by decide +kernel, by decide +kernel⟩
theorem sc_law_draw : FnScope ["state", "many", "cells", "value", "mixed"] ["state", "many"] (defScope s_law_draw) := ⟨rfl, rfl, rfl, by decide +kernel, rfl, by decide +kernel, by decide +kernel⟩
theorem sc_law_pick : FnScope ["state", "row"] ["state", "row"] (defScope s_law_pick) := ⟨rfl, rfl, rfl, by decide +kernel, rfl, by decide +kernel, by decide +kernel⟩
theorem sc_law_names : FnScope ["state", "names", "many", "first", "rows", "k"] ["state"] (defScope s_law_names) := ⟨rfl, rfl, rfl, by decide +kernel, rfl, by decide +kernel, by decide +kernel⟩
theorem sc_law_value : FnScope ["state", "most"] ["state", "most"] (defScope s_law_value) := ⟨rfl, rfl, rfl, by decide +kernel, rfl, by decide +kernel, by decide +kernel⟩
theorem sc_law_is_name : FnScope ["word", "small", "char"] ["word"] (defScope s_law_is_name) := ⟨rfl, rfl, rfl, by decide +kernel, rfl, by decide +kernel, by decide +kernel⟩
theorem sc_law_names_right : FnScope ["rows", "name"] ["rows"] (defScope s_law_names_right) := ⟨rfl, rfl, rfl, by decide +kernel, rfl, by decide +kernel, by decide +kernel⟩
theorem sc_law_due : FnScope ["host", "users", "stations", "values", "names", "limits", "k"] ["host", "users", "stations", "values"] (defScope s_law_due) := ⟨rfl, rfl, rfl, by decide +kernel, rfl, by decide +kernel, by decide +kernel⟩
theorem sc_law : FnScope ["script", "state", "tariff", "k", "host", "users", "stations", "v", "due", "given", "e", "made", "fields", "plain", "most"] ["script"] (defScope s_law) := ⟨rfl, rfl, rfl, by decide +kernel, rfl, by decide +kernel, by decide +kernel⟩
structure Tx (K : PySem.W.Frag) (mg : Str → Option Value) : Prop where
  g_GREATEST_PRICE : ∃ t, mg "GREATEST_PRICE" = some (.int 10000 t)
  g_GREATEST_UNIT : ∃ t, mg "GREATEST_UNIT" = some (.int 10000 t)
  g_LONGEST_WORD : ∃ t, mg "LONGEST_WORD" = some (.int 16 t)
  g_MOST_BANDS : ∃ t, mg "MOST_BANDS" = some (.int 8 t)
  g_MOST_NAMES : ∃ t, mg "MOST_NAMES" = some (.int 8 t)
  g_NAME_MARKS : ∃ t, mg "NAME_MARKS" = some (.str "abcdefghijklmnopqrstuvwxyz0123456789" t)
  g_SMALL_LETTERS : ∃ t, mg "SMALL_LETTERS" = some (.str "abcdefghijklmnopqrstuvwxyz" t)
  f_abs : mg "abs" = none
  f_all : mg "all" = none
  f_int : mg "int" = none
  f_isinstance : mg "isinstance" = none
  f_len : mg "len" = none
  f_list : mg "list" = none
  f_range : mg "range" = none
  f_set : mg "set" = none
  f_super : mg "super" = none
  f_tuple : mg "tuple" = none
  cl_Config : Cls K (He.ga K "Config")
  na_Config_host : NoAttr K (He.ga K "Config") "host"
  na_Config_users : NoAttr K (He.ga K "Config") "users"
  na_Config_stations : NoAttr K (He.ga K "Config") "stations"
  na_Config_tariff : NoAttr K (He.ga K "Config") "tariff"
  na_Config_first : NoAttr K (He.ga K "Config") "first"
  na_Config_patience : NoAttr K (He.ga K "Config") "patience"
  na_Config_check : NoAttr K (He.ga K "Config") "check"
  na_Config_longest : NoAttr K (He.ga K "Config") "longest"
  na_Config_most_calls : NoAttr K (He.ga K "Config") "most_calls"
  na_Config_save : NoAttr K (He.ga K "Config") "save"
  cl_Tariff : Cls K (He.ga K "Tariff")
  na_Tariff_unit : NoAttr K (He.ga K "Tariff") "unit"
  na_Tariff_bands : NoAttr K (He.ga K "Tariff") "bands"
  na_Tariff_last : NoAttr K (He.ga K "Tariff") "last"
  g_TrunklandError : mg "TrunklandError" = some (.ref (He.ga K "TrunklandError"))
  g_ConfigError : mg "ConfigError" = some (.ref (He.ga K "ConfigError"))
  xf_ConfigError : XfC K (He.ga K "ConfigError")
  ec_ConfigError : ExcC K (He.ga K "ConfigError")
  no_ConfigError : PySem.W.findIn K (.ref (He.ga K "ConfigError")) "setting" = some none
  te_ConfigError_ConfigError : PySem.W.exmOne K (.ref (He.ga K "ConfigError")) (.ref (He.ga K "ConfigError")) = some true
  ki_ConfigError_TrunklandError : PySem.W.kitOne K (.ref (He.ga K "ConfigError")) (.ref (He.ga K "TrunklandError")) = some true
theorem ok_exc_ConfigError {P : Program} {w : World} {K : PySem.W.Frag} {mg : Str → Option Value} {base : Heap} (hm : mg "super" = none) (htop : (P.main.scope.names.lookup ("super" : Str)).isSome = false) (hg : mg "ConfigError" = some (.ref (He.ga K "ConfigError")))
    (T : TKE.ExTxt K P "ConfigError" "setting" "ConfigError.__init__" (defArgs si_ConfigError) (defBody si_ConfigError) (defScope si_ConfigError)) : TKE.ExcMk P w K mg base "ConfigError" (He.ga K "ConfigError") "setting" TKE.isS := by
  obtain ⟨cda, cc, oc, od, doc, pm, an, ct, osl, S, hl, hcd⟩ := T.ex
  refine ⟨_, _, ["self", "setting"], S.oex, S.iC, S.tI, TKE.fnok_sup S hl hcd (nscope_by (by decide +kernel)) rfl rfl rfl rfl rfl hm htop (fun vs H Q E h => ?_) (fun A outer s H vs Q E h => ?_) (fun _ _ _ _ _ => rfl) (fun _ _ _ _ _ => rfl) (fun _ _ _ _ _ => rfl) (fun _ _ _ _ _ => rfl), .all (fun us hl => match us, hl with | [_, _], _ => rfl), hg⟩
  · obtain ⟨a, y, rfl, _⟩ := h
    rfl
  · obtain ⟨a, y, rfl, ⟨z, rfl, hz⟩, ha, k⟩ := h
    refine ⟨a, _, _, _, rfl, ha, pe_joined (PJ.cons pe_str (PJ.cons (pe_fmt (pv 1)) (PJ.cons pe_str PJ.nil))), pss_one (ps_ost (pv 0) (pv 1)), _, rfl, by decide +kernel, _, rfl, ?_⟩
    refine .inl ⟨z, rfl, TKE.ex_l1 hz, _, rfl, TKE.ex_l2 (by decide +kernel) hz, _, rfl, TKE.ex_l3 (by decide +kernel) (by decide +kernel) hz, ?_⟩
    exact ⟨ha, ⟨_, rfl, _, rfl, a, _, rfl, S.oex, T.no, .inl ⟨ha, k⟩⟩, rfl⟩
/-! ### the law's source of draws -/
def spState (K : PySem.W.Frag) : Sp := fun vs H Q _ => ∃ (a : Addr) (ns : List Int), vs = [.ref a] ∧ SqL K H a (ns.map V.int) ∧ ns.length ≤ 63 ∧ ∀ s c H', Same H H' → H s = none → H c = none → StAt H' s c → Q (.ref s) H'
theorem ok_law_state {P : Program} {w : World} {K : PySem.W.Frag} {mg : Str → Option Value} {base : Heap} {f : Addr} {fd : FuncData} (T : Tx K mg) 
    (F : FunD K "_law_state" "_law_state" (defArgs s_law_state) (defBody s_law_state) (defScope s_law_state) [] [] f fd) : FnOk P w K mg base CX0 1 f fd ["script"] (spState K) := by
  refine F.ok sc_law_state (fun vs H Q E h => ?_) (fun cdv A outer s H vs Q E hr h => ?_)
  · obtain ⟨a, ns, rfl, _⟩ := h
    rfl
  · obtain ⟨a, ns, rfl, hS, hn, k⟩ := h
    refine ⟨_, PSs.nox (pss_cons (ps_set (i := 1) sc_law_state.nd rfl (Or.inl rfl) pe_int) (pss_cons (ps_for PassesOwn.never rfl (pi_list (pv 0)) (pg_name (i := 2) sc_law_state.nd rfl (Or.inl rfl)) (pss_one (ps_set (i := 1) sc_law_state.nd rfl (Or.inl rfl) (pe_op op_mod (pe_callTy call_int1 rfl T.f_int (by decide +kernel) (pa_cons (pe_op op_add (pe_op op_mul (pv 1) pe_int) (pv 2)) pa_nil)) pe_int)))) (pss_one (ps_ret (pe_lst (pa_cons (pe_lc (own := [("cell", 2)]) (g := gName 2) rfl sc_law_state.nd (pi_list (pv 0)) (blkOk_by (own := [("cell", 2)]) (N := ["script", "seed", "cell"]) (sc := defScope s_law_state) (by decide +kernel)) (fun _ _ _ _ _ => pg_name (i := 2) sc_law_state.nd rfl (Or.inl rfl)) (fun _ _ _ _ _ => pts_nil) (fun _ _ _ _ _ => (pe_callB call_abs rfl T.f_abs (by decide +kernel) (pa_cons (pv 2) pa_nil)))) (pa_cons (pe_op op_add (pv 1) pe_int) pa_nil))))))), ?_⟩
    refine ⟨_, rfl, a, rfl, ⟨_, hS⟩, for_list (K := K) (a := a) (xs := ns.map V.int) (fun i σ H' => H' = H ∧ ∃ (n : Int) (v : Option V), σ = [some (.ref a), some (.int n), v]) ⟨rfl, 7, none, rfl⟩ (fun i σ H' _ q => q.1 ▸ hS) ?_ ?_⟩
    · rintro i y σ H' hi ⟨rfl, n, v, rfl⟩
      obtain ⟨z, rfl⟩ : ∃ z, y = V.int z := by
        obtain ⟨z, _, e⟩ := List.mem_map.mp (List.mem_of_getElem? hi)
        exact ⟨z, e.symm⟩
      refine ⟨_, rfl, _, _, rfl, rfl, .inr ⟨by decide, by decide⟩, _, rfl, _, _, rfl, rfl, .inl ⟨_, rfl, _, _, rfl, rfl, (by show (0 : Int) < 1000003; decide), rfl, _, _, rfl⟩⟩
    · rintro σ H' ⟨rfl, n, v, rfl⟩
      refine ⟨_, rfl, a, rfl, ⟨_, hS⟩, fun D hD => ?_⟩
      have hS2 : ∀ o, SqL K (upd H' D o) a (ns.map V.int) := fun o => (same_upd hD).seq hS
      refine lc_pureN walk_list (fun i => V.int (if ns.getD i 0 < 0 then -(ns.getD i 0) else ns.getD i 0)) (by rw [List.length_map]; exact Nat.le_trans hn (by decide)) (fun _ _ => hS2 _) (fun i x H1 kk hi y q => ?_) ?_
      · obtain ⟨rfl, hx⟩ := y
        refine ⟨rfl, _, rfl, ns.getD i 0, ?_, q⟩
        rw [List.getElem?_map] at hx
        rw [List.length_map] at hi
        rw [List.getElem?_eq_getElem hi] at hx
        rw [List.getD_eq_getElem?_getD, List.getElem?_eq_getElem hi]
        exact congrArg (fun v => [v]) (Option.some.inj hx).symm
      · refine ⟨_, rfl, _, _, rfl, rfl, by show 2 ≤ sizeLine; decide, fun p hp => ?_⟩
        have npD : p ≠ D := fun e => by
          rw [e, upd_same] at hp
          cases hp
        have hp0 : H' p = none := by
          rw [upd_ne npD] at hp
          exact hp
        refine k p D _ ((same_upd hD).trans (same_upd hp)) hp0 hD ⟨npD, ⟨_, upd_same⟩, ns.map (fun i => if i < 0 then -i else i), ?_, ?_⟩
        · rw [upd_ne npD.symm, upd_same, List.length_map, List.map_map]
          exact congrArg (fun l => some (HO.lst l)) (range_map_getD ns 0 fun i => V.int (if i < 0 then -i else i))
        · rw [List.length_map]
          exact hn
def spDraw : Sp := fun vs H Q _ => ∃ (s c : Addr) (m : Int), vs = [.ref s, .int m] ∧ StAt H s c ∧ 0 < m ∧ m < 1073741824 ∧ ∀ r H', 0 ≤ r → r < m → StAt H' s c → Keep H H' s c → Q (.int r) H'
theorem ok_law_draw {P : Program} {w : World} {K : PySem.W.Frag} {mg : Str → Option Value} {base : Heap} {f : Addr} {fd : FuncData} (T : Tx K mg) 
    (F : FunD K "_law_draw" "_law_draw" (defArgs s_law_draw) (defBody s_law_draw) (defScope s_law_draw) [] [] f fd) : FnOk P w K mg base CX0 1 f fd ["state", "many"] spDraw := by
  refine F.ok sc_law_draw (fun vs H Q E h => ?_) (fun cdv A outer s0 H vs Q E hr h => ?_)
  · obtain ⟨s, c, m, rfl, _⟩ := h
    rfl
  · obtain ⟨s, c, m, rfl, ⟨ne, ⟨n, h1⟩, ns, h2, h3⟩, hm0, hm1, k⟩ := h
    refine ⟨_, PSs.nox (pss_cons (ps_set (i := 2) sc_law_draw.nd rfl (Or.inl rfl) (pe_ix ix_list (pv 0) pe_int (fun _ _ => rfl))) (C8.pss_cut (ps_while PassesOwn.never (PW.pt (pw_and (pt_cmpR op_gt (pe_callB call_len_seq rfl T.f_len PySem.boot_len (pa_cons (pv 2) pa_nil)) pe_int (nomark _)) (pw_and1 (pt_cmpR op_eq (pe_ix ix_list (pv 2) pe_int (fun _ _ => rfl)) pe_int (nomark _))))) (pss_one (ps_expr (pe_bm PySem.F.plainAttrs_list PySem.F.slot_list_pop PySem.F.type_list_pop mt_popAt (pv 2) (pa_cons pe_int pa_nil))))) (C8.pss_cut (ps_if (pt_cmpR op_gt (pe_callB call_len_seq rfl T.f_len PySem.boot_len (pa_cons (pv 2) pa_nil)) pe_int (nomark _)) (pss_cons (ps_set (i := 3) sc_law_draw.nd rfl (Or.inl rfl) (pe_ix ix_list (pv 2) pe_int (fun _ _ => rfl))) (pss_cons (ps_asg (pe_op op_fdiv (pv 3) (pv 1)) (pg_sub (pv 2) pe_int set_list)) (pss_one (ps_ret (pe_op op_mod (pe_callTy call_int1 rfl T.f_int (by decide +kernel) (pa_cons (pv 3) pa_nil)) (pv 1)))))) pss_nil) (pss_cons (ps_set (i := 4) sc_law_draw.nd rfl (Or.inl rfl) (pe_op op_mod (pe_callTy call_int1 rfl T.f_int (by decide +kernel) (pa_cons (pe_op op_add (pe_op op_mul (pe_ix ix_list (pv 0) pe_int (fun _ _ => rfl)) pe_int) pe_int) pa_nil)) pe_int)) (pss_cons (ps_asg (pv 4) (pg_sub (pv 0) pe_int set_list)) (pss_one (ps_ret (pe_op op_mod (pe_callTy call_int1 rfl T.f_int (by decide +kernel) (pa_cons (pe_op op_fdiv (pv 4) pe_int) pa_nil)) (pv 1))))))))), ?_⟩
    refine ⟨_, rfl, s, _, 0, _, rfl, rfl, SqL.of h1, rfl, ?_⟩
    let I : L2.St → Hp → List Int → Prop := fun σ H' ns' => σ = [some (.ref s), some (.int m), some (.ref c), none, none] ∧ H' s = some (.lst [.ref c, .int n]) ∧ Keep H H' s c ∧ H' c = some (.lst (ns'.map V.int)) ∧ ns'.length ≤ 63
    refine ⟨fun σ H' => ∃ ns', I σ H' ns', ?_, ?_⟩
    · refine ⟨fun l σ H' => ∃ ns', l = ns'.length ∧ I σ H' ns', ⟨ns.length, ns, rfl, rfl, h1, Keep.refl _ _ _, h2, h3⟩, ?_⟩
      rintro l σ H' ⟨ns', rfl, rfl, g1, kp, g2, g3⟩
      refine ⟨_, rfl, c, _, rfl, .inl (SqL.of g2), _, _, rfl, rfl, _, rfl, ?_⟩
      cases ns' with
      | nil => exact iteF (iteF ⟨[], rfl, g1, kp, g2, g3⟩)
      | cons v r =>
        rw [List.length_map, decide_eq_true (by rw [List.length_cons]; omega)]
        refine iteT ?_
        refine ⟨_, rfl, c, _, 0, V.int v, rfl, rfl, SqL.of g2, atC _ _, rfl, _, rfl, ?_⟩
        refine ite2 (fun h5 => ?_) (fun h5 => ⟨v :: r, rfl, g1, kp, g2, g3⟩)
        refine ⟨fun σ' H2 => ∃ l, l < (v :: r).length ∧ ∃ ns', l = ns'.length ∧ I σ' H2 ns', fun _ _ q => q, ?_⟩
        refine ⟨_, rfl, .inl ⟨rfl, _, SqL.of g2⟩, c, _, 0, 0, V.int v, rfl, rfl, g2, by decide, by decide, sqC _ _, rfl, ?_⟩
        refine ⟨r.length, Nat.lt_succ_self _, r, rfl, rfl, ?_, fun b o e q1 q2 => ?_, upd_same, Nat.le_of_succ_le g3⟩
        · rw [upd_ne ne]
          exact g1
        · rw [upd_ne q2]
          exact kp b o e q1 q2
    · rintro σ H' ⟨ns', rfl, g1, kp, g2, g3⟩
      refine ⟨fun σ' H2 => σ' = [some (.ref s), some (.int m), some (.ref c), none, none] ∧ H2 = H', ?_, ?_⟩
      · refine ⟨_, rfl, c, _, rfl, .inl (SqL.of g2), _, _, rfl, rfl, _, rfl, ?_⟩
        cases ns' with
        | nil => exact iteF ⟨rfl, rfl⟩
        | cons v r =>
          rw [List.length_map, decide_eq_true (by rw [List.length_cons]; omega)]
          refine iteT ?_
          refine ⟨_, rfl, c, _, 0, V.int v, rfl, rfl, SqL.of g2, atC _ _, ?_⟩
          refine ⟨_, rfl, _, rfl, _, _, rfl, rfl, ⟨hm0, hm1⟩, _, rfl, c, _, 0, 0, rfl, rfl, g2, ixC _ _, ?_⟩
          refine ⟨_, rfl, .inl ⟨_, rfl, _, rfl, _, _, rfl, rfl, hm0, ?_⟩⟩
          refine k _ _ (Int.emod_nonneg _ (by omega)) (Int.emod_lt_of_pos _ hm0) ⟨ne, ⟨n, ?_⟩, (v / m) :: r, upd_same, g3⟩ (fun b o e q1 q2 => ?_)
          · rw [upd_ne ne]
            exact g1
          · rw [upd_ne q2]
            exact kp b o e q1 q2
      · rintro σ' H2 ⟨rfl, rfl⟩
        refine ⟨_, rfl, s, _, 1, _, rfl, rfl, SqL.of g1, rfl, _, _, rfl, rfl, .inr ⟨by decide, by decide⟩, _, _, rfl, rfl, .inl ⟨_, rfl, _, _, rfl, rfl, (by show (0 : Int) < 2147483647; decide), ?_⟩⟩
        refine ⟨_, rfl, _, rfl, s, _, 1, 1, rfl, rfl, g1, rfl, ?_⟩
        refine ⟨_, rfl, _, _, rfl, rfl, ⟨by decide, by decide⟩, .inl ⟨_, rfl, _, rfl, _, _, rfl, rfl, hm0, ?_⟩⟩
        refine k _ _ (Int.emod_nonneg _ (by omega)) (Int.emod_lt_of_pos _ hm0) ⟨ne, ⟨_, upd_same⟩, ns', ?_, g3⟩ (fun b o e q1 q2 => ?_)
        · rw [upd_ne ne.symm]
          exact g2
        · rw [upd_ne q1]
          exact kp b o e q1 q2
/-- of a text: one of its signs; of a list: one of its items -/
def spPick : Sp := fun vs H Q _ => ∃ (s c : Addr) (x : V), vs = [.ref s, x] ∧ StAt H s c ∧
  ((∃ z : Str, x = .str z ∧ 0 < z.length ∧ z.length ≤ 1000 ∧ ∀ ch H', ch ∈ TL.tl z → StAt H' s c → Keep H H' s c → Q (.str (S [ch])) H') ∨
   (∃ a xs, x = .ref a ∧ H a = some (.lst xs) ∧ a ≠ s ∧ a ≠ c ∧ 0 < xs.length ∧ xs.length ≤ 1000 ∧ ∀ v ∈ xs, ∀ H', StAt H' s c → Keep H H' s c → Q v H'))
theorem ok_law_pick {P : Program} {w : World} {K : PySem.W.Frag} {mg : Str → Option Value} {base : Heap} {f : Addr} {fd : FuncData} (T : Tx K mg) (c_law_draw : C8.Cal P w K mg base 1 "_law_draw" spDraw [])
    (F : FunD K "_law_pick" "_law_pick" (defArgs s_law_pick) (defBody s_law_pick) (defScope s_law_pick) [] [] f fd) : FnOk P w K mg base CX0 2 f fd ["state", "row"] spPick := by
  refine F.ok sc_law_pick (fun vs H Q E h => ?_) (fun cdv A outer s0 H vs Q E hr h => ?_)
  · obtain ⟨s, c, x, rfl, _⟩ := h
    rfl
  · obtain ⟨s, c, x, rfl, hst, h⟩ := h
    refine ⟨_, PSs.nox (pss_one (ps_ret (pe_ix ix_seq (pv 1) (pe_c c_law_draw hr (by decide) rfl (pa_cons (pv 0) (pa_cons (pe_callB call_len rfl T.f_len PySem.boot_len (pa_cons (pv 1) pa_nil)) pa_nil))) (fun _ _ => rfl)))), ?_⟩
    rcases h with ⟨z, rfl, z0, z1, k⟩ | ⟨a, xs, rfl, ha, as, ac, x0, x1, k⟩
    · have hz2 : z.length ≤ sizeLine := Nat.le_trans z1 (by decide)
      refine ⟨_, rfl, _, rfl, _, rfl, _, z.length, rfl, ⟨hz2, rfl⟩, s, c, _, rfl, hst, by omega, by omega, fun r H' r0 r1 st' kp' => ?_⟩
      have hl : r < ((TL.tl z).length : Nat) := by rw [← len_eq]; exact r1
      refine .inr (.inr ⟨z, r, _, rfl, rfl, hz2, atN 0 r0 hl, ?_⟩)
      refine k _ H' ?_ st' kp'
      have hl2 : r.toNat < (TL.tl z).length := by omega
      rw [List.getD_eq_getElem?_getD, List.getElem?_eq_getElem hl2]
      exact List.getElem_mem _
    · have hx2 : xs.length ≤ sizeLine := Nat.le_trans x1 (by decide)
      refine ⟨_, rfl, _, rfl, _, rfl, _, xs.length, rfl, .inl ⟨xs, SqL.of ha, rfl⟩, s, c, _, rfl, hst, by omega, by omega, fun r H' r0 r1 st' kp' => ?_⟩
      refine .inl ⟨a, xs, r, _, rfl, rfl, SqL.of (kp' a _ ha as ac), atN .non r0 r1, ?_⟩
      refine k _ ?_ H' st' kp'
      rw [List.getD_eq_getElem?_getD, List.getElem?_eq_getElem (by omega)]
      exact List.getElem_mem _

/-! ### what the program's defs answer -/
def consL (l m : List Nat) (n : Int) : Bool := (decide ((1 : Int) ≤ (l.length : Int)) && decide ((l.length : Int) ≤ n)) && l.all fun c => decide (c ∈ m)
def consB (z m : Str) (n : Int) : Bool := consL (TL.tl z) (TL.tl m) n
theorem consB_len {z m : Str} {n : Int} (h : consB z m n = true) : 0 < (TL.tl z).length ∧ ((TL.tl z).length : Int) ≤ n ∧ ∀ c ∈ TL.tl z, c ∈ TL.tl m := by
  unfold consB consL at h
  rw [Bool.and_eq_true, Bool.and_eq_true, decide_eq_true_eq, decide_eq_true_eq] at h
  refine ⟨by omega, h.1.2, fun c hc => ?_⟩
  exact of_decide_eq_true (List.all_eq_true.mp h.2 c hc)
def spCons : Sp := fun vs H Q _ => ∃ (z m : Str) (n : Int), vs = [.str z, .str m, .int n] ∧ z.length ≤ 1000 ∧ ∀ H', Same H H' → Q (.bl (consB z m n)) H'
theorem ok_consists_of {P : Program} {w : World} {K : PySem.W.Frag} {mg : Str → Option Value} {base : Heap} {f : Addr} {fd : FuncData} (T : Tx K mg) 
    (F : FunD K "_consists_of" "_consists_of" (defArgs s_consists_of) (defBody s_consists_of) (defScope s_consists_of) [] [] f fd) : FnOk P w K mg base CX0 1 f fd ["word", "marks", "longest"] spCons := by
  refine F.ok sc_consists_of (fun vs H Q E h => ?_) (fun cdv A outer s H vs Q E hr h => ?_)
  · obtain ⟨z, m, n, rfl, _⟩ := h
    rfl
  · obtain ⟨z, m, n, rfl, hz, k⟩ := h
    have hz2 : z.length ≤ sizeLine := Nat.le_trans hz (by decide)
    have eB : consB z m n = ((decide ((1 : Int) ≤ (z.length : Int)) && decide ((z.length : Int) ≤ n)) && (TL.tl z).all fun c => decide (c ∈ TL.tl m)) := by
      unfold consB consL
      rw [len_eq]
    refine ⟨_, PSs.nox (pss_one (ps_ret (pe_and (pe_chain op_le op_le pe_int (pe_callB call_len_str rfl T.f_len PySem.boot_len (pa_cons (pv 0) pa_nil)) (pv 2)) (pe_one (pe_callB (cr_all rfl) rfl T.f_all (by decide +kernel) (pa_cons (pe_lc (own := [("mark", 3)]) (g := gName 3) rfl sc_consists_of.nd (pi_str (pv 0)) (blkOk_by (own := [("mark", 3)]) (N := ["word", "marks", "longest", "mark"]) (sc := defScope s_consists_of) (by decide +kernel)) (fun _ _ _ _ _ => pg_name (i := 3) sc_consists_of.nd rfl (Or.inl rfl)) (fun _ _ _ _ _ => pts_nil) (fun _ _ _ _ _ => (pe_cmpR op_in_sign (pv 3) (pv 1) (by with_unfolding_all rfl)))) pa_nil)))))), ?_⟩
    refine ⟨_, rfl, _, rfl, hz2, _, _, rfl, rfl, _, rfl, ?_⟩
    refine ite2 (fun h1 => ?_) (fun h1 => ?_)
    · refine ⟨_, rfl, _, _, rfl, rfl, _, rfl, ?_⟩
      refine ite2 (fun h2 => ?_) (fun h2 => ?_)
      · refine ⟨_, rfl, _, rfl, fun D hD => ?_⟩
        have hn : z.cps.size ≤ sizeLine := by
          rw [size_tl, ← len_eq]
          exact hz2
        refine lc_pureN walk_str (fun i => V.bl (decide ((TL.tl z).getD i 0 ∈ TL.tl m))) hn (fun _ _ => trivial) (fun i x H' kk hi y q => ?_) ?_
        · obtain ⟨rfl, c, hc, rfl⟩ := y
          refine ⟨rfl, _, rfl, _, rfl, _, _, rfl, rfl, ?_⟩
          have e : (TL.tl z).getD i 0 = c := by
            have h5 : (TL.tl z)[i]? = some c := by
              show z.cps.toList[i]? = some c
              rw [Array.getElem?_toList]
              exact hc
            rw [List.getD_eq_getElem?_getD, h5]
            rfl
          rw [← e]
          exact q
        · refine ⟨D, (TL.tl z).map fun c => decide (c ∈ TL.tl m), rfl, SqL.of ?_, ?_⟩
          · rw [upd_same, size_tl, List.map_map]
            exact congrArg (fun l => some (HO.lst l)) (range_map_getD (TL.tl z) 0 fun c => V.bl (decide (c ∈ TL.tl m)))
          · have e : (List.map (fun c => decide (c ∈ TL.tl m)) (TL.tl z)).all id = consB z m n := by
              rw [eB, h1, h2, List.all_map]
              rfl
            rw [e]
            exact k _ (same_upd hD)
      · have e : consB z m n = false := by
          rw [eB, ef h2, Bool.and_false, Bool.false_and]
        have q := k H (Same.refl H)
        rw [e] at q
        exact q
    · have e : consB z m n = false := by
        rw [eB, ef h1, Bool.false_and, Bool.false_and]
      refine ⟨false, rfl, iteF ?_⟩
      have q := k H (Same.refl H)
      rw [e] at q
      exact q

/-! ### names, tags -/
abbrev zSM : Str := "abcdefghijklmnopqrstuvwxyz"
abbrev zNM : Str := "abcdefghijklmnopqrstuvwxyz0123456789"
abbrev zTM : Str := "ABCDEFGHIJKLMNOPQRSTUVWXYZabcdefghijklmnopqrstuvwxyz0123456789"
abbrev zDG : Str := "0123456789"
def nameB (z : Str) : Bool := consB z zNM 16 && decide ((TL.tl z).getD 0 0 ∈ TL.tl zSM)
def spName : Sp := fun vs H Q _ => ∃ z : Str, vs = [.str z] ∧ z.length ≤ 1000 ∧ ∀ H', Same H H' → Q (.bl (nameB z)) H'
theorem ok_is_name {P : Program} {w : World} {K : PySem.W.Frag} {mg : Str → Option Value} {base : Heap} {f : Addr} {fd : FuncData} (T : Tx K mg) (c_consists_of : C8.Cal P w K mg base 1 "_consists_of" spCons [])
    (F : FunD K "is_name" "is_name" (defArgs s_is_name) (defBody s_is_name) (defScope s_is_name) [] [] f fd) : FnOk P w K mg base CX0 2 f fd ["word"] spName := by
  refine F.ok sc_is_name (fun vs H Q E h => ?_) (fun cdv A outer s H vs Q E hr h => ?_)
  · obtain ⟨z, rfl, _⟩ := h
    rfl
  · obtain ⟨z, rfl, hz, k⟩ := h
    have hz2 : z.length ≤ sizeLine := Nat.le_trans hz (by decide)
    refine ⟨_, PSs.nox (pss_one (ps_ret (pe_and (pe_c c_consists_of hr (by decide) rfl (pa_cons (pv 0) (pa_cons (pgS T.g_NAME_MARKS) (pa_cons (pgI T.g_LONGEST_WORD) pa_nil)))) (pe_one (pe_cmpR op_in_sign (pe_ix ix_str (pv 0) pe_int (fun _ _ => rfl)) (pgS T.g_SMALL_LETTERS) (by with_unfolding_all rfl)))))), ?_⟩
    refine ⟨_, rfl, z, zNM, 16, rfl, hz, fun H1 s1 => ⟨_, rfl, ?_⟩⟩
    refine ite2 (fun h1 => ?_) (fun h1 => ?_)
    · refine ⟨_, rfl, _, 0, _, rfl, rfl, hz2, at0 0 (consB_len h1).1, _, _, rfl, rfl, ?_⟩
      have e : decide ((TL.tl z).getD 0 0 ∈ TL.tl zSM) = nameB z := by
        unfold nameB
        rw [h1, Bool.true_and]
      have q := k H1 s1
      rw [← e] at q
      exact q
    · have e : nameB z = false := by
        unfold nameB
        rw [ef h1, Bool.false_and]
      have q := k H1 s1
      rw [e] at q
      exact q

end K14
set_option maxHeartbeats 1000000
namespace K14
open PySem PySem.Spec PyProof.Rows L2 SX TK NdefX
open C8 (pe_c)
abbrev Bd : Type := Int × Int
def tupV (b : Bd) : List V := [.int b.1, .int b.2]
def TupsAt (H : Hp) : List Addr → List Bd → Prop
  | [], [] => True
  | t :: ts, b :: bs => H t = some (.tup (tupV b)) ∧ TupsAt H ts bs
  | _, _ => False
theorem TupsAt.mono {H H' : Hp} (s : ∀ x b, H x = some (.tup (tupV b)) → H' x = some (.tup (tupV b))) : ∀ {ts : List Addr} {bs : List Bd}, TupsAt H ts bs → TupsAt H' ts bs
  | [], [], _ => trivial
  | t :: ts, b :: bs, h => ⟨s _ _ h.1, TupsAt.mono s h.2⟩
  | [], _ :: _, h => h
  | _ :: _, [], h => h
theorem TupsAt.snoc {H : Hp} {t : Addr} {b : Bd} (ht : H t = some (.tup (tupV b))) : ∀ {ts : List Addr} {bs : List Bd}, TupsAt H ts bs → TupsAt H (ts ++ [t]) (bs ++ [b])
  | [], [], _ => ⟨ht, trivial⟩
  | _ :: _, _ :: _, h => ⟨h.1, TupsAt.snoc ht h.2⟩
  | [], _ :: _, h => h.elim
  | _ :: _, [], h => h.elim
theorem TupsAt.app {H : Hp} : ∀ {ts ts' : List Addr} {bs bs' : List Bd}, TupsAt H ts bs → TupsAt H ts' bs' → TupsAt H (ts ++ ts') (bs ++ bs')
  | [], _, [], _, _, h => h
  | _ :: _, _, _ :: _, _, h, h' => ⟨h.1, TupsAt.app h.2 h'⟩
  | [], _, _ :: _, _, h, _ => h.elim
  | _ :: _, _, [], _, h, _ => h.elim
theorem TupsAt.take {H : Hp} : ∀ {ts : List Addr} {bs : List Bd} (n : Nat), TupsAt H ts bs → TupsAt H (ts.take n) (bs.take n)
  | [], [], n, _ => by rw [List.take_nil, List.take_nil]; trivial
  | _ :: _, _ :: _, 0, _ => trivial
  | _ :: _, _ :: _, n + 1, h => ⟨h.1, TupsAt.take n h.2⟩
  | [], _ :: _, _, h => h.elim
  | _ :: _, [], _, h => h.elim
theorem TupsAt.drop {H : Hp} : ∀ {ts : List Addr} {bs : List Bd} (n : Nat), TupsAt H ts bs → TupsAt H (ts.drop n) (bs.drop n)
  | [], [], n, _ => by rw [List.drop_nil, List.drop_nil]; trivial
  | _ :: _, _ :: _, 0, h => h
  | _ :: _, _ :: _, n + 1, h => TupsAt.drop n h.2
  | [], _ :: _, _, h => h.elim
  | _ :: _, [], _, h => h.elim
theorem TupsAt.len {H : Hp} : ∀ {ts : List Addr} {bs : List Bd}, TupsAt H ts bs → ts.length = bs.length
  | [], [], _ => rfl
  | _ :: _, _ :: _, h => congrArg Nat.succ (TupsAt.len h.2)
  | [], _ :: _, h => h.elim
  | _ :: _, [], h => h.elim
theorem TupsAt.at_ {H : Hp} : ∀ {ts : List Addr} {bs : List Bd}, TupsAt H ts bs → ∀ (i : Nat) (x : V), (ts.map V.ref)[i]? = some x → ∃ t, x = .ref t ∧ ts[i]? = some t ∧ i < bs.length ∧ H t = some (.tup (tupV (bs.getD i (0, 0))))
  | [], [], _, i, x, h => by cases h
  | t :: _, b :: _, h, 0, x, e => ⟨t, (Option.some.inj e).symm, rfl, Nat.succ_pos _, h.1⟩
  | _ :: ts, _ :: bs, h, i + 1, x, e => by
    obtain ⟨t, e1, e2, e3, e4⟩ := TupsAt.at_ h.2 i x e
    exact ⟨t, e1, e2, Nat.succ_lt_succ e3, e4⟩
  | [], _ :: _, h, _, _, _ => h.elim
  | _ :: _, [], h, _, _, _ => h.elim
def BAt (H : Hp) (r : Addr) (bs : List Bd) : Prop := ∃ ts : List Addr, H r = some (.lst (ts.map V.ref)) ∧ TupsAt H ts bs
theorem BAt.same {H H' : Hp} {r : Addr} {bs : List Bd} (h : BAt H r bs) (s : Same H H') : BAt H' r bs := by
  obtain ⟨ts, e, t⟩ := h
  exact ⟨ts, s _ _ e, t.mono fun x b e => s _ _ e⟩
theorem BAt.keep {H H' : Hp} {r s c : Addr} {bs : List Bd} (h : BAt H r bs) (hs : StAt H s c) (k : Keep H H' s c) (h1 : r ≠ s) (h2 : r ≠ c) : BAt H' r bs := by
  obtain ⟨ts, e, t⟩ := h
  obtain ⟨_, ⟨n, hn⟩, ns, hc, _⟩ := hs
  exact ⟨ts, k _ _ e h1 h2, t.mono fun x b e => k _ _ e (ne_of e hn (by intro z; cases z)) (ne_of e hc (by intro z; cases z))⟩
def okU (i : Int) : Bool := if 1 ≤ i then decide (i ≤ 10000) else false
def okP (i : Int) : Bool := if 0 ≤ i then decide (i ≤ 10000) else false
def okD (b : Bd) : Bool := if okU b.1 = true then okP b.2 else false
def okB (bs : List Bd) : Bool := if bs.length ≤ 8 then bs.all okD else false
def spIsU : Sp := fun vs H Q _ => ∃ i : Int, vs = [.int i] ∧ Q (.bl (okU i)) H
def spIsP : Sp := fun vs H Q _ => ∃ i : Int, vs = [.int i] ∧ Q (.bl (okP i)) H
def spAreB (K : PySem.W.Frag) : Sp := fun vs H Q _ => ∃ (r : Addr) (bs : List Bd), vs = [.ref r] ∧ BAt H r bs ∧ bs.length ≤ 40 ∧ ∀ H', Same H H' → Q (.bl (okB bs)) H'
theorem ok_is_unit {P : Program} {w : World} {K : PySem.W.Frag} {mg : Str → Option Value} {base : Heap} {f : Addr} {fd : FuncData} (T : Tx K mg) 
    (F : FunD K "_is_unit" "_is_unit" (defArgs s_is_unit) (defBody s_is_unit) (defScope s_is_unit) [] [] f fd) : FnOk P w K mg base CX0 1 f fd ["number"] spIsU := by
  refine F.ok sc_is_unit (fun vs H Q E h => ?_) (fun cdv A outer s0 H vs Q E hr h => ?_)
  · obtain ⟨i, rfl, _⟩ := h
    rfl
  · obtain ⟨i, rfl, k⟩ := h
    refine ⟨_, PSs.nox (pss_one (ps_ret (pe_chain op_le op_le pe_int (pv 0) (pgI T.g_GREATEST_UNIT)))), ?_⟩
    refine ⟨_, rfl, _, _, rfl, rfl, _, rfl, ?_⟩
    unfold okU at k
    by_cases c : 1 ≤ i
    · rw [if_pos c] at k
      rw [decide_eq_true c]
      exact iteT ⟨_, _, rfl, rfl, k⟩
    · rw [if_neg c] at k
      rw [decide_eq_false c]
      exact iteF k
theorem ok_is_price {P : Program} {w : World} {K : PySem.W.Frag} {mg : Str → Option Value} {base : Heap} {f : Addr} {fd : FuncData} (T : Tx K mg) 
    (F : FunD K "_is_price" "_is_price" (defArgs s_is_price) (defBody s_is_price) (defScope s_is_price) [] [] f fd) : FnOk P w K mg base CX0 1 f fd ["number"] spIsP := by
  refine F.ok sc_is_price (fun vs H Q E h => ?_) (fun cdv A outer s0 H vs Q E hr h => ?_)
  · obtain ⟨i, rfl, _⟩ := h
    rfl
  · obtain ⟨i, rfl, k⟩ := h
    refine ⟨_, PSs.nox (pss_one (ps_ret (pe_chain op_le op_le pe_int (pv 0) (pgI T.g_GREATEST_PRICE)))), ?_⟩
    refine ⟨_, rfl, _, _, rfl, rfl, _, rfl, ?_⟩
    unfold okP at k
    by_cases c : 0 ≤ i
    · rw [if_pos c] at k
      rw [decide_eq_true c]
      exact iteT ⟨_, _, rfl, rfl, k⟩
    · rw [if_neg c] at k
      rw [decide_eq_false c]
      exact iteF k
theorem ok_are_bands {P : Program} {w : World} {K : PySem.W.Frag} {mg : Str → Option Value} {base : Heap} {f : Addr} {fd : FuncData} (T : Tx K mg) (c_is_unit : C8.Cal P w K mg base 1 "_is_unit" spIsU []) (c_is_price : C8.Cal P w K mg base 1 "_is_price" spIsP [])
    (F : FunD K "_are_bands" "_are_bands" (defArgs s_are_bands) (defBody s_are_bands) (defScope s_are_bands) [] [] f fd) : FnOk P w K mg base CX0 2 f fd ["bands"] (spAreB K) := by
  refine F.ok sc_are_bands (fun vs H Q E h => ?_) (fun cdv A outer s0 H vs Q E hr h => ?_)
  · obtain ⟨r, bs, rfl, _⟩ := h
    rfl
  · obtain ⟨r, bs, rfl, hB, hn, k⟩ := h
    refine ⟨_, PSs.nox (pss_one (ps_ret (pe_and (pe_cmpR op_le (pe_callB call_len_seq rfl T.f_len PySem.boot_len (pa_cons (pv 0) pa_nil)) (pgI T.g_MOST_BANDS) (nomark _)) (pe_one (pe_callB (cr_all rfl) rfl T.f_all (by decide +kernel) (pa_cons (pe_lc (own := [("many", 1), ("price", 2)]) rfl sc_are_bands.nd (pi_list (pv 0)) (blkOk_by (own := [("many", 1), ("price", 2)]) (N := ["bands", "many", "price"]) (sc := defScope s_are_bands) (by decide +kernel)) (fun _ _ _ _ _ => TKE.pg_tupK (n := 2) K rfl rfl (pgs_cons (pg_name (i := 1) sc_are_bands.nd rfl (Or.inl rfl)) (pgs_cons (pg_name (i := 2) sc_are_bands.nd rfl (Or.inl rfl)) pgs_nil))) (fun _ _ _ _ _ => pts_nil) (fun _ _ _ _ _ => (pe_and (pe_c c_is_unit hr (by decide) rfl (pa_cons (pv 1) pa_nil)) (pe_one (pe_c c_is_price hr (by decide) rfl (pa_cons (pv 2) pa_nil)))))) pa_nil)))))), ?_⟩
    obtain ⟨ts, e, q⟩ := hB
    refine ⟨_, rfl, r, _, rfl, .inl (SqL.of e), _, _, rfl, rfl, _, rfl, ?_⟩
    have hl := q.len
    unfold okB at k
    by_cases c : bs.length ≤ 8
    · rw [List.length_map, hl, decide_eq_true (by omega)]
      simp only [if_pos c] at k
      refine iteT ?_
      refine ⟨_, rfl, r, rfl, ⟨_, SqL.of e⟩, fun D hD => ?_⟩
      have hnm : (ts.map V.ref).length ≤ sizeLine := by rw [List.length_map, hl, sizeLine_eq]; omega
      have hR : ∀ o, SqL K (upd H D o) r (ts.map V.ref) := fun o => SqL.of ((same_upd hD) _ _ e)
      refine lc_pure walk_list (fun i => V.bl (okD (bs.getD i (0, 0)))) hnm (fun _ _ => hR _) (fun i x H1 kk hi y qq => ?_) (fun _ _ _ _ h q => h _ _ q) (fun x σ H Q Q' h z => ?_) ?_
      · obtain ⟨rfl, hx⟩ := y
        obtain ⟨t, rfl, _, _, ht⟩ := q.at_ i x hx
        refine ⟨t, _, rfl, SqT.of ((same_upd hD) _ _ ht), rfl, _, _, rfl, _, _, rfl, rfl, rfl, rfl, ?_⟩
        generalize bs.getD i (0, 0) = b at qq
        refine ⟨_, rfl, b.1, rfl, _, rfl, ?_⟩
        unfold okD at qq
        by_cases c1 : okU b.1 = true
        · rw [if_pos c1] at qq
          rw [c1]
          exact iteT ⟨_, rfl, b.2, rfl, qq⟩
        · rw [if_neg c1] at qq
          rw [ef c1]
          exact iteF qq
      · obtain ⟨a, xs, e1, e2, e3, v1, r1, e4, v2, r2, e5, e6, q⟩ := z
        exact ⟨a, xs, e1, e2, e3, v1, r1, e4, v2, r2, e5, e6, h _ _ q⟩
      · refine ⟨D, bs.map okD, rfl, ?_, ?_⟩
        · have e9 : (List.range (ts.map V.ref).length).map (fun i => V.bl (okD (bs.getD i (0, 0)))) = (bs.map okD).map V.bl := by
            rw [List.length_map, hl, range_map_getD bs (0, 0) fun b => V.bl (okD b), List.map_map]
            rfl
          rw [e9]
          exact SqL.of upd_same
        · rw [List.all_map] 
          exact k _ (same_upd hD)
    · rw [List.length_map, hl, decide_eq_false (by omega)]
      simp only [if_neg c] at k
      exact iteF (k _ fun _ _ e => e)

def tfl (u : Int) (r : Addr) (l : Int) : List (Str × V) := [("unit", .int u), ("bands", .ref r), ("last", .int l)]
def fltS (u : Int) (bs : List Bd) (l : Int) : Str := if okU u = true then (if okB bs = true then (if okP l = true then "" else "last") else "bands") else "unit"
def spTInit (K : PySem.W.Frag) : Sp := fun vs H Q E => ∃ (p dx a : Addr) (u l : Int) (bs : List Bd), vs = [.ref p, .int u, .ref a, .int l] ∧ H p = some (.ins (He.ga K "Tariff") dx []) ∧ BAt H a bs ∧ bs.length ≤ 40 ∧
  (fltS u bs l = "" → ∀ r H', H' p = some (.ins (He.ga K "Tariff") dx (tfl u r l)) → BAt H' r bs → H r = none → (∀ c o, H c = some o → c ≠ p → H' c = some o) → Q .non H') ∧
  (fltS u bs l ≠ "" → ∀ d H', H' d = some (.xd [("setting", .str (fltS u bs l))]) → Same H H' → E (.ref (He.ga K "ConfigError")) (some d) H')
theorem ok_Tariff___init {P : Program} {w : World} {K : PySem.W.Frag} {mg : Str → Option Value} {base : Heap} {f : Addr} {fd : FuncData} (T : Tx K mg) (x_ConfigError : TKE.ExcMk P w K mg base "ConfigError" (He.ga K "ConfigError") "setting" TKE.isS) (c_is_unit : C8.Cal P w K mg base 1 "_is_unit" spIsU []) (c_is_price : C8.Cal P w K mg base 1 "_is_price" spIsP []) (c_are_bands : C8.Cal P w K mg base 2 "_are_bands" (spAreB K) [])
    (F : FunD K "__init__" "Tariff.__init__" (defArgs s_Tariff___init) (defBody s_Tariff___init) (defScope s_Tariff___init) [] [] f fd) : FnOk P w K mg base (L2.CX P w) 3 f fd ["self", "unit", "bands", "last"] (spTInit K) := by
  refine F.ok sc_Tariff___init (fun vs H Q E h => ?_) (fun cdv A outer s0 H vs Q E hr h => ?_)
  · obtain ⟨p, dx, a, u, l, bs, rfl, _⟩ := h
    rfl
  · obtain ⟨p, dx, a, u, l, bs, rfl, hp, hB, hn, k1, k2⟩ := h
    refine ⟨_, (C8.pss_cut (ps_if (pt_not (pt_val (pe_c c_is_unit hr (by decide) rfl (pa_cons (pv 1) pa_nil)))) (pss_one (TKE.ps_raiseE x_ConfigError rfl (takes_of rfl rfl rfl rfl) hr (by decide) rfl pe_str)) pss_nil) (C8.pss_cut (ps_if (pt_not (pt_val (pe_c c_are_bands hr (by decide) rfl (pa_cons (pv 2) pa_nil)))) (pss_one (TKE.ps_raiseE x_ConfigError rfl (takes_of rfl rfl rfl rfl) hr (by decide) rfl pe_str)) pss_nil) (C8.pss_cut (ps_if (pt_not (pt_val (pe_c c_is_price hr (by decide) rfl (pa_cons (pv 3) pa_nil)))) (pss_one (TKE.ps_raiseE x_ConfigError rfl (takes_of rfl rfl rfl rfl) hr (by decide) rfl pe_str)) pss_nil) (pss_cons (ps_fldC rfl T.cl_Tariff T.na_Tariff_unit (pv 0) (pv 1) rfl) (pss_cons (ps_fldC rfl T.cl_Tariff T.na_Tariff_bands (pv 0) (pe_lc (own := [("band", 4)]) (g := gName 4) rfl sc_Tariff___init.nd (pi_list (pv 2)) (blkOk_by (own := [("band", 4)]) (N := ["self", "unit", "bands", "last", "band"]) (sc := defScope s_Tariff___init) (by decide +kernel)) (fun _ _ _ _ _ => pg_name (i := 4) sc_Tariff___init.nd rfl (Or.inl rfl)) (fun _ _ _ _ _ => pts_nil) (fun _ _ _ _ _ => (pe_callTy (TKE.tupOfK K rfl) rfl T.f_tuple (by decide +kernel) (pa_cons (pv 4) pa_nil)))) rfl) (pss_one (ps_fldC rfl T.cl_Tariff T.na_Tariff_last (pv 0) (pv 3) rfl))))))), ?_⟩
    refine ⟨fun σ' H' => okU u = true ∧ σ' = [some (.ref p), some (.int u), some (.ref a), some (.int l), none] ∧ H' = H, ?_, ?_⟩
    · refine ⟨_, rfl, u, rfl, _, rfl, ?_⟩
      by_cases c : okU u = true
      · rw [c]
        exact iteF ⟨rfl, rfl, rfl⟩
      · rw [ef c]
        refine iteT ⟨⟨"unit", rfl, by decide⟩, fun d hd => ?_⟩
        have ef1 : fltS u bs l = "unit" := by unfold fltS; rw [if_neg c]
        exact k2 (by rw [ef1]; decide) d _ (by rw [ef1]; exact upd_same) (same_upd hd)
    · rintro σ' H' ⟨cu, rfl, rfl⟩
      refine ⟨fun σ' H2 => okB bs = true ∧ σ' = [some (.ref p), some (.int u), some (.ref a), some (.int l), none] ∧ Same H' H2, ?_, ?_⟩
      · refine ⟨_, rfl, a, bs, rfl, hB, hn, fun H1 s1 => ⟨_, rfl, ?_⟩⟩
        by_cases c : okB bs = true
        · rw [c]
          exact iteF ⟨rfl, rfl, s1⟩
        · rw [ef c]
          refine iteT ⟨⟨"bands", rfl, by decide⟩, fun d hd => ?_⟩
          have ef1 : fltS u bs l = "bands" := by unfold fltS; rw [if_pos cu, if_neg c]
          exact k2 (by rw [ef1]; decide) d _ (by rw [ef1]; exact upd_same) (s1.trans (same_upd hd))
      · rintro σ' H2 ⟨cb, rfl, s2⟩
        refine ⟨fun σ' H3 => okP l = true ∧ σ' = [some (.ref p), some (.int u), some (.ref a), some (.int l), none] ∧ H3 = H2, ?_, ?_⟩
        · refine ⟨_, rfl, l, rfl, _, rfl, ?_⟩
          by_cases c : okP l = true
          · rw [c]
            exact iteF ⟨rfl, rfl, rfl⟩
          · rw [ef c]
            refine iteT ⟨⟨"last", rfl, by decide⟩, fun d hd => ?_⟩
            have ef1 : fltS u bs l = "last" := by unfold fltS; rw [if_pos cu, if_pos cb, if_neg c]
            exact k2 (by rw [ef1]; decide) d _ (by rw [ef1]; exact upd_same) (s2.trans (same_upd hd))
        · rintro σ' H3 ⟨cl, rfl, rfl⟩
          have ef1 : fltS u bs l = "" := by unfold fltS; rw [if_pos cu, if_pos cb, if_pos cl]
          have k := k1 ef1
          clear k1 k2
          have hp3 := s2 _ _ hp
          obtain ⟨ts, e, q⟩ := hB.same s2
          have pa : a ≠ p := ne_of e hp3 (by intro z; cases z)
          refine ⟨_, rfl, _, rfl, p, dx, _, rfl, hp3, sm, ?_⟩
          refine ⟨_, rfl, a, rfl, ⟨_, SqL.of ((upd_ne pa).trans e)⟩, fun D hD => ?_⟩
          have Dp : D ≠ p := fun z => by rw [z, upd_same] at hD; cases hD
          have hD3 : H3 D = none := by rw [upd_ne Dp] at hD; exact hD
          have aD : a ≠ D := ne_of_none e hD3
          have hl := q.len
          have hR : ∀ o, SqL K (upd (upd H3 p (.ins (He.ga K "Tariff") dx (putF "unit" (.int u) []))) D o) a (ts.map V.ref) := fun o => SqL.of ((upd_ne aD).trans ((upd_ne pa).trans e))
          refine lc_pureN walk_list (fun i => V.ref (ts.getD i 0)) (by rw [List.length_map, hl, sizeLine_eq]; omega) (fun _ _ => hR _) (fun i x H1 kk hi y qq => ?_) ?_
          · obtain ⟨rfl, hx⟩ := y
            obtain ⟨t, rfl, ht0, _, ht⟩ := q.at_ i x hx
            refine ⟨rfl, _, rfl, t, _, rfl, .inr ⟨SqT.of ((upd_ne (ne_of_none ht hD3)).trans ((upd_ne (ne_of ht hp3 (by intro z; cases z))).trans ht)), ?_⟩⟩
            have e0 : ts.getD i 0 = t := getD_at 0 ht0
            rw [e0] at qq
            exact qq
          · have e9 : (List.range (ts.map V.ref).length).map (fun i => V.ref (ts.getD i 0)) = ts.map V.ref := by
              rw [List.length_map, range_map_getD ts 0 V.ref]
            rw [e9]
            refine ⟨_, rfl, p, dx, _, rfl, (upd_ne Dp.symm).trans upd_same, sm, ?_⟩
            refine ⟨_, rfl, _, rfl, p, dx, _, rfl, upd_same, sm, ?_⟩
            rw [upd_upd]
            have hH : ∀ c o, H3 c = some o → c ≠ p → (upd (upd (upd H3 p (.ins (He.ga K "Tariff") dx (putF "unit" (.int u) []))) D (.lst (ts.map V.ref))) p (.ins (He.ga K "Tariff") dx (tfl u D l))) c = some o := fun c o ec hc =>
              (upd_ne hc).trans ((upd_ne (ne_of_none ec hD3)).trans ((upd_ne hc).trans ec))
            refine k D _ upd_same ⟨ts, (upd_ne Dp).trans upd_same, q.mono fun x b ex => hH _ _ ex (ne_of ex hp3 (by intro z; cases z))⟩ ?_ fun c o ec hc => hH c o (s2 _ _ ec) hc
            cases eD : H' D with
            | none => rfl
            | some o => rw [s2 _ _ eD] at hD3; cases hD3

end K14
set_option maxHeartbeats 1000000
set_option pp.maxSteps 500
namespace K14
open PySem PySem.Spec PyProof.Rows L2 SX TK NdefX
open C8 (pe_c)
def arP (W : List Str) : Prop := 1 ≤ W.length ∧ W.length ≤ 8 ∧ W.Nodup ∧ ∀ z ∈ W, nameB z = true
instance (W : List Str) : Decidable (arP W) := by unfold arP; infer_instance
def arB (W : List Str) : Bool := decide (arP W)
def spAreN (K : PySem.W.Frag) : Sp := fun vs H Q _ => ∃ (a : Addr) (W : List Str), vs = [.ref a] ∧ H a = some (.lst (W.map V.str)) ∧ W.length ≤ 1000 ∧ (∀ z ∈ W, z.length ≤ 1000) ∧ ∀ H', Same H H' → Q (.bl (arB W)) H'
theorem strs_key (W : List Str) : W.map V.str = (W.map (Sum.inr : Str → Key)).map kV := by
  rw [List.map_map]
  rfl
theorem getD_len {W : List Str} (h : ∀ z ∈ W, z.length ≤ 1000) (i : Nat) : (W.getD i "").length ≤ 1000 := by
  rw [List.getD_eq_getElem?_getD]
  cases e : W[i]? with
  | none => decide
  | some z => exact h z (List.mem_of_getElem? e)
theorem ok_are_names {P : Program} {w : World} {K : PySem.W.Frag} {mg : Str → Option Value} {base : Heap} {f : Addr} {fd : FuncData} (T : Tx K mg) (c_is_name : C8.Cal P w K mg base 2 "is_name" spName [])
    (F : FunD K "_are_names" "_are_names" (defArgs s_are_names) (defBody s_are_names) (defScope s_are_names) [] [] f fd) : FnOk P w K mg base CX0 3 f fd ["words"] (spAreN K) := by
  refine F.ok sc_are_names (fun vs H Q E h => ?_) (fun cdv A outer s0 H vs Q E hr h => ?_)
  · obtain ⟨a, W, rfl, _⟩ := h
    rfl
  · obtain ⟨a, W, rfl, ha, hW, hz, k⟩ := h
    refine ⟨_, PSs.nox (C8.pss_cut (ps_if (PW.pt (pw_or (pt_not (pt_chain op_le op_le pe_int (pe_callB call_len_seq rfl T.f_len PySem.boot_len (pa_cons (pv 0) pa_nil)) (pgI T.g_MOST_NAMES))) (pw_or1 (pt_cmpR op_lt (TKS.pe_lenSetK (pv 0) T.f_len T.f_set) (pe_callB call_len_seq rfl T.f_len PySem.boot_len (pa_cons (pv 0) pa_nil)) (nomark _))))) (pss_one (ps_ret pe_bl)) pss_nil) (pss_one (ps_ret (pe_callB (cr_all rfl) rfl T.f_all (by decide +kernel) (pa_cons (pe_lc (own := [("word", 1)]) (g := gName 1) rfl sc_are_names.nd (pi_list (pv 0)) (blkOk_by (own := [("word", 1)]) (N := ["words", "word"]) (sc := defScope s_are_names) (by decide +kernel)) (fun _ _ _ _ _ => pg_name (i := 1) sc_are_names.nd rfl (Or.inl rfl)) (fun _ _ _ _ _ => pts_nil) (fun _ _ _ _ _ => (pe_c c_is_name hr (by decide) rfl (pa_cons (pv 1) pa_nil)))) pa_nil))))), ?_⟩
    have kF : ¬ arP W → Q (.bl false) H := fun n => by
      have q := k H fun _ _ e => e
      unfold arB at q
      rw [decide_eq_false n] at q
      exact q
    refine ⟨fun σ' H' => (1 ≤ W.length ∧ W.length ≤ 8 ∧ W.Nodup) ∧ σ' = [some (.ref a), none] ∧ H' = H, ?_, ?_⟩
    · refine ⟨_, rfl, a, _, rfl, .inl (SqL.of ha), _, _, rfl, rfl, _, rfl, ?_⟩
      rw [List.length_map]
      by_cases c1 : 1 ≤ W.length
      · rw [decide_eq_true (by omega)]
        refine iteT ⟨_, _, rfl, rfl, _, rfl, ?_⟩
        by_cases c2 : W.length ≤ 8
        · rw [decide_eq_true (by omega)]
          refine iteF ⟨_, rfl, a, W.map Sum.inr, rfl, SqL.of (by rw [← strs_key]; exact ha), by rw [List.length_map]; omega, _, rfl, a, _, rfl, .inl (SqL.of ha), _, _, rfl, rfl, _, rfl, ?_⟩
          have e1 := TKS.met_all (W.map (Sum.inr : Str → Key))
          have e2 := TKS.metK_len (fun i => (W.map (Sum.inr : Str → Key)).getD i (.inl 0)) (W.map (Sum.inr : Str → Key)).length
          have e3 : (W.map (Sum.inr : Str → Key)).Nodup ↔ W.Nodup := by
            constructor
            · intro h
              exact List.Pairwise.of_map _ (fun a b hab e => hab (congrArg _ e)) h
            · intro h
              exact List.Pairwise.map _ (fun a b hab e => hab (by injection e)) h
          rw [e3] at e1
          rw [List.length_map, List.length_map]
          rw [List.length_map] at e1 e2
          by_cases c3 : W.Nodup
          · rw [decide_eq_false (by have := e1.mpr c3; omega)]
            exact iteF ⟨⟨c1, c2, c3⟩, rfl, rfl⟩
          · rw [decide_eq_true (by
              have : ¬ _ = W.length := fun z => c3 (e1.mp z)
              omega)]
            exact iteT (kF fun z => c3 z.2.2.1)
        · rw [decide_eq_false (by omega)]
          exact iteT (iteT (kF fun z => c2 z.2.1))
      · rw [decide_eq_false (by omega)]
        exact iteF ⟨_, rfl, iteT (iteT (kF fun z => c1 z.1))⟩
    · rintro σ' H' ⟨⟨c1, c2, c3⟩, rfl, rfl⟩
      refine ⟨_, rfl, a, rfl, ⟨_, SqL.of ha⟩, fun D hD => ?_⟩
      have Da := ne_of_none ha hD
      refine lc_itN walk_list (fun i H1 => Same H' H1 ∧ H1 D = some (.lst (((List.range i).map fun j => V.bl (nameB (W.getD j "")))))) ⟨same_upd hD, upd_same⟩ (fun i H1 _ q => SqL.of (q.1 _ _ ha)) (fun i x H1 H2 hi p y => ?_) (fun H1 p => ?_)
      · obtain ⟨s1, e1⟩ := p
        obtain ⟨rfl, hx⟩ := y
        rw [List.length_map] at hi
        rw [List.getElem?_map, List.getElem?_eq_getElem hi] at hx
        obtain rfl := Option.some.inj hx
        refine ⟨rfl, _, rfl, W[i], rfl, hz _ (List.getElem_mem _), fun H3 s3 => ⟨_, s3 _ _ e1, ?_, ?_, ?_⟩⟩
        · rw [List.length_map, List.length_range, sizeLine_eq]
          omega
        · exact fun b o eb => (upd_ne (ne_of_none eb hD)).trans (s3 _ _ (s1 _ _ eb))
        · rw [upd_same, List.range_succ, List.map_append]
          have e9 : W.getD i "" = W[i] := by rw [List.getD_eq_getElem?_getD, List.getElem?_eq_getElem hi]; rfl
          rw [List.map_cons, e9]
          rfl
      · obtain ⟨s1, e1⟩ := p
        rw [List.length_map] at e1
        refine ⟨D, W.map nameB, rfl, SqL.of ?_, ?_⟩
        · rw [e1, range_map_getD W "" fun z => V.bl (nameB z), List.map_map]
          rfl
        · have e9 : (W.map nameB).all id = arB W := by
            unfold arB
            rw [Bool.eq_iff_iff, decide_eq_true_eq, List.all_map, List.all_eq_true]
            exact ⟨fun h => ⟨c1, c2, c3, fun z hz => h z hz⟩, fun h z hz => h.2.2.2 z hz⟩
          rw [e9]
          exact k _ s1
end K14
set_option maxHeartbeats 1000000
set_option pp.maxSteps 500
namespace K14
open PySem PySem.Spec PyProof.Rows L2 SX TK NdefX
open C8 (pe_c)
structure Cf where
  host : Str
  U : List Str
  W : List Str
  v : Nat → Int
def cfl (c : Cf) (t ua wa : Addr) : List (Str × V) := [("host", .str c.host), ("users", .ref ua), ("stations", .ref wa), ("tariff", .ref t), ("first", .int (c.v 0)), ("patience", .int (c.v 1)), ("check", .int (c.v 2)), ("longest", .int (c.v 3)), ("most_calls", .int (c.v 4)), ("save", .int (c.v 5))]
structure CfOk (c : Cf) : Prop where
  h : c.host.length ≤ 1000
  u1 : c.U.length ≤ 1000
  u2 : ∀ z ∈ c.U, z.length ≤ 1000
  w1 : c.W.length ≤ 1000
  w2 : ∀ z ∈ c.W, z.length ≤ 1000
def rB (hi x : Int) : Bool := if 1 ≤ x then decide (x ≤ hi) else false
def stB (c : Cf) : Bool := if arB c.W = true then decide (c.host ∉ c.W) else false
def jud (c : Cf) : List (Str × Bool) := [("host", nameB c.host), ("users", arB c.U), ("stations", stB c), ("first", rB 20 (c.v 0)), ("patience", rB 1000 (c.v 1)), ("check", rB 1000 (c.v 2)), ("longest", rB 9999 (c.v 3)), ("most_calls", rB 50 (c.v 4)), ("save", rB 64 (c.v 5))]
theorem rng_of {C p dx : Addr} {fs : List (Str × V)} {f : Str} {x hi : Int} {σ : L2.St} {H : Hp} {Q : VK} (h0 : σ[0]? = some (some (.ref p))) (hp : H p = some (.ins C dx fs)) (hf : fs.lookup f = some (.int x)) (q : Q (.bl (rB hi x)) H) :
    tChain (rI0 fun i j => .bl (decide (i ≤ j))) (rI0 fun i j => .bl (decide (i ≤ j))) (tC (.int 1)) (tFldC C (tVar 0) f) (tC (.int hi)) σ H Q := by
  refine ⟨_, h0, p, dx, _, _, rfl, hp, hf, _, _, rfl, rfl, _, rfl, ?_⟩
  unfold rB at q
  by_cases c : 1 ≤ x
  · rw [if_pos c] at q
    rw [decide_eq_true c]
    exact iteT ⟨_, _, rfl, rfl, q⟩
  · rw [if_neg c] at q
    rw [decide_eq_false c]
    exact iteF q
abbrev Jd : Type := List (Addr × Str × Bool)
def PJs (H : Hp) (l : Jd) : Prop := ∀ q ∈ l, H q.1 = some (.tup [.str q.2.1, .bl q.2.2])
theorem PJs.same {H H' : Hp} {l : Jd} (h : PJs H l) (s : Same H H') : PJs H' l := fun q hq => s _ _ (h q hq)
theorem PJs.push {H : Hp} {l : Jd} {t : Addr} {s : Str} {b : Bool} (h : PJs H l) (ht : H t = none) : PJs (upd H t (.tup [.str s, .bl b])) (l ++ [(t, s, b)]) := fun q hq => by
  rcases List.mem_append.mp hq with z | z
  · exact (same_upd ht) _ _ (h q z)
  · rw [List.mem_singleton.mp z]
    exact upd_same
theorem inV_strs (z : Str) : ∀ l : List Str, inV (.str z) (l.map V.str) = decide (z ∈ l)
  | [] => by simp [inV]
  | a :: r => by
    have ih := inV_strs z r
    unfold inV at ih ⊢
    rw [List.map_cons, List.any_cons, ih]
    rw [Bool.eq_iff_iff]
    simp [eqV]
    exact ⟨fun h => h.imp Eq.symm id, fun h => h.imp Eq.symm id⟩
def spJudged (K : PySem.W.Frag) : Sp := fun vs H Q _ => ∃ (p dx t ua wa : Addr) (c : Cf), vs = [.ref p] ∧ H p = some (.ins (He.ga K "Config") dx (cfl c t ua wa)) ∧ H ua = some (.lst (c.U.map V.str)) ∧ H wa = some (.lst (c.W.map V.str)) ∧ CfOk c ∧
  ∀ r (l : Jd) H', Same H H' → H' r = some (.lst (l.map fun q => V.ref q.1)) → PJs H' l → l.map (·.2) = jud c → Q (.ref r) H'
theorem ok_judged {P : Program} {w : World} {K : PySem.W.Frag} {mg : Str → Option Value} {base : Heap} {f : Addr} {fd : FuncData} (T : Tx K mg) (c_is_name : C8.Cal P w K mg base 2 "is_name" spName []) (c_are_names : C8.Cal P w K mg base 3 "_are_names" (spAreN K) [])
    (F : FunD K "_judged" "_judged" (defArgs s_judged) (defBody s_judged) (defScope s_judged) [] [] f fd) : FnOk P w K mg base CX0 4 f fd ["config"] (spJudged K) := by
  refine F.ok sc_judged (fun vs H Q E h => ?_) (fun cdv A outer s0 H vs Q E hr h => ?_)
  · obtain ⟨p, dx, t, ua, wa, c, rfl, _⟩ := h
    rfl
  · obtain ⟨p, dx, t, ua, wa, c, rfl, hp, hu, hw, ok, k⟩ := h
    refine ⟨_, PSs.nox (pss_one (ps_ret (pe_lst (pa_cons (pe_tup (pa_cons pe_str (pa_cons (pe_c c_is_name hr (by decide) rfl (pa_cons (pe_fldC rfl T.cl_Config T.na_Config_host (pv 0) rfl) pa_nil)) pa_nil))) (pa_cons (pe_tup (pa_cons pe_str (pa_cons (pe_c c_are_names hr (by decide) rfl (pa_cons (pe_fldC rfl T.cl_Config T.na_Config_users (pv 0) rfl) pa_nil)) pa_nil))) (pa_cons (pe_tup (pa_cons pe_str (pa_cons (pe_cut (pe_and (pe_c c_are_names hr (by decide) rfl (pa_cons (pe_fldC rfl T.cl_Config T.na_Config_stations (pv 0) rfl) pa_nil)) (pe_one (pe_cmpR op_notIn_seq (pe_fldC rfl T.cl_Config T.na_Config_host (pv 0) rfl) (pe_fldC rfl T.cl_Config T.na_Config_stations (pv 0) rfl) (by with_unfolding_all rfl))))) pa_nil))) (pa_cons (pe_tup (pa_cons pe_str (pa_cons (pe_chain op_le op_le pe_int (pe_fldC rfl T.cl_Config T.na_Config_first (pv 0) rfl) pe_int) pa_nil))) (pa_cons (pe_tup (pa_cons pe_str (pa_cons (pe_chain op_le op_le pe_int (pe_fldC rfl T.cl_Config T.na_Config_patience (pv 0) rfl) pe_int) pa_nil))) (pa_cons (pe_tup (pa_cons pe_str (pa_cons (pe_chain op_le op_le pe_int (pe_fldC rfl T.cl_Config T.na_Config_check (pv 0) rfl) pe_int) pa_nil))) (pa_cons (pe_tup (pa_cons pe_str (pa_cons (pe_chain op_le op_le pe_int (pe_fldC rfl T.cl_Config T.na_Config_longest (pv 0) rfl) pe_int) pa_nil))) (pa_cons (pe_tup (pa_cons pe_str (pa_cons (pe_chain op_le op_le pe_int (pe_fldC rfl T.cl_Config T.na_Config_most_calls (pv 0) rfl) pe_int) pa_nil))) (pa_cons (pe_tup (pa_cons pe_str (pa_cons (pe_chain op_le op_le pe_int (pe_fldC rfl T.cl_Config T.na_Config_save (pv 0) rfl) pe_int) pa_nil))) pa_nil)))))))))))), ?_⟩
    refine ⟨_, rfl, p, dx, _, _, rfl, hp, rfl, c.host, rfl, ok.h, fun H1 s1 => ⟨by show 2 ≤ sizeLine; decide, fun t1 h1 => ?_⟩⟩
    have S := s1.trans (same_upd (o := .tup [.str "host", .bl (nameB c.host)]) h1)
    have J := (show PJs H1 [] from fun _ h => nomatch h).push (s := "host") (b := nameB c.host) h1
    clear h1 s1
    generalize upd H1 t1 (.tup [.str "host", .bl (nameB c.host)]) = G1 at *
    refine ⟨_, rfl, p, dx, _, _, rfl, S _ _ hp, rfl, ua, c.U, rfl, S _ _ hu, ok.u1, ok.u2, fun H2 s2 => ⟨by show 2 ≤ sizeLine; decide, fun t2 h2 => ?_⟩⟩
    replace S := S.trans (s2.trans (same_upd (o := .tup [.str "users", .bl (arB c.U)]) h2))
    replace J := (J.same s2).push (s := "users") (b := arB c.U) h2
    clear h2 s2
    generalize upd H2 t2 (.tup [.str "users", .bl (arB c.U)]) = G2 at *
    refine ⟨fun v H' => v = .bl (stB c) ∧ Same G2 H', ?_, ?_⟩
    · refine ⟨_, rfl, p, dx, _, _, rfl, S _ _ hp, rfl, wa, c.W, rfl, S _ _ hw, ok.w1, ok.w2, fun H3 s3 => ⟨_, rfl, ?_⟩⟩
      by_cases q : arB c.W = true
      · have es : stB c = decide (c.host ∉ c.W) := by unfold stB; rw [if_pos q]
        rw [q]
        refine iteT ⟨_, rfl, p, dx, _, _, rfl, s3 _ _ (S _ _ hp), rfl, _, rfl, p, dx, _, _, rfl, s3 _ _ (S _ _ hp), rfl, wa, _, rfl, .inl (SqL.of (s3 _ _ (S _ _ hw))), rfl, L2.flat_strs _, ?_⟩
        rw [inV_strs]
        exact ⟨by rw [es]; simp, s3⟩
      · have es : stB c = false := by unfold stB; rw [if_neg q]
        rw [ef q]
        exact iteF ⟨by rw [es], s3⟩
    · rintro v H3 ⟨rfl, s3⟩
      replace S := S.trans s3
      replace J := J.same s3
      clear s3
      refine ⟨by show 2 ≤ sizeLine; decide, fun t3 h3 => ?_⟩
      replace S := S.trans (same_upd (o := .tup [.str "stations", .bl (stB c)]) h3)
      replace J := J.push (s := "stations") (b := stB c) h3
      clear h3
      generalize upd H3 t3 (.tup [.str "stations", .bl (stB c)]) = G3 at *
      refine rng_of (x := c.v 0) rfl (S _ _ hp) rfl ⟨by show 2 ≤ sizeLine; decide, fun t4 h4 => ?_⟩
      replace S := S.trans (same_upd (o := .tup [.str "first", .bl (rB 20 (c.v 0))]) h4)
      replace J := J.push (s := "first") (b := rB 20 (c.v 0)) h4
      clear h4
      generalize upd G3 t4 (.tup [.str "first", .bl (rB 20 (c.v 0))]) = G4 at *
      refine rng_of (x := c.v 1) rfl (S _ _ hp) rfl ⟨by show 2 ≤ sizeLine; decide, fun t5 h5 => ?_⟩
      replace S := S.trans (same_upd (o := .tup [.str "patience", .bl (rB 1000 (c.v 1))]) h5)
      replace J := J.push (s := "patience") (b := rB 1000 (c.v 1)) h5
      clear h5
      generalize upd G4 t5 (.tup [.str "patience", .bl (rB 1000 (c.v 1))]) = G5 at *
      refine rng_of (x := c.v 2) rfl (S _ _ hp) rfl ⟨by show 2 ≤ sizeLine; decide, fun t6 h6 => ?_⟩
      replace S := S.trans (same_upd (o := .tup [.str "check", .bl (rB 1000 (c.v 2))]) h6)
      replace J := J.push (s := "check") (b := rB 1000 (c.v 2)) h6
      clear h6
      generalize upd G5 t6 (.tup [.str "check", .bl (rB 1000 (c.v 2))]) = G6 at *
      refine rng_of (x := c.v 3) rfl (S _ _ hp) rfl ⟨by show 2 ≤ sizeLine; decide, fun t7 h7 => ?_⟩
      replace S := S.trans (same_upd (o := .tup [.str "longest", .bl (rB 9999 (c.v 3))]) h7)
      replace J := J.push (s := "longest") (b := rB 9999 (c.v 3)) h7
      clear h7
      generalize upd G6 t7 (.tup [.str "longest", .bl (rB 9999 (c.v 3))]) = G7 at *
      refine rng_of (x := c.v 4) rfl (S _ _ hp) rfl ⟨by show 2 ≤ sizeLine; decide, fun t8 h8 => ?_⟩
      replace S := S.trans (same_upd (o := .tup [.str "most_calls", .bl (rB 50 (c.v 4))]) h8)
      replace J := J.push (s := "most_calls") (b := rB 50 (c.v 4)) h8
      clear h8
      generalize upd G7 t8 (.tup [.str "most_calls", .bl (rB 50 (c.v 4))]) = G8 at *
      refine rng_of (x := c.v 5) rfl (S _ _ hp) rfl ⟨by show 2 ≤ sizeLine; decide, fun t9 h9 => ?_⟩
      replace S := S.trans (same_upd (o := .tup [.str "save", .bl (rB 64 (c.v 5))]) h9)
      replace J := J.push (s := "save") (b := rB 64 (c.v 5)) h9
      clear h9
      generalize upd G8 t9 (.tup [.str "save", .bl (rB 64 (c.v 5))]) = G9 at *
      refine ⟨by show 9 ≤ sizeLine; decide, fun r hr0 => ?_⟩
      exact k r _ _ (S.trans (same_upd hr0)) upd_same (J.same (same_upd hr0)) rfl
end K14
set_option maxHeartbeats 1000000
set_option pp.maxSteps 500
namespace K14
open PySem PySem.Spec PyProof.Rows L2 SX TK NdefX
open C8 (pe_c)
def fstBad : List (Str × Bool) → Str
  | [] => ""
  | x :: r => if x.2 = true then fstBad r else x.1
theorem jud_names (c : Cf) : ∀ x ∈ jud c, x.1 ≠ "" ∧ x.1.length ≤ 1000 := by
  intro x hx
  unfold jud at hx
  simp only [List.mem_cons, List.not_mem_nil, or_false] at hx
  rcases hx with rfl | rfl | rfl | rfl | rfl | rfl | rfl | rfl | rfl <;> exact ⟨by dsimp only; decide +kernel, by dsimp only; decide +kernel⟩
def spCInit (K : PySem.W.Frag) : Sp := fun vs H Q E => ∃ (p dx t a b : Addr) (c : Cf), vs = [.ref p, .str c.host, .ref a, .ref b, .ref t, .int (c.v 0), .int (c.v 1), .int (c.v 2), .int (c.v 3), .int (c.v 4), .int (c.v 5)] ∧ H p = some (.ins (He.ga K "Config") dx []) ∧ H a = some (.lst (c.U.map V.str)) ∧ H b = some (.lst (c.W.map V.str)) ∧ CfOk c ∧
  (fstBad (jud c) = "" → ∀ ua wa H', H' p = some (.ins (He.ga K "Config") dx (cfl c t ua wa)) → H' ua = some (.lst (c.U.map V.str)) → H' wa = some (.lst (c.W.map V.str)) → H ua = none → H wa = none → (∀ b o, H b = some o → b ≠ p → H' b = some o) → Q .non H') ∧
  (fstBad (jud c) ≠ "" → ∀ d H', H' d = some (.xd [("setting", .str (fstBad (jud c)))]) → (∀ b o, H b = some o → b ≠ p → H' b = some o) → E (.ref (He.ga K "ConfigError")) (some d) H')
theorem ok_Config___init {P : Program} {w : World} {K : PySem.W.Frag} {mg : Str → Option Value} {base : Heap} {f : Addr} {fd : FuncData} (T : Tx K mg) (x_ConfigError : TKE.ExcMk P w K mg base "ConfigError" (He.ga K "ConfigError") "setting" TKE.isS) (c_judged : C8.Cal P w K mg base 4 "_judged" (spJudged K) [])
    (F : FunD K "__init__" "Config.__init__" (defArgs s_Config___init) (defBody s_Config___init) (defScope s_Config___init) [] [("first", (V.int 2)), ("patience", (V.int 100)), ("check", (V.int 50)), ("longest", (V.int 500)), ("most_calls", (V.int 8)), ("save", (V.int 8))] f fd) : FnOk P w K mg base (L2.CX P w) 5 f fd ["self", "host", "users", "stations", "tariff", "first", "patience", "check", "longest", "most_calls", "save"] (spCInit K) := by
  refine F.ok sc_Config___init (fun vs H Q E h => ?_) (fun cdv A outer s0 H vs Q E hr h => ?_)
  · obtain ⟨p, dx, t, a, b, c, rfl, _⟩ := h
    rfl
  · obtain ⟨p, dx, t, a, b, c, rfl, hp, ha, hb, ok, k1, k2⟩ := h
    refine ⟨_, (pss_cons (ps_fldC rfl T.cl_Config T.na_Config_host (pv 0) (pv 1) rfl) (pss_cons (ps_fldC rfl T.cl_Config T.na_Config_users (pv 0) (pe_callTy call_list_of rfl T.f_list (by decide +kernel) (pa_cons (pv 2) pa_nil)) rfl) (pss_cons (ps_fldC rfl T.cl_Config T.na_Config_stations (pv 0) (pe_callTy call_list_of rfl T.f_list (by decide +kernel) (pa_cons (pv 3) pa_nil)) rfl) (pss_cons (ps_fldC rfl T.cl_Config T.na_Config_tariff (pv 0) (pv 4) rfl) (pss_cons (ps_fldC rfl T.cl_Config T.na_Config_first (pv 0) (pv 5) rfl) (pss_cons (ps_fldC rfl T.cl_Config T.na_Config_patience (pv 0) (pv 6) rfl) (pss_cons (ps_fldC rfl T.cl_Config T.na_Config_check (pv 0) (pv 7) rfl) (pss_cons (ps_fldC rfl T.cl_Config T.na_Config_longest (pv 0) (pv 8) rfl) (pss_cons (ps_fldC rfl T.cl_Config T.na_Config_most_calls (pv 0) (pv 9) rfl) (pss_cons (ps_fldC rfl T.cl_Config T.na_Config_save (pv 0) (pv 10) rfl) (pss_one (ps_for (passes_of rfl) rfl (pi_list (pe_c c_judged hr (by decide) rfl (pa_cons (pv 0) pa_nil))) (pg_tup rfl (pgs_cons (pg_name (i := 11) sc_Config___init.nd rfl (Or.inl rfl)) (pgs_cons (pg_name (i := 12) sc_Config___init.nd rfl (Or.inl rfl)) pgs_nil))) (pss_one (ps_if (pt_not (pt_val (pv 12))) (pss_one (TKE.ps_raiseE x_ConfigError rfl (takes_of rfl rfl rfl rfl) hr (by decide) rfl (pv 11))) pss_nil)))))))))))))), ?_⟩
    have pa : a ≠ p := ne_of ha hp (by intro z; cases z)
    have pb : b ≠ p := ne_of hb hp (by intro z; cases z)
    refine ⟨_, rfl, _, rfl, p, dx, _, rfl, hp, sm, ?_⟩
    refine ⟨_, rfl, a, _, rfl, .inl (SqL.of ((upd_ne pa).trans ha)), fun ua hua => ?_⟩
    have pua : ua ≠ p := fun z => by rw [z, upd_same] at hua; cases hua
    have hua0 : H ua = none := by rw [upd_ne pua] at hua; exact hua
    refine ⟨_, rfl, p, dx, _, rfl, (upd_ne pua.symm).trans upd_same, sm, ?_⟩
    have bua : b ≠ ua := ne_of_none hb hua0
    refine ⟨_, rfl, b, _, rfl, .inl (SqL.of ((upd_ne pb).trans ((upd_ne bua).trans ((upd_ne pb).trans hb)))), fun wa hwa => ?_⟩
    have pwa : wa ≠ p := fun z => by rw [z, upd_same] at hwa; cases hwa
    have uwa : wa ≠ ua := fun z => by rw [z, upd_ne pua, upd_same] at hwa; cases hwa
    have hwa0 : H wa = none := by rw [upd_ne pwa, upd_ne uwa, upd_ne pwa] at hwa; exact hwa
    refine ⟨_, rfl, p, dx, _, rfl, (upd_ne pwa.symm).trans upd_same, sm, ?_⟩
    have fr : ∀ c o, H c = some o → c ≠ p → ∀ o1 o2 o3 o4 o5, (upd (upd (upd (upd (upd H p o1) ua o2) p o3) wa o4) p o5) c = some o := fun c o ec hc o1 o2 o3 o4 o5 =>
      (upd_ne hc).trans ((upd_ne (ne_of_none ec hwa0)).trans ((upd_ne hc).trans ((upd_ne (ne_of_none ec hua0)).trans ((upd_ne hc).trans ec))))
    have f1 : ∀ o1 o2 o3 o4 o5, (upd (upd (upd (upd (upd H p o1) ua o2) p o3) wa o4) p o5) ua = some o2 := fun o1 o2 o3 o4 o5 => (upd_ne pua).trans ((upd_ne uwa.symm).trans ((upd_ne pua).trans upd_same))
    have f2 : ∀ o1 o2 o3 o4 o5, (upd (upd (upd (upd (upd H p o1) ua o2) p o3) wa o4) p o5) wa = some o4 := fun o1 o2 o3 o4 o5 => (upd_ne pwa).trans upd_same
    refine ⟨_, rfl, _, rfl, p, dx, _, rfl, upd_same, sm, ?_⟩
    rw [upd_upd]
    refine ⟨_, rfl, _, rfl, p, dx, _, rfl, upd_same, sm, ?_⟩
    rw [upd_upd]
    refine ⟨_, rfl, _, rfl, p, dx, _, rfl, upd_same, sm, ?_⟩
    rw [upd_upd]
    refine ⟨_, rfl, _, rfl, p, dx, _, rfl, upd_same, sm, ?_⟩
    rw [upd_upd]
    refine ⟨_, rfl, _, rfl, p, dx, _, rfl, upd_same, sm, ?_⟩
    rw [upd_upd]
    refine ⟨_, rfl, _, rfl, p, dx, _, rfl, upd_same, sm, ?_⟩
    rw [upd_upd]
    refine ⟨_, rfl, _, rfl, p, dx, _, rfl, upd_same, sm, ?_⟩
    rw [upd_upd]
    refine ⟨_, rfl, p, dx, t, ua, wa, c, rfl, upd_same, f1 _ _ _ _ _, f2 _ _ _ _ _, ok, fun r l H' s hr0 J el => ?_⟩
    have hp' := s _ _ (upd_same (a := p))
    have fr' : ∀ c o, H c = some o → c ≠ p → H' c = some o := fun c o ec hc => s _ _ (fr c o ec hc _ _ _ _ _)
    have f1' := s _ _ (f1 _ _ _ _ _)
    have f2' := s _ _ (f2 _ _ _ _ _)
    clear s fr f1 f2 hua hwa
    refine ⟨r, rfl, ⟨_, SqL.of hr0⟩, for_list (K := K) (a := r) (xs := l.map fun q => V.ref q.1) (fun i σ H2 => H2 = H' ∧ fstBad (jud c) = fstBad ((jud c).drop i) ∧ ∃ v1 v2 : Option V, σ = [some (.ref p), some (.str c.host), some (.ref a), some (.ref b), some (.ref t), some (.int (c.v 0)), some (.int (c.v 1)), some (.int (c.v 2)), some (.int (c.v 3)), some (.int (c.v 4)), some (.int (c.v 5)), v1, v2])
      ⟨rfl, rfl, none, none, rfl⟩ (fun i σ H2 _ q => q.1 ▸ SqL.of hr0) ?_ ?_⟩
    · rintro i y σ H2 hi ⟨rfl, eb, v1, v2, rfl⟩
      obtain ⟨q, hq, rfl⟩ : ∃ q, l[i]? = some q ∧ y = V.ref q.1 := by
        rw [List.getElem?_map] at hi
        obtain ⟨q, hq, e⟩ := Option.map_eq_some_iff.mp hi
        exact ⟨q, hq, e.symm⟩
      have hx : (jud c)[i]? = some q.2 := by rw [← el, List.getElem?_map, hq]; rfl
      obtain ⟨hi2, hx2⟩ := List.getElem?_eq_some_iff.mp hx
      have hm := jud_names c q.2 (List.mem_of_getElem? hx)
      rw [List.drop_eq_getElem_cons hi2, hx2] at eb
      refine ⟨q.1, _, rfl, SqT.of (J q (List.mem_of_getElem? hq)), rfl, _, _, rfl, _, _, rfl, rfl, ?_⟩
      refine ⟨_, rfl, _, rfl, ?_⟩
      by_cases cb : q.2.2 = true
      · rw [cb]
        refine iteF ⟨rfl, ?_, _, _, rfl⟩
        rw [eb]
        show (if q.2.2 = true then _ else _) = _
        rw [if_pos cb]
      · have e9 : fstBad (jud c) = q.2.1 := by
          rw [eb]
          show (if q.2.2 = true then _ else _) = _
          rw [if_neg cb]
        rw [ef cb]
        refine iteT ⟨_, rfl, ⟨q.2.1, rfl, hm.2⟩, fun d hd => ?_⟩
        exact k2 (by rw [e9]; exact hm.1) d _ (by rw [e9]; exact upd_same) fun c o ec hc => (same_upd hd) _ _ (fr' c o ec hc)
    · rintro σ H2 ⟨rfl, eb, v1, v2, rfl⟩
      rw [List.length_map] at eb
      have e9 : fstBad (jud c) = "" := by
        rw [eb, List.drop_eq_nil_of_le (by rw [← el, List.length_map]; exact Nat.le_refl _)]
        rfl
      exact k1 e9 ua wa _ hp' f1' f2' hua0 hwa0 fr'
end K14
set_option maxHeartbeats 1000000
set_option pp.maxSteps 500
namespace K14
open PySem PySem.Spec PyProof.Rows L2 SX TK NdefX
open C8 (pe_c)
def spValue : Sp := fun vs H Q _ => ∃ (s c : Addr) (m : Int), vs = [.ref s, .int m] ∧ StAt H s c ∧ 0 < m ∧ m < 100000 ∧ ∀ r H', StAt H' s c → Keep H H' s c → Q (.int r) H'
theorem ok_law_value {P : Program} {w : World} {K : PySem.W.Frag} {mg : Str → Option Value} {base : Heap} {f : Addr} {fd : FuncData} (T : Tx K mg) (c_law_draw : C8.Cal P w K mg base 1 "_law_draw" spDraw []) (c_law_pick : C8.Cal P w K mg base 2 "_law_pick" spPick [])
    (F : FunD K "_law_value" "_law_value" (defArgs s_law_value) (defBody s_law_value) (defScope s_law_value) [] [] f fd) : FnOk P w K mg base CX0 3 f fd ["state", "most"] spValue := by
  refine F.ok sc_law_value (fun vs H Q E h => ?_) (fun cdv A outer s0 H vs Q E hr h => ?_)
  · obtain ⟨s, c, m, rfl, _⟩ := h
    rfl
  · obtain ⟨s, c, m, rfl, hst, h0, h1, k⟩ := h
    refine ⟨_, PSs.nox (C8.pss_cut (ps_if (pt_cmpR op_eq (pe_c c_law_draw hr (by decide) rfl (pa_cons (pv 0) (pa_cons pe_int pa_nil))) pe_int (nomark _)) (pss_one (ps_ret (pe_c c_law_pick hr (by decide) rfl (pa_cons (pv 0) (pa_cons (pe_lst (pa_cons pe_int (pa_cons (pe_op op_add (pv 1) pe_int) pa_nil))) pa_nil))))) pss_nil) (pss_one (ps_ret (pe_c c_law_pick hr (by decide) rfl (pa_cons (pv 0) (pa_cons (pe_lst (pa_cons pe_int (pa_cons (pv 1) (pa_cons (pe_op op_add pe_int (pe_c c_law_draw hr (by decide) rfl (pa_cons (pv 0) (pa_cons (pv 1) pa_nil)))) pa_nil)))) pa_nil)))))), ?_⟩
    refine ⟨fun σ' H' => σ' = [some (.ref s), some (.int m)] ∧ StAt H' s c ∧ Keep H H' s c, ?_, ?_⟩
    · refine ⟨_, rfl, s, c, 8, rfl, hst, by decide, by decide, fun r1 H1 a1 b1 st1 kp1 => ⟨rfl, _, rfl, ?_⟩⟩
      rw [dec_int]
      cases r1 == 0 with
      | false => exact iteF ⟨rfl, st1, kp1⟩
      | true =>
        refine iteT ⟨_, rfl, _, rfl, _, _, rfl, rfl, by show 2 ≤ sizeLine; decide, fun p hp => ?_⟩
        obtain ⟨ps, pc⟩ := st1.tracked hp
        refine ⟨s, c, _, rfl, st1.upd ps pc, .inr ⟨p, _, rfl, upd_same, ps, pc, by simp, by simp, fun v hv H' st3 kp3 => ?_⟩⟩
        have kk : Keep H H' s c := (kp1.trans (Keep.of_same (same_upd hp))).trans kp3
        simp only [List.mem_cons, List.not_mem_nil, or_false] at hv
        rcases hv with rfl | rfl
        · exact k _ _ st3 kk
        · exact k _ _ st3 kk
    · rintro σ' H1 ⟨rfl, st1, kp1⟩
      refine ⟨_, rfl, _, rfl, _, rfl, _, rfl, s, c, m, rfl, st1, h0, by omega, fun r2 H2 a2 b2 st2 kp2 => ?_⟩
      refine ⟨_, _, rfl, rfl, by show 3 ≤ sizeLine; decide, fun p hp => ?_⟩
      obtain ⟨ps, pc⟩ := st2.tracked hp
      refine ⟨s, c, _, rfl, st2.upd ps pc, .inr ⟨p, _, rfl, upd_same, ps, pc, by simp, by simp, fun v hv H' st3 kp3 => ?_⟩⟩
      have kk : Keep H H' s c := ((kp1.trans kp2).trans (Keep.of_same (same_upd hp))).trans kp3
      simp only [List.mem_cons, List.not_mem_nil, or_false] at hv
      rcases hv with rfl | rfl | rfl
      · exact k _ _ st3 kk
      · exact k _ _ st3 kk
      · exact k _ _ st3 kk
def nmL : List Str := ["ann", "bob", "x", "p", "q7", "a234567890123456", "eve", "joe", "z"]
def wd (z : Str) : Prop := z.length ≤ 100 ∧ PyData.strOk z = true
theorem nm_ok : ∀ i : Nat, i < 9 → wd (nmL.getD i "") := by
  intro i hi
  match i, hi with
  | 0, _ => exact ⟨by decide +kernel, by decide +kernel⟩
  | 1, _ => exact ⟨by decide +kernel, by decide +kernel⟩
  | 2, _ => exact ⟨by decide +kernel, by decide +kernel⟩
  | 3, _ => exact ⟨by decide +kernel, by decide +kernel⟩
  | 4, _ => exact ⟨by decide +kernel, by decide +kernel⟩
  | 5, _ => exact ⟨by decide +kernel, by decide +kernel⟩
  | 6, _ => exact ⟨by decide +kernel, by decide +kernel⟩
  | 7, _ => exact ⟨by decide +kernel, by decide +kernel⟩
  | 8, _ => exact ⟨by decide +kernel, by decide +kernel⟩
  | _ + 9, h => exact absurd h (by omega)
def spNames : Sp := fun vs H Q _ => ∃ (s c : Addr), vs = [.ref s] ∧ StAt H s c ∧ ∀ r (W : List Str) H', H r = none → H' r = some (.lst (W.map V.str)) → W.length ≤ 9 → (∀ z ∈ W, wd z) → StAt H' s c → Keep H H' s c → Q (.ref r) H'
theorem ok_law_names {P : Program} {w : World} {K : PySem.W.Frag} {mg : Str → Option Value} {base : Heap} {f : Addr} {fd : FuncData} (T : Tx K mg) (c_law_draw : C8.Cal P w K mg base 1 "_law_draw" spDraw []) (c_law_pick : C8.Cal P w K mg base 2 "_law_pick" spPick [])
    (F : FunD K "_law_names" "_law_names" (defArgs s_law_names) (defBody s_law_names) (defScope s_law_names) [] [] f fd) : FnOk P w K mg base CX0 3 f fd ["state"] spNames := by
  refine F.ok sc_law_names (fun vs H Q E h => ?_) (fun cdv A outer s0 H vs Q E hr h => ?_)
  · obtain ⟨s, c, rfl, _⟩ := h
    rfl
  · obtain ⟨s, c, rfl, hst, k⟩ := h
    refine ⟨_, PSs.nox (pss_cons (ps_set (i := 1) sc_law_names.nd rfl (Or.inr rfl) (pe_lst (pa_cons pe_str (pa_cons pe_str (pa_cons pe_str (pa_cons pe_str (pa_cons pe_str (pa_cons pe_str (pa_cons pe_str (pa_cons pe_str (pa_cons pe_str pa_nil))))))))))) (pss_cons (ps_set (i := 2) sc_law_names.nd rfl (Or.inl rfl) (pe_c c_law_pick hr (by decide) rfl (pa_cons (pv 0) (pa_cons (pe_lst (pa_cons pe_int (pa_cons pe_int (pa_cons pe_int (pa_cons (pe_c c_law_draw hr (by decide) rfl (pa_cons (pv 0) (pa_cons pe_int pa_nil))) pa_nil))))) pa_nil)))) (pss_cons (ps_set (i := 3) sc_law_names.nd rfl (Or.inr rfl) (pe_c c_law_draw hr (by decide) rfl (pa_cons (pv 0) (pa_cons pe_int pa_nil)))) (pss_cons (ps_setLc (i := 4) (own := [("k", 5)]) (g := gName 5) rfl sc_law_names.nd rfl rfl (sw_true rfl rfl rfl (by decide +kernel)) (pi_range1 rfl T.f_range (pa_cons (pv 2) pa_nil)) (blkOk_by (own := [("k", 5)]) (N := ["state", "names", "many", "first", "rows", "k"]) (sc := defScope s_law_names) (by decide +kernel)) (fun _ _ _ _ _ => pg_name (i := 5) sc_law_names.nd rfl (Or.inl rfl)) (fun _ _ _ _ _ => pts_nil) (fun _ _ _ _ _ => (pe_ix (ixListK K rfl) (pv 1) (pe_op op_mod (pe_callTy call_int1 rfl T.f_int (by decide +kernel) (pa_cons (pe_op op_add (pv 3) (pv 5)) pa_nil)) pe_int) (fun _ _ => rfl)))) (C8.pss_cut (ps_if (PW.pt (pw_and (pt_cmpR op_gt (pv 2) pe_int (nomark _)) (pw_and1 (pt_cmpR op_eq (pe_c c_law_draw hr (by decide) rfl (pa_cons (pv 0) (pa_cons pe_int pa_nil))) pe_int (nomark _))))) (pss_one (ps_asg (pe_c c_law_pick hr (by decide) rfl (pa_cons (pv 0) (pa_cons (pe_lst (pa_cons pe_str (pa_cons pe_str (pa_cons pe_str (pa_cons pe_str (pa_cons pe_str (pa_cons (pe_ix ix_list (pv 4) pe_int (fun _ _ => rfl)) pa_nil))))))) pa_nil))) (pg_sub (pv 4) (pe_c c_law_draw hr (by decide) rfl (pa_cons (pv 0) (pa_cons (pv 2) pa_nil))) set_list))) pss_nil) (pss_one (ps_ret (pv 4)))))))), ?_⟩
    refine ⟨by show 9 ≤ sizeLine; decide, fun n hn => ?_⟩
    obtain ⟨ns, nc⟩ := hst.tracked hn
    have en : (upd H n (.lst (nmL.map V.str))) n = some (.lst (nmL.map V.str)) := upd_same
    have kn : Keep H (upd H n (.lst (nmL.map V.str))) s c := Keep.of_same (same_upd hn)
    have st1 := hst.upd (o := .lst (nmL.map V.str)) ns nc
    change tSeq _ _ _ _ (upd H n (.lst (nmL.map V.str)))
    generalize upd H n (.lst (nmL.map V.str)) = H1 at *
    refine ⟨_, rfl, _, rfl, s, c, 10, rfl, st1, by decide, by decide, fun d H2 d0 d1 st2 kp2 => ⟨by show 4 ≤ sizeLine; decide, fun p hp => ?_⟩⟩
    obtain ⟨ps, pc⟩ := st2.tracked hp
    refine ⟨s, c, _, rfl, st2.upd ps pc, .inr ⟨p, _, rfl, upd_same, ps, pc, by simp, by simp, fun v hv H3 st3 kp3 => ?_⟩⟩
    obtain ⟨m, rfl, m0, m1⟩ : ∃ m : Int, v = .int m ∧ 0 ≤ m ∧ m ≤ 9 := by
      simp only [List.mem_cons, List.not_mem_nil, or_false] at hv
      rcases hv with rfl | rfl | rfl | rfl
      · exact ⟨_, rfl, by decide, by decide⟩
      · exact ⟨_, rfl, by decide, by decide⟩
      · exact ⟨_, rfl, by decide, by decide⟩
      · exact ⟨_, rfl, by omega, by omega⟩
    have k3 := ((kn.trans kp2).trans (Keep.of_same (same_upd hp))).trans kp3
    have en3 := kp3 _ _ ((same_upd hp) _ _ (kp2 _ _ en ns nc)) ns nc
    clear hv kp2 kp3 hp en
    refine ⟨_, rfl, s, c, 9, rfl, st3, by decide, by decide, fun f0 H4 g0 g1 st4 kp4 => ?_⟩
    have k4 := k3.trans kp4
    have en4 := kp4 _ _ en3 ns nc
    clear kp4 en3 k3 st3
    refine ⟨_, rfl, m, rfl, by omega, by omega, fun D hD => ?_⟩
    have nD : n ≠ D := ne_of_none en4 hD
    have hR : ∀ o, SqL K (upd H4 D o) n (nmL.map V.str) := fun o => SqL.of ((upd_ne nD).trans en4)
    refine lc_pureN walk_range (fun i => V.str (nmL.getD ((f0 + (0 + (i : Nat))) % 9).toNat "")) (by rw [sizeLine_eq]; omega) (fun _ _ => trivial) (fun i x H5 kk hi y q => ?_) ?_
    · obtain ⟨rfl, rfl⟩ := y
      refine ⟨rfl, _, rfl, _, rfl, _, rfl, _, _, rfl, rfl, .inl ⟨_, rfl, _, _, rfl, rfl, (by show (0 : Int) < 9; decide), n, _, _, _, rfl, rfl, hR _, ?_, q⟩⟩
      have e0 : 0 ≤ (f0 + (0 + (i : Nat))) % 9 := Int.emod_nonneg _ (by decide)
      have e1 : (f0 + (0 + (i : Nat))) % 9 < 9 := Int.emod_lt_of_pos _ (by decide)
      rw [atN V.non e0 (by show _ < ((9 : Nat) : Int); omega)]
      rw [List.getD_eq_getElem?_getD, List.getD_eq_getElem?_getD, List.getElem?_map]
      have e2 : ((f0 + (0 + (i : Nat))) % 9).toNat < nmL.length := by show _ < 9; omega
      rw [List.getElem?_eq_getElem e2]
      rfl
    · let W : List Str := (List.range m.toNat).map fun i => nmL.getD ((f0 + (0 + (i : Nat))) % 9).toNat ""
      have eW : (List.range m.toNat).map (fun i => V.str (nmL.getD ((f0 + (0 + (i : Nat))) % 9).toNat "")) = W.map V.str := by
        show _ = List.map _ (List.map _ _)
        rw [List.map_map]
        rfl
      have lW : W.length = m.toNat := by rw [List.length_map, List.length_range]
      have hW : ∀ z ∈ W, wd z := by
        intro z hz
        obtain ⟨i, _, rfl⟩ := List.mem_map.mp hz
        have e0 : 0 ≤ (f0 + (0 + (i : Nat))) % 9 := Int.emod_nonneg _ (by decide)
        have e1 : (f0 + (0 + (i : Nat))) % 9 < 9 := Int.emod_lt_of_pos _ (by decide)
        exact nm_ok _ (by omega)
      rw [eW]
      clear_value W
      obtain ⟨Ds, Dc⟩ := st4.tracked hD
      have st5 := st4.upd (o := .lst (W.map V.str)) Ds Dc
      have k5 := k4.trans (Keep.of_same (same_upd (o := .lst (W.map V.str)) hD))
      have eD : (upd H4 D (.lst (W.map V.str))) D = some (.lst (W.map V.str)) := upd_same
      have hD0 : H D = none := k4.none hD Ds Dc
      clear eW hR en4 k4 st4
      generalize upd H4 D (.lst (W.map V.str)) = H5 at *
      refine ⟨fun σ' H6 => ∃ W6 : List Str, (∃ v1 : Option V, σ' = [some (.ref s), some (.ref n), some (.int m), some (.int f0), some (.ref D), v1]) ∧ H6 D = some (.lst (W6.map V.str)) ∧ W6.length ≤ 9 ∧ (∀ z ∈ W6, wd z) ∧ StAt H6 s c ∧ Keep H H6 s c, ?_, ?_⟩
      · refine ⟨_, rfl, _, _, rfl, rfl, _, rfl, ?_⟩
        by_cases c1 : 0 < m
        · rw [decide_eq_true c1]
          refine iteT ⟨_, rfl, s, c, 6, rfl, st5, by decide, by decide, fun r6 H6 _ _ st6 kp6 => ⟨rfl, _, rfl, ?_⟩⟩
          have eD6 := kp6 _ _ eD Ds Dc
          rw [dec_int]
          cases r6 == 0 with
          | false => exact iteF ⟨W, ⟨_, rfl⟩, eD6, by omega, hW, st6, k5.trans kp6⟩
          | true =>
            refine iteT ?_
            have hl0 : 0 < (W.map V.str).length := by rw [List.length_map]; omega
            obtain ⟨w0, W', rfl⟩ : ∃ w0 W', W = w0 :: W' := by
              cases W with
              | nil => simp at hl0
              | cons a r => exact ⟨a, r, rfl⟩
            refine ⟨_, rfl, _, rfl, D, _, 0, .str w0, rfl, rfl, SqL.of eD6, (show atI (V.str w0 :: W'.map V.str) 0 = some (V.str w0) from atC _ _), by show 6 ≤ sizeLine; decide, fun q hq => ?_⟩
            obtain ⟨qs, qc⟩ := st6.tracked hq
            refine ⟨s, c, _, rfl, st6.upd qs qc, .inr ⟨q, _, rfl, upd_same, qs, qc, by simp, by simp, fun v hv H7 st7 kp7 => ?_⟩⟩
            have hw0 := hW w0 (List.mem_cons_self ..)
            obtain ⟨z, rfl, hz⟩ : ∃ z : Str, v = .str z ∧ wd z := by
              simp only [List.mem_cons, List.not_mem_nil, or_false] at hv
              rcases hv with rfl | rfl | rfl | rfl | rfl | rfl
              · exact ⟨_, rfl, by decide +kernel, by decide +kernel⟩
              · exact ⟨_, rfl, by decide +kernel, by decide +kernel⟩
              · exact ⟨_, rfl, by decide +kernel, by decide +kernel⟩
              · exact ⟨_, rfl, by decide +kernel, by decide +kernel⟩
              · exact ⟨_, rfl, by decide +kernel, by decide +kernel⟩
              · exact ⟨_, rfl, hw0⟩
            have eD7 := kp7 _ _ ((same_upd hq) _ _ eD6) Ds Dc
            have k7 := ((k5.trans kp6).trans (Keep.of_same (same_upd hq))).trans kp7
            clear kp6 kp7 hq
            refine ⟨_, rfl, _, rfl, _, rfl, s, c, m, rfl, st7, c1, by omega, fun at_ H8 a0 a1 st8 kp8 => ?_⟩
            have eD8 := kp8 _ _ eD7 Ds Dc
            refine ⟨D, _, at_, at_.toNat, rfl, rfl, eD8, ixP a0 (by rw [List.length_map, lW]; omega), ?_⟩
            refine ⟨(w0 :: W').set at_.toNat z, ⟨_, rfl⟩, ?_, ?_, ?_, st8.upd Ds Dc, fun b o e h1 h2 => ?_⟩
            · rw [upd_same, List.map_set]
            · rw [List.length_set]
              omega
            · intro y hy
              rcases List.mem_or_eq_of_mem_set hy with h | h
              · exact hW y h
              · rw [h]
                exact hz
            · rw [upd_ne (ne_of_none e hD0)]
              exact (k7.trans kp8) b o e h1 h2
        · rw [decide_eq_false c1]
          exact iteF (iteF ⟨W, ⟨_, rfl⟩, eD, by omega, hW, st5, k5⟩)
      · rintro σ' H6 ⟨W6, ⟨v1, rfl⟩, e6, l6, h6, st6, k6⟩
        exact ⟨_, rfl, k D W6 H6 hD0 e6 l6 h6 st6 k6⟩
end K14
set_option maxHeartbeats 1000000
set_option pp.maxSteps 500
namespace K14
open PySem PySem.Spec PyProof.Rows L2 SX TK NdefX
open C8 (pe_c)
def spLName : Sp := fun vs H Q _ => ∃ z : Str, vs = [.str z] ∧ z.length ≤ 1000 ∧ ∀ H', Same H H' → Q (.bl (nameB z)) H'
theorem ok_law_is_name {P : Program} {w : World} {K : PySem.W.Frag} {mg : Str → Option Value} {base : Heap} {f : Addr} {fd : FuncData} (T : Tx K mg) 
    (F : FunD K "_law_is_name" "_law_is_name" (defArgs s_law_is_name) (defBody s_law_is_name) (defScope s_law_is_name) [] [] f fd) : FnOk P w K mg base CX0 1 f fd ["word"] spLName := by
  refine F.ok sc_law_is_name (fun vs H Q E h => ?_) (fun cdv A outer s0 H vs Q E hr h => ?_)
  · obtain ⟨z, rfl, _⟩ := h
    rfl
  · obtain ⟨z, rfl, hz, k⟩ := h
    have hz2 : z.length ≤ sizeLine := Nat.le_trans hz (by decide)
    have eN : nameB z = ((decide ((1 : Int) ≤ (z.length : Int)) && decide ((z.length : Int) ≤ 16)) && ((TL.tl z).all fun c => decide (c ∈ TL.tl zNM)) && decide ((TL.tl z).getD 0 0 ∈ TL.tl zSM)) := by
      unfold nameB consB consL
      rw [len_eq]
    have kF : nameB z = false → Q (.bl false) H := fun e => by
      have q := k H fun _ _ e => e
      rw [e] at q
      exact q
    refine ⟨_, PSs.nox (pss_cons (ps_set (i := 1) sc_law_is_name.nd rfl (Or.inr rfl) pe_str) (C8.pss_cut (ps_if (PW.pt (pw_or (pt_not (pt_chain op_le op_le pe_int (pe_callB call_len_str rfl T.f_len PySem.boot_len (pa_cons (pv 0) pa_nil)) pe_int)) (pw_or1 (pt_cmpR op_notIn_sign (pe_ix ix_str (pv 0) pe_int (fun _ _ => rfl)) (pv 1) (by with_unfolding_all rfl))))) (pss_one (ps_ret pe_bl)) pss_nil) (pss_one (ps_ret (pe_cmpR op_eq (pe_callB call_len_seq rfl T.f_len PySem.boot_len (pa_cons (pe_lc (own := [("char", 2)]) (g := gName 2) rfl sc_law_is_name.nd (pi_str (pv 0)) (blkOk_by (own := [("char", 2)]) (N := ["word", "small", "char"]) (sc := defScope s_law_is_name) (by decide +kernel)) (fun _ _ _ _ _ => pg_name (i := 2) sc_law_is_name.nd rfl (Or.inl rfl)) (fun _ _ _ _ _ => pts_one (pt_cmpR op_notIn_sign (pv 2) (pe_op op_add_str (pv 1) pe_str) (by with_unfolding_all rfl))) (fun _ _ _ _ _ => (pv 2))) pa_nil)) pe_int (nomark _)))))), ?_⟩
    refine ⟨fun σ' H' => (1 ≤ z.length ∧ z.length ≤ 16 ∧ (TL.tl z).getD 0 0 ∈ TL.tl zSM) ∧ σ' = [some (.str z), some (.str zSM), none] ∧ H' = H, ?_, ?_⟩
    · refine ⟨_, rfl, _, rfl, hz2, _, _, rfl, rfl, _, rfl, ?_⟩
      by_cases c1 : (1 : Int) ≤ (z.length : Int)
      · rw [decide_eq_true c1]
        refine iteT ⟨_, _, rfl, rfl, _, rfl, ?_⟩
        by_cases c2 : (z.length : Int) ≤ 16
        · rw [decide_eq_true c2]
          refine iteF ⟨_, rfl, z, 0, _, rfl, rfl, hz2, at0 0 (by rw [← len_eq]; omega), _, rfl, _, _, rfl, rfl, _, rfl, ?_⟩
          by_cases c3 : (TL.tl z).getD 0 0 ∈ TL.tl zSM
          · rw [decide_eq_true c3]
            exact iteF ⟨⟨by omega, by omega, c3⟩, rfl, rfl⟩
          · rw [decide_eq_false c3]
            exact iteT (kF (by rw [eN, decide_eq_false c3, Bool.and_false]))
        · rw [decide_eq_false c2]
          exact iteT (iteT (kF (by rw [eN, decide_eq_false c2, Bool.and_false, Bool.false_and, Bool.false_and])))
      · rw [decide_eq_false c1]
        exact iteF ⟨_, rfl, iteT (iteT (kF (by rw [eN, decide_eq_false c1, Bool.false_and, Bool.false_and, Bool.false_and])))⟩
    · rintro σ' H' ⟨⟨c1, c2, c3⟩, rfl, rfl⟩
      rw [decide_eq_true (show (1 : Int) ≤ (z.length : Int) by omega), decide_eq_true (show (z.length : Int) ≤ 16 by omega), decide_eq_true c3, Bool.and_true, Bool.and_true, Bool.true_and] at eN
      refine ⟨_, rfl, _, rfl, fun D hD => ?_⟩
      have hn : z.cps.size ≤ sizeLine := by
        rw [size_tl, ← len_eq]
        exact hz2
      have hat : ∀ (i c : Nat), z.cps[i]? = some c → (TL.tl z).getD i 0 = c := fun i c hc => by
        have h5 : (TL.tl z)[i]? = some c := by
          show z.cps.toList[i]? = some c
          rw [Array.getElem?_toList]
          exact hc
        rw [List.getD_eq_getElem?_getD, h5]
        rfl
      refine lc_filt walk_str (fun i => V.str (S [(TL.tl z).getD i 0])) (fun i => !decide ((TL.tl z).getD i 0 ∈ TL.tl zNM)) hn (fun _ _ => trivial) (fun i x H1 kk hi y qq => ?_) (fun i x H1 kk hi hb y qq => ?_) ?_
      · obtain ⟨rfl, c, hc, rfl⟩ := y
        rw [hat i c hc] at qq
        refine ⟨rfl, _, rfl, _, rfl, _, _, rfl, rfl, by decide +kernel, _, _, rfl, rfl, _, rfl, ?_⟩
        have e9 : (zSM ++ "0123456789" : Str) = zNM := by decide +kernel
        rw [e9]
        exact qq
      · obtain ⟨rfl, c, hc, rfl⟩ := y
        rw [hat i c hc] at qq
        exact ⟨_, rfl, qq⟩
      · refine ⟨D, _, rfl, .inl (SqL.of upd_same), rfl, ?_⟩
        have e8 : decide (V.int ((List.map (fun i => V.str (S [(TL.tl z).getD i 0])) (List.filter (fun i => !decide ((TL.tl z).getD i 0 ∈ TL.tl zNM)) (List.range z.cps.size))).length : Int) = V.int 0) = nameB z := by
          rw [dec_int, eN, List.length_map, Bool.eq_iff_iff, beq_iff_eq, List.all_eq_true]
          constructor
          · intro h x hx
            have h2 : List.filter (fun i => !decide ((TL.tl z).getD i 0 ∈ TL.tl zNM)) (List.range z.cps.size) = [] := List.length_eq_zero_iff.mp (by omega)
            obtain ⟨i, hi, rfl⟩ := List.mem_iff_getElem.mp hx
            have h3 := List.filter_eq_nil_iff.mp h2 i (List.mem_range.mpr (by rw [size_tl]; exact hi))
            rw [List.getD_eq_getElem?_getD, List.getElem?_eq_getElem hi] at h3
            simpa using h3
          · intro h
            have h2 : List.filter (fun i => !decide ((TL.tl z).getD i 0 ∈ TL.tl zNM)) (List.range z.cps.size) = [] := by
              refine List.filter_eq_nil_iff.mpr fun i hi => ?_
              have hi2 : i < (TL.tl z).length := by have := List.mem_range.mp hi; rw [size_tl] at this; exact this
              have h4 := h (TL.tl z)[i] (List.getElem_mem _)
              rw [List.getD_eq_getElem?_getD, List.getElem?_eq_getElem hi2]
              simpa using h4
            rw [h2]
            rfl
        rw [e8]
        exact k _ (same_upd hD)
def spRight (K : PySem.W.Frag) : Sp := fun vs H Q _ => ∃ (a : Addr) (W : List Str), vs = [.ref a] ∧ H a = some (.lst (W.map V.str)) ∧ W.length ≤ 1000 ∧ (∀ z ∈ W, z.length ≤ 1000) ∧ ∀ H', Same H H' → Q (.bl (arB W)) H'
theorem ok_law_names_right {P : Program} {w : World} {K : PySem.W.Frag} {mg : Str → Option Value} {base : Heap} {f : Addr} {fd : FuncData} (T : Tx K mg) (c_law_is_name : C8.Cal P w K mg base 1 "_law_is_name" spLName [])
    (F : FunD K "_law_names_right" "_law_names_right" (defArgs s_law_names_right) (defBody s_law_names_right) (defScope s_law_names_right) [] [] f fd) : FnOk P w K mg base CX0 2 f fd ["rows"] (spRight K) := by
  refine F.ok sc_law_names_right (fun vs H Q E h => ?_) (fun cdv A outer s0 H vs Q E hr h => ?_)
  · obtain ⟨a, W, rfl, _⟩ := h
    rfl
  · obtain ⟨a, W, rfl, ha, hW, hz, k⟩ := h
    refine ⟨_, PSs.nox (C8.pss_cut (ps_if (pt_not (pt_chain op_le op_le pe_int (pe_callB call_len_seq rfl T.f_len PySem.boot_len (pa_cons (pv 0) pa_nil)) pe_int)) (pss_one (ps_ret pe_bl)) pss_nil) (pss_cons (ps_for PassesOwn.never rfl (pi_list (pv 0)) (pg_name (i := 1) sc_law_names_right.nd rfl (Or.inl rfl)) (pss_one (ps_if (PW.pt (pw_or (pt_not (pt_val (pe_c c_law_is_name hr (by decide) rfl (pa_cons (pv 1) pa_nil)))) (pw_or1 (pt_cmpR op_gt (pe_bm PySem.F.plainAttrs_list PySem.F.slot_list_count PySem.F.type_list_count (TK.lcountK K rfl) (pv 0) (pa_cons (pv 1) pa_nil)) pe_int (nomark _))))) (pss_one (ps_ret pe_bl)) pss_nil))) (pss_one (ps_ret pe_bl)))), ?_⟩
    have kF : ¬ arP W → ∀ H', Same H H' → Q (.bl false) H' := fun n H' s => by
      have q := k H' s
      unfold arB at q
      rw [decide_eq_false n] at q
      exact q
    refine ⟨fun σ' H' => (1 ≤ W.length ∧ W.length ≤ 8) ∧ σ' = [some (.ref a), none] ∧ H' = H, ?_, ?_⟩
    · refine ⟨_, rfl, a, _, rfl, .inl (SqL.of ha), _, _, rfl, rfl, _, rfl, ?_⟩
      rw [List.length_map]
      by_cases c1 : 1 ≤ W.length
      · rw [decide_eq_true (by omega)]
        refine iteT ⟨_, _, rfl, rfl, _, rfl, ?_⟩
        by_cases c2 : W.length ≤ 8
        · rw [decide_eq_true (by omega)]
          exact iteF ⟨⟨c1, c2⟩, rfl, rfl⟩
        · rw [decide_eq_false (by omega)]
          exact iteT (kF (fun z => c2 z.2.1) _ fun _ _ e => e)
      · rw [decide_eq_false (by omega)]
        exact iteF ⟨_, rfl, iteT (kF (fun z => c1 z.1) _ fun _ _ e => e)⟩
    · rintro σ' H' ⟨⟨c1, c2⟩, rfl, rfl⟩
      refine ⟨_, rfl, a, rfl, ⟨_, SqL.of ha⟩, for_list (K := K) (a := a) (xs := W.map V.str) (fun i σ H2 => Same H' H2 ∧ (∀ z ∈ W.take i, nameB z = true ∧ W.count z ≤ 1) ∧ ∃ v, σ = [some (.ref a), v]) ⟨fun _ _ e => e, (fun _ h => nomatch h), none, rfl⟩ (fun i σ H2 _ q => SqL.of (q.1 _ _ ha)) ?_ ?_⟩
      · rintro i y σ H2 hi ⟨s2, hg, v, rfl⟩
        obtain ⟨z, hzi, rfl⟩ : ∃ z, W[i]? = some z ∧ y = V.str z := by
          rw [List.getElem?_map] at hi
          obtain ⟨z, hz, e⟩ := Option.map_eq_some_iff.mp hi
          exact ⟨z, hz, e.symm⟩
        have hm := List.mem_of_getElem? hzi
        refine ⟨_, rfl, z, rfl, hz _ hm, fun H3 s3 => ⟨_, rfl, ?_⟩⟩
        have s23 := s2.trans s3
        by_cases cn : nameB z = true
        · rw [cn]
          refine iteF ⟨_, rfl, .inl ⟨rfl, _, SqL.of (s23 _ _ ha)⟩, _, rfl, a, W, z, rfl, rfl, SqL.of (s23 _ _ ha), _, _, rfl, rfl, _, rfl, ?_⟩
          by_cases cc : W.count z ≤ 1
          · rw [decide_eq_false (by omega)]
            refine iteF ⟨s23, ?_, _, rfl⟩
            intro x hx
            rw [List.take_add_one, hzi] at hx
            rcases List.mem_append.mp hx with q | q
            · exact hg x q
            · rw [List.mem_singleton.mp q]
              exact ⟨cn, cc⟩
          · rw [decide_eq_true (by omega)]
            exact iteT (kF (fun q => cc (nodup_count.mp q.2.2.1 z hm)) _ s23)
        · rw [ef cn]
          exact iteT (iteT (kF (fun q => cn (q.2.2.2 z hm)) _ s23))
      · rintro σ H2 ⟨s2, hg, v, rfl⟩
        rw [List.length_map, List.take_length] at hg
        have q := k H2 s2
        unfold arB at q
        rw [decide_eq_true (show arP W from ⟨c1, c2, nodup_count.mpr fun z hz => (hg z hz).2, fun z hz => (hg z hz).1⟩)] at q
        exact q
end K14
set_option maxHeartbeats 1000000
set_option pp.maxSteps 500
namespace K14
open PySem PySem.Spec PyProof.Rows L2 SX TK NdefX
open C8 (pe_c)
theorem at_int {l : List Int} {i : Nat} (h : i < l.length) : atI (l.map V.int) (0 + (i : Nat)) = some (.int (l.getD i 0)) := by
  rw [atN V.non (by omega) (by rw [List.length_map]; omega)]
  have e : (0 + (i : Int)).toNat = i := by omega
  rw [e, List.getD_eq_getElem?_getD, List.getD_eq_getElem?_getD, List.getElem?_map, List.getElem?_eq_getElem h]
  rfl
theorem at_str {l : List Str} {i : Nat} (h : i < l.length) : atI (l.map V.str) (0 + (i : Nat)) = some (.str (l.getD i "")) := by
  rw [atN V.non (by omega) (by rw [List.length_map]; omega)]
  have e : (0 + (i : Int)).toNat = i := by omega
  rw [e, List.getD_eq_getElem?_getD, List.getD_eq_getElem?_getD, List.getElem?_map, List.getElem?_eq_getElem h]
  rfl
def vL (c : Cf) : List Int := [c.v 0, c.v 1, c.v 2, c.v 3, c.v 4, c.v 5]
def sN : List Str := ["first", "patience", "check", "longest", "most_calls", "save"]
def lN : List Int := [20, 1000, 1000, 9999, 50, 64]
theorem jud_at (c : Cf) : ∀ i : Nat, i < 6 → (jud c).drop (3 + i) = (sN.getD i "", rB (lN.getD i 0) ((vL c).getD i 0)) :: (jud c).drop (3 + (i + 1)) := by
  intro i hi
  match i, hi with
  | 0, _ => rfl
  | 1, _ => rfl
  | 2, _ => rfl
  | 3, _ => rfl
  | 4, _ => rfl
  | 5, _ => rfl
  | _ + 6, h => exact absurd h (by omega)
def spDue (K : PySem.W.Frag) : Sp := fun vs H Q _ => ∃ (ua wa va : Addr) (c : Cf), vs = [.str c.host, .ref ua, .ref wa, .ref va] ∧ H ua = some (.lst (c.U.map V.str)) ∧ H wa = some (.lst (c.W.map V.str)) ∧ H va = some (.lst ((vL c).map V.int)) ∧ CfOk c ∧ ∀ H', Same H H' → Q (.str (fstBad (jud c))) H'
theorem ok_law_due {P : Program} {w : World} {K : PySem.W.Frag} {mg : Str → Option Value} {base : Heap} {f : Addr} {fd : FuncData} (T : Tx K mg) (c_law_is_name : C8.Cal P w K mg base 1 "_law_is_name" spLName []) (c_law_names_right : C8.Cal P w K mg base 2 "_law_names_right" (spRight K) [])
    (F : FunD K "_law_due" "_law_due" (defArgs s_law_due) (defBody s_law_due) (defScope s_law_due) [] [] f fd) : FnOk P w K mg base CX0 3 f fd ["host", "users", "stations", "values"] (spDue K) := by
  refine F.ok sc_law_due (fun vs H Q E h => ?_) (fun cdv A outer s0 H vs Q E hr h => ?_)
  · obtain ⟨ua, wa, va, c, rfl, _⟩ := h
    rfl
  · obtain ⟨ua, wa, va, c, rfl, hu, hw, hv, ok, k⟩ := h
    refine ⟨_, PSs.nox (C8.pss_cut (ps_if (pt_not (pt_val (pe_c c_law_is_name hr (by decide) rfl (pa_cons (pv 0) pa_nil)))) (pss_one (ps_ret pe_str)) pss_nil) (C8.pss_cut (ps_if (pt_not (pt_val (pe_c c_law_names_right hr (by decide) rfl (pa_cons (pv 1) pa_nil)))) (pss_one (ps_ret pe_str)) pss_nil) (C8.pss_cut (ps_if (PW.pt (pw_or (pt_not (pt_val (pe_c c_law_names_right hr (by decide) rfl (pa_cons (pv 2) pa_nil)))) (pw_or1 (pt_cmpR op_in_seq (pv 0) (pv 2) (by with_unfolding_all rfl))))) (pss_one (ps_ret pe_str)) pss_nil) (pss_cons (ps_set (i := 4) sc_law_due.nd rfl (Or.inl rfl) (pe_lst (pa_cons pe_str (pa_cons pe_str (pa_cons pe_str (pa_cons pe_str (pa_cons pe_str (pa_cons pe_str pa_nil)))))))) (pss_cons (ps_set (i := 5) sc_law_due.nd rfl (Or.inl rfl) (pe_lst (pa_cons pe_int (pa_cons pe_int (pa_cons pe_int (pa_cons pe_int (pa_cons pe_int (pa_cons pe_int pa_nil)))))))) (pss_cons (ps_for PassesOwn.never rfl (pi_range1 rfl T.f_range (pa_cons pe_int pa_nil)) (pg_name (i := 6) sc_law_due.nd rfl (Or.inl rfl)) (pss_one (ps_if (pt_not (pt_chain op_le op_le pe_int (pe_ix ix_list (pv 3) (pv 6) (fun _ _ => rfl)) (pe_ix ix_list (pv 5) (pv 6) (fun _ _ => rfl)))) (pss_one (ps_ret (pe_ix ix_list (pv 4) (pv 6) (fun _ _ => rfl)))) pss_nil))) (pss_one (ps_ret pe_str)))))))), ?_⟩
    have e0 : fstBad (jud c) = if nameB c.host = true then (if arB c.U = true then (if stB c = true then fstBad ((jud c).drop 3) else "stations") else "users") else "host" := rfl
    refine ⟨fun σ' H' => nameB c.host = true ∧ σ' = [some (.str c.host), some (.ref ua), some (.ref wa), some (.ref va), none, none, none] ∧ Same H H', ?_, ?_⟩
    · refine ⟨_, rfl, c.host, rfl, ok.h, fun H1 s1 => ⟨_, rfl, ?_⟩⟩
      by_cases q : nameB c.host = true
      · rw [q]
        exact iteF ⟨rfl, rfl, s1⟩
      · rw [if_neg q] at e0
        rw [e0] at k
        rw [ef q]
        exact iteT (k _ s1)
    · rintro σ' H1 ⟨q1, rfl, s1⟩
      rw [if_pos q1] at e0
      refine ⟨fun σ' H' => arB c.U = true ∧ σ' = [some (.str c.host), some (.ref ua), some (.ref wa), some (.ref va), none, none, none] ∧ Same H H', ?_, ?_⟩
      · refine ⟨_, rfl, ua, c.U, rfl, s1 _ _ hu, ok.u1, ok.u2, fun H2 s2 => ⟨_, rfl, ?_⟩⟩
        by_cases q : arB c.U = true
        · rw [q]
          exact iteF ⟨rfl, rfl, s1.trans s2⟩
        · rw [if_neg q] at e0
          rw [e0] at k
          rw [ef q]
          exact iteT (k _ (s1.trans s2))
      · rintro σ' H2 ⟨q2, rfl, s2⟩
        clear s1
        rw [if_pos q2] at e0
        refine ⟨fun σ' H' => stB c = true ∧ σ' = [some (.str c.host), some (.ref ua), some (.ref wa), some (.ref va), none, none, none] ∧ Same H H', ?_, ?_⟩
        · refine ⟨_, rfl, wa, c.W, rfl, s2 _ _ hw, ok.w1, ok.w2, fun H3 s3 => ⟨_, rfl, ?_⟩⟩
          have s23 := s2.trans s3
          have kF : stB c = false → Q (.str "stations") H3 := fun q => by
            rw [if_neg (by rw [q]; decide)] at e0
            rw [e0] at k
            exact k _ s23
          by_cases q : arB c.W = true
          · have es : stB c = decide (c.host ∉ c.W) := by unfold stB; rw [if_pos q]
            rw [q]
            refine iteF ⟨_, rfl, _, rfl, wa, _, rfl, .inl (SqL.of (s23 _ _ hw)), rfl, L2.flat_strs _, _, rfl, ?_⟩
            rw [inV_strs]
            by_cases qh : c.host ∈ c.W
            · rw [decide_eq_true qh]
              exact iteT (kF (by rw [es]; simp [qh]))
            · rw [decide_eq_false qh]
              exact iteF ⟨by rw [es]; simp [qh], rfl, s23⟩
          · have es : stB c = false := by unfold stB; rw [if_neg q]
            rw [ef q]
            exact iteT (iteT (kF es))
        · rintro σ' H3 ⟨q3, rfl, s3⟩
          clear s2
          rw [if_pos q3] at e0
          refine ⟨by show 6 ≤ sizeLine; decide, fun n hn => ?_⟩
          have sn := s3.trans (same_upd (o := .lst (sN.map V.str)) hn)
          have en : (upd H3 n (.lst (sN.map V.str))) n = some (.lst (sN.map V.str)) := upd_same
          change tSeq _ _ _ _ (upd H3 n (.lst (sN.map V.str)))
          clear s3 hn
          generalize upd H3 n (.lst (sN.map V.str)) = H4 at *
          refine ⟨by show 6 ≤ sizeLine; decide, fun m hm => ?_⟩
          have sm2 := sn.trans (same_upd (o := .lst (lN.map V.int)) hm)
          have en2 := (same_upd (o := .lst (lN.map V.int)) hm) _ _ en
          have em : (upd H4 m (.lst (lN.map V.int))) m = some (.lst (lN.map V.int)) := upd_same
          change tSeq _ _ _ _ (upd H4 m (.lst (lN.map V.int)))
          clear sn en hm
          generalize upd H4 m (.lst (lN.map V.int)) = H5 at *
          have hv5 := sm2 _ _ hv
          refine ⟨6, rfl, by omega, by omega, for_range (lo := 0) (fun i σ H2 => H2 = H5 ∧ fstBad (jud c) = fstBad ((jud c).drop (3 + i)) ∧ ∃ v, σ = [some (.str c.host), some (.ref ua), some (.ref wa), some (.ref va), some (.ref n), some (.ref m), v]) ⟨rfl, e0, none, rfl⟩ ?_ ?_⟩
          · rintro i σ H6 hi ⟨rfl, eb, v, rfl⟩
            have hi6 : i < 6 := by have : i < (6 : Int).toNat := hi; omega
            rw [jud_at c i hi6] at eb
            refine ⟨_, rfl, _, rfl, va, _, _, _, rfl, rfl, SqL.of hv5, at_int (l := vL c) hi6, _, _, rfl, rfl, _, rfl, ?_⟩
            have kF : rB (lN.getD i 0) ((vL c).getD i 0) = false → Q (.str (sN.getD i "")) H6 := fun q => by
              have e9 : fstBad (jud c) = sN.getD i "" := by
                rw [eb]
                show (if rB (lN.getD i 0) ((vL c).getD i 0) = true then _ else _) = _
                rw [if_neg (by rw [q]; decide)]
              rw [e9] at k
              exact k _ sm2
            by_cases c1 : 1 ≤ (vL c).getD i 0
            · rw [decide_eq_true c1]
              refine iteT ⟨_, rfl, _, rfl, m, _, _, _, rfl, rfl, SqL.of em, at_int (l := lN) hi6, _, _, rfl, rfl, _, rfl, ?_⟩
              by_cases c2 : (vL c).getD i 0 ≤ lN.getD i 0
              · rw [decide_eq_true c2]
                refine iteF ⟨rfl, ?_, _, rfl⟩
                rw [eb]
                show (if rB (lN.getD i 0) ((vL c).getD i 0) = true then _ else _) = _
                rw [if_pos (by unfold rB; rw [if_pos c1, decide_eq_true c2])]
              · rw [decide_eq_false c2]
                exact iteT ⟨_, rfl, _, rfl, n, _, _, _, rfl, rfl, SqL.of en2, at_str (l := sN) hi6, kF (by unfold rB; rw [if_pos c1, decide_eq_false c2])⟩
            · rw [decide_eq_false c1]
              exact iteF ⟨_, rfl, iteT ⟨_, rfl, _, rfl, n, _, _, _, rfl, rfl, SqL.of en2, at_str (l := sN) hi6, kF (by unfold rB; rw [if_neg c1])⟩⟩
          · rintro σ H6 ⟨rfl, eb, v, rfl⟩
            have e9 : fstBad (jud c) = "" := eb
            rw [e9] at k
            exact k _ sm2
end K14
set_option maxHeartbeats 2000000
set_option pp.maxSteps 500
namespace K14
open PySem PySem.Spec PyProof.Rows L2 SX TK NdefX
open C8 (pe_c)
structure LW (K : PySem.W.Frag) (H : Hp) (s c tr dxt rt : Addr) : Prop where
  st : StAt H s c
  tt : H tr = some (.ins (He.ga K "Tariff") dxt (tfl 1 rt 1))
theorem LW.same {K : PySem.W.Frag} {H H' : Hp} {s c tr dxt rt : Addr} (h : LW K H s c tr dxt rt) (e : Same H H') : LW K H' s c tr dxt rt := ⟨h.st.same e, e _ _ h.tt⟩
theorem LW.keep {K : PySem.W.Frag} {H H' : Hp} {s c tr dxt rt : Addr} (h : LW K H s c tr dxt rt) (st : StAt H' s c) (k : Keep H H' s c) : LW K H' s c tr dxt rt := by
  obtain ⟨_, ⟨n, hn⟩, ns, hc, _⟩ := id h.st
  exact ⟨st, k _ _ h.tt (ne_of h.tt hn (by intro z; cases z)) (ne_of h.tt hc (by intro z; cases z))⟩
theorem LW.updL {K : PySem.W.Frag} {H : Hp} {s c tr dxt rt g : Addr} {xs ys : List V} (h : LW K H s c tr dxt rt) (hg : H g = some (.lst xs)) (gs : g ≠ s) (gc : g ≠ c) : LW K (upd H g (.lst ys)) s c tr dxt rt :=
  ⟨h.st.upd gs gc, (upd_ne (ne_of h.tt hg (by intro z; cases z))).trans h.tt⟩
theorem lay_strs : ∀ l : List Str, (∀ z ∈ l, PyData.strOk z = true) → PyData.canLayAll0 (l.map PyData.str) = true
  | [], _ => by simp [PyData.canLayAll0]
  | z :: l, h => by simp [PyData.canLayAll0, PyData.canLay0, h z (by simp), lay_strs l fun y hy => h y (List.mem_cons_of_mem _ hy)]
theorem depth_strs : ∀ l : List Str, PyData.depthAll (l.map PyData.str) ≤ 1
  | [] => by simp [PyData.depthAll]
  | z :: l => by
    have := depth_strs l
    simp [PyData.depthAll, PyData.depth]
    omega
def dataL (l : List Str) : PyData := .list (l.map PyData.str)
theorem dataL_ok {l : List Str} (h : ∀ z ∈ l, PyData.strOk z = true) : SeqAt.shaped (dataL l) = true ∧ PyData.eqv (dataL l) (dataL l) = true := by
  have c : (dataL l).canLay0 = true := by unfold dataL; simp [PyData.canLay0, lay_strs l h]
  have d := depth_strs l
  refine ⟨?_, SeqAt.eqv_refl _ c⟩
  unfold SeqAt.shaped
  rw [c, Bool.true_and, decide_eq_true_eq]
  simp [dataL, PyData.depth]
  omega
theorem dpAll_strs {K : PySem.W.Frag} {H : Hp} : ∀ l : List Str, DpAll K H (l.map V.str) (l.map PyData.str)
  | [] => .nil
  | z :: r => .cons (.str z) (dpAll_strs r)
theorem dataL_dp {K : PySem.W.Frag} {H : Hp} {a : Addr} {l : List Str} (h : H a = some (.lst (l.map V.str))) : Dp K H (.ref a) (dataL l) := .lst (SqL.of h) (dpAll_strs l)
theorem lay_ints : ∀ l : List Int, PyData.canLayAll0 (l.map PyData.int) = true
  | [] => by simp [PyData.canLayAll0]
  | z :: l => by simp [PyData.canLayAll0, PyData.canLay0, lay_ints l]
theorem depth_ints : ∀ l : List Int, PyData.depthAll (l.map PyData.int) ≤ 1
  | [] => by simp [PyData.depthAll]
  | z :: l => by
    have := depth_ints l
    simp [PyData.depthAll, PyData.depth]
    omega
def dataI (l : List Int) : PyData := .list (l.map PyData.int)
theorem dataI_ok {l : List Int} : SeqAt.shaped (dataI l) = true ∧ PyData.eqv (dataI l) (dataI l) = true := by
  have c : (dataI l).canLay0 = true := by unfold dataI; simp [PyData.canLay0, lay_ints l]
  have d := depth_ints l
  refine ⟨?_, SeqAt.eqv_refl _ c⟩
  unfold SeqAt.shaped
  rw [c, Bool.true_and, decide_eq_true_eq]
  simp [dataI, PyData.depth]
  omega
theorem dpAll_ints {K : PySem.W.Frag} {H : Hp} : ∀ l : List Int, DpAll K H (l.map V.int) (l.map PyData.int)
  | [] => .nil
  | z :: r => .cons (.int z) (dpAll_ints r)
theorem dataI_dp {K : PySem.W.Frag} {H : Hp} {a : Addr} {l : List Int} (h : H a = some (.lst (l.map V.int))) : Dp K H (.ref a) (dataI l) := .lst (SqL.of h) (dpAll_ints l)
theorem six {ns : List Int} (h : ns.length = 6) : ∃ v : Nat → Int, ns = [v 0, v 1, v 2, v 3, v 4, v 5] := by
  refine ⟨fun i => ns.getD i 0, ?_⟩
  match ns, h with
  | [_, _, _, _, _, _], _ => rfl
def spLaw (K : PySem.W.Frag) : Sp := fun vs H Q _ => ∃ (a : Addr) (ns : List Int), vs = [.ref a] ∧ SqL K H a (ns.map V.int) ∧ ns.length ≤ 63 ∧ ∀ H', Q (.bl true) H'
theorem ok_law {P : Program} {w : World} {K : PySem.W.Frag} {mg : Str → Option Value} {base : Heap} {f : Addr} {fd : FuncData} (T : Tx K mg) (c_law_state : C8.Cal P w K mg base 1 "_law_state" (spState K) []) (c_law_pick : C8.Cal P w K mg base 2 "_law_pick" spPick []) (c_law_names : C8.Cal P w K mg base 3 "_law_names" spNames []) (c_law_value : C8.Cal P w K mg base 3 "_law_value" spValue []) (c_law_due : C8.Cal P w K mg base 3 "_law_due" (spDue K) []) (c_mkx_Tariff : TKE.MakX P w K mg base 3 "Tariff" (He.ga K "Tariff") (spTInit K) 3 [] (fun vs _ => vs)) (c_mkx_Config_a : TKE.MakX P w K mg base 5 "Config" (He.ga K "Config") (spCInit K) 0 ["host", "users", "stations", "tariff", "first", "patience", "check", "longest", "most_calls", "save"] (fun vs zs => vs ++ (((zs.drop 0).take 10)))) (c_mkx_Config_b : TKE.MakX P w K mg base 5 "Config" (He.ga K "Config") (spCInit K) 0 ["host", "users", "stations", "tariff"] (fun vs zs => vs ++ ((((zs.drop 0).take 4) ++ ((([(V.int 2), (V.int 100), (V.int 50), (V.int 500), (V.int 8), (V.int 8)] : List V).drop 0).take 6)))))
    (F : FunD K "law" "law" (defArgs s_law) (defBody s_law) (defScope s_law) [] [] f fd) : FnOk P w K mg base CX0 7 f fd ["script"] (spLaw K) := by
  refine F.ok sc_law (fun vs H Q E h => ?_) (fun cdv A outer s0 H vs Q E hr h => ?_)
  · obtain ⟨a, ns, rfl, _⟩ := h
    rfl
  · obtain ⟨a, ns, rfl, hS, hn, k⟩ := h
    refine ⟨_, PSs.nox (pss_cons (ps_set (i := 1) sc_law.nd rfl (Or.inr rfl) (pe_c c_law_state hr (by decide) rfl (pa_cons (pv 0) pa_nil))) (pss_cons (ps_set (i := 2) sc_law.nd rfl (Or.inl rfl) (TKE.pe_makX c_mkx_Tariff hr (by decide) TKE.none_out rfl (pa_cons pe_int (pa_cons (pe_lst pa_nil) (pa_cons pe_int pa_nil))))) (pss_cons (ps_for PassesOwn.never rfl (pi_range1 rfl T.f_range (pa_cons (pe_op op_add pe_int (pe_callB call_len_seq rfl T.f_len PySem.boot_len (pa_cons (pe_slice sl_list (pv 0) po_none (po_some pe_int)) pa_nil))) pa_nil)) (pg_name (i := 3) sc_law.nd rfl (Or.inl rfl)) (pss_cons (ps_set (i := 4) sc_law.nd rfl (Or.inl rfl) (pe_c c_law_pick hr (by decide) rfl (pa_cons (pv 1) (pa_cons (pe_lst (pa_cons pe_str (pa_cons pe_str (pa_cons pe_str (pa_cons pe_str (pa_cons pe_str (pa_cons pe_str pa_nil))))))) pa_nil)))) (pss_cons (ps_set (i := 5) sc_law.nd rfl (Or.inl rfl) (pe_c c_law_names hr (by decide) rfl (pa_cons (pv 1) pa_nil))) (pss_cons (ps_set (i := 6) sc_law.nd rfl (Or.inl rfl) (pe_c c_law_names hr (by decide) rfl (pa_cons (pv 1) pa_nil))) (pss_cons (ps_setLc (i := 7) (own := [("most", 14)]) (g := gName 14) rfl sc_law.nd rfl rfl (sw_true rfl rfl rfl (by decide +kernel)) (pi_list (pe_lst (pa_cons pe_int (pa_cons pe_int (pa_cons pe_int (pa_cons pe_int (pa_cons pe_int (pa_cons pe_int pa_nil)))))))) (blkOk_by (own := [("most", 14)]) (N := ["script", "state", "tariff", "k", "host", "users", "stations", "v", "due", "given", "e", "made", "fields", "plain", "most"]) (sc := defScope s_law) (by decide +kernel)) (fun _ _ _ _ _ => pg_name (i := 14) sc_law.nd rfl (Or.inl rfl)) (fun _ _ _ _ _ => pts_nil) (fun _ _ _ _ _ => (pe_c c_law_value hr (by decide) rfl (pa_cons (pv 1) (pa_cons (pv 14) pa_nil))))) (pss_cons (ps_set (i := 8) sc_law.nd rfl (Or.inl rfl) (pe_c c_law_due hr (by decide) rfl (pa_cons (pv 4) (pa_cons (pv 5) (pa_cons (pv 6) (pa_cons (pv 7) pa_nil)))))) (pss_cons (ps_set (i := 9) sc_law.nd rfl (Or.inl rfl) (pe_lst (pa_cons (pe_callTy call_list_of rfl T.f_list (by decide +kernel) (pa_cons (pv 5) pa_nil)) (pa_cons (pe_callTy call_list_of rfl T.f_list (by decide +kernel) (pa_cons (pv 6) pa_nil)) pa_nil)))) (pss_cons (ps_try_as (i := 10) (Wout := fun _ _ _ _ => False) rfl rfl sc_law.nd rfl rfl ⟨rfl, by decide, Or.inl T.g_ConfigError⟩ takes0 (fun W pn xe tk _ => (pss_one (ps_set (i := 11) sc_law.nd rfl (Or.inl rfl) (TKE.pe_makXK c_mkx_Config_a hr (by decide) (fun σ => passAt tk σ) rfl (pk_cons (pv 4) (pk_cons (pe_ix (ixListK K rfl) (pv 9) pe_int (fun _ _ => rfl)) (pk_cons (pe_ix (ixListK K rfl) (pv 9) pe_int (fun _ _ => rfl)) (pk_cons (pv 2) (pk_cons (pe_ix (ixListK K rfl) (pv 7) pe_int (fun _ _ => rfl)) (pk_cons (pe_ix (ixListK K rfl) (pv 7) pe_int (fun _ _ => rfl)) (pk_cons (pe_ix (ixListK K rfl) (pv 7) pe_int (fun _ _ => rfl)) (pk_cons (pe_ix (ixListK K rfl) (pv 7) pe_int (fun _ _ => rfl)) (pk_cons (pe_ix (ixListK K rfl) (pv 7) pe_int (fun _ _ => rfl)) (pk_cons (pe_ix (ixListK K rfl) (pv 7) pe_int (fun _ _ => rfl)) pk_nil)))))))))))))) (fun a oe cls d pn hz hf => (C8.pss_cut (ps_if (PW.pt (pw_or (pt_cmpR op_eq (pv 8) pe_str (nomark _)) (pw_or (pt_cmpR op_ne (L2.pe_xf T.xf_ConfigError T.no_ConfigError hz hf (pv 10)) (pv 8) (nomark _)) (pw_or1 (pt_not (pt_val (pe_callB (TKE.call_isD T.ec_ConfigError hz hf) rfl T.f_isinstance (by decide +kernel) (pa_cons (pv 10) (pa_cons (pgR T.g_TrunklandError) pa_nil))))))))) (pss_one (ps_ret pe_bl)) pss_nil) (pss_one ps_continue)))) (pss_cons (ps_expr (pe_bm PySem.F.plainAttrs_list PySem.F.slot_list_append PySem.F.type_list_append mt_append (pe_ix ix_list (pv 9) pe_int (fun _ _ => rfl)) (pa_cons pe_str pa_nil))) (pss_cons (ps_expr (pe_bm PySem.F.plainAttrs_list PySem.F.slot_list_append PySem.F.type_list_append mt_append (pe_ix ix_list (pv 9) pe_int (fun _ _ => rfl)) (pa_cons pe_str pa_nil))) (pss_cons (ps_set (i := 12) sc_law.nd rfl (Or.inl rfl) (pe_lst (pa_cons (pe_fldC rfl T.cl_Config T.na_Config_first (pv 11) rfl) (pa_cons (pe_fldC rfl T.cl_Config T.na_Config_patience (pv 11) rfl) (pa_cons (pe_fldC rfl T.cl_Config T.na_Config_check (pv 11) rfl) (pa_cons (pe_fldC rfl T.cl_Config T.na_Config_longest (pv 11) rfl) (pa_cons (pe_fldC rfl T.cl_Config T.na_Config_most_calls (pv 11) rfl) (pa_cons (pe_fldC rfl T.cl_Config T.na_Config_save (pv 11) rfl) pa_nil)))))))) (pss_one (ps_if (PW.pt (pw_or (pt_cmpR op_ne (pv 8) pe_str (nomark _)) (pw_or (pt_cmpR (op_neD hr.units) (pv 12) (pv 7) (nomark _)) (pw_or (pt_cmpR op_ne (pe_fldC rfl T.cl_Config T.na_Config_host (pv 11) rfl) (pv 4) (nomark _)) (pw_or (pt_cmpR (op_neD hr.units) (pe_fldC rfl T.cl_Config T.na_Config_users (pv 11) rfl) (pv 5) (nomark _)) (pw_or1 (pt_cmpR (op_neD hr.units) (pe_fldC rfl T.cl_Config T.na_Config_stations (pv 11) rfl) (pv 6) (nomark _)))))))) (pss_one (ps_ret pe_bl)) pss_nil))))))))))))) (pss_cons (ps_set (i := 13) sc_law.nd rfl (Or.inl rfl) (TKE.pe_makXK c_mkx_Config_b hr (by decide) TKE.none_out rfl (pk_cons pe_str (pk_cons (pe_lst (pa_cons pe_str pa_nil)) (pk_cons (pe_lst (pa_cons pe_str pa_nil)) (pk_cons (pv 2) pk_nil)))))) (pss_cons (ps_set (i := 12) sc_law.nd rfl (Or.inl rfl) (pe_lst (pa_cons (pe_fldC rfl T.cl_Config T.na_Config_first (pv 13) rfl) (pa_cons (pe_fldC rfl T.cl_Config T.na_Config_patience (pv 13) rfl) (pa_cons (pe_fldC rfl T.cl_Config T.na_Config_check (pv 13) rfl) (pa_cons (pe_fldC rfl T.cl_Config T.na_Config_longest (pv 13) rfl) (pa_cons (pe_fldC rfl T.cl_Config T.na_Config_most_calls (pv 13) rfl) (pa_cons (pe_fldC rfl T.cl_Config T.na_Config_save (pv 13) rfl) pa_nil)))))))) (pss_one (ps_ret (pe_and (pe_cmpR (op_eqD hr.units) (pv 12) (pe_lst (pa_cons pe_int (pa_cons pe_int (pa_cons pe_int (pa_cons pe_int (pa_cons pe_int (pa_cons pe_int pa_nil))))))) (nomark _)) (pe_one (pe_cmpR op_eq (pe_fldC rfl T.cl_Tariff T.na_Tariff_unit (pe_fldC rfl T.cl_Config T.na_Config_tariff (pv 13) rfl) rfl) pe_int (nomark _))))))))))), ?_⟩
    refine ⟨_, rfl, a, ns, rfl, hS, hn, fun s c H1 s1 _ _ st1 => ?_⟩
    refine ⟨by show 0 ≤ sizeLine; decide, fun tl htl => ⟨rfl, rfl, fun tr dxt hx hdx ne => ?_⟩⟩
    refine ⟨tr, dxt, tl, 1, 1, [], rfl, upd_same, ⟨[], (same_own (C := He.ga K "Tariff") (fs := []) hx hdx) _ _ upd_same, trivial⟩, by simp, fun _ rt H2 f1 _ _ f4 => ⟨rfl, ?_⟩, fun ef => absurd (by decide +kernel) ef⟩
    have s2 : Same H1 H2 := fun b o e => f4 b o ((same_own (C := He.ga K "Tariff") (fs := []) hx hdx) _ _ ((same_upd htl) _ _ e)) (ne_of_none ((same_upd htl) _ _ e) hx)
    have L2' : LW K H2 s c tr dxt rt := ⟨st1.same s2, f1⟩
    have hS2 : SqL K H2 a (ns.map V.int) := (s1.trans s2).seq hS
    clear f1 f4 hx hdx ne htl st1 s1 s2 hS
    refine ⟨_, rfl, _, rfl, a, _, rfl, hS2, fun cu hcu => ?_⟩
    have L3 := L2'.same (same_upd (o := .lst (cutV (ns.map V.int) none (some 30))) hcu)
    have lcu : (cutV (ns.map V.int) none (some 30)).length ≤ 63 := Nat.le_trans (cutV_length _ _ _) (by rw [List.length_map]; exact hn)
    refine ⟨cu, _, rfl, .inl (SqL.of upd_same), _, _, rfl, rfl, ?_⟩
    clear L2' hS2
    generalize upd H2 cu (.lst (cutV (ns.map V.int) none (some 30))) = H3 at *
    clear hcu
    refine ⟨_, rfl, by omega, by omega, for_range (lo := 0) (fun i σ H' => LW K H' s c tr dxt rt ∧ ∃ v3 v4 v5 v6 v7 v8 v9 v11 v12 : Option V, σ = [some (.ref a), some (.ref s), some (.ref tr), v3, v4, v5, v6, v7, v8, v9, none, v11, v12, none, none]) ⟨L3, _, _, _, _, _, _, _, _, _, rfl⟩ ?_ ?_⟩
    · rintro i σ H4 hi ⟨L4, v3, v4, v5, v6, v7, v8, v9, v11, v12, rfl⟩
      clear L3
      -- host
      refine ⟨_, rfl, by show 6 ≤ sizeLine; decide, fun p hp => ?_⟩
      obtain ⟨ps, pc⟩ := L4.st.tracked hp
      refine ⟨s, c, _, rfl, L4.st.upd ps pc, .inr ⟨p, _, rfl, upd_same, ps, pc, by simp, by simp, fun v hv H5 st5 kp5 => ?_⟩⟩
      have L5 := (L4.same (same_upd hp)).keep st5 kp5
      obtain ⟨host, rfl, wh⟩ : ∃ z : Str, v = .str z ∧ wd z := by
        simp only [List.mem_cons, List.not_mem_nil, or_false] at hv
        rcases hv with rfl | rfl | rfl | rfl | rfl | rfl <;> exact ⟨_, rfl, by decide +kernel, by decide +kernel⟩
      clear hv L4 kp5 hp st5
      -- users, stations
      refine ⟨_, rfl, s, c, rfl, L5.st, fun ua U H6 hua eU lU wU st6 kp6 => ?_⟩
      have L6 := L5.keep st6 kp6
      obtain ⟨us, uc⟩ := L5.st.tracked hua
      clear L5 kp6 st6 hua
      refine ⟨_, rfl, s, c, rfl, L6.st, fun wa W H7 hwa eW lW wW st7 kp7 => ?_⟩
      have L7 := L6.keep st7 kp7
      obtain ⟨ws, wc⟩ := L6.st.tracked hwa
      have eU7 := kp7 _ _ eU us uc
      clear L6 kp7 st7 hwa eU
      -- v
      refine ⟨by show 6 ≤ sizeLine; decide, fun ml hml => ⟨ml, rfl, ⟨_, SqL.of upd_same⟩, fun D hD => ?_⟩⟩
      have L8 := L7.same (same_upd (o := .lst (lN.map V.int)) hml)
      have eU8 := (same_upd (o := .lst (lN.map V.int)) hml) _ _ eU7
      have eW8 := (same_upd (o := .lst (lN.map V.int)) hml) _ _ eW
      have eM8 : (upd H7 ml (.lst (lN.map V.int))) ml = some (.lst (lN.map V.int)) := upd_same
      obtain ⟨mls, mlc⟩ := L7.st.tracked hml
      change (upd H7 ml (.lst (lN.map V.int))) D = none at hD
      change ∃ W : Nat → Nat → Hp → Prop, (∃ m, W 0 m (upd (upd H7 ml (.lst (lN.map V.int))) D (.lst []))) ∧ _
      clear hml L7 eU7 eW
      generalize upd H7 ml (.lst (lN.map V.int)) = H8 at *
      obtain ⟨Ds, Dc⟩ := L8.st.tracked hD
      refine lc_itN walk_list (fun i H' => StAt H' s c ∧ Keep H8 H' s c ∧ ∃ ns : List Int, H' D = some (.lst (ns.map V.int)) ∧ ns.length = i) ⟨L8.st.upd Ds Dc, Keep.of_same (same_upd hD), [], upd_same, rfl⟩ (fun i H' _ q => SqL.of (q.2.1 _ _ eM8 mls mlc)) (fun i x H9 Hb hi p y => ?_) (fun H9 p => ?_)
      · obtain ⟨st9, kp9, vs, e9, l9⟩ := p
        obtain ⟨rfl, hx⟩ := y
        rw [List.getElem?_map] at hx
        obtain ⟨m, hm, rfl⟩ := Option.map_eq_some_iff.mp hx
        have hm2 : 0 < m ∧ m < 100000 := by
          have := List.mem_of_getElem? hm
          simp only [lN, List.mem_cons, List.not_mem_nil, or_false] at this
          omega
        refine ⟨rfl, _, rfl, _, rfl, s, c, m, rfl, st9, hm2.1, hm2.2, fun r Hc stc kpc => ⟨_, kpc _ _ e9 Ds Dc, ?_, stc.upd Ds Dc, (kp9.trans kpc).upd hD, vs ++ [r], ?_, ?_⟩⟩
        · rw [List.length_map, l9, sizeLine_eq]
          have : i < (6 : Nat) := hi
          omega
        · rw [upd_same, List.map_append]
          rfl
        · rw [List.length_append, l9]
          rfl
      · obtain ⟨st9, kp9, vs, e9, l9⟩ := p
        obtain ⟨v, rfl⟩ := six (ns := vs) l9
        have L9 := L8.keep st9 kp9
        have eU9 := kp9 _ _ eU8 us uc
        have eW9 := kp9 _ _ eW8 ws wc
        clear L8 eU8 eW8 eM8 kp9 st9 hD l9 mls mlc
        have hc : CfOk ⟨host, U, W, v⟩ := ⟨Nat.le_trans wh.1 (by decide), Nat.le_trans lU (by decide), fun z hz => Nat.le_trans (wU z hz).1 (by decide), Nat.le_trans lW (by decide), fun z hz => Nat.le_trans (wW z hz).1 (by decide)⟩
        refine ⟨_, rfl, _, rfl, _, rfl, _, rfl, ua, wa, D, ⟨host, U, W, v⟩, rfl, eU9, eW9, e9, hc, fun Ha sa => ?_⟩
        have La := L9.same sa
        have eUa := sa _ _ eU9
        have eWa := sa _ _ eW9
        have eDa := sa _ _ e9
        clear L9 sa eU9 eW9 e9
        generalize hdue : fstBad (jud ⟨host, U, W, v⟩) = due
        -- given
        refine ⟨_, rfl, ua, _, rfl, .inl (SqL.of eUa), fun g0 hg0 => ?_⟩
        have s0' := same_upd (o := .lst (U.map V.str)) hg0
        refine ⟨_, rfl, wa, _, rfl, .inl (SqL.of (s0' _ _ eWa)), fun g1 hg1 => ?_⟩
        have s1' := same_upd (o := .lst (W.map V.str)) hg1
        refine ⟨by show 2 ≤ sizeLine; decide, fun gv hgv => ?_⟩
        have s2' := same_upd (o := .lst [.ref g0, .ref g1]) hgv
        have sall := s0'.trans (s1'.trans s2')
        have Lb := La.same sall
        have eUb := sall _ _ eUa
        have eWb := sall _ _ eWa
        have eDb := sall _ _ eDa
        have eg0 := s2' _ _ (s1' _ _ (upd_same (a := g0)))
        have eg1 := s2' _ _ (upd_same (a := g1))
        have egv : (upd (upd (upd Ha g0 (.lst (U.map V.str))) g1 (.lst (W.map V.str))) gv (.lst [.ref g0, .ref g1])) gv = some (.lst [.ref g0, .ref g1]) := upd_same
        obtain ⟨g0s, g0c⟩ := La.st.tracked hg0
        obtain ⟨g1s, g1c⟩ := (La.same s0').st.tracked hg1
        have n0U : ua ≠ g0 := ne_of_none eUa hg0
        have n0W : wa ≠ g0 := ne_of_none eWa hg0
        have n0D : D ≠ g0 := ne_of_none eDa hg0
        have n1U : ua ≠ g1 := ne_of_none (s0' _ _ eUa) hg1
        have n1W : wa ≠ g1 := ne_of_none (s0' _ _ eWa) hg1
        have n1D : D ≠ g1 := ne_of_none (s0' _ _ eDa) hg1
        have n01 : g0 ≠ g1 := ne_of_none (upd_same (a := g0)) hg1
        have ngv0 : g0 ≠ gv := ne_of_none (s1' _ _ (upd_same (a := g0))) hgv
        have ngv1 : g1 ≠ gv := ne_of_none (upd_same (a := g1)) hgv
        clear s0' s1' s2' sall La eUa eWa eDa hg0 hg1 hgv
        generalize upd (upd (upd Ha g0 (.lst (U.map V.str))) g1 (.lst (W.map V.str))) gv (.lst [.ref g0, .ref g1]) = Hb at *
        refine ⟨_, rfl, _, rfl, gv, _, 0, _, rfl, rfl, SqL.of egv, rfl, _, rfl, gv, _, 1, _, rfl, rfl, SqL.of egv, rfl, _, rfl, ?_⟩
        refine ⟨_, rfl, D, _, 0, _, rfl, rfl, SqL.of eDb, rfl, _, rfl, D, _, 1, _, rfl, rfl, SqL.of eDb, rfl, _, rfl, D, _, 2, _, rfl, rfl, SqL.of eDb, rfl, ?_⟩
        refine ⟨_, rfl, D, _, 3, _, rfl, rfl, SqL.of eDb, rfl, _, rfl, D, _, 4, _, rfl, rfl, SqL.of eDb, rfl, _, rfl, D, _, 5, _, rfl, rfl, SqL.of eDb, rfl, ?_⟩
        refine ⟨rfl, rfl, fun x dx hx hdx ne => ?_⟩
        have so := same_own (C := He.ga K "Config") (fs := []) hx hdx
        refine ⟨x, dx, tr, g0, g1, ⟨host, U, W, v⟩, rfl, upd_same, so _ _ eg0, so _ _ eg1, hc, fun ef mu mw H' h1 h2 h3 n1 n2 fr => ⟨rfl, ?_⟩, fun ef d H' hd fr => ?_⟩
        · have fr2 : Same Hb H' := fun b o e => fr b o (so _ _ e) (ne_of_none e hx)
          have nmu : ∀ {b o}, Hb b = some o → mu ≠ b := fun {b o} e z => by rw [z, so _ _ e] at n1; cases n1
          have nmw : ∀ {b o}, Hb b = some o → mw ≠ b := fun {b o} e z => by rw [z, so _ _ e] at n2; cases n2
          rw [hdue] at ef
          subst ef
          have eg0' := fr2 _ _ eg0
          have eg1' := fr2 _ _ eg1
          have egv' := fr2 _ _ egv
          refine ⟨_, rfl, gv, _, 0, .ref g0, rfl, rfl, SqL.of egv', rfl, .inl ⟨rfl, _, SqL.of eg0'⟩, g0, _, _, rfl, rfl, eg0', by rw [List.length_map, sizeLine_eq]; omega, ?_⟩
          have eg1'' : (upd H' g0 (.lst (U.map V.str ++ [.str "late"]))) g1 = some (.lst (W.map V.str)) := (upd_ne n01.symm).trans eg1'
          refine ⟨_, rfl, gv, _, 1, .ref g1, rfl, rfl, SqL.of ((upd_ne ngv0.symm).trans egv'), rfl, .inl ⟨rfl, _, SqL.of eg1''⟩, g1, _, _, rfl, rfl, eg1'', by rw [List.length_map, sizeLine_eq]; omega, ?_⟩
          have Lc := ((Lb.same fr2).updL (ys := U.map V.str ++ [.str "late"]) eg0' g0s g0c).updL (ys := W.map V.str ++ [.str "late"]) eg1'' g1s g1c
          have kk : ∀ {b o}, H' b = some o → b ≠ g0 → b ≠ g1 → (upd (upd H' g0 (.lst (U.map V.str ++ [.str "late"]))) g1 (.lst (W.map V.str ++ [.str "late"]))) b = some o := fun e q0 q1 => (upd_ne q1).trans ((upd_ne q0).trans e)
          have hxc := kk h1 (ne_of h1 eg0' (by intro z; cases z)) (ne_of h1 eg1' (by intro z; cases z))
          have eDc := kk (fr2 _ _ eDb) n0D n1D
          have eUc := kk (fr2 _ _ eUb) n0U n1U
          have eWc := kk (fr2 _ _ eWb) n0W n1W
          have emu := kk h2 (nmu eg0) (nmu eg1)
          have emw := kk h3 (nmw eg0) (nmw eg1)
          clear kk h1 h2 h3 fr fr2 nmu nmw n1 n2 so hx hdx ne eg0 eg1 egv eg0' eg1' egv' eg1'' Lb eUb eWb eDb
          generalize upd (upd H' g0 (.lst (U.map V.str ++ [.str "late"]))) g1 (.lst (W.map V.str ++ [.str "late"])) = Hc at *
          refine ⟨_, rfl, x, dx, _, _, rfl, hxc, rfl, _, rfl, x, dx, _, _, rfl, hxc, rfl, _, rfl, x, dx, _, _, rfl, hxc, rfl, _, rfl, x, dx, _, _, rfl, hxc, rfl, _, rfl, x, dx, _, _, rfl, hxc, rfl, _, rfl, x, dx, _, _, rfl, hxc, rfl, by show 6 ≤ sizeLine; decide, fun fl hfl => ?_⟩
          have sf := same_upd (o := .lst (([v 0, v 1, v 2, v 3, v 4, v 5] : List Int).map V.int)) hfl
          have efl : (upd Hc fl (.lst (([v 0, v 1, v 2, v 3, v 4, v 5] : List Int).map V.int))) fl = some (.lst (([v 0, v 1, v 2, v 3, v 4, v 5] : List Int).map V.int)) := upd_same
          have ne0 : ∀ z : Str, (!decide (V.str z = V.str z)) = false := fun z => by simp
          refine ⟨_, rfl, rfl, _, rfl, ?_⟩
          rw [ne0]
          refine iteF ⟨_, rfl, _, rfl, dataI [v 0, v 1, v 2, v 3, v 4, v 5], dataI [v 0, v 1, v 2, v 3, v 4, v 5], dataI_dp efl, dataI_dp (sf _ _ eDc), dataI_ok.1, dataI_ok.1, _, rfl, ?_⟩
          rw [dataI_ok.2]
          refine iteF ⟨_, rfl, x, dx, _, _, rfl, sf _ _ hxc, rfl, _, rfl, rfl, _, rfl, ?_⟩
          dsimp only
          rw [ne0]
          refine iteF ⟨_, rfl, x, dx, _, _, rfl, sf _ _ hxc, rfl, _, rfl, dataL U, dataL U, dataL_dp (sf _ _ emu), dataL_dp (sf _ _ eUc), (dataL_ok fun z hz => (wU z hz).2).1, (dataL_ok fun z hz => (wU z hz).2).1, _, rfl, ?_⟩
          rw [(dataL_ok fun z hz => (wU z hz).2).2]
          refine iteF ⟨_, rfl, x, dx, _, _, rfl, sf _ _ hxc, rfl, _, rfl, dataL W, dataL W, dataL_dp (sf _ _ emw), dataL_dp (sf _ _ eWc), (dataL_ok fun z hz => (wW z hz).2).1, (dataL_ok fun z hz => (wW z hz).2).1, _, rfl, ?_⟩
          rw [(dataL_ok fun z hz => (wW z hz).2).2]
          exact iteF ⟨Lc.same sf, _, _, _, _, _, _, _, _, _, rfl⟩
        · have fr2 : Same Hb H' := fun b o e => fr b o (so _ _ e) (ne_of_none e hx)
          rw [hdue] at ef hd
          refine ⟨true, T.te_ConfigError_ConfigError, fun _ ae hae => ?_, fun z => by cases z⟩
          refine ⟨fun σ' H2 => σ' = [some (.ref a), some (.ref s), some (.ref tr), some (.int (0 + (i : Nat))), some (.str host), some (.ref ua), some (.ref wa), some (.ref D), some (.str due), some (.ref gv), some (.ref ae), v11, v12, none, none] ∧ H2 = H', ?_, ?_⟩
          · have e1 : decide (V.str due = V.str "") = false := decide_eq_false fun z => ef (by injection z)
            have e2 : (!decide (V.str due = V.str due)) = false := by simp
            refine ⟨_, rfl, rfl, _, rfl, ?_⟩
            rw [e1]
            refine iteF ⟨_, rfl, rfl, rfl, d, _, _, rfl, hd, rfl, _, rfl, rfl, _, rfl, ?_⟩
            rw [e2]
            exact iteF ⟨_, rfl, _, _, true, d, _, rfl, fun u h => h, T.ki_ConfigError_TrunklandError, rfl, rfl, hd, _, rfl, iteF ⟨rfl, rfl⟩⟩
          · rintro σ' H2 ⟨rfl, rfl⟩
            exact ⟨Lb.same fr2, _, _, _, _, _, _, _, _, _, rfl⟩
    · rintro σ H4 ⟨L4, v3, v4, v5, v6, v7, v8, v9, v11, v12, rfl⟩
      refine ⟨by show 1 ≤ sizeLine; decide, fun l1 hl1 => ⟨by show 1 ≤ sizeLine; decide, fun l2 hl2 => ?_⟩⟩
      have s1 := same_upd (o := .lst (([("ann" : Str)] : List Str).map V.str)) hl1
      have s2 := same_upd (o := .lst (([("p" : Str)] : List Str).map V.str)) hl2
      have L5 := L4.same (s1.trans s2)
      have e1 := s2 _ _ (upd_same (a := l1))
      have e2 : (upd (upd H4 l1 (.lst (([("ann" : Str)] : List Str).map V.str))) l2 (.lst (([("p" : Str)] : List Str).map V.str))) l2 = _ := upd_same
      refine ⟨_, rfl, rfl, rfl, fun x dx hx hdx ne => ?_⟩
      have so := same_own (C := He.ga K "Config") (fs := []) hx hdx
      refine ⟨x, dx, tr, l1, l2, ⟨"x", ["ann"], ["p"], fun i => ([2, 100, 50, 500, 8, 8] : List Int).getD i 0⟩, rfl, upd_same, so _ _ e1, so _ _ e2, ⟨by decide +kernel, by decide +kernel, by decide +kernel, by decide +kernel, by decide +kernel⟩, fun ef mu mw H' h1 h2 h3 n1 n2 fr => ⟨rfl, ?_⟩, fun ef => absurd (by decide +kernel) ef⟩
      have tt := fr _ _ (so _ _ L5.tt) (ne_of_none L5.tt hx)
      refine ⟨_, rfl, x, dx, _, _, rfl, h1, rfl, _, rfl, x, dx, _, _, rfl, h1, rfl, _, rfl, x, dx, _, _, rfl, h1, rfl, _, rfl, x, dx, _, _, rfl, h1, rfl, _, rfl, x, dx, _, _, rfl, h1, rfl, _, rfl, x, dx, _, _, rfl, h1, rfl, by show 6 ≤ sizeLine; decide, fun fl hfl => ?_⟩
      have sf := same_upd (o := .lst (([2, 100, 50, 500, 8, 8] : List Int).map V.int)) hfl
      have efl : (upd H' fl (.lst (([2, 100, 50, 500, 8, 8] : List Int).map V.int))) fl = some (.lst (([2, 100, 50, 500, 8, 8] : List Int).map V.int)) := upd_same
      refine ⟨_, rfl, by show 6 ≤ sizeLine; decide, fun q hq => ?_⟩
      have sq := same_upd (o := .lst (([2, 100, 50, 500, 8, 8] : List Int).map V.int)) hq
      refine ⟨dataI [2, 100, 50, 500, 8, 8], dataI [2, 100, 50, 500, 8, 8], dataI_dp (sq _ _ efl), dataI_dp upd_same, dataI_ok.1, dataI_ok.1, _, rfl, ?_⟩
      rw [dataI_ok.2]
      refine iteT ⟨_, rfl, x, dx, _, _, rfl, sq _ _ (sf _ _ h1), rfl, tr, dxt, _, _, rfl, sq _ _ (sf _ _ tt), rfl, rfl, ?_⟩
      have e9 : decide (V.int 1 = V.int 1) = true := by simp
      rw [e9]
      exact k _
end K14
set_option maxHeartbeats 0
namespace K14
open PySem PySem.Spec PyProof.Rows L2 SX TK NdefX
/-! ### the head: facts by names, the run -/
def d_wall : He.DefD := ⟨("_wall", none), "_wall", "_wall", defArgs s_wall, defBody s_wall, defScope s_wall, [], []⟩
def d_is_name : He.DefD := ⟨("is_name", none), "is_name", "is_name", defArgs s_is_name, defBody s_is_name, defScope s_is_name, [], []⟩
def d_consists_of : He.DefD := ⟨("_consists_of", none), "_consists_of", "_consists_of", defArgs s_consists_of, defBody s_consists_of, defScope s_consists_of, [], []⟩
def d_Config___init : He.DefD := ⟨("Config", some "__init__"), "__init__", "Config.__init__", defArgs s_Config___init, defBody s_Config___init, defScope s_Config___init, [], [("first", .int 2), ("patience", .int 100), ("check", .int 50), ("longest", .int 500), ("most_calls", .int 8), ("save", .int 8)]⟩
def d_judged : He.DefD := ⟨("_judged", none), "_judged", "_judged", defArgs s_judged, defBody s_judged, defScope s_judged, [], []⟩
def d_are_names : He.DefD := ⟨("_are_names", none), "_are_names", "_are_names", defArgs s_are_names, defBody s_are_names, defScope s_are_names, [], []⟩
def d_Tariff___init : He.DefD := ⟨("Tariff", some "__init__"), "__init__", "Tariff.__init__", defArgs s_Tariff___init, defBody s_Tariff___init, defScope s_Tariff___init, [], []⟩
def d_Tariff_units : He.DefD := ⟨("Tariff", some "units"), "units", "Tariff.units", defArgs s_Tariff_units, defBody s_Tariff_units, defScope s_Tariff_units, [], []⟩
def d_Tariff_cost : He.DefD := ⟨("Tariff", some "cost"), "cost", "Tariff.cost", defArgs s_Tariff_cost, defBody s_Tariff_cost, defScope s_Tariff_cost, [], []⟩
def d_is_unit : He.DefD := ⟨("_is_unit", none), "_is_unit", "_is_unit", defArgs s_is_unit, defBody s_is_unit, defScope s_is_unit, [], []⟩
def d_is_price : He.DefD := ⟨("_is_price", none), "_is_price", "_is_price", defArgs s_is_price, defBody s_is_price, defScope s_is_price, [], []⟩
def d_are_bands : He.DefD := ⟨("_are_bands", none), "_are_bands", "_are_bands", defArgs s_are_bands, defBody s_are_bands, defScope s_are_bands, [], []⟩
def d_law_state : He.DefD := ⟨("_law_state", none), "_law_state", "_law_state", defArgs s_law_state, defBody s_law_state, defScope s_law_state, [], []⟩
def d_law_draw : He.DefD := ⟨("_law_draw", none), "_law_draw", "_law_draw", defArgs s_law_draw, defBody s_law_draw, defScope s_law_draw, [], []⟩
def d_law_pick : He.DefD := ⟨("_law_pick", none), "_law_pick", "_law_pick", defArgs s_law_pick, defBody s_law_pick, defScope s_law_pick, [], []⟩
def d_law_names : He.DefD := ⟨("_law_names", none), "_law_names", "_law_names", defArgs s_law_names, defBody s_law_names, defScope s_law_names, [], []⟩
def d_law_value : He.DefD := ⟨("_law_value", none), "_law_value", "_law_value", defArgs s_law_value, defBody s_law_value, defScope s_law_value, [], []⟩
def d_law_is_name : He.DefD := ⟨("_law_is_name", none), "_law_is_name", "_law_is_name", defArgs s_law_is_name, defBody s_law_is_name, defScope s_law_is_name, [], []⟩
def d_law_names_right : He.DefD := ⟨("_law_names_right", none), "_law_names_right", "_law_names_right", defArgs s_law_names_right, defBody s_law_names_right, defScope s_law_names_right, [], []⟩
def d_law_due : He.DefD := ⟨("_law_due", none), "_law_due", "_law_due", defArgs s_law_due, defBody s_law_due, defScope s_law_due, [], []⟩
def d_law : He.DefD := ⟨("law", none), "law", "law", defArgs s_law, defBody s_law, defScope s_law, [], []⟩
def fnL : List He.DefD := [d_wall, d_is_name, d_consists_of, d_Config___init, d_judged, d_are_names, d_Tariff___init, d_Tariff_units, d_Tariff_cost, d_is_unit, d_is_price, d_are_bands, d_law_state, d_law_draw, d_law_pick, d_law_names, d_law_value, d_law_is_name, d_law_names_right, d_law_due, d_law]
def faL : List He.Fa := [.int "GREATEST_PRICE" 10000, .int "GREATEST_UNIT" 10000, .int "LONGEST_WORD" 16, .int "MOST_BANDS" 8, .int "MOST_NAMES" 8, .str "NAME_MARKS" "abcdefghijklmnopqrstuvwxyz0123456789", .str "SMALL_LETTERS" "abcdefghijklmnopqrstuvwxyz", .free "abs", .free "all", .free "int", .free "isinstance", .free "len", .free "list", .free "range", .free "set", .free "super", .free "tuple", .cls "Config", .noat "Config" "host", .noat "Config" "users", .noat "Config" "stations", .noat "Config" "tariff", .noat "Config" "first", .noat "Config" "patience", .noat "Config" "check", .noat "Config" "longest", .noat "Config" "most_calls", .noat "Config" "save", .glo "Config", .mkr "Config", .cls "Tariff", .noat "Tariff" "unit", .noat "Tariff" "bands", .noat "Tariff" "last", .glo "Tariff", .mkr "Tariff", .glo "TrunklandError", .glo "ConfigError", .exm "ConfigError" "ConfigError" true, .glo "_wall", .glo "is_name", .glo "_consists_of", .glo "_judged", .glo "_are_names", .meth "Tariff" "units", .meth "Tariff" "cost", .glo "_is_unit", .glo "_is_price", .glo "_are_bands", .glo "_law_state", .glo "_law_draw", .glo "_law_pick", .glo "_law_names", .glo "_law_value", .glo "_law_is_name", .glo "_law_names_right", .glo "_law_due", .glo "law"]
def loose0 : List Str := ["SMALL_LETTERS", "NAME_MARKS", "LONGEST_WORD", "MOST_NAMES", "GREATEST_UNIT", "GREATEST_PRICE", "MOST_BANDS", "_wall", "is_name", "_consists_of", "_judged", "_are_names", "_is_unit", "_is_price", "_are_bands", "_law_state", "_law_draw", "_law_pick", "_law_names", "_law_value", "_law_is_name", "_law_names_right", "_law_due", "TrunklandError", "ConfigError", "Config", "Tariff"]
abbrev Row0 : PySem.W.OpenRow := PySem.W.OpenLaw.row PySem.Challenge.rw_trunkland_k14_settings
def exL (K : PySem.W.Frag) : List Bool := [TKE.excAll K "ConfigError" "setting" "ConfigError.__init__" PySem.Challenge.pw_trunkland_k14_settings.main.file, decide (PySem.W.kitOne K (.ref (He.ga K "ConfigError")) (.ref (He.ga K "TrunklandError")) = some true)]
def e_ConfigError : He.DefD := ⟨("ConfigError", some "__init__"), "__init__", "ConfigError.__init__", defArgs si_ConfigError, defBody si_ConfigError, defScope si_ConfigError, [], []⟩
def esL : List He.DefD := [e_ConfigError]
abbrev hk : PySem.W.Hook := TKE.hookE 6 faL fnL exL esL
def ob (s : PySem.W.SharedT) : TKE.AlE := TKE.obsE 6 faL fnL exL esL (HandSHeadRun.getT s)
theorem ob_eq (s : PySem.W.SharedT) : ob s = hk.obs s.abs := TKE.obsE_eq (HandSHeadRun.getT_eq s)
theorem run (w : World) : HandSHeadRun.RunEq Row0 (PySem.W.view Row0.prog [32]) hk ob 4000 (loose0) w := by
  intro os
  kernel_rfl
theorem facts {P : Program} {w : World} {K : PySem.W.Frag} {h : Heap} {mg : Str → Option Value} {f : Addr} (X : K.In h) (G : h.Ns mainGlobals mg) (hfa : mg ("law" : Str) = some (.ref f)) (c : He.SaysD faL fnL K) (cx : (exL K).all id = true) (ce : esL.map (fun d => TKE.fnC K d.at_) = esL.map He.DefD.val) (hP : P.main.file = PySem.Challenge.pw_trunkland_k14_settings.main.file) (htop : (P.main.scope.names.lookup ("super" : Str)).isSome = false) :
    ∃ fd : FuncData, (∀ (s : Shared) (v : Value), BindsTo s fd ⟨[v], []⟩ [("script", v)]) ∧ ∀ base : Heap, K.In base → base.Ns mainGlobals mg → FnOk P w K mg base CX0 7 f fd ["script"] (spLaw K) := by
  have b_ConfigError := TKE.exTxt_of (P := P) (TK.exAt cx 0 rfl) hP (TKE.fnC_at ce 0 (d := e_ConfigError) rfl)
  have T : Tx K mg := ⟨He.int_ok X G (c.fact 0 (f := .int "GREATEST_PRICE" 10000) rfl), He.int_ok X G (c.fact 1 (f := .int "GREATEST_UNIT" 10000) rfl), He.int_ok X G (c.fact 2 (f := .int "LONGEST_WORD" 16) rfl), He.int_ok X G (c.fact 3 (f := .int "MOST_BANDS" 8) rfl), He.int_ok X G (c.fact 4 (f := .int "MOST_NAMES" 8) rfl), He.str_ok X G (c.fact 5 (f := .str "NAME_MARKS" "abcdefghijklmnopqrstuvwxyz0123456789") rfl), He.str_ok X G (c.fact 6 (f := .str "SMALL_LETTERS" "abcdefghijklmnopqrstuvwxyz") rfl), He.free_ok X G (c.fact 7 (f := .free "abs") rfl), He.free_ok X G (c.fact 8 (f := .free "all") rfl), He.free_ok X G (c.fact 9 (f := .free "int") rfl), He.free_ok X G (c.fact 10 (f := .free "isinstance") rfl), He.free_ok X G (c.fact 11 (f := .free "len") rfl), He.free_ok X G (c.fact 12 (f := .free "list") rfl), He.free_ok X G (c.fact 13 (f := .free "range") rfl), He.free_ok X G (c.fact 14 (f := .free "set") rfl), He.free_ok X G (c.fact 15 (f := .free "super") rfl), He.free_ok X G (c.fact 16 (f := .free "tuple") rfl), He.cls_ok (c.fact 17 (f := .cls "Config") rfl), He.noat_ok (c.fact 18 (f := .noat "Config" "host") rfl), He.noat_ok (c.fact 19 (f := .noat "Config" "users") rfl), He.noat_ok (c.fact 20 (f := .noat "Config" "stations") rfl), He.noat_ok (c.fact 21 (f := .noat "Config" "tariff") rfl), He.noat_ok (c.fact 22 (f := .noat "Config" "first") rfl), He.noat_ok (c.fact 23 (f := .noat "Config" "patience") rfl), He.noat_ok (c.fact 24 (f := .noat "Config" "check") rfl), He.noat_ok (c.fact 25 (f := .noat "Config" "longest") rfl), He.noat_ok (c.fact 26 (f := .noat "Config" "most_calls") rfl), He.noat_ok (c.fact 27 (f := .noat "Config" "save") rfl), He.cls_ok (c.fact 30 (f := .cls "Tariff") rfl), He.noat_ok (c.fact 31 (f := .noat "Tariff" "unit") rfl), He.noat_ok (c.fact 32 (f := .noat "Tariff" "bands") rfl), He.noat_ok (c.fact 33 (f := .noat "Tariff" "last") rfl), He.glo_ok X G (c.fact 36 (f := .glo "TrunklandError") rfl), He.glo_ok X G (c.fact 37 (f := .glo "ConfigError") rfl), b_ConfigError.xf, b_ConfigError.ec, b_ConfigError.no, of_decide_eq_true (c.fact 38 (f := .exm "ConfigError" "ConfigError" true) rfl), of_decide_eq_true (TK.exAt cx 1 rfl)⟩
  obtain ⟨fd_wall, F_wall⟩ := c.def_ 0 (d := d_wall) rfl
  obtain ⟨fd_is_name, F_is_name⟩ := c.def_ 1 (d := d_is_name) rfl
  obtain ⟨fd_consists_of, F_consists_of⟩ := c.def_ 2 (d := d_consists_of) rfl
  obtain ⟨fd_Config___init, F_Config___init⟩ := c.def_ 3 (d := d_Config___init) rfl
  obtain ⟨fd_judged, F_judged⟩ := c.def_ 4 (d := d_judged) rfl
  obtain ⟨fd_are_names, F_are_names⟩ := c.def_ 5 (d := d_are_names) rfl
  obtain ⟨fd_Tariff___init, F_Tariff___init⟩ := c.def_ 6 (d := d_Tariff___init) rfl
  obtain ⟨fd_Tariff_units, F_Tariff_units⟩ := c.def_ 7 (d := d_Tariff_units) rfl
  obtain ⟨fd_Tariff_cost, F_Tariff_cost⟩ := c.def_ 8 (d := d_Tariff_cost) rfl
  obtain ⟨fd_is_unit, F_is_unit⟩ := c.def_ 9 (d := d_is_unit) rfl
  obtain ⟨fd_is_price, F_is_price⟩ := c.def_ 10 (d := d_is_price) rfl
  obtain ⟨fd_are_bands, F_are_bands⟩ := c.def_ 11 (d := d_are_bands) rfl
  obtain ⟨fd_law_state, F_law_state⟩ := c.def_ 12 (d := d_law_state) rfl
  obtain ⟨fd_law_draw, F_law_draw⟩ := c.def_ 13 (d := d_law_draw) rfl
  obtain ⟨fd_law_pick, F_law_pick⟩ := c.def_ 14 (d := d_law_pick) rfl
  obtain ⟨fd_law_names, F_law_names⟩ := c.def_ 15 (d := d_law_names) rfl
  obtain ⟨fd_law_value, F_law_value⟩ := c.def_ 16 (d := d_law_value) rfl
  obtain ⟨fd_law_is_name, F_law_is_name⟩ := c.def_ 17 (d := d_law_is_name) rfl
  obtain ⟨fd_law_names_right, F_law_names_right⟩ := c.def_ 18 (d := d_law_names_right) rfl
  obtain ⟨fd_law_due, F_law_due⟩ := c.def_ 19 (d := d_law_due) rfl
  obtain ⟨fd_law, F_law⟩ := c.def_ 20 (d := d_law) rfl
  have e := hfa.symm.trans (He.glo_ok X G (c.fact 57 (f := .glo "law") rfl))
  cases e
  have b := FunD.bindsA (ps := ["script"]) F_law fun _ _ _ _ _ _ us hl => match us, hl with | [_], _ => rfl
  refine ⟨fd_law, fun s v => b s [v] rfl, fun base _ _ => ?_⟩
  have x_ConfigError := ok_exc_ConfigError (w := w) (base := base) T.f_super htop T.g_ConfigError b_ConfigError
  have c_law_state := cal_of (P := P) (w := w) (base := base) F_law_state (ok_law_state T  F_law_state) (He.glo_ok X G (c.fact 49 (f := .glo "_law_state") rfl)) fun _ _ _ _ _ _ us hl => match us, hl with | [_], _ => rfl
  have c_law_draw := cal_of (P := P) (w := w) (base := base) F_law_draw (ok_law_draw T  F_law_draw) (He.glo_ok X G (c.fact 50 (f := .glo "_law_draw") rfl)) fun _ _ _ _ _ _ us hl => match us, hl with | [_, _], _ => rfl
  have c_law_pick := cal_of (P := P) (w := w) (base := base) F_law_pick (ok_law_pick T c_law_draw F_law_pick) (He.glo_ok X G (c.fact 51 (f := .glo "_law_pick") rfl)) fun _ _ _ _ _ _ us hl => match us, hl with | [_, _], _ => rfl
  have c_consists_of := cal_of (P := P) (w := w) (base := base) F_consists_of (ok_consists_of T  F_consists_of) (He.glo_ok X G (c.fact 41 (f := .glo "_consists_of") rfl)) fun _ _ _ _ _ _ us hl => match us, hl with | [_, _, _], _ => rfl
  have c_is_name := cal_of (P := P) (w := w) (base := base) F_is_name (ok_is_name T c_consists_of F_is_name) (He.glo_ok X G (c.fact 40 (f := .glo "is_name") rfl)) fun _ _ _ _ _ _ us hl => match us, hl with | [_], _ => rfl
  have c_is_unit := cal_of (P := P) (w := w) (base := base) F_is_unit (ok_is_unit T  F_is_unit) (He.glo_ok X G (c.fact 46 (f := .glo "_is_unit") rfl)) fun _ _ _ _ _ _ us hl => match us, hl with | [_], _ => rfl
  have c_is_price := cal_of (P := P) (w := w) (base := base) F_is_price (ok_is_price T  F_is_price) (He.glo_ok X G (c.fact 47 (f := .glo "_is_price") rfl)) fun _ _ _ _ _ _ us hl => match us, hl with | [_], _ => rfl
  have c_are_bands := cal_of (P := P) (w := w) (base := base) F_are_bands (ok_are_bands T c_is_unit c_is_price F_are_bands) (He.glo_ok X G (c.fact 48 (f := .glo "_are_bands") rfl)) fun _ _ _ _ _ _ us hl => match us, hl with | [_], _ => rfl
  have c_mkx_Tariff := TKE.makX_of (P := P) (w := w) (base := base) (n := 3) (He.mkr_ok (c.fact 35 (f := .mkr "Tariff") rfl)) (He.glo_ok X G (c.fact 34 (f := .glo "Tariff") rfl)) F_Tariff___init (ok_Tariff___init T x_ConfigError c_is_unit c_is_price c_are_bands F_Tariff___init) rfl fun _ _ _ _ _ _ us hl => match us, hl with | [_, _, _, _], _ => rfl
  have c_are_names := cal_of (P := P) (w := w) (base := base) F_are_names (ok_are_names T c_is_name F_are_names) (He.glo_ok X G (c.fact 43 (f := .glo "_are_names") rfl)) fun _ _ _ _ _ _ us hl => match us, hl with | [_], _ => rfl
  have c_judged := cal_of (P := P) (w := w) (base := base) F_judged (ok_judged T c_is_name c_are_names F_judged) (He.glo_ok X G (c.fact 42 (f := .glo "_judged") rfl)) fun _ _ _ _ _ _ us hl => match us, hl with | [_], _ => rfl
  obtain ⟨mv_Config_a, kb_Config_a⟩ := TK.kbn_of (ps := ["self", "host", "users", "stations", "tariff", "first", "patience", "check", "longest", "most_calls", "save"]) (ks := ["host", "users", "stations", "tariff", "first", "patience", "check", "longest", "most_calls", "save"]) (L := ["host", "users", "stations", "tariff", "first", "patience", "check", "longest", "most_calls", "save"]) (self := "self") F_Config___init [] (fun {α : Type} (us mz zs : List α) => us ++ (((zs.drop 0).take 10))) (by intro z; cases z) (fun rv rm rz => rv.append ((rz.drop 0).take 10)) (by kernel_rfl) (by kernel_rfl) (by kernel_rfl) (by kernel_rfl) (by kernel_rfl) (by decide +kernel) (by decide +kernel) (fun q hq => nomatch hq) (by decide +kernel) (fun u mv ws h1 h2 => match mv, ws, h1, h2 with | [], [k0, k1, k2, k3, k4, k5, k6, k7, k8, k9], _, _ => by kernel_rfl)
  have c_mkx_Config_a : TKE.MakX P w K mg base 5 "Config" (He.ga K "Config") (spCInit K) 0 ["host", "users", "stations", "tariff", "first", "patience", "check", "longest", "most_calls", "save"] (fun vs zs => vs ++ (((zs.drop 0).take 10))) := ⟨_, _, ["self", "host", "users", "stations", "tariff", "first", "patience", "check", "longest", "most_calls", "save"], _, (He.mkr_ok (c.fact 29 (f := .mkr "Config") rfl)), ok_Config___init T x_ConfigError c_judged F_Config___init, He.glo_ok X G (c.fact 28 (f := .glo "Config") rfl), kb_Config_a⟩
  obtain ⟨mv_Config_b, kb_Config_b⟩ := TK.kbn_of (ps := ["self", "host", "users", "stations", "tariff", "first", "patience", "check", "longest", "most_calls", "save"]) (ks := ["host", "users", "stations", "tariff"]) (L := ["host", "users", "stations", "tariff", "first", "patience", "check", "longest", "most_calls", "save"]) (self := "self") F_Config___init [("first", (V.int 2)), ("patience", (V.int 100)), ("check", (V.int 50)), ("longest", (V.int 500)), ("most_calls", (V.int 8)), ("save", (V.int 8))] (fun {α : Type} (us mz zs : List α) => us ++ ((((zs.drop 0).take 4) ++ ((mz.drop 0).take 6)))) (by intro z; cases z) (fun rv rm rz => rv.append (((rz.drop 0).take 4).append ((rm.drop 0).take 6))) (by kernel_rfl) (by kernel_rfl) (by kernel_rfl) (by kernel_rfl) (by kernel_rfl) (by decide +kernel) (by decide +kernel) (by intro q hq; simp only [List.mem_cons, List.not_mem_nil, or_false] at hq; rcases hq with rfl | rfl | rfl | rfl | rfl | rfl; exact List.mem_cons_self ..; exact List.mem_cons_of_mem _ (List.mem_cons_self ..); exact List.mem_cons_of_mem _ (List.mem_cons_of_mem _ (List.mem_cons_self ..)); exact List.mem_cons_of_mem _ (List.mem_cons_of_mem _ (List.mem_cons_of_mem _ (List.mem_cons_self ..))); exact List.mem_cons_of_mem _ (List.mem_cons_of_mem _ (List.mem_cons_of_mem _ (List.mem_cons_of_mem _ (List.mem_cons_self ..)))); exact List.mem_cons_of_mem _ (List.mem_cons_of_mem _ (List.mem_cons_of_mem _ (List.mem_cons_of_mem _ (List.mem_cons_of_mem _ (List.mem_cons_self ..)))))) (by decide +kernel) (fun u mv ws h1 h2 => match mv, ws, h1, h2 with | [m0, m1, m2, m3, m4, m5], [k0, k1, k2, k3], _, _ => by kernel_rfl)
  have c_mkx_Config_b : TKE.MakX P w K mg base 5 "Config" (He.ga K "Config") (spCInit K) 0 ["host", "users", "stations", "tariff"] (fun vs zs => vs ++ ((((zs.drop 0).take 4) ++ ((([(V.int 2), (V.int 100), (V.int 50), (V.int 500), (V.int 8), (V.int 8)] : List V).drop 0).take 6)))) := ⟨_, _, ["self", "host", "users", "stations", "tariff", "first", "patience", "check", "longest", "most_calls", "save"], _, (He.mkr_ok (c.fact 29 (f := .mkr "Config") rfl)), ok_Config___init T x_ConfigError c_judged F_Config___init, He.glo_ok X G (c.fact 28 (f := .glo "Config") rfl), kb_Config_b⟩
  have c_law_value := cal_of (P := P) (w := w) (base := base) F_law_value (ok_law_value T c_law_draw c_law_pick F_law_value) (He.glo_ok X G (c.fact 53 (f := .glo "_law_value") rfl)) fun _ _ _ _ _ _ us hl => match us, hl with | [_, _], _ => rfl
  have c_law_names := cal_of (P := P) (w := w) (base := base) F_law_names (ok_law_names T c_law_draw c_law_pick F_law_names) (He.glo_ok X G (c.fact 52 (f := .glo "_law_names") rfl)) fun _ _ _ _ _ _ us hl => match us, hl with | [_], _ => rfl
  have c_law_is_name := cal_of (P := P) (w := w) (base := base) F_law_is_name (ok_law_is_name T  F_law_is_name) (He.glo_ok X G (c.fact 54 (f := .glo "_law_is_name") rfl)) fun _ _ _ _ _ _ us hl => match us, hl with | [_], _ => rfl
  have c_law_names_right := cal_of (P := P) (w := w) (base := base) F_law_names_right (ok_law_names_right T c_law_is_name F_law_names_right) (He.glo_ok X G (c.fact 55 (f := .glo "_law_names_right") rfl)) fun _ _ _ _ _ _ us hl => match us, hl with | [_], _ => rfl
  have c_law_due := cal_of (P := P) (w := w) (base := base) F_law_due (ok_law_due T c_law_is_name c_law_names_right F_law_due) (He.glo_ok X G (c.fact 56 (f := .glo "_law_due") rfl)) fun _ _ _ _ _ _ us hl => match us, hl with | [_, _, _, _], _ => rfl
  exact ok_law T c_law_state c_law_pick c_law_names c_law_value c_law_due c_mkx_Tariff c_mkx_Config_a c_mkx_Config_b F_law
end K14
open PySem PySem.W PySem.Calls PyProof.Rows
theorem PySem.Challenge.cw_trunkland_k14_settings_holds : PySem.Challenge.rw_trunkland_k14_settings.Holds := by
  w_on; o_law
  refine HandSHeadRun.head_any (r := OpenLaw.row PySem.Challenge.rw_trunkland_k14_settings) (q := view (OpenLaw.row PySem.Challenge.rw_trunkland_k14_settings).prog [32]) (H := K14.hk) (ob := K14.ob) (M := 4000) (loose := K14.loose0) (d := HandSHeadRun.topDef (OpenLaw.row PySem.Challenge.rw_trunkland_k14_settings).prog 32) (kwd := []) K14.ob_eq
    (by kernel_rfl) (fun s => by kernel_rfl) K14.run (by kernel_rfl) (by kernel_rfl) (by kernel_rfl) (by rfl) (by first | assumption | decide +kernel) (by decide +kernel) ⟨rfl, rfl, rfl, rfl, rfl, by decide +kernel⟩ ?hw ?hc
  case hw => w_witness2
  case hc =>
    refine L2.walk_ofE (l := PySem.Challenge.rw_trunkland_k14_settings) (n := 63) (k := 7) (x := "script") (CX := L2.CX0) rfl (by decide) (by kernel_rfl) ⟨rfl, by decide, by decide⟩ ?F (fun _ _ _ _ z => z)
    intro w mg fa h Y G hmg0
    obtain ⟨K, KX, c, cx, ce⟩ := Y
    have hmg : mg ("law" : PySem.Str) = some (.ref fa) := by
      have e : (HandSHeadRun.topDef (OpenLaw.row PySem.Challenge.rw_trunkland_k14_settings).prog 32).name = ("law" : PySem.Str) := by kernel_rfl
      rw [← e]
      exact hmg0
    obtain ⟨fd, hb, hF⟩ := K14.facts (P := (PySem.Challenge.rw_trunkland_k14_settings).prog) (w := w) KX G hmg c cx ce rfl (by kernel_rfl)
    exact ⟨K, fd, K14.spLaw K, KX, hb, fun H a ns hl _ hS => ⟨a, ns, rfl, hS, hl, fun _ => rfl⟩, hF⟩
