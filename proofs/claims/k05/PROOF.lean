import PyProof.Rows.All
import Wide.All
import OpenK.AllK
import Wide.FinOn
import HandS.ForMost
import HandS.Defaults
import HandS.Codes
import HandS.IsInst
import HandS.NoneIn
import HandS.Replace
import HandS.Walk
import HandS.Head0
import HandS.Head1
import HandS.Head2
import HandS.HeadEnd
import HandS.HeadHook1
import HandS.HeadHook2
import HandS.MakeKw
import HandS.MakeKwOnly
import HandS.FStr
import HandS.Deep
import HandS.StrMore
import HandS.Steps
import PyProof.MeetsStr3
import PyProof.Rows.StrNews2
import PyProof.Rows.StrLast
import PyProof.Rows.StrCountLaw
import HandS.SetKeys
import HandS.Strs
import PySem.Challenge.RW_trunkland_k05_clients
set_option Elab.async false
set_option linter.all false
set_option maxRecDepth 100000
set_option maxHeartbeats 4000000
/-! Helpers of mine over the hand layer, the same for every law of this program. -/
namespace TK
open PySem PySem.Spec PyProof.Rows L2 C8 SX
section
variable {X : Cx} {x : Str} {pos p : Pos} {k j : Nat} {sp : Sp} {dvs : List V}
theorem pgI {i : Int} (h : ∃ t, X.mg x = some (.int i t)) (hg : Gl X x := by rfl) (hd : (x == ("__debug__" : Str)) = false := by decide) : PE X (.Name x pos) (tC (.int i)) := by
  obtain ⟨t, e⟩ := h
  exact pe_glob hg e ⟨t, rfl⟩ hd
theorem pgS {z : Str} (h : ∃ t, X.mg x = some (.str z t)) (hg : Gl X x := by rfl) (hd : (x == ("__debug__" : Str)) = false := by decide) : PE X (.Name x pos) (tC (.str z)) := by
  obtain ⟨t, e⟩ := h
  exact pe_glob hg e ⟨t, rfl⟩ hd
theorem pgR {a : Addr} (h : X.mg x = some (.ref a)) (hg : Gl X x := by rfl) (hd : (x == ("__debug__" : Str)) = false := by decide) : PE X (.Name x pos) (tC (.ref a)) := pe_glob hg h rfl hd
theorem pe_c0 (c : Cal X.prog X.w X.K X.mg X.base k x sp dvs) (hr : Room j X.A) (hk : k ≤ j) (hg : Gl X x) (hdb : (x == ("__debug__" : Str)) = false := by decide) :
    PE X (.Call (.Name x p) [] [] pos) (tCall sp dvs L2.E0 tNil) := by
  obtain ⟨f, fd, ps, ds, F, hm, kp, b, d⟩ := c.ex
  exact pe_call0 F (hr.mono hk) hg hm kp b d L2.pass0 hdb
end
section
variable {P : Program} {w : World} {K : PySem.W.Frag} {mg : Str → Option Value} {base : Heap}
/-- a def without defaults, as callers want it -/
theorem cal_of {x qual : Str} {params : Arguments} {body : List Stmt} {scope : Scope} {f : Addr} {fd : FuncData} {ps : List Str} {k : Nat} {sp : Sp} (F : FunD K x qual params body scope [] [] f fd) (G : FnOk P w K mg base L2.CX0 k f fd ps sp) (hm : mg x = some (.ref f))
    (h : ∀ (kV doc pm : Value) (an : Option Addr) (cdv ct : Value) (us : List Value), us.length = ps.length → bindArgs (PySem.W.fnOf x qual params body scope .none kV doc pm an cdv ct) ⟨us, []⟩ = pure (ps.zip us)) : Cal P w K mg base k x sp [] :=
  ⟨f, fd, ps, [], G, hm, F.kp, F.bindsN h, .nil⟩
end
/-! ### heaps -/
/-- all that was tracked is as it was, but what stands at two places -/
def Keep (H H' : Hp) (a c : Addr) : Prop := ∀ b o, H b = some o → b ≠ a → b ≠ c → H' b = some o
theorem Keep.refl (H : Hp) (a c : Addr) : Keep H H a c := fun _ _ h _ _ => h
theorem Keep.trans {H H1 H2 : Hp} {a c : Addr} (h : Keep H H1 a c) (k : Keep H1 H2 a c) : Keep H H2 a c := fun b o e h1 h2 => k b o (h b o e h1 h2) h1 h2
theorem Keep.of_same {H H' : Hp} {a c : Addr} (h : Same H H') : Keep H H' a c := fun b o e _ _ => h b o e
theorem same_upd {H : Hp} {p : Addr} {o : HO} (h : H p = none) : Same H (upd H p o) := fun b u e => by
  rw [upd_ne (ne_of_none e h)]
  exact e
/-- the law's source of draws: a list of a list of cells and a seed -/
structure StAt (H : Hp) (s c : Addr) : Prop where
  ne : s ≠ c
  at_ : ∃ n : Int, H s = some (.lst [.ref c, .int n])
  cells : ∃ ns : List Int, H c = some (.lst (ns.map V.int)) ∧ ns.length ≤ 63
theorem StAt.same {H H' : Hp} {s c : Addr} (h : StAt H s c) (e : Same H H') : StAt H' s c := by
  obtain ⟨ne, ⟨n, h1⟩, ns, h2, h3⟩ := h
  exact ⟨ne, ⟨n, e _ _ h1⟩, ns, e _ _ h2, h3⟩
end TK
namespace TK
open PySem PySem.Spec PyProof.Rows L2 C8 SX
/-! ### comprehensions whose elements leave the heap alone -/
theorem lc_pure {J : It} {n : Nat} {G : Hp → Prop} {Y : Nat → Hp → V → Hp → Prop} (w : Walk J n G Y) (f : Nat → V) {g : TG} {tt : TT} {te : TE} {vs : List Nat} {σ : L2.St} {H1 : Hp} {D : Addr} {Qd : Hp → Prop} (hn : n ≤ sizeLine)
    (hG : ∀ i, i ≤ n → G (upd H1 D (.lst ((List.range i).map f))))
    (hs : ∀ (i : Nat) (x : V) (H' : Hp) (k : V → Hp → Prop), i < n → Y i (upd H1 D (.lst ((List.range i).map f))) x H' → k (f i) (upd H1 D (.lst ((List.range i).map f))) →
      g x (wipe σ vs) H' fun σ2 H2 => wipe σ2 vs = wipe σ vs ∧ tt σ2 H2 fun b H3 => b = true ∧ te σ2 H3 k)
    (ht : ∀ σ H Q Q', (∀ b H', Q b H' → Q' b H') → tt σ H Q → tt σ H Q') (hg : ∀ x σ H Q Q', (∀ σ' H', Q σ' H' → Q' σ' H') → g x σ H Q → g x σ H Q')
    (hd : Qd (upd H1 D (.lst ((List.range n).map f)))) :
    ∃ W : Nat → Nat → Hp → Prop, (∃ m, W 0 m (upd H1 D (.lst []))) ∧ ∀ i m H, W i m H →
      (J.stop i H ∧ Qd H) ∨ (J.go i H ∧ ∃ Nx : Hp → Prop, (∀ H', Nx H' → ∃ m', m' < m ∧ W (i + 1) m' H') ∧ ∀ x H', J.yld i H x H' → g x (wipe σ vs) H' fun σ2 H2 => wipe σ2 vs = wipe σ vs ∧ tt σ2 H2 fun b H3 =>
        if b = true then te σ2 H3 fun y H4 => ∃ acc, H4 D = some (.lst acc) ∧ acc.length < sizeLine ∧ Nx (upd H4 D (.lst (acc ++ [y]))) else Nx H3) := by
  refine lc_it w (fun i H => H = upd H1 D (.lst ((List.range i).map f))) rfl (fun i H hi e => e ▸ hG i hi) (fun i x H H' hi e y => ?_) (fun H e => e ▸ hd)
  subst e
  refine hg _ _ _ _ _ (fun σ2 H2 q => ⟨q.1, ht _ _ _ _ (fun b H3 r => ?_) q.2⟩) (hs i x H' (fun y H4 => ∃ acc, H4 D = some (.lst acc) ∧ acc.length < sizeLine ∧ upd H4 D (.lst (acc ++ [y])) = upd H1 D (.lst ((List.range (i + 1)).map f))) hi y ⟨_, upd_same, ?_, ?_⟩)
  · rw [if_pos r.1]
    exact r.2
  · rw [List.length_map, List.length_range]
    omega
  · rw [upd_upd, List.range_succ, List.map_append]
    rfl
/-- the usual target and no test -/
theorem lc_pureN {J : It} {n : Nat} {G : Hp → Prop} {Y : Nat → Hp → V → Hp → Prop} (w : Walk J n G Y) (f : Nat → V) {j : Nat} {te : TE} {vs : List Nat} {σ : L2.St} {H1 : Hp} {D : Addr} {Qd : Hp → Prop} (hn : n ≤ sizeLine)
    (hG : ∀ i, i ≤ n → G (upd H1 D (.lst ((List.range i).map f))))
    (hs : ∀ (i : Nat) (x : V) (H' : Hp) (k : V → Hp → Prop), i < n → Y i (upd H1 D (.lst ((List.range i).map f))) x H' → k (f i) (upd H1 D (.lst ((List.range i).map f))) →
      wipe ((wipe σ vs).set j (some x)) vs = wipe σ vs ∧ te ((wipe σ vs).set j (some x)) H' k)
    (hd : Qd (upd H1 D (.lst ((List.range n).map f)))) :
    ∃ W : Nat → Nat → Hp → Prop, (∃ m, W 0 m (upd H1 D (.lst []))) ∧ ∀ i m H, W i m H →
      (J.stop i H ∧ Qd H) ∨ (J.go i H ∧ ∃ Nx : Hp → Prop, (∀ H', Nx H' → ∃ m', m' < m ∧ W (i + 1) m' H') ∧ ∀ x H', J.yld i H x H' → gName j x (wipe σ vs) H' fun σ2 H2 => wipe σ2 vs = wipe σ vs ∧ tYes σ2 H2 fun b H3 =>
        if b = true then te σ2 H3 fun y H4 => ∃ acc, H4 D = some (.lst acc) ∧ acc.length < sizeLine ∧ Nx (upd H4 D (.lst (acc ++ [y]))) else Nx H3) :=
  lc_pure w f hn hG (fun i x H' k hi y q => ⟨(hs i x H' k hi y q).1, rfl, (hs i x H' k hi y q).2⟩) (fun _ _ _ _ h q => h _ _ q) (fun _ _ _ _ _ h q => h _ _ q) hd
theorem size_tl (z : Str) : z.cps.size = (TL.tl z).length := by simp [TL.tl]
theorem len_eq (z : Str) : z.length = (TL.tl z).length := TL.len_tl z
theorem range_map_getD {α β : Type} (l : List α) (d : α) (f : α → β) : (List.range l.length).map (fun i => f (l.getD i d)) = l.map f := by
  apply List.ext_getElem
  · simp
  · intro i h1 h2
    simp at h1
    simp [h1]
end TK
namespace TK
open PySem PySem.Spec PyProof.Rows L2 SX
theorem ef {b : Bool} (h : ¬ b = true) : b = false := Bool.eq_false_iff.mpr h
/-! ### places in texts -/
theorem at0 {α : Type} {l : List α} (d : α) (h : 0 < l.length) : atI l 0 = some (l.getD 0 d) := by
  cases l with
  | nil => exact absurd h (Nat.lt_irrefl 0)
  | cons a r =>
    show ((if (0 : Int) ≤ 0 then (if (0 : Int) < ((a :: r).length : Nat) then some (0 : Int).toNat else none) else _) : Option Nat).bind _ = _
    rw [if_pos (Int.le_refl 0), if_pos (by rw [List.length_cons]; omega)]
    rfl
theorem atN {α : Type} {l : List α} {i : Int} (d : α) (h0 : 0 ≤ i) (h : i < l.length) : atI l i = some (l.getD i.toNat d) := by
  show ((if (0 : Int) ≤ i then (if i < (l.length : Nat) then some i.toNat else none) else _) : Option Nat).bind _ = _
  rw [if_pos h0, if_pos h]
  show l[i.toNat]? = _
  rw [List.getD_eq_getElem?_getD, List.getElem?_eq_getElem (by omega)]
  rfl
theorem atC {α : Type} (a : α) (r : List α) : atI (a :: r) 0 = some a := at0 a (by simp)
theorem ixP {n : Nat} {i : Int} (h0 : 0 ≤ i) (h : i < n) : ixN n i = some i.toNat := by
  unfold ixN
  rw [if_pos h0, if_pos h]
theorem sqP {n : Nat} {i : Int} (h0 : 0 ≤ i) (h : i < n) : seqIndex? i n = some i.toNat := (ixN_seq (ixP h0 h)).1
theorem ixC {α : Type} (a : α) (r : List α) : ixN (a :: r).length 0 = some 0 := ixP (by decide) (by rw [List.length_cons]; omega)
theorem sqC {α : Type} (a : α) (r : List α) : seqIndex? 0 (a :: r).length = some 0 := sqP (by decide) (by rw [List.length_cons]; omega)
/-- the first place of a sign -/
theorem occ_first1 {l : List Nat} {c : Nat} (h : c ∈ l) : ∃ rest, Builtin.Str.occurrences (S l) (S [c]) 0 (S l).length 1 = l.idxOf c :: rest := by
  have at_iff : ∀ i, StrLaws.At (S l) (S [c]) (S l).length i ↔ l[i]? = some c := by
    intro i
    have e := TL.at_iff (x := S l) (y := S [c]) (by show [c] ≠ []; simp) i
    refine e.trans ?_
    show (((l.drop i).take 1 == [c]) = true) ↔ _
    rw [beq_iff_eq]
    constructor
    · intro q
      cases e2 : l.drop i with
      | nil =>
        rw [e2] at q
        cases q
      | cons a r =>
        rw [e2] at q
        have e3 : a = c := by
          simpa using q
        rw [← e3]
        have e4 : (l.drop i)[0]? = some a := by rw [e2]; rfl
        rw [List.getElem?_drop] at e4
        exact e4
    · intro q
      have hi : i < l.length := (List.getElem?_eq_some_iff.mp q).1
      rw [List.drop_eq_getElem_cons hi]
      have e3 : l[i] = c := (List.getElem?_eq_some_iff.mp q).2
      rw [e3]
      rfl
  rcases StrLaws.occ_head (S l) (S [c]) 1 (Nat.le_refl 1) with ⟨_, hn⟩ | ⟨i, r, e, ha, hn⟩
  · obtain ⟨i, hi, e⟩ := List.mem_iff_getElem.mp h
    exact absurd ((at_iff i).mpr (by rw [List.getElem?_eq_getElem hi, e])) (hn i)
  · refine ⟨r, ?_⟩
    rw [e]
    congr 1
    have h1 := (at_iff i).mp ha
    have hi : i < l.length := (List.getElem?_eq_some_iff.mp h1).1
    have e1 : l[i] = c := (List.getElem?_eq_some_iff.mp h1).2
    have hj : l.idxOf c < l.length := List.idxOf_lt_length_iff.mpr h
    have e2 : l[l.idxOf c] = c := List.getElem_idxOf hj
    rcases Nat.lt_trichotomy i (l.idxOf c) with z | z | z
    · exfalso
      have := List.not_of_lt_findIdx (p := (· == c)) (xs := l) (i := i) z
      simp [e1] at this
    · exact z
    · exfalso
      exact hn _ z ((at_iff _).mpr (by rw [List.getElem?_eq_getElem hj, e2]))
/-- a list cut at the first sign c -/
theorem cut_first {l : List Nat} {c : Nat} (h : c ∈ l) : l = l.take (l.idxOf c) ++ c :: l.drop (l.idxOf c + 1) ∧ c ∉ l.take (l.idxOf c) := by
  have hj : l.idxOf c < l.length := List.idxOf_lt_length_iff.mpr h
  refine ⟨?_, ?_⟩
  · have e2 : l[l.idxOf c] = c := List.getElem_idxOf hj
    have e3 := List.drop_eq_getElem_cons hj
    rw [e2] at e3
    rw [← e3, List.take_append_drop]
  · intro hm
    obtain ⟨i, hi, e⟩ := List.mem_iff_getElem.mp hm
    rw [List.length_take] at hi
    have hi1 : i < l.idxOf c := by omega
    have := List.not_of_lt_findIdx (p := (· == c)) (xs := l) (i := i) hi1
    rw [List.getElem_take] at e
    simp [e] at this
theorem cut_unique {a b a' b' : List Nat} {c : Nat} (h : a ++ c :: b = a' ++ c :: b') (ha : c ∉ a) (ha' : c ∉ a') : a = a' ∧ b = b' := by
  induction a generalizing a' with
  | nil =>
    cases a' with
    | nil => exact ⟨rfl, by simpa using h⟩
    | cons d r =>
      have e : c = d := by simpa using (List.cons.inj h).1
      exact absurd (List.mem_cons.mpr (.inl e)) ha'
  | cons d r ih =>
    cases a' with
    | nil =>
      have e : d = c := by simpa using (List.cons.inj h).1
      exact absurd (List.mem_cons.mpr (.inl e.symm)) ha
    | cons d' r' =>
      obtain ⟨e1, e2⟩ := List.cons.inj h
      obtain ⟨e3, e4⟩ := ih e2 (fun z => ha (List.mem_cons_of_mem _ z)) (fun z => ha' (List.mem_cons_of_mem _ z))
      exact ⟨by rw [e1, e3], e4⟩
end TK
namespace TK
open PySem PySem.Spec PyProof.Rows L2 SX
theorem Keep.upd {H H' : Hp} {s c D : Addr} {o : HO} (k : Keep H H' s c) (hD : H D = none) : Keep H (upd H' D o) s c := fun b u e h1 h2 => by
  rw [upd_ne (ne_of_none e hD)]
  exact k b u e h1 h2
theorem StAt.upd {H : Hp} {s c D : Addr} {o : HO} (h : StAt H s c) (h1 : D ≠ s) (h2 : D ≠ c) : StAt (upd H D o) s c := by
  obtain ⟨ne, ⟨n, a⟩, ns, b, l⟩ := h
  exact ⟨ne, ⟨n, by rw [upd_ne h1.symm]; exact a⟩, ns, by rw [upd_ne h2.symm]; exact b, l⟩
theorem StAt.tracked {H : Hp} {s c D : Addr} (h : StAt H s c) (hD : H D = none) : D ≠ s ∧ D ≠ c := by
  obtain ⟨ne, ⟨n, a⟩, ns, b, l⟩ := h
  exact ⟨fun e => (by rw [e, a] at hD; cases hD), fun e => (by rw [e, b] at hD; cases hD)⟩
theorem Keep.none {H H' : Hp} {s c b : Addr} (k : Keep H H' s c) (h : H' b = Option.none) (h1 : b ≠ s) (h2 : b ≠ c) : H b = Option.none := by
  cases e : H b with
  | none => rfl
  | some o =>
    rw [k b o e h1 h2] at h
    cases h
theorem joinL_nil : ∀ l : List (List Nat), TL.joinL [] l = l.flatten
  | [] => rfl
  | [p] => by simp [TL.joinL]
  | p :: q :: r => by
    show p ++ ([] ++ TL.joinL [] (q :: r)) = _
    rw [joinL_nil (q :: r)]
    rfl
/-- texts of one sign, joined -/
theorem join_ones {ys : List Str} (h : ∀ z ∈ ys, z.length = 1) : (Txt.join "" ys).length = ys.length := by
  have e : (Txt.join ("" : Str) ys) = Str.join "" ys := TL.join_eq "" ys
  rw [e, len_eq, TL.tl_join, show TL.tl ("" : Str) = [] by decide +kernel, joinL_nil]
  induction ys with
  | nil => rfl
  | cons a r ih =>
    have h1 := h a (List.mem_cons_self ..)
    rw [len_eq] at h1
    rw [List.map_cons, List.flatten_cons, List.length_append, ih (fun z hz => h z (List.mem_cons_of_mem _ hz)) (TL.join_eq "" r), List.length_cons, h1]
    omega
theorem sum_ones {ys : List Str} (h : ∀ z ∈ ys, z.length = 1) : (ys.map (·.length)).sum = ys.length := by
  induction ys with
  | nil => rfl
  | cons a r ih =>
    rw [List.map_cons, List.sum_cons, ih (fun z hz => h z (List.mem_cons_of_mem _ hz)), h a (List.mem_cons_self ..), List.length_cons]
    omega
theorem cat_len (a b : Str) : (a ++ b).length = a.length + b.length := by
  rw [len_eq, TL.tl_append, List.length_append, ← len_eq, ← len_eq]
end TK
namespace TK
open PySem PySem.Spec PyProof.Rows L2 SX
/-- lc_it with a plain name as target and no test -/
theorem lc_itN {J : It} {n : Nat} {G : Hp → Prop} {Y : Nat → Hp → V → Hp → Prop} (w : Walk J n G Y) {j : Nat} {te : TE} {vs : List Nat} {σ : L2.St} {H1 : Hp} {D : Addr} {Qd : Hp → Prop} (Pv : Nat → Hp → Prop) (h0 : Pv 0 (upd H1 D (.lst []))) (hG : ∀ i H, i ≤ n → Pv i H → G H)
    (hs : ∀ i x H H', i < n → Pv i H → Y i H x H' → wipe ((wipe σ vs).set j (some x)) vs = wipe σ vs ∧ te ((wipe σ vs).set j (some x)) H' fun y H4 => ∃ acc, H4 D = some (.lst acc) ∧ acc.length < sizeLine ∧ Pv (i + 1) (upd H4 D (.lst (acc ++ [y])))) (hd : ∀ H, Pv n H → Qd H) :
    ∃ W : Nat → Nat → Hp → Prop, (∃ m, W 0 m (upd H1 D (.lst []))) ∧ ∀ i m H, W i m H →
      (J.stop i H ∧ Qd H) ∨ (J.go i H ∧ ∃ Nx : Hp → Prop, (∀ H', Nx H' → ∃ m', m' < m ∧ W (i + 1) m' H') ∧ ∀ x H', J.yld i H x H' → gName j x (wipe σ vs) H' fun σ2 H2 => wipe σ2 vs = wipe σ vs ∧ tYes σ2 H2 fun b H3 =>
        if b = true then te σ2 H3 fun y H4 => ∃ acc, H4 D = some (.lst acc) ∧ acc.length < sizeLine ∧ Nx (upd H4 D (.lst (acc ++ [y]))) else Nx H3) :=
  lc_it w Pv h0 hG (fun i x H H' hi p y => ⟨(hs i x H H' hi p y).1, (hs i x H H' hi p y).2⟩) hd
end TK
namespace TK
open PySem PySem.Spec PyProof.Rows L2 SX
theorem slTo (z : Str) {i : Int} (h : 0 ≤ i) : Txt.slice z none (some i) = S ((TL.tl z).take i.toNat) := slice_to (a := TL.tl z) h
theorem slFrom (z : Str) {i : Int} (h : 0 ≤ i) : Txt.slice z (some i) none = S ((TL.tl z).drop i.toNat) := slice_from (a := TL.tl z) h
theorem log_small {i : Int} (h : i.natAbs < 2 ^ 1900) : i.natAbs.log2 < 1920 := by
  by_cases h0 : i.natAbs = 0
  · rw [h0]
    decide
  · exact (Nat.log2_lt h0).mpr (Nat.lt_of_lt_of_le h (Nat.pow_le_pow_right (by decide) (by decide)))
end TK
namespace TK
open PySem PySem.Spec PyProof.Rows L2 SX
/-! ### comprehensions with a test, the heap left alone -/
theorem lc_filt {J : It} {n : Nat} {G : Hp → Prop} {Y : Nat → Hp → V → Hp → Prop} (w : Walk J n G Y) (f : Nat → V) (b : Nat → Bool) {j : Nat} {tt : TT} {te : TE} {vs : List Nat} {σ : L2.St} {H1 : Hp} {D : Addr} {Qd : Hp → Prop} (hn : n ≤ sizeLine)
    (hG : ∀ i, i ≤ n → G (upd H1 D (.lst (((List.range i).filter b).map f))))
    (ht : ∀ (i : Nat) (x : V) (H' : Hp) (k : Bool → Hp → Prop), i < n → Y i (upd H1 D (.lst (((List.range i).filter b).map f))) x H' → k (b i) (upd H1 D (.lst (((List.range i).filter b).map f))) →
      wipe ((wipe σ vs).set j (some x)) vs = wipe σ vs ∧ tt ((wipe σ vs).set j (some x)) H' k)
    (he : ∀ (i : Nat) (x : V) (H' : Hp) (k : V → Hp → Prop), i < n → b i = true → Y i (upd H1 D (.lst (((List.range i).filter b).map f))) x H' → k (f i) (upd H1 D (.lst (((List.range i).filter b).map f))) →
      te ((wipe σ vs).set j (some x)) (upd H1 D (.lst (((List.range i).filter b).map f))) k)
    (hd : Qd (upd H1 D (.lst (((List.range n).filter b).map f)))) :
    ∃ W : Nat → Nat → Hp → Prop, (∃ m, W 0 m (upd H1 D (.lst []))) ∧ ∀ i m H, W i m H →
      (J.stop i H ∧ Qd H) ∨ (J.go i H ∧ ∃ Nx : Hp → Prop, (∀ H', Nx H' → ∃ m', m' < m ∧ W (i + 1) m' H') ∧ ∀ x H', J.yld i H x H' → gName j x (wipe σ vs) H' fun σ2 H2 => wipe σ2 vs = wipe σ vs ∧ tt σ2 H2 fun b H3 =>
        if b = true then te σ2 H3 fun y H4 => ∃ acc, H4 D = some (.lst acc) ∧ acc.length < sizeLine ∧ Nx (upd H4 D (.lst (acc ++ [y]))) else Nx H3) := by
  refine lc_it w (fun i H => H = upd H1 D (.lst (((List.range i).filter b).map f))) rfl (fun i H hi e => e ▸ hG i hi) (fun i x H H' hi e y => ?_) (fun H e => e ▸ hd)
  subst e
  refine ht i x H' _ hi y ?_
  cases hb : b i with
  | true =>
    refine iteT (he i x H' _ hi hb y ⟨_, upd_same, ?_, ?_⟩)
    · rw [List.length_map]
      exact Nat.lt_of_le_of_lt (List.length_filter_le _ _) (by rw [List.length_range]; omega)
    · rw [upd_upd, List.range_succ, List.filter_append, List.map_append, List.filter_cons_of_pos hb]
      rfl
  | false =>
    refine iteF ?_
    rw [List.range_succ, List.filter_append, List.filter_cons_of_neg (by rw [hb]; exact Bool.false_ne_true), List.filter_nil, List.append_nil]
theorem range_filter_getD {α β : Type} (l : List α) (d : α) (p : α → Bool) (f : α → β) : ((List.range l.length).filter (fun i => p (l.getD i d))).map (fun i => f (l.getD i d)) = (l.filter p).map f := by
  have e := range_map_getD l d (fun x => x)
  rw [List.map_id'] at e
  have h : (l.filter p).map f = (((List.range l.length).map (fun i => l.getD i d)).filter p).map f := by rw [e]
  rw [h, List.filter_map, List.map_map]
  rfl
theorem getD_at {α : Type} {l : List α} {i : Nat} {x : α} (d : α) (h : l[i]? = some x) : l.getD i d = x := by
  rw [List.getD_eq_getElem?_getD, h]
  rfl
/-! ### heads with tables -/
def obsX (n : Nat) (fa : List He.Fa) (fn : List He.DefD) (ex : PySem.W.Frag → List Bool) (g : Addr → Option Obj) : He.AlD :=
  ((He.obsD fa fn (He.frG g (He.asD g n))).1 && (ex (He.frG g (He.asD g n))).all id, (He.obsD fa fn (He.frG g (He.asD g n))).2)
def hookX (n : Nat) (fa : List He.Fa) (fn : List He.DefD) (ex : PySem.W.Frag → List Bool) : PySem.W.Hook where
  α := He.AlD
  obs s := obsX n fa fn ex s.heap.get?
  val _ := He.valD fn
  says _ h := ∃ K : PySem.W.Frag, K.In h ∧ He.SaysD fa fn K ∧ (ex K).all id = true
  of _ _ e := by
    have e1 := congrArg (fun z : He.AlD => z.1) e
    have e2 := congrArg (fun z : He.AlD => z.2) e
    obtain ⟨a, b⟩ := Bool.and_eq_true_iff.mp e1
    exact ⟨_, He.frG_in, Prod.ext a e2, b⟩
  keeps _ _ _ c k := let ⟨K, hK, c1, c2⟩ := c; ⟨K, PySem.W.Frag.In.keeps hK k, c1, c2⟩
theorem obsX_eq {n : Nat} {fa : List He.Fa} {fn : List He.DefD} {ex : PySem.W.Frag → List Bool} {g : Addr → Option Obj} {s : Shared} (h : ∀ a, g a = s.heap.get? a) : obsX n fa fn ex g = (hookX n fa fn ex).obs s := by
  obtain rfl : g = s.heap.get? := funext h
  rfl
theorem exAt {l : List Bool} (h : l.all id = true) (i : Nat) {b : Bool} (e : l[i]? = some b) : b = true := List.all_eq_true.mp h b (List.mem_of_getElem? e)
end TK
namespace TK
open PySem PySem.Spec PyProof.Rows L2 SX
/-! ### rules that name the written part, for use within a comprehension -/
section
variable {X : Cx}
theorem inSeqK (K : PySem.W.Frag) (e : X.K = K) : OpR X (compareOp .In) (rIn K false) := by
  subst e
  exact op_in_seq
theorem notInSeqK (K : PySem.W.Frag) (e : X.K = K) : OpR X (compareOp .NotIn) (rIn K true) := by
  subst e
  exact op_notIn_seq
theorem ixListK (K : PySem.W.Frag) (e : X.K = K) : IxR X (rIxL K) := by
  subst e
  exact ix_list
theorem ixTupK (K : PySem.W.Frag) (e : X.K = K) : IxR X (rIxT K) := by
  subst e
  exact ix_tup
theorem isiK (K : PySem.W.Frag) (e : X.K = K) : CallR X (.builtin "isinstance") (rIsi K) := by
  subst e
  exact call_isi
end
end TK
set_option maxHeartbeats 4000000
namespace TK
open PySem PySem.Spec PyProof.Rows L2 SX
theorem same_upd2 {H H' : Hp} {D : Addr} {o : HO} (s : Same H H') (hD : H D = none) : Same H (upd H' D o) := fun b u e => by
  rw [upd_ne (ne_of_none e hD)]
  exact s b u e
theorem joinL_len (y : List Nat) : ∀ l : List (List Nat), (TL.joinL y l).length ≤ (l.map (·.length)).sum + l.length * y.length
  | [] => by simp [TL.joinL]
  | [p] => by simp [TL.joinL]
  | p :: q :: r => by
    have ih := joinL_len y (q :: r)
    show (p ++ (y ++ TL.joinL y (q :: r))).length ≤ _
    rw [List.length_append, List.length_append, List.map_cons, List.sum_cons, List.length_cons (a := p), Nat.succ_mul]
    omega
theorem join_len (y : Str) (ys : List Str) : (Txt.join y ys).length ≤ (ys.map (·.length)).sum + ys.length * y.length := by
  rw [show Txt.join y ys = Str.join y ys from TL.join_eq y ys, len_eq, TL.tl_join]
  have q := joinL_len (TL.tl y) (ys.map TL.tl)
  rw [List.length_map, List.map_map] at q
  have e : (ys.map (fun x : Str => x.length)) = ys.map ((fun x : List Nat => x.length) ∘ TL.tl) := List.map_congr_left fun x _ => len_eq x
  rw [e, len_eq y]
  exact q
theorem sum_le {m : Nat} : ∀ {ys : List Str}, (∀ z ∈ ys, z.length ≤ m) → (ys.map (·.length)).sum ≤ ys.length * m
  | [], _ => Nat.zero_le _
  | a :: r, h => by
    have ih := sum_le (ys := r) fun z hz => h z (List.mem_cons_of_mem _ hz)
    have h1 := h a (List.mem_cons_self ..)
    rw [List.map_cons, List.sum_cons, List.length_cons, Nat.succ_mul]
    omega
theorem nodup_inr : ∀ ys : List Str, (ys.map (Sum.inr : Str → Key)).Nodup ↔ ys.Nodup
  | [] => by simp
  | a :: r => by
    rw [List.map_cons, List.nodup_cons, List.nodup_cons, nodup_inr r, List.mem_map]
    constructor
    · intro q
      exact ⟨fun m => q.1 ⟨a, m, rfl⟩, q.2⟩
    · intro q
      exact ⟨fun ⟨b, m, e⟩ => q.1 (Sum.inr.inj e ▸ m), q.2⟩
theorem key_strs (ys : List Str) : (ys.map (Sum.inr : Str → Key)).map kV = ys.map V.str := by
  rw [List.map_map]
  rfl
/-- the parts of a text are no longer than the text -/
theorem part_len {z y p : Str} (h : p ∈ Txt.split z y) : p.length ≤ z.length := by
  have j := StrLaws.join_split z y
  have sub : ∀ (l : List (List Nat)) (s : List Nat), ∀ x ∈ l, x.length ≤ (TL.joinL s l).length := by
    intro l s
    induction l with
    | nil => exact fun x hx => nomatch hx
    | cons a r ih =>
      intro x hx
      cases r with
      | nil =>
        rw [List.mem_singleton.mp hx]
        exact Nat.le_refl _
      | cons b r =>
        show x.length ≤ (a ++ (s ++ TL.joinL s (b :: r))).length
        rw [List.length_append, List.length_append]
        rcases List.mem_cons.mp hx with q | q
        · rw [q]
          omega
        · have := ih x q
          omega
  have q := sub ((Txt.split z y).map TL.tl) (TL.tl y) (TL.tl p) (List.mem_map.mpr ⟨p, h, rfl⟩)
  rw [← TL.tl_join, j] at q
  rw [len_eq, len_eq]
  exact q
end TK
namespace TK
open PySem PySem.Spec PyProof.Rows L2 SX
/-! ### a word between an expression and what follows -/
def tCutE (t : TE) : TE := fun σ H Q => ∃ Mid : VK, t σ H Mid ∧ ∀ v H', Mid v H' → Q v H'
def tCutT (t : TT) : TT := fun σ H Q => ∃ Mid : Bool → Hp → Prop, t σ H Mid ∧ ∀ b H', Mid b H' → Q b H'
section
variable {X : Cx} {e : Expr}
theorem pe_cut {t : TE} (h : PE X e t) : PE X e (tCutE t) := ⟨fun pins s σ H _ I ⟨Mid, hm, hq⟩ => thn (h.run pins s σ H Mid I hm) fun _ _ ⟨v, H', I', r, q⟩ => ⟨v, H', I', r, hq v H' q⟩⟩
theorem pt_cut {t : TT} (h : PT X e t) : PT X e (tCutT t) := ⟨fun pins s σ H _ I ⟨Mid, hm, hq⟩ => thn (h.run pins s σ H Mid I hm) fun b _ ⟨H', I', q⟩ => ⟨H', I', hq b H' q⟩⟩
end
end TK
set_option maxHeartbeats 4000000
/-! Own classes: rules that name the class, makers and methods by their promises. -/
namespace TK
open PySem PySem.Spec PyProof.Rows L2 SX
def tFldC (C : Addr) (ta : TE) (f : Str) : TE := fun σ H Q => ta σ H fun x H1 => ∃ a dx fs v, x = .ref a ∧ H1 a = some (.ins C dx fs) ∧ fs.lookup f = some v ∧ Q v H1
def sFldC (C : Addr) (ta tv : TE) (f : Str) : TS := fun D σ H => tv σ H fun y H1 => ta σ H1 fun x H2 => ∃ a dx fs, x = .ref a ∧ H2 a = some (.ins C dx fs) ∧ fs.length < 1000 ∧ D.nx σ (upd H2 a (.ins C dx (putF f y fs)))
section
variable {X : Cx} {K : PySem.W.Frag} {C : Addr} {e o value : Expr} {f : Str} {pos pos' : Pos} {ta tv : TE}
theorem pe_fldC (eK : X.K = K) (c : Cls K C) (n : NoAttr K C f) (he : PE X e ta) (hb : attributeBase e f X.env (eval e X.env) = eval e X.env) : PE X (.Attribute e f pos) (tFldC C ta f) := by
  subst eK
  exact ⟨fun pins s σ H Q I h => (pe_fld (pe_cut he) hb).run pins s σ H Q I ⟨_, h, fun v H' ⟨a, dx, fs, w, e1, e2, e3, q⟩ => ⟨a, C, dx, fs, w, e1, e2, c, n, e3, q⟩⟩⟩
theorem ps_fldC (eK : X.K = K) (c : Cls K C) (n : NoAttr K C f) (ha : PE X o ta) (hv : PE X value tv) (hs : swapsWith value (some (.Attribute o f pos')) pos.line X.env = pure false) : PS X (.Assign [.Attribute o f pos'] value pos) (sFldC C ta tv f) := by
  subst eK
  exact ⟨fun pins s σ H D I h => (ps_fld (pe_cut ha) (pe_cut hv) hs).run pins s σ H D I ⟨_, h, fun v H' h2 => ⟨_, h2, fun x H2 ⟨a, dx, fs, e1, e2, e3, q⟩ => ⟨a, C, dx, fs, e1, e2, c, n, e3, q⟩⟩⟩⟩
end
/-! ### few attributes -/
class SmallF (fs : List (Str × V)) (n : outParam Nat) : Prop where
  le : fs.length ≤ n
instance : SmallF [] 0 := ⟨Nat.le_refl _⟩
instance {x : Str × V} {l : List (Str × V)} {n : Nat} [h : SmallF l n] : SmallF (x :: l) (n + 1) := ⟨Nat.succ_le_succ h.le⟩
theorem putF_len {f : Str} {v : V} : ∀ fs : List (Str × V), (putF f v fs).length ≤ fs.length + 1
  | [] => Nat.le_refl _
  | (g, x) :: r => by
    show (if g = f then (g, v) :: r else (g, x) :: putF f v r).length ≤ _
    by_cases h : g = f
    · rw [if_pos h]
      exact Nat.le_succ _
    · rw [if_neg h]
      exact Nat.succ_le_succ (putF_len r)
instance {f : Str} {v : V} {l : List (Str × V)} {n : Nat} [h : SmallF l n] : SmallF (putF f v l) (n + 1) := ⟨Nat.le_trans (putF_len l) (Nat.succ_le_succ h.le)⟩
theorem sm {fs : List (Str × V)} {n : Nat} [h : SmallF fs n] (hn : n < 1000 := by decide) : fs.length < 1000 := Nat.lt_of_le_of_lt h.le hn
/-! ### makers -/
section
variable {P : Program} {w : World} {K : PySem.W.Frag} {mg : Str → Option Value} {base : Heap}
structure MakK (P : Program) (w : World) (K : PySem.W.Frag) (mg : Str → Option Value) (base : Heap) (k : Nat) (x : Str) (C : Addr) (sp : Sp) (n : Nat) (ks : List Str) (gV : List V → List V → List V) : Prop where
  ex : ∃ (f : Addr) (fd : FuncData) (ps : List Str) (g : List Value → List Value → List Value), Mk K C f ∧ FnOk P w K mg base L2.CX0 k f fd ps sp ∧ mg x = some (.ref C) ∧ KBn K fd ps (n + 1) ks g gV
theorem mak_of {C : Addr} {x n qual : Str} {params : Arguments} {body : List Stmt} {scope : Scope} {f : Addr} {fd : FuncData} {ps : List Str} {k : Nat} {sp : Sp} (M : Mk K C f) (hm : mg x = some (.ref C)) (F : FunD K n qual params body scope [] [] f fd) (G : FnOk P w K mg base L2.CX0 k f fd ps sp)
    (h : ∀ (kV doc pm : Value) (an : Option Addr) (cdv ct : Value) (us : List Value), us.length = ps.length → bindArgs (PySem.W.fnOf n qual params body scope .none kV doc pm an cdv ct) ⟨us, []⟩ = pure (ps.zip us)) : C8.Mak P w K mg base k x C sp [] :=
  ⟨f, fd, ps, [], M, G, hm, F.bindsN h, .nil⟩
theorem met_of {C : Addr} {n qual : Str} {params : Arguments} {body : List Stmt} {scope : Scope} {f : Addr} {fd : FuncData} {ps : List Str} {k : Nat} {sp : Sp} (c : Cls K C) (m : Meth K C n f) (F : FunD K n qual params body scope [] [] f fd) (G : FnOk P w K mg base L2.CX0 k f fd ps sp)
    (h : ∀ (kV doc pm : Value) (an : Option Addr) (cdv ct : Value) (us : List Value), us.length = ps.length → bindArgs (PySem.W.fnOf n qual params body scope .none kV doc pm an cdv ct) ⟨us, []⟩ = pure (ps.zip us)) : C8.Met P w K mg base k C n sp [] :=
  ⟨f, fd, ps, [], c, m, G, F.bindsN h, .nil⟩
theorem metD_of {C : Addr} {n qual : Str} {params : Arguments} {body : List Stmt} {scope : Scope} {dvs : List V} {f : Addr} {fd : FuncData} {ps : List Str} {k : Nat} {sp : Sp} (c : Cls K C) (m : Meth K C n f) (F : FunD K n qual params body scope dvs [] f fd) (G : FnOk P w K mg base L2.CX0 k f fd ps sp) (hd : dvs ≠ []) (hn : dvs.length ≤ ps.length)
    (h : ∀ (T : Addr) (kV doc pm : Value) (an : Option Addr) (cdv ct : Value) (us its : List Value), us.length = ps.length - dvs.length → its.length = dvs.length →
      ∃ k, bindArgs (PySem.W.fnOf n qual params body scope (.ref T) kV doc pm an cdv ct) ⟨us, []⟩ = seqItems? (.ref T) >>= k ∧ k (some its.toArray) = pure (ps.zip (us ++ its.drop 0))) : C8.Met P w K mg base k C n sp dvs := by
  obtain ⟨ds, h1, h2⟩ := F.binds1 (ps := ps) (ps.length - dvs.length) 0 hd (by omega) h
  exact ⟨f, fd, ps, ds, c, m, G, h2, by simpa using h1⟩
end
section
variable {X : Cx} {k j n : Nat} {C : Addr} {x : Str} {sp : Sp} {p pos : Pos} {e : Expr} {es : List Expr} {kws : List Keyword} {ks : List Str} {t tk : TA} {gV : List V → List V → List V}
theorem pe_mk0 {dvs : List V} (c : C8.Mak X.prog X.w X.K X.mg X.base k x C sp dvs) (hr : Room j X.A) (hk : k + 1 ≤ j) (hg : Gl X x) (hdb : (x == ("__debug__" : Str)) = false := by decide) : PE X (.Call (.Name x p) [] [] pos) (tMake C sp dvs L2.E0 tNil) := by
  obtain ⟨f, fd, ps, ds, M, F, hm, b, d⟩ := c.ex
  exact pe_make0 M F (hr.mono hk) hg hm b d L2.pass0 hdb
theorem pe_mkK0 (c : MakK X.prog X.w X.K X.mg X.base k x C sp 0 ks gV) (hr : Room j X.A) (hk : k + 1 ≤ j) (hg : Gl X x) (hkw : PK X kws tk)
    (hall : (backToKw pos (keywordEach kws X.env)).all (·.1.isSome) = true := by rfl) (hks : (backToKw pos (keywordEach kws X.env)).filterMap (·.1) = ks := by rfl) (hdb : (x == ("__debug__" : Str)) = false := by decide)
    (hpl : ((backTo pos (starEach [] X.env)).any (·.1) || (backToKw pos (keywordEach kws X.env)).any (·.1.isNone)) = false := by rfl) :
    PE X (.Call (.Name x p) [] kws pos) (tMakeK C 0 ks.length sp gV L2.E0 tNil tk) := by
  obtain ⟨f, fd, ps, g, M, F, hm, b⟩ := c.ex
  exact pe_makeK0 M F (hr.mono hk) hg hm b L2.pass0 hkw hall hks hdb hpl
end
/-! ### new objects -/
theorem same_own {H : Hp} {x dx C : Addr} {fs : List (Str × V)} (hx : H x = none) (hd : H dx = none) : Same H (upd (upd H dx (.own x)) x (.ins C dx fs)) := fun b o e => by
  rw [upd_ne (ne_of_none e hx), upd_ne (ne_of_none e hd)]
  exact e
theorem Same.upd_of {H H' : Hp} {a : Addr} {o : HO} (s : Same H H') (h : H a = none) : Same H (upd H' a o) := fun b u e => by
  rw [upd_ne (ne_of_none e h)]
  exact s b u e
/-! ### texts that can be laid -/
theorem ok_iff {z : Str} : PyData.strOk z = true ↔ ∀ c ∈ TL.tl z, c < 0x110000 := by
  unfold PyData.strOk TL.tl
  rw [Array.all_eq_true']
  constructor
  · intro h c hc
    simpa using h c (by simpa using hc)
  · intro h c hc
    simpa using h c (by simpa using hc)
theorem ok_cat {a b : Str} (ha : PyData.strOk a = true) (hb : PyData.strOk b = true) : PyData.strOk (a ++ b) = true := by
  rw [ok_iff] at *
  intro c hc
  rw [TL.tl_append, List.mem_append] at hc
  exact hc.elim (ha c) (hb c)
theorem joinL_mem {s : List Nat} {c : Nat} : ∀ l : List (List Nat), c ∈ TL.joinL s l → c ∈ s ∨ ∃ p ∈ l, c ∈ p
  | [], h => by simp [TL.joinL] at h
  | [p], h => .inr ⟨p, List.mem_singleton.mpr rfl, by simpa [TL.joinL] using h⟩
  | p :: q :: r, h => by
    have h2 : c ∈ p ++ (s ++ TL.joinL s (q :: r)) := h
    rw [List.mem_append, List.mem_append] at h2
    rcases h2 with h2 | h2 | h2
    · exact .inr ⟨p, List.mem_cons_self .., h2⟩
    · exact .inl h2
    · rcases joinL_mem (q :: r) h2 with h3 | ⟨x, h3, h4⟩
      · exact .inl h3
      · exact .inr ⟨x, List.mem_cons_of_mem _ h3, h4⟩
theorem ok_join {y : Str} {l : List Str} (hy : PyData.strOk y = true) (hl : ∀ z ∈ l, PyData.strOk z = true) : PyData.strOk (Txt.join y l) = true := by
  rw [TL.join_eq, ok_iff]
  intro c hc
  rw [TL.tl_join] at hc
  rcases joinL_mem _ hc with h | ⟨p, hp, h⟩
  · exact ok_iff.mp hy c h
  · obtain ⟨z, hz, rfl⟩ := List.mem_map.mp hp
    exact ok_iff.mp (hl z hz) c h
def numS (i : Int) : Str := Str.ofString (toString i)
theorem numS_tl {i : Int} (h : 0 ≤ i) : TL.tl (numS i) = TL.numL i.toNat := by
  have e : i = ((i.toNat : Nat) : Int) := (Int.toNat_of_nonneg h).symm
  rw [e]
  exact TL.tl_num _
theorem ok_num {i : Int} (h : 0 ≤ i) : PyData.strOk (numS i) = true := by
  rw [ok_iff, numS_tl h]
  intro c hc
  exact Nat.lt_of_not_le fun q => TL.numL_free (n := i.toNat) (s := c) (.inr (by omega)) hc
theorem numS_len {i : Int} (h : i.natAbs < 1000000000) : (numS i).length ≤ 10 := by
  have e := int_text_length_le10 (a := i) (k := 9) (by decide) (by omega)
  show (Str.ofString (toString i)).length ≤ 10
  rw [PySem.ofString_length]
  omega
theorem numS_log {i : Int} (h : i.natAbs < 1000000000) : i.natAbs.log2 < 1920 := log_small (Nat.lt_of_lt_of_le h (by decide))
theorem szl {z : Str} (h : z.length ≤ 100000) : z.length ≤ sizeLine := Nat.le_trans h (by decide)
theorem ne_ins {H : Hp} {a b C C' dx dx' : Addr} {fs fs' : List (Str × V)} (h : H a = some (.ins C dx fs)) (h' : H b = some (.ins C' dx' fs')) (n : fs.length ≠ fs'.length) : a ≠ b :=
  ne_of h h' fun e => by
    injection e with _ _ e2
    exact n (congrArg List.length e2)
/-- only what stands at A has changed -/
def Fr (A : List Addr) (H H' : Hp) : Prop := ∀ b o, H b = some o → b ∉ A → H' b = some o
theorem Fr.of_same {A : List Addr} {H H' : Hp} (s : Same H H') : Fr A H H' := fun b o e _ => s b o e
theorem Fr.refl (A : List Addr) (H : Hp) : Fr A H H := fun _ _ e _ => e
theorem Fr.trans {A : List Addr} {H H1 H2 : Hp} (s : Fr A H H1) (t : Fr A H1 H2) : Fr A H H2 := fun b o e n => t b o (s b o e n) n
theorem Fr.trans_new {A A' : List Addr} {H H1 H2 : Hp} (s : Fr A H H1) (t : Fr A' H1 H2) (n : ∀ b ∈ A', b ∈ A ∨ H b = none) : Fr A H H2 := fun b o e hn => t b o (s b o e hn) fun m => (n b m).elim hn fun z => by rw [e] at z; cases z
end TK
set_option maxHeartbeats 1000000
/-! Calls with keywords of defs with many keyword-only parameters: the binding by names, without unfolding it at each name. -/
namespace TK
open PySem PySem.Spec PyProof.Rows L2
open PySem.W (Looks)
theorem forIn_looks {M : Model} {h : Heap} {α β : Type} {f : α → β → Sem (ForInStep β)} {g : β → α → β} : ∀ (l : List α) (b : β), (∀ pre a post, l = pre ++ a :: post → Looks M h (f a (pre.foldl g b)) (.yield (g (pre.foldl g b) a))) → Looks M h (forIn l b f) (l.foldl g b)
  | [], b, _ => by rw [List.forIn_nil]; exact Looks.of_pure rfl
  | a :: r, b, H => by
    rw [List.forIn_cons]
    exact Looks.andThen (H [] a r rfl) (forIn_looks r (g b a) fun pre c post e => H (a :: pre) c post (by rw [e]; rfl))
abbrev Sl : Type := List (Str × Value)
def g1 (s : Sl × Sl) (p : Str × Value) : Sl × Sl := (s.1 ++ [(p.1, p.2)], s.2)
theorem fold1 : ∀ (l : Sl) (s : Sl × Sl), l.foldl g1 s = (s.1 ++ l, s.2)
  | [], s => by rw [List.foldl_nil, List.append_nil]
  | p :: r, s => by
    rw [List.foldl_cons, fold1 r]
    unfold g1
    rw [List.append_assoc]
    rfl
theorem lookup_none {k : Str} : ∀ {l : Sl}, k ∉ l.map (·.1) → l.lookup k = none
  | [], _ => rfl
  | (a, b) :: r, h => by
    rw [List.map_cons, List.mem_cons, not_or] at h
    rw [List.lookup_cons, show (k == a) = false from beq_eq_false_iff_ne.mpr h.1]
    exact lookup_none h.2
theorem lookup_some {k : Str} : ∀ {l : Sl}, k ∈ l.map (·.1) → ∃ v, l.lookup k = some v
  | [], h => by cases h
  | (a, b) :: r, h => by
    rw [List.lookup_cons]
    by_cases e : (k == a) = true
    · rw [e]
      exact ⟨b, rfl⟩
    · rw [show (k == a) = false by simpa using e]
      rw [List.map_cons, List.mem_cons] at h
      exact lookup_some (h.resolve_left fun z => e (by rw [z]; exact beq_self_eq_true a))
def g2 (dv : Str → Value) (s : Sl × List Str) (n : Str) : Sl × List Str := if (s.1.lookup n).isNone = true then (s.1 ++ [(n, dv n)], s.2) else (s.1, s.2)
theorem fold2 {dv : Str → Value} : ∀ (l : List Str) (s : Sl × List Str), ∃ t, l.foldl (g2 dv) s = (s.1 ++ t, s.2)
  | [], s => ⟨[], by rw [List.foldl_nil, List.append_nil]⟩
  | n :: r, s => by
    rw [List.foldl_cons]
    obtain ⟨t, e⟩ := fold2 r (g2 dv s n)
    rw [e]
    unfold g2
    by_cases h : (s.1.lookup n).isNone = true
    · rw [if_pos h]
      exact ⟨(n, dv n) :: t, by rw [List.append_assoc]; rfl⟩
    · rw [if_neg h]
      exact ⟨t, rfl⟩
def bindR (self : Str) (L : List Str) (u : Value) (kw : Sl) (dv : Str → Value) : Sl :=
  ([self] ++ L).filterMap fun n => ((L.foldl (g2 dv) ((self, u) :: kw, [])).1.lookup n).map fun x => (n, x)
theorem bind_kw {K : PySem.W.Frag} {M : Model} {h : Heap} {x qual : Str} {params : Arguments} {body : List Stmt} {scope : Scope} {D : Addr} {doc pm : Value} {an : Option Addr} {cdv ct : Value} {u : Value} {kw : Sl} {L ks : List Str} {self : Str}
    (X : K.In h) (h1 : params.posonlyargs.map (·.arg) = []) (h2 : params.args.map (·.arg) = [self]) (h3 : params.kwonlyargs.map (·.arg) = L) (h4 : params.vararg = none) (h5 : params.kwarg = none) (hk : kw.map (·.1) = ks) (nd : (self :: ks).Nodup) (hin : ∀ k ∈ ks, k ∈ L)
    (dv : Str → Value) (hd : ∀ n ∈ L, n ∉ ks → PySem.W.nsIn K D n = some (some (dv n))) :
    Looks M h (bindArgs (PySem.W.fnOf x qual params body scope .none (.ref D) doc pm an cdv ct) ⟨[u], kw⟩) (bindR self L u kw dv) := by
  unfold bindArgs
  simp only [PySem.W.fnOf, h1, h2, h3, h4, h5]
  have e1 : ∀ pre, pre.foldl g1 ((([] : List Str) ++ [self]).zip [u], []) = ((self, u) :: pre, []) := fun pre => fold1 pre _
  refine Looks.andThen (a := ((self, u) :: kw, [])) ?_ ?_
  · rw [← e1 kw]
    refine forIn_looks kw _ fun pre p post e => ?_
    rw [e1 pre]
    have mk : p.1 ∈ ks := by rw [← hk, e, List.map_append, List.map_cons]; exact List.mem_append_right _ (List.mem_cons_self ..)
    have c1 : ([self].contains p.1 || L.contains p.1) = true := by rw [show L.contains p.1 = true by simpa using hin _ mk, Bool.or_true]
    have nk : p.1 ∉ ((self, u) :: pre).map (·.1) := by
      rw [← hk, e, List.map_append, List.map_cons] at nd
      obtain ⟨n1, n2⟩ := List.nodup_cons.mp nd
      rw [List.map_cons, List.mem_cons, not_or]
      refine ⟨fun z => n1 (by have z2 : p.1 = self := z; rw [← z2]; exact List.mem_append_right _ (List.mem_cons_self ..)), fun z => ?_⟩
      exact (List.nodup_append.mp n2).2.2 _ z _ (List.mem_cons_self ..) rfl
    rw [if_pos c1, if_neg (by rw [lookup_none nk]; exact Bool.false_ne_true)]
    exact Looks.of_pure rfl
  · refine Looks.andThen (a := none) (Looks.of_pure rfl) ?_
    have el : ((self, u) :: kw).lookup self = some u := by rw [List.lookup_cons, beq_self_eq_true]
    rw [if_neg (by show ¬ (decide (1 > 1) && _) = true; simp)]
    have em : List.filter (fun n => (List.lookup n (((self, u) :: kw, ([] : Sl)) : Sl × Sl).fst).isNone) [self] = [] := by
      rw [List.filter_cons, if_neg (by show ¬ (List.lookup self ((self, u) :: kw)).isNone = true; rw [el]; exact Bool.false_ne_true)]
      rfl
    refine (fun z => ?_) em
    rw [if_neg (by show ¬ (!(List.filter (fun n => (List.lookup n (((self, u) :: kw, ([] : Sl)) : Sl × Sl).fst).isNone) [self]).isEmpty) = true; rw [em]; exact Bool.false_ne_true)]
    refine Looks.andThen (a := (self, u) :: kw) (Looks.of_pure rfl) ?_
    refine Looks.andThen (a := L.foldl (g2 dv) ((self, u) :: kw, [])) (forIn_looks L _ fun pre n post e => ?_) ?_
    · obtain ⟨t, et⟩ := fold2 (dv := dv) pre ((self, u) :: kw, [])
      rw [show List.foldl (g2 dv) ((self, u) :: kw, []) pre = (((self, u) :: kw) ++ t, []) from et]
      unfold g2
      by_cases hl : (List.lookup n (((self, u) :: kw) ++ t)).isNone = true
      · rw [if_pos hl, if_pos hl]
        have nks : n ∉ ks := fun m => by
          have m2 : n ∈ (((self, u) :: kw) ++ t).map (·.1) := by
            rw [List.map_append, List.map_cons, hk]
            exact List.mem_append_left _ (List.mem_cons_of_mem _ m)
          obtain ⟨v, ev⟩ := lookup_some m2
          rw [ev] at hl
          cases hl
        refine Looks.andThen (a := some (dv n)) (PySem.W.looks_nsIn X (hd n (by rw [e]; exact List.mem_append_right _ (List.mem_cons_self ..)) nks)) (Looks.of_pure rfl)
      · rw [if_neg hl, if_neg hl]
        exact Looks.of_pure rfl
    · obtain ⟨t, et⟩ := fold2 (dv := dv) L ((self, u) :: kw, [])
      rw [if_neg (by rw [et]; exact Bool.false_ne_true)]
      exact Looks.of_pure rfl
theorem kbn_of {K : PySem.W.Frag} {x qual : Str} {params : Arguments} {body : List Stmt} {scope : Scope} {kws : List (Str × V)} {f : Addr} {fd : FuncData} {ps ks L : List Str} {self : Str} (F : FunD K x qual params body scope [] kws f fd) (ms : List (Str × V)) (g : {α : Type} → List α → List α → List α → List α) (hkws : kws ≠ [])
    (hrel : ∀ {vs mz zs : List V} {us mv ws : List Value}, Vals vs us → Vals mz mv → Vals zs ws → Vals (g vs mz zs) (g us mv ws))
    (h1 : params.posonlyargs.map (·.arg) = []) (h2 : params.args.map (·.arg) = [self]) (h3 : params.kwonlyargs.map (·.arg) = L) (h4 : params.vararg = none) (h5 : params.kwarg = none) (nd : (self :: ks).Nodup) (hin : ∀ k ∈ ks, k ∈ L) (hms : ∀ q ∈ ms, q ∈ kws) (hcov : ∀ n ∈ L, n ∉ ks → n ∈ ms.map (·.1))
    (heq : ∀ (u : Value) (mv ws : List Value), mv.length = ms.length → ws.length = ks.length → bindR self L u (ks.zip ws) (fun n => (((ms.map (·.1)).zip mv).lookup n).getD .none) = ps.zip (g [u] mv ws)) :
    ∃ mv : List Value, KBn K fd ps 1 ks (fun us ws => g us mv ws) (fun vs zs => g vs (ms.map (·.2)) zs) := by
  obtain ⟨oc, od, dV, kV, doc, pm, an, cdv, ct, osl, rfl, lk, hcd, hD, hK⟩ := F.ex
  have edV : dV = .none := by
    rcases hD with ⟨_, e⟩ | ⟨e, _⟩
    · exact e
    · exact absurd rfl e
  subst edV
  rcases hK with e | ⟨D, rfl, hq⟩
  · exact absurd e hkws
  obtain ⟨mv, hl, rk, hks⟩ := kwd_vals (ms := ms) fun q hm => hq q (hms q hm)
  refine ⟨mv, ⟨fun s us ws X l1 l2 => ?_, fun r1 r2 => hrel r1 rk r2⟩⟩
  obtain ⟨u, rfl⟩ : ∃ u, us = [u] := by
    cases us with
    | nil => cases l1
    | cons a r =>
      cases r with
      | nil => exact ⟨a, rfl⟩
      | cons b r => cases l1
  refine BindsTo.of_looks fun M => ?_
  show Looks M s.heap _ (ps.zip (g [u] mv ws))
  rw [← heq u mv ws hl l2]
  refine bind_kw X h1 h2 h3 h4 h5 (List.map_fst_zip (by omega)) nd hin _ fun n hn nk => ?_
  have lm : ((ms.map (·.1)).zip mv).map (·.1) = ms.map (·.1) := List.map_fst_zip (by rw [List.length_map]; omega)
  obtain ⟨v, ev⟩ := lookup_some (k := n) (l := (ms.map (·.1)).zip mv) (by rw [lm]; exact hcov n hn nk)
  rw [ev]
  have mem : ∀ {l : Sl}, l.lookup n = some v → (n, v) ∈ l := by
    intro l
    induction l with
    | nil => intro h; cases h
    | cons a r ih =>
      obtain ⟨a1, a2⟩ := a
      intro h
      rw [List.lookup_cons] at h
      by_cases e : (n == a1) = true
      · rw [e] at h
        rw [Option.some.inj h, beq_iff_eq.mp e]
        exact List.mem_cons_self ..
      · rw [show (n == a1) = false by simpa using e] at h
        exact List.mem_cons_of_mem _ (ih h)
  exact hks _ (mem ev)
end TK
set_option maxHeartbeats 1000000
namespace TK
open PySem PySem.Spec PyProof.Rows L2 SX
def rRpart : V → List V → Hp → VK → Prop := fun x xs H Q => ∃ z y, x = .str z ∧ xs = [.str y] ∧ (y.length == 0) = false ∧ z.length ≤ sizeLine ∧ ∀ p, H p = none → Q (.ref p) (upd H p (.tup [.str (Txt.rpartition z y).1, .str (Txt.rpartition z y).2.1, .str (Txt.rpartition z y).2.2]))
section
variable {X : Cx} {e o : Expr} {te to : TE}
theorem mt_rpart : MtR X "str.rpartition" rRpart := by
  intro pins s σ H x xs v us Q I rx rs ⟨z, y, ex, exs, hy, hz, h⟩
  subst ex exs
  obtain ⟨tz, rfl⟩ := rx
  match us, rs with
  | [w], .cons r1 .nil =>
    obtain ⟨ty, rfl⟩ := r1
    refine call_meets PySem.F.slot_str_rpartition (typeIs_str _ _ _) PySem.F.entry_str_rpartition (PySem.F.args_str_rpartition_2 _ _) (meets_str_rpartition z y tz ty hy hz) ?_
    have h2 := h
    unfold Txt.rpartition at h2
    revert h2
    cases Builtin.Str.lastOccurrence z y 0 z.length with
    | none => exact fun h2 => laid_parts I h2
    | some i => exact fun h2 => laid_parts I h2
theorem pe_rpartition {apos pos : Pos} (ho : PE X o to) (he : PE X e te) (hs : starEach [e] X.env = [(false, eval e X.env)] := by rfl) (hb : attributeBase o "rpartition" X.env (eval o X.env) = eval o X.env := by rfl) (hl : (apos.endLine == pos.line) = true := by rfl) :
    PE X (.Call (.Attribute o "rpartition" apos) [e] [] pos) (tM1 rRpart to te) := pe_m1 PySem.F.slot_str_rpartition PySem.F.type_str_rpartition mt_rpart ho he hs hb hl
end
/-- what a new object at t, then one at l leaves -/
theorem new2 {H : Hp} {t l : Addr} {o u : HO} (ht : H t = none) (hl : upd H t o l = none) : t ≠ l ∧ H l = none ∧ Same H (upd (upd H t o) l u) ∧ (upd (upd H t o) l u) t = some o ∧ (upd (upd H t o) l u) l = some u := by
  have n : t ≠ l := fun e => by rw [← e, upd_same] at hl; cases hl
  exact ⟨n, by rw [upd_ne n.symm] at hl; exact hl, (same_upd ht).trans (same_upd hl), (upd_ne n).trans upd_same, upd_same⟩
theorem cutV_to (xs : List V) (k : Nat) : cutV xs none (some (k : Int)) = xs.take k := by
  unfold cutV
  have a : HT.sIx xs.length 0 none = 0 := by rfl
  have b : HT.sIx xs.length xs.length (some (k : Int)) = min k xs.length := by
    unfold HT.sIx
    simp
    try omega
  rw [a, b, List.drop_zero, Nat.sub_zero]
  by_cases h : k ≤ xs.length
  · rw [Nat.min_eq_left h]
  · rw [Nat.min_eq_right (by omega), List.take_length, List.take_of_length_le (by omega)]
theorem pi_listK {X : Cx} {tg l : Expr} {tl : TE} (K : PySem.W.Frag) (e : X.K = K) (hl : PE X l tl) : PI X tg l (iList K tl) := by
  subst e
  exact pi_list hl
end TK
set_option maxHeartbeats 4000000
/-! set(xs) of a list of ints and texts, of any length below the model's bound: mine. -/
namespace TKS
open PySem PySem.Spec PyProof.Rows L2 SX TK
def inK (l : List Key) (x : Key) : Bool := l.any fun y => decide (y = x)
def addK (l : List Key) (x : Key) : List Key := if inK l x = true then l else l ++ [x]
/-- the keys met so far, each once -/
def metK (kk : Nat → Key) : Nat → List Key
  | 0 => []
  | i + 1 => addK (metK kk i) (kk i)
theorem inK_iff {l : List Key} {x : Key} : inK l x = true ↔ x ∈ l := by
  unfold inK
  rw [List.any_eq_true]
  exact ⟨fun ⟨y, h, e⟩ => of_decide_eq_true e ▸ h, fun h => ⟨x, h, decide_eq_true rfl⟩⟩
theorem addK_len (l : List Key) (x : Key) : (addK l x).length = if inK l x = true then l.length else l.length + 1 := by
  unfold addK
  split
  · rfl
  · rw [List.length_append, List.length_singleton]
theorem metK_len (kk : Nat → Key) : ∀ i, (metK kk i).length ≤ i
  | 0 => Nat.le_refl 0
  | i + 1 => by
    have ih := metK_len kk i
    show (addK (metK kk i) (kk i)).length ≤ i + 1
    rw [addK_len]
    split <;> omega
theorem addK_in (l : List Key) (x y : Key) : inK (addK l x) y = (inK l y || decide (y = x)) := by
  unfold addK
  by_cases h : inK l x = true
  · rw [if_pos h]
    by_cases e : y = x
    · rw [e, h]
      rfl
    · rw [decide_eq_false e, Bool.or_false]
  · rw [if_neg h]
    show (l ++ [x]).any (fun z => decide (z = y)) = _
    rw [List.any_append]
    have e2 : [x].any (fun z => decide (z = y)) = decide (y = x) := by
      by_cases e : y = x
      · rw [e]
        simp
      · rw [decide_eq_false e]
        simp
        exact fun z => e z.symm
    rw [e2]
    rfl
theorem setOf_as {P : Program} {w : World} {h : Heap} {a : Addr} {S S' : Key → Bool} {n n' : Nat} (q : h.SetOf (mixKind P w) a S n) (e : ∀ k, S k = S' k) (en : n = n') : h.SetOf (mixKind P w) a S' n' := by
  obtain rfl : S = S' := funext e
  exact en ▸ q
section
variable {P : Program} {w : World} {A : Around} {R : Result → Shared → Prop} {it : Addr} {fp wr : List Addr} {G : Array GenState → Array GenState → Prop} {n : Nat} {Y : Nat → Value → Prop} {Z : Nat → Shared → Prop}
theorem set_loop (W : WalksS P w A.in1 it fp wr G n Y Z) (D : Addr) (nf : D ∉ fp) (kk : Nat → Key) (hv : ∀ i v, Y i v → RelV (kV (kk i)) v) (room : n + 1 < scanBound) : ∀ (m i : Nat) (s : Shared), n - i = m → i ≤ n → Z i s → s.heap.SetOf (mixKind P w) D (inK (metK kk i)) (metK kk i).length →
    (∀ s2, Moved (D :: wr) G s s2 → s2.heap.SetOf (mixKind P w) D (inK (metK kk n)) (metK kk n).length → R (.ok (.ret .none)) s2) → codeAny (model P w) A (.builtin "set.update.loop" ⟨[.ref D, .ref it], []⟩) R s := by
  have nw : D ∉ wr := fun q => nf (W.sub _ q)
  have more : ∀ b ∈ wr, b ∈ D :: wr := fun _ q => .tail _ q
  have stays : ∀ {s1 s2 : Shared} {S : Key → Bool} {c : Nat}, Moved wr G s1 s2 → s1.heap.SetOf (mixKind P w) D S c → s2.heap.SetOf (mixKind P w) D S c := fun mv q => setOf_at q fun o e => mv.heap D o nw e
  intro m
  induction m with
  | zero =>
    intro i s em hi z q k
    obtain rfl : i = n := by omega
    refine codeAny_builtin PyProof.Rows.F.entry_set_update_loop (?_ : wpAny _ _ _ _ _ _)
    rw [Around.under_plainId PyProof.Rows.F.plain_set_update_loop _] <;> exact wpAny_bind (W.done s _ _ z fun s2 mv => wpAny_pure (k s2 (mv.mono more) (stays mv q)))
  | succ m ih =>
    intro i s em hi z q k
    have lt : i < n := by omega
    refine codeAny_builtin PyProof.Rows.F.entry_set_update_loop (?_ : wpAny _ _ _ _ _ _)
    rw [Around.under_plainId PyProof.Rows.F.plain_set_update_loop _]
    refine wpAny_bind (W.item i s _ _ lt z fun v s2 y z2 mv => (?_ : wpAny _ A.in1 (holding [v] (setAdd D v) >>= _) _ _ s2))
    have rv := hv i v y
    have q2 := stays mv q
    have small := metK_len kk i
    refine wpAny_bind (wpAny_holding (?_ : wpAny _ A.in1 (setAdd D v) _ _ s2))
    unfold setAdd
    refine wpAny_holding (wpAny_bind ((mixKind P w).pyHash (k := kk i) (kV_is rv) (wpAny_setAddHashed_of (knd := mixKind P w) (s := { s2 with toks := s2.toks + 1 }) (kV_is rv) (key_scan rv) q2 (by omega) fun h3 but q3 => ?_)))
    have q4 : h3.SetOf (mixKind P w) D (inK (metK kk (i + 1))) (metK kk (i + 1)).length := setOf_as q3 (fun x => (addK_in (metK kk i) (kk i) x).symm) (addK_len (metK kk i) (kk i)).symm
    refine wpAny_pure ⟨plainId_quiet PyProof.Rows.F.plain_set_update_loop _, ih (i + 1) _ (by omega) lt (W.frame _ s2 _ _ z2 (Nat.le_succ _) fun b hb o e => (but.2 b fun z => nf (z ▸ hb)).trans e) q4 fun s5 mv5 q5 => k s5 ?_ q5⟩
    exact Moved.trans W.gtrans ((mv.mono more).then_heap (Nat.le_succ _) fun b o hb e => (but.2 b fun z => hb (z ▸ .head _)).trans e) mv5
/-- an empty set as the boot lays it -/
abbrev bare (b : Bool) : Obj := ⟨.type "set", none, .set #[] 0 (.fresh 0 0 b), #[]⟩
abbrev walker (l : Addr) : Obj := ⟨.type "list_iterator", none, .fields #[.ref l, .int 0 0], #[]⟩
theorem bare_of {h : Heap} {a : Addr} {b : Bool} (e : h.get? a = some (bare b)) : h.SetOf (mixKind P w) a (inK (metK (fun _ => .inl 0) 0)) 0 := by
  refine ⟨_, #[], 0, _, e, ⟨rfl, rfl, rfl⟩, rfl, ?_, ?_, ?_, ?_, ?_⟩
  · exact fun x hx => nomatch (show x ∈ ([] : List _) by simpa using hx)
  · exact fun k => ⟨fun q => (nomatch q), fun ⟨x, hx, _⟩ => nomatch (show x ∈ ([] : List _) by simpa using hx)⟩
  · decide
  · rfl
  · rfl
variable {E : Value → Shared → Prop} {s : Shared}
theorem vals_key {ks : List Key} : ∀ {us : List Value}, Vals (ks.map kV) us → ∀ (i : Nat) (v : Value), us[i]? = some v → RelV (kV (ks.getD i (.inl 0))) v := by
  induction ks with
  | nil =>
    intro us r i v h
    cases r
    cases h
  | cons k ks ih =>
    intro us r i v h
    cases r with
    | cons r1 r2 =>
      cases i with
      | zero =>
        cases h
        exact r1
      | succ i => exact ih r2 i v h
/-- set(xs) -/
theorem call_set_keys {l : Addr} {items : Array Value} {ks : List Key} {Q : Value → Shared → Prop} (calm : A.handled = none) (hl : s.heap.IsList l items) (rv : Vals (ks.map kV) items.toList) (room : items.size + 1 < scanBound)
    (k : ∀ (h2 : Heap) (tk : Nat), h2.SetOf (mixKind P w) s.heap.objs.size (inK (metK (fun i => ks.getD i (.inl 0)) items.size)) (metK (fun i => ks.getD i (.inl 0)) items.size).length → (∀ c o, c < s.heap.objs.size → s.heap.get? c = some o → h2.get? c = some o) → Q (.ref s.heap.objs.size) { s with heap := h2, toks := tk }) :
    wpAny (model P w) A (call (.type "set") [.ref l]) Q E s := by
  have cs := PySem.F.called_set
  obtain ⟨c, tl, y1⟩ := cs.mro
  have y2 := cs.made
  have y3 := cs.sub
  have y4 := cs.notType
  have y5 := cs.canCreate
  have y6 := PySem.F.typeCall_set_1 (.ref l)
  refine wpAny_call (codeAny_of_tree (?_ : wpAny _ _ (callAny (.type "set") _) _ _ _))
  refine wpAny_pure ⟨Code.quiet_builtin _ (by decide +kernel), codeAny_builtin PySem.F.entry_type_call ?_⟩
  rw [Around.under_plain (weight_type_call_type "set" [.ref l] []) rfl]
  repeat (any_goals (first | assumption | wp_step))
  refine codeAny_mono (code_set_new_1 (.ref l) (E := E) (Q₁ := fun v t => ∃ b : Bool, v = .ref s.heap.objs.size ∧ t = { s with heap := s.heap.push (bare b) }) fun b => ⟨b, rfl, rfl⟩) fun r t hr => ?_
  match r, hr with
  | .error e, hr => exact hr
  | .ok (.ret obj), hr =>
    obtain ⟨b, rfl, rfl⟩ := hr
    have g1 : (s.heap.push (bare b)).get? s.heap.objs.size = some (bare b) := Heap.get?_push_size _ rfl
    have g2 : Shared.TypeIs { s with heap := s.heap.push (bare b) } (.ref s.heap.objs.size) "set" := ⟨_, g1, rfl⟩
    have g3 := cs.init.lookup
    have g4 := cs.init.bind (.ref s.heap.objs.size)
    repeat (any_goals (first | assumption | wp_step))
    refine codeAny_mono (codeAny_call_builtin (R := wants (fun v t => v = .none ∧ ∃ h2 tk, t = { s with heap := h2, toks := tk } ∧ h2.SetOf (mixKind P w) s.heap.objs.size (inK (metK (fun i => ks.getD i (.inl 0)) items.size)) (metK (fun i => ks.getD i (.inl 0)) items.size).length ∧
      ∀ c o, c < s.heap.objs.size → s.heap.get? c = some o → h2.get? c = some o) E) cs.init.plain PySem.F.entry_set_init (check_set_init_1 g2 ?_)) fun r2 t2 hr2 => ?_
    · have hl1 : (s.heap.push (bare b)).IsList l items := hl.push _
      obtain ⟨ob, lo, lc, ln, ld⟩ := id hl
      have lt : l < s.heap.objs.size := Heap.lt_size lo
      have n1 : l ≠ (s.heap.push (bare b)).objs.size := by
        rw [Heap.size_push]
        exact Nat.ne_of_lt (.step lt)
      have n2 : s.heap.objs.size ∉ [(s.heap.push (bare b)).objs.size, l] := by
        rw [Heap.size_push]
        intro q
        rcases List.mem_cons.mp q with q | q
        · exact absurd q (Nat.ne_of_lt (Nat.lt_succ_self _))
        · rw [List.mem_singleton.mp q] at lt
          exact Nat.lt_irrefl _ lt
      obtain ⟨q1, q2, q3, q4⟩ := ob
      obtain rfl : q1 = .type "list" := lc
      obtain rfl : q3 = .seq items ln := ld
      have lo1 : (s.heap.push (bare b)).get? l = some ⟨.type "list", q2, .seq items ln, q4⟩ := Heap.get?_push_of_some _ lo
      have z1 := PySem.F.sub_list_set
      have z2 := PySem.F.sub_list_frozenset
      have z3 : (Value.type "list" == Value.type "dict") = false := by decide
      unfold Builtin.«set.__init__» noKeywords Builtin.Frozenset.updateFrom
      generalize hI : pyIter = I
      wp_walk
      subst hI
      refine wpAny_pyIter_list hl1 (wpAny_bind (wpAny_runValue ?_))
      have calm3 : A.in1.in1.in1.handled = none := by simp [calm]
      refine set_loop ((Walks.list calm3 _ l n1 items).toS) s.heap.objs.size n2 (fun i => ks.getD i (.inl 0)) (fun i v e => vals_key rv i v (by rw [Array.getElem?_toList]; exact e)) room items.size 0 _ (Nat.sub_zero _) (Nat.zero_le _) ⟨⟨_, Heap.get?_push_size _ rfl, rfl, rfl⟩, hl1.push _⟩ (bare_of (b := b) (Heap.get?_push_of_some _ g1)) fun t mv q => ?_
      obtain ⟨h2, t2, t3, tk, t5⟩ := t
      obtain rfl : t2 = s.gens := mv.gens
      obtain rfl : t3 = s.drawn := mv.drawn
      obtain rfl : t5 = s.os := mv.os
      refine wpAny_pure (wpAny_pure ⟨rfl, h2, tk, rfl, q, fun c o lc e => ?_⟩)
      refine mv.heap c o (fun m => ?_) (Heap.get?_push_of_some _ (Heap.get?_push_of_some _ e))
      rcases List.mem_cons.mp m with m | m
      · exact Nat.lt_irrefl _ (m ▸ lc)
      · have m2 := List.mem_singleton.mp m
        rw [Heap.size_push] at m2
        exact Nat.lt_irrefl _ (Nat.lt_trans (m2 ▸ lc) (Nat.lt_succ_self _))
    · match r2, hr2 with
      | .error e, hr2 => exact hr2
      | .ok (.ret v), hr2 =>
        obtain ⟨rfl, h2, tk, rfl, q1, q2⟩ := hr2
        repeat (any_goals (first | assumption | wp_step))
        exact k _ _ q1 q2
      | .ok .next, hr2 => exact hr2.elim
      | .ok .brk, hr2 => exact hr2.elim
      | .ok .cont, hr2 => exact hr2.elim
  | .ok .next, hr => exact hr.elim
  | .ok .brk, hr => exact hr.elim
  | .ok .cont, hr => exact hr.elim
end
/-! ### len(set(xs)) -/
section
variable {X : Cx} {p p2 q pos : Pos}
def tLenSetK (K : PySem.W.Frag) (ta : TE) : TE := fun σ H Q => ta σ H fun x H1 => ∃ (l : Addr) (ks : List Key), x = .ref l ∧ SqL K H1 l (ks.map kV) ∧ ks.length ≤ 4000 ∧ Q (.int ((metK (fun i => ks.getD i (.inl 0)) ks.length).length : Nat)) H1
theorem pe_lenSetK {a : Expr} {ta : TE} (ha : PE X a ta) (hm : X.mg "len" = none) (hm2 : X.mg "set" = none) (hg : Gl X "len" := by rfl) (hg2 : Gl X "set" := by rfl) (hc : X.calm = true := by rfl)
    (na : starEach [a] X.env = (false, eval a X.env) :: starEach [] X.env := by rfl) : PE X (.Call (.Name "len" p) [.Call (.Name "set" p2) [a] [] q] [] pos) (tLenSetK X.K ta) := by
  refine ⟨fun pins s σ H Q I h => Call_ (ld_blt I hg hm boot_len (PyProof.Rows.callWith_builtin1 (PyProof.Rows.args_cons (Call_ (ld_blt I hg2 hm2 boot_set ?_)) rfl) rfl rfl))⟩
  refine PyProof.Rows.callWith_type1 (PyProof.Rows.args_cons (thn (ha.run pins s σ H _ I h) fun v t ⟨x, H1, I1, rx, l, ks, ex, sq, small, z⟩ => PyProof.Rows.args_nil ?_) na) na rfl
  subst ex
  cases rx
  obtain ⟨its, r, pl, _⟩ := I1.list sq
  have n : its.toArray.size = ks.length := by
    rw [List.size_toArray, ← r.length, List.length_map]
  have lim : (4000 : Nat) + 1 < scanBound := by decide
  refine call_set_keys (ks := ks) (I1.ok.hd hc) pl.isList (by simpa using r) (by omega) fun h2 tk so kp => PyProof.Rows.args_nil ?_
  rw [n] at so
  have le := metK_len (fun i => ks.getD i (.inl 0)) ks.length
  have I2 : Inv X pins σ H1 { t with heap := h2, toks := tk } := I1.kept fun b o e => kp b o (Heap.lt_size e) e
  obtain ⟨o, es, ep, tb, ho, ex, hd, _, _, _, hf, hn⟩ := so
  exact call_len_set ho ex hd hf (by rw [hn]; omega) ⟨.int (metK (fun i => ks.getD i (.inl 0)) ks.length).length, H1, I2.tok _, ⟨_, by rw [hn]⟩, z⟩
end
/-- as many as there are, just if none is there twice -/
theorem met_nodup (ks : List Key) : ∀ i, i ≤ ks.length → (∀ x, x ∈ metK (fun i => ks.getD i (.inl 0)) i ↔ x ∈ ks.take i) ∧ ((metK (fun i => ks.getD i (.inl 0)) i).length = i ↔ (ks.take i).Nodup)
  | 0, _ => ⟨fun x => by simp [metK], by simp [metK]⟩
  | i + 1, hi => by
    obtain ⟨a, b⟩ := met_nodup ks i (by omega)
    have e : ks.getD i (.inl 0) = ks[i] := by
      rw [List.getD_eq_getElem?_getD, List.getElem?_eq_getElem (by omega)]
      rfl
    have t : ks.take (i + 1) = ks.take i ++ [ks[i]] := by
      rw [List.take_add_one, List.getElem?_eq_getElem (by omega)]
      rfl
    have le := metK_len (fun i => ks.getD i (.inl 0)) i
    show (∀ x, x ∈ addK _ (ks.getD i (.inl 0)) ↔ _) ∧ ((addK _ (ks.getD i (.inl 0))).length = i + 1 ↔ _)
    rw [e, t]
    refine ⟨fun x => ?_, ?_⟩
    · rw [← inK_iff, addK_in, Bool.or_eq_true, inK_iff, decide_eq_true_eq, a, List.mem_append, List.mem_singleton]
    · rw [addK_len, List.nodup_append]
      by_cases h : inK (metK (fun i => ks.getD i (.inl 0)) i) ks[i] = true
      · rw [if_pos h]
        rw [inK_iff, a] at h
        constructor
        · intro q
          omega
        · intro q
          exact absurd rfl (q.2.2 _ h _ (List.mem_singleton.mpr rfl))
      · rw [if_neg h]
        rw [inK_iff, a] at h
        constructor
        · intro q
          refine ⟨b.mp (by omega), by simp, fun x hx y hy => ?_⟩
          rw [List.mem_singleton.mp hy]
          exact fun z => h (z ▸ hx)
        · intro q
          rw [b.mpr q.1]
theorem met_all (ks : List Key) : (metK (fun i => ks.getD i (.inl 0)) ks.length).length = ks.length ↔ ks.Nodup := by
  have q := (met_nodup ks ks.length (Nat.le_refl _)).2
  rw [List.take_length] at q
  exact q
end TKS
set_option maxHeartbeats 4000000
/-! Calls with ** of a dict whose keys are texts. -/
namespace TK
open PySem PySem.Spec PyProof.Rows L2
section
variable {prog : Program} {w : World} {K : Type} [DecidableEq K] {knd : KeyKind prog w K} {A : Around} {E : Value → Shared → Prop} {s : Shared}
theorem put_new {d : Addr} {kvs : List (K × Value)} {k : K} {key v : Value} {Q : Unit → Shared → Prop} (hkey : knd.is k key = true) (hm : s.heap.DictOf knd d kvs) (hno : k ∉ kvs.map (·.1))
    (hQ : ∀ h', h'.DictOf knd d (kvs ++ [(k, v)]) → Heap.SameBut d s.heap h' → Q () { s with heap := h' }) (hsz : kvs.length ≤ sizeLine) :
    wpAny (model prog w) A (dictPut d (knd.hash k) key v) Q E s := by
  obtain ⟨o, es, ep, ho, hc, hd, hk, hp, hn⟩ := hm
  have hes : es.size ≤ sizeLine := by
    have e1 := hp.length
    have e2 : es.toList.length = es.size := by simp
    omega
  unfold dictPut
  refine wpAny_bind (wpAny_dictFind_of hkey ho hd hk ?_)
  have hidx : (es.findIdx? fun e => knd.is k e.key) = none := by
    have h1 : (es.findIdx? fun e => knd.is k e.key) = kvs.findIdx? fun kv => decide (kv.1 = k) := by
      rw [← hp.findIdx k]; obtain ⟨l⟩ := es; simp
    rw [h1, List.findIdx?_eq_none_iff]
    intro x hx
    exact decide_eq_false fun e => hno (List.mem_map.mpr ⟨x, hx, e⟩)
  rw [hidx]
  refine wpAny_updateDictKeys (hz := hes) ho hd (hQ _ ⟨_, _, ep + 1, Heap.get?_update_self _ ho (Obj.isFreed_of_dict (Obj.data_mapDictKeys hd _)), hc.mapDictKeys _, Obj.data_mapDictKeys hd _, hk.push hkey _, ?_, ?_⟩ (Heap.SameBut.update ..))
  · have := hp.append hkey (knd.hash k) v
    obtain ⟨l⟩ := es
    simpa using this
  · rw [List.map_append, List.nodup_append]
    refine ⟨hn, by simp, ?_⟩
    intro a ha b hb
    simp only [List.map_cons, List.map_nil, List.mem_singleton] at hb
    subst hb
    exact fun e => hno (e ▸ ha)
theorem find_new {d : Addr} {kvs : List (K × Value)} {k : K} {key : Value} {Q : Option Nat → Shared → Prop} (hkey : knd.is k key = true) (hm : s.heap.DictOf knd d kvs) (hno : k ∉ kvs.map (·.1))
    (hQ : Q none s) : wpAny (model prog w) A (dictFind d key (knd.hash k)) Q E s := by
  obtain ⟨o, es, ep, ho, hc, hd, hk, hp, hn⟩ := hm
  refine wpAny_dictFind_of hkey ho hd hk ?_
  have hidx : (es.findIdx? fun e => knd.is k e.key) = none := by
    have h1 : (es.findIdx? fun e => knd.is k e.key) = kvs.findIdx? fun kv => decide (kv.1 = k) := by
      rw [← hp.findIdx k]; obtain ⟨l⟩ := es; simp
    rw [h1, List.findIdx?_eq_none_iff]
    intro x hx
    exact decide_eq_false fun e => hno (List.mem_map.mpr ⟨x, hx, e⟩)
  rw [hidx]
  exact hQ
theorem merge_new {d o : Addr} {more : List (K × Value)} {Q : Unit → Shared → Prop} (hdo : d ≠ o) (hoS : (o == sysModules) = false)
    (hd : s.heap.DictOf knd d []) (ho : s.heap.DictOf knd o more)
    (hQ : ∀ h', h'.DictOf knd d more → h'.DictOf knd o more → Heap.SameBut d s.heap h' → Q () { s with heap := h' }) (hsz : more.length ≤ sizeLine) :
    wpAny (model prog w) A (mergeMapping d (.ref o) true) Q E s := by
  obtain ⟨od, esd, epd, hod, hcd, hdd, hkd, hpd, hnd⟩ := id hd
  obtain ⟨oo, eso, epo, hoo, hco, hdo', hko, hpo, hno⟩ := id ho
  have hlen : more.length = eso.size := by rw [← hpo.length]; simp
  unfold mergeMapping
  refine wpAny_bind (wpAny_isInstance ho.typeIs isSubtype_dict_dict ?_)
  simp only [if_true]
  refine wpAny_bind (wpAny_specialOf ho.typeIs F.slot_dict_iter.lookup ?_)
  refine wpAny_bind (wpAny_pure ?_)
  simp only [beq_self_eq_true]
  rw [if_neg (by rw [hoS]; exact Bool.false_ne_true)]
  refine wpAny_bind (wpAny_dictEntries hod hdd ?_)
  have h0 : esd.isEmpty = true := by
    have := hpd.length
    rw [Array.isEmpty_iff, ← Array.size_eq_zero_iff]
    simpa using this
  rw [if_pos h0]
  refine wpAny_bind (wpAny_dictEntries hoo hdo' ?_)
  have hloop : (forIn eso PUnit.unit fun e (_ : PUnit) => (match e.key with
      | Value.ref a => do
        let q ← specialOf e.key (Str.ofString "__eq__")
        if (q != some (Value.builtin "object.__eq__")) = true then
            if (Array.filter (fun x => x.hash == e.hash) eso).size > 1 then do
              let _ ← (unsupported "dict.merge-into-an-empty-dict:keys-of-equal-hash" : Sem PUnit)
              pure (ForInStep.yield PUnit.unit)
            else pure (ForInStep.yield PUnit.unit)
          else pure (ForInStep.yield PUnit.unit)
      | x => pure (ForInStep.yield PUnit.unit) : Sem (ForInStep PUnit))) = pure PUnit.unit := by
    rw [← Array.forIn_toList]
    refine forIn_yield_id _ fun e he c => ?_
    obtain ⟨k, hkey, _⟩ := hko e (Array.mem_toList_iff.mp he)
    have hb := knd.byValue k _ hkey
    split
    · rename_i a ea
      rw [ea] at hb
      exact nomatch hb
    · rfl
  refine wpAny_bind (wpAny_of_eq hloop ?_)
  refine wpAny_bind (wpAny_dictEntries hoo hdo' ?_)
  refine wpAny_bind (wpAny_dictEpoch hoo hdo' ?_)
  refine wpAny_bind ?_
  rw [List.range_eq_range']
  refine wpAny_forIn_list _
      (fun rest _ s' => ∃ h' i, s' = { s with heap := h' } ∧ rest = List.range' i (eso.size - i) ∧ i ≤ eso.size ∧ h'.DictOf knd d (more.take i) ∧ h'.get? o = some oo ∧ Heap.SameBut d s.heap h')
      _ ?_ ?_ _ _ ⟨s.heap, 0, rfl, by simp, Nat.zero_le _, by simpa using hd, hoo, Heap.SameBut.refl _ _⟩
  · rintro x rest b s' ⟨h', i, rfl, hr, hi, hd', hoo', hs'⟩
    have hlt : i < eso.size := by
      rcases Nat.lt_or_ge i eso.size with h | h
      · exact h
      · rw [Nat.sub_eq_zero_of_le h] at hr; simp at hr
    obtain ⟨rfl, hrest⟩ : x = i ∧ rest = List.range' (i + 1) (eso.size - (i + 1)) := by
      have e : eso.size - i = (eso.size - (i + 1)) + 1 := by omega
      rw [e, List.range'_succ] at hr
      injection hr with h1 h2
      exact ⟨h1, h2⟩
    refine wpAny_bind (wpAny_dictEntries hoo' hdo' ?_)
    rw [Array.getElem?_eq_getElem hlt]
    have hl2 : x < more.length := by rw [hlen]; exact hlt
    obtain ⟨kv, hkv⟩ : ∃ kv, more[x]? = some kv := ⟨more[x]'hl2, List.getElem?_eq_getElem _⟩
    have hnk : kv.1 ∉ (more.take x).map (·.1) := by
      intro hm
      have e2 : more = more.take x ++ kv :: more.drop (x + 1) := by
        rw [List.getElem?_eq_getElem hl2] at hkv
        injection hkv with e3
        rw [← e3, List.getElem_cons_drop, List.take_append_drop]
      rw [e2, List.map_append, List.nodup_append] at hno
      exact hno.2.2 _ hm _ (List.mem_map.mpr ⟨kv, List.mem_cons_self .., rfl⟩) rfl
    obtain ⟨k, v⟩ := kv
    obtain ⟨hkey, hval⟩ := hpo.get? (e := eso[x]) (by simp [hlt]) hkv
    obtain ⟨k', hkey', hhash⟩ := hko eso[x] (Array.getElem_mem hlt)
    obtain rfl : k' = k := knd.inj _ _ _ hkey' hkey
    dsimp only
    rw [hhash, hval]
    refine wpAny_bind (wpAny_holding (wpAny_bind (find_new hkey hd' hnk ?_)))
    simp only [Option.isSome_none, Bool.false_eq_true, if_false]
    refine put_new hkey hd' hnk (fun h'' hd'' hs'' => ?_) (by rw [List.length_take]; omega)
    have hoo'' : h''.get? o = some oo := (hs''.2 o (Ne.symm hdo)).trans hoo'
    refine wpAny_bind (wpAny_dictEpoch hoo'' hdo' ?_)
    rw [if_neg (by simp)]
    refine wpAny_pure ⟨h'', x + 1, rfl, hrest, hlt, ?_, hoo'', hs'.trans hs''⟩
    rw [List.take_add_one, hkv]
    exact hd''
  · rintro b s' ⟨h', i, rfl, hr, hi, hd', hoo', hs'⟩
    have hin : i = eso.size := by
      rcases Nat.lt_or_ge i eso.size with h | h
      · have e : eso.size - i = (eso.size - (i + 1)) + 1 := by omega
        rw [e, List.range'_succ] at hr; exact nomatch hr
      · exact Nat.le_antisymm hi h
    refine wpAny_pure (hQ h' ?_ ⟨oo, eso, epo, hoo', hco, hdo', hko, hpo, hno⟩ hs')
    rw [hin, ← hlen, List.take_length] at hd'
    exact hd'
end

section
variable {prog : Program} {w : World} {A : Around} {E : Value → Shared → Prop} {s : Shared}
theorem merged_kw {f : Value} {x : Sem Value} {Q : Addr → Shared → Prop}
    (h : wpAny (model prog w) A x (fun v s1 => ∃ (o : Addr) (more : List (Key × Value)), v = .ref o ∧ s.heap.objs.size ≠ o ∧ (o == sysModules) = false ∧ s1.heap.DictOf (mixKind prog w) s.heap.objs.size [] ∧
      s1.heap.DictOf (mixKind prog w) o more ∧ more.length ≤ sizeLine ∧ ∀ h', h'.DictOf (mixKind prog w) s.heap.objs.size more → Heap.SameBut s.heap.objs.size s1.heap h' → Q s.heap.objs.size { s1 with heap := h' })
      E { s with heap := s.heap.push { cls := .type "dict", data := .dict #[] } }) :
    wpAny (model prog w) A (mergedKeywords f [(none, x)]) Q E s := by
  unfold mergedKeywords
  refine wpAny_bind (wpAny_alloc' ?_)
  refine wpAny_bind (wpAny_holding ?_)
  refine wpAny_bind ?_
  rw [List.forIn_cons]
  refine wpAny_bind ?_
  refine wpAny_bind ?_
  refine wpAny_pure (a := ()) ?_
  refine wpAny_bind (wpAny_mono h (fun v s1 h1 => ?_) fun _ _ q => q)
  obtain ⟨o, more, rfl, hne, hS, h0, hm, hz, q⟩ := h1
  refine wpAny_bind (wpAny_onRaise ?_)
  refine wpAny_holding ?_
  refine wpAny_tryCatch ?_
  refine wpAny_onRaise ?_
  refine merge_new hne hS h0 hm (fun h' hd' ho' hs' => ?_) hz
  refine wpAny_pure (a := ForInStep.yield []) ?_
  show wpAny _ _ (forIn ([] : List (Option Str × Sem Value)) _ _) _ _ _
  rw [List.forIn_nil]
  refine wpAny_pure ?_
  refine wpAny_pure (a := ()) ?_
  exact wpAny_pure (q h' hd' hs')
theorem kw_in {f : Value} {d : Addr} {ps : List (Str × Value)} {Q : List (Str × Value) → Shared → Prop} (hd : s.heap.DictOf (mixKind prog w) d (ps.map fun p => (Sum.inr p.1, p.2))) (h : Q ps s) :
    wpAny (model prog w) A (keywordsIn f d) Q E s := by
  obtain ⟨o, es, ep, ho, hc, hdat, hk, hp, hn⟩ := id hd
  unfold keywordsIn
  refine wpAny_bind (wpAny_dictEntries ho hdat ?_)
  refine wpAny_bind ?_
  rw [← Array.forIn_toList]
  refine wpAny_forIn_list _ (fun rest b s' => s' = s ∧ ∃ qs, Pairs (mixKind prog w) rest (qs.map fun p => (Sum.inr p.1, p.2)) ∧ b ++ qs = ps) _ ?_ ?_ _ _ ⟨rfl, ps, hp, rfl⟩
  · rintro e rest b s' ⟨rfl, qs, hq, rfl⟩
    cases qs with
    | nil => exact nomatch hq
    | cons p qs =>
      rw [List.map_cons] at hq
      cases hq with
      | cons h1 h2 h3 =>
        have h1' : keyIs (Sum.inr p.1) e.key = true := h1
        rcases keyIs_shape h1' with ⟨i, t, q, _⟩ | ⟨z, t, q, e1⟩
        · exact nomatch q
        · injection q with q1
          rw [e1]
          refine wpAny_pure ⟨rfl, qs, h3, ?_⟩
          rw [← q1, h2]
          simp
  · rintro b s' ⟨rfl, qs, hq, e⟩
    cases qs with
    | nil =>
      rw [List.append_nil] at e
      rw [e]
      exact wpAny_pure h
    | cons p qs => exact nomatch hq
end
/-! ### the call -/
section
variable {M : Model} {A : Around} {E : Value → Shared → Prop} {s : Shared}
theorem callWith_star {P : Heap → Prop} {args : List (Bool × Sem Value)} {pos : Pos} {f : Value} {first : List Value} {Q : Value → Shared → Prop} {keywords : List (Option Str × Sem Value)} (hst : (args.any (·.1) || keywords.any (·.1.isNone)) = true)
    (hk : ∀ h, P h → ∃ k, (k = Keeper.frame ∨ k = Keeper.machine ∨ k = Keeper.boundFrame) ∧ PySem.W.Looks M h (keeperOf f) k)
    (h : wpAny M A (evalArgs f true args keywords) (fun a s₁ => P s₁.heap ∧ wpAny M A (call f (first ++ a.pos) a.kw) Q E s₁) E s) : wpAny M A (callWith pos f first args keywords) Q E s := by
  unfold callWith
  refine wpAny_bind (wpAny_holding (wpAny_mono h (fun a s₁ h₁ => wpAny_bind (wpAny_standAt ?_)) fun _ _ x => x))
  obtain ⟨k, hk', L⟩ := hk _ h₁.1
  simp only [hst]
  refine wpAny_bind (L.here ?_)
  have tail : ∀ {t : Sem Value}, wpAny M A t Q E s₁ → wpAny M A (t >>= fun r => holding [r] point >>= fun _ => pure r) Q E s₁ :=
    fun ht => wpAny_bind (wpAny_mono ht (fun r s₂ hr => wpAny_bind (wpAny_holding (wpAny_point (wpAny_pure hr)))) fun _ _ x => x)
  have marked (mk : Value) : wpAny M A (callMarked mk f (first ++ a.pos) a.kw) Q E s₁ := by unfold callMarked; exact Calls.wpAny_keep h₁.2
  rcases hk' with rfl | rfl | rfl <;> dsimp only <;> first | exact tail (marked _) | exact tail (wpAny_operateT h₁.2)
theorem args_ss {f : Value} {x : Sem Value} {Q : Args → Shared → Prop}
    (h : wpAny M A (mergedKeywords f [(none, x)]) (fun d s1 => wpAny M A (keywordsIn f d) (fun kw s2 => Q ⟨[], kw⟩ s2) E s1) E s) : wpAny M A (evalArgs f true [] [(none, x)]) Q E s := by
  unfold evalArgs
  show wpAny M A (spliced [] >>= _) Q E s
  refine wpAny_bind (Calls.spliced_nil ?_)
  refine wpAny_bind (wpAny_pure ?_)
  refine wpAny_holding ?_
  rw [if_neg (by simp)]
  refine wpAny_bind (wpAny_mono h (fun d s1 h1 => ?_) fun _ _ q => q)
  refine wpAny_bind (wpAny_pure ?_)
  exact wpAny_bind (wpAny_holding (wpAny_mono h1 (fun kw s2 h2 => wpAny_pure h2) fun _ _ q => q))
end
/-- the dict that stands for the keywords ks with the values zs -/
def dkOf (ks : List Str) (zs : List V) : List (Key × V) := (ks.zip zs).map fun p => (Sum.inr p.1, p.2)
theorem kv_zip : ∀ {ks : List Str} {zs : List V} {vs : List (Key × Value)}, ks.length = zs.length → KV (dkOf ks zs) vs → ∃ ws, Vals zs ws ∧ vs = (ks.zip ws).map fun p => (Sum.inr p.1, p.2)
  | [], [], vs, _, r => by
    cases r
    exact ⟨[], .nil, rfl⟩
  | [], _ :: _, _, h, _ => nomatch h
  | _ :: _, [], _, h, _ => nomatch h
  | k :: ks, z :: zs, vs, h, r => by
    cases r with
    | @cons a b as bs q t =>
      obtain ⟨ws, rw', e⟩ := kv_zip (Nat.succ.inj h) t
      obtain ⟨b1, b2⟩ := b
      have q1 : (Sum.inr k : Key) = b1 := q.1
      subst q1
      exact ⟨b2 :: ws, .cons q.2 rw', by rw [e]; rfl⟩
/-- C(**d): d's keys are the names; a new dict is laid first, then the instance -/
def tMakeSS (C : Addr) (P : List Str → (List V → List V → List V) → Prop) (sp : Sp) (E : XK) (t : TE) : TE := fun σ H Q => ∀ p, H p = none → t σ (upd H p (.dK [])) fun y H1 => H1 p = some (.dK []) ∧ ∃ a ks zs gV, y = .ref a ∧ p ≠ a ∧ Rd H1 a (.dK (dkOf ks zs)) ∧ ks.length = zs.length ∧ P ks gV ∧
  ∀ x dx, upd H1 p (.dK (dkOf ks zs)) x = none → upd H1 p (.dK (dkOf ks zs)) dx = none → dx ≠ x →
    sp (gV [.ref x] zs) (upd (upd (upd H1 p (.dK (dkOf ks zs))) dx (.own x)) x (.ins C dx [])) (fun v H3 => v = .non ∧ Q (.ref x) H3) E
section
variable {X : Cx} {CX : CXT} {k : Nat} {f C : Addr} {fd : FuncData} {ps : List Str} {sp : Sp} {E : XK} {x : Str} {p pos kp : Pos} {e : Expr} {t : TE} {P : List Str → (List V → List V → List V) → Prop}
theorem pe_makeSS (M : Mk X.K C f) (F : FnOk X.prog X.w X.K X.mg X.base CX k f fd ps sp) (hr : Room (k + 1) X.A) (hg : Gl X x) (hm : X.mg x = some (.ref C)) (hb : ∀ ks gV, P ks gV → ∃ g, KBn X.K fd ps 1 ks g gV) (hx : Passes CX X E) (he : PE X e t)
    (hdb : (x == ("__debug__" : Str)) = false := by decide) : PE X (.Call (.Name x p) [] [⟨none, e, kp⟩] pos) (tMakeSS C P sp E t) := by
  refine ⟨fun pins s σ H Q I h => ?_⟩
  refine wpAny_Call_Name_kw (ld_glob I hg hm ?_ hdb)
  refine callWith_star (P := X.K.In) rfl (PySem.W.keeps_K M.kp) ?_
  have hn := I.hok.fresh (Nat.le_refl s.heap.objs.size)
  have I1 := I.laid (a := s.heap.objs.size) (o := .dK []) (h' := s.heap.push { cls := .type "dict", data := .dict #[] }) (t' := s.toks) (fun _ _ q => Heap.get?_push_of_some _ q) (Nat.le_refl _) (dk_empty s.heap I.big)
  refine args_ss (merged_kw ?_)
  show wpAny _ _ (eval e X.env >>= fun v => standAt pos >>= fun _ => pure v) _ _ _
  refine wpAny_bind (thn (he.run pins _ σ _ _ I1 (h _ hn)) fun u s2 ⟨y, H2, I2, ry, e0, a, ks, zs, gV, ey, hpa, ha, hl, hP, q⟩ => ?_)
  refine wpAny_bind (wpAny_standAt (wpAny_pure ?_))
  subst ey
  cases ry
  obtain ⟨z, hd, vs, rel, dd⟩ := dk_rd I2.hok ha
  obtain ⟨ws, rz, ev⟩ := kv_zip hl rel
  subst ev
  obtain ⟨z0, hd0, vs0, r0, dd0⟩ := dk_of I2.hok e0
  cases r0
  refine ⟨a, _, rfl, hpa, hd, dd0, dd, by rw [← rel.length]; exact z, fun h' dd' hs' => ?_⟩
  have he : ∃ q, h'.get? s.heap.objs.size = some q := let ⟨q, _, _, hq, _⟩ := dd'; ⟨q, hq⟩
  have I3 := d_write (t' := s2.toks) I2 (by rw [e0]; exact True.intro) hs' he (dk_new z hd0 rel dd')
  refine kw_in dd' ⟨I3.kIn, ?_⟩
  obtain ⟨g, hbn⟩ := hb ks gV hP
  exact run_makeK (us := []) (vs := []) M F hr hbn hx I3 .nil rz rfl hl.symm q
end

/-! ### d.update(e) -/
/-- d.update(e): both with keys ints and texts -/
def tDUpd (td te : TE) : TE := fun σ H Q => td σ H fun x H1 => ∃ a, x = .ref a ∧ IsD H1 a ∧ te σ H1 fun y H2 => ∃ b kvs more, y = .ref b ∧ a ≠ b ∧ H2 a = some (.dK kvs) ∧ Rd H2 b (.dK more) ∧ kvs.length + more.length ≤ sizeLine ∧
  Q .non (upd H2 a (.dK (mergeK kvs more)))
section
variable {X : Cx} {o e : Expr} {apos cpos : Pos} {td te : TE}
theorem pe_dupd (ho : PE X o td) (he : PE X e te) (m : M1 X o "update" apos e cpos) : PE X (.Call (.Attribute o "update" apos) [e] [] cpos) (tDUpd td te) := by
  refine ⟨fun pins s σ H Q I h => ?_⟩
  refine wpAny_Call_method m.base m.few m.line PySem.F.plainAttrs_dict PySem.F.slot_dict_update PySem.F.type_dict_update (thn (ho.run pins s σ H _ I h) fun u s1 ⟨x, H1, I1, rx, a, ex, d, q1⟩ => ?_)
  subst ex
  obtain rfl : u = Value.ref a := rx
  obtain ⟨t1, t2, _⟩ := isD_at I1 d
  refine ⟨t1, t2, ?_⟩
  rw [m.trees]
  refine Calls.callWith_builtin rfl (Calls.evalArgs_plain (Calls.spliced_cons (thn (he.run pins s1 σ H1 _ I1 q1) fun iv s2 ⟨y, H2, I2, ry, b, kvs, more, ey, hab, ea, eb, hz, q2⟩ => Calls.spliced_nil ?_)))
  subst ey
  obtain rfl : iv = Value.ref b := ry
  obtain ⟨z, hd, vs, rel, dd⟩ := dk_of I2.hok ea
  obtain ⟨zb, hb, ws, relb, db⟩ := dk_rd I2.hok eb
  show wpAny (model X.prog X.w) _ (call (.builtin "dict.update") [.ref a, .ref b]) _ _ _
  refine call_meetsIn PySem.F.slot_dict_update dd.typeIs PySem.F.entry_dict_update (PySem.F.args_dict_update_2 _ _) (meets_dict_update (mixKind X.prog X.w) a b hab hb) ⟨vs, ws, dd, db, by rw [← rel.length, ← relb.length]; exact hz, fun h' dd' _ hs => ?_⟩
  have he : ∃ q, h'.get? a = some q := let ⟨q, _, _, hq, _⟩ := dd'; ⟨q, hq⟩
  exact ⟨.non, _, d_write (t' := s2.toks) I2 (by rw [ea]; exact True.intro) hs he (dk_new (Nat.le_trans (length_mergeK more kvs) hz) hd (relb.merge rel) dd'), rfl, q2⟩
end
end TK
set_option maxHeartbeats 4000000
/-! The binding of C(**d) where all defaults are None: by names, whatever d's keys are. -/
namespace TK
open PySem PySem.Spec PyProof.Rows L2
open PySem.W (Looks)
theorem lookup_app {n : Str} {t : Sl} {v : Value} : ∀ {l : Sl}, l.lookup n = some v → (l ++ t).lookup n = some v
  | [], h => by cases h
  | (a, b) :: r, h => by
    rw [List.cons_append, List.lookup_cons]
    rw [List.lookup_cons] at h
    by_cases e : (n == a) = true
    · rw [e] at h ⊢
      exact h
    · rw [show (n == a) = false by simpa using e] at h ⊢
      exact lookup_app h
theorem lookup_snoc {n : Str} {v : Value} : ∀ {l : Sl}, l.lookup n = none → (l ++ [(n, v)]).lookup n = some v
  | [], _ => by rw [List.nil_append, List.lookup_cons, beq_self_eq_true]
  | (a, b) :: r, h => by
    rw [List.cons_append, List.lookup_cons]
    rw [List.lookup_cons] at h
    by_cases e : (n == a) = true
    · rw [e] at h
      cases h
    · rw [show (n == a) = false by simpa using e] at h ⊢
      exact lookup_snoc h
theorem lookup_snoc_ne {n m : Str} {v : Value} (hne : n ≠ m) : ∀ {l : Sl}, (l ++ [(m, v)]).lookup n = l.lookup n
  | [] => by
    rw [List.nil_append, List.lookup_cons, show (n == m) = false by simpa using hne]
  | (a, b) :: r => by
    rw [List.cons_append, List.lookup_cons, List.lookup_cons, lookup_snoc_ne hne]
theorem fold_look {dv : Str → Value} {n : Str} : ∀ (L : List Str) (s : Sl × List Str), (L.foldl (g2 dv) s).1.lookup n = match s.1.lookup n with
    | some v => some v
    | none => if n ∈ L then some (dv n) else none
  | [], s => by
    rw [List.foldl_nil]
    cases s.1.lookup n <;> rfl
  | m :: L, s => by
    rw [List.foldl_cons, fold_look L]
    unfold g2
    by_cases hm : (s.1.lookup m).isNone = true
    · rw [if_pos hm]
      by_cases e : n = m
      · subst e
        rw [Option.isNone_iff_eq_none] at hm
        rw [hm]
        show (match (s.1 ++ [(n, dv n)]).lookup n with | some v => some v | none => _) = _
        rw [lookup_snoc hm]
        simp
      · show (match (s.1 ++ [(m, dv m)]).lookup n with | some v => some v | none => _) = _
        rw [lookup_snoc_ne e]
        cases s.1.lookup n with
        | some v => rfl
        | none => simp [e]
    · rw [if_neg hm]
      show (match s.1.lookup n with | some v => some v | none => _) = _
      cases q : s.1.lookup n with
      | some v => rfl
      | none =>
        have e : n ≠ m := fun e => by rw [← e, q] at hm; exact hm rfl
        simp [e]
def byName (L ks : List Str) (ws : List Value) : List Value := L.map fun n => ((ks.zip ws).lookup n).getD .none
def byNameV (L ks : List Str) (zs : List V) : List V := L.map fun n => ((ks.zip zs).lookup n).getD .non
theorem bindR_eq {self : Str} {L : List Str} {u : Value} {kw : Sl} (hs : self ∉ L) :
    bindR self L u kw (fun _ => .none) = (self :: L).zip (u :: L.map fun n => (kw.lookup n).getD .none) := by
  have e0 : ∀ n, ((L.foldl (g2 fun _ => Value.none) ((self, u) :: kw, [])).1.lookup n) = match ((self, u) :: kw).lookup n with
    | some v => some v
    | none => if n ∈ L then some .none else none := fun n => fold_look L _
  unfold bindR
  rw [List.singleton_append, List.filterMap_cons, List.zip_cons_cons]
  have e1 : ((L.foldl (g2 fun _ => Value.none) ((self, u) :: kw, [])).1.lookup self) = some u := by
    rw [e0, List.lookup_cons, beq_self_eq_true]
  rw [e1]
  show (self, u) :: _ = _
  congr 1
  have e2 : ∀ M : List Str, (∀ n ∈ M, n ∈ L) → M.filterMap (fun n => ((L.foldl (g2 fun _ => Value.none) ((self, u) :: kw, [])).1.lookup n).map fun x => (n, x)) = M.zip (M.map fun n => (kw.lookup n).getD .none) := by
    intro M
    induction M with
    | nil => intro _; rfl
    | cons n M ih =>
      intro h
      have hn := h n (List.mem_cons_self ..)
      have hne : (n == self) = false := by
        rw [beq_eq_false_iff_ne]
        intro e
        exact hs (e ▸ hn)
      have e3 : ((L.foldl (g2 fun _ => Value.none) ((self, u) :: kw, [])).1.lookup n) = some ((kw.lookup n).getD .none) := by
        rw [e0, List.lookup_cons, hne]
        cases kw.lookup n with
        | some v => rfl
        | none => rw [if_pos hn]; rfl
      rw [List.filterMap_cons, e3, List.map_cons, List.zip_cons_cons, ih fun m hm => h m (List.mem_cons_of_mem _ hm)]
      rfl
  exact e2 L fun _ h => h
theorem rel_look {n : Str} : ∀ {ks : List Str} {zs : List V} {ws : List Value}, Vals zs ws → RelV (((ks.zip zs).lookup n).getD .non) (((ks.zip ws).lookup n).getD .none)
  | [], _, _, _ => rfl
  | _ :: _, _, _, .nil => rfl
  | k :: ks, _, _, .cons h t => by
    rw [List.zip_cons_cons, List.zip_cons_cons, List.lookup_cons, List.lookup_cons]
    by_cases e : (n == k) = true
    · rw [e]
      exact h
    · rw [show (n == k) = false by simpa using e]
      exact rel_look t
theorem rel_byName {ks : List Str} {zs : List V} {ws : List Value} (r : Vals zs ws) : ∀ L : List Str, Vals (byNameV L ks zs) (byName L ks ws)
  | [] => .nil
  | _ :: L => .cons (rel_look r) (rel_byName r L)
/-- the keys that C(**d) may have, and what comes to the parameters -/
def SsOk (self : Str) (L need : List Str) (ks : List Str) (gV : List V → List V → List V) : Prop := (self :: ks).Nodup ∧ (∀ k ∈ ks, k ∈ L) ∧ (∀ k ∈ need, k ∈ ks) ∧ gV = fun vs zs => vs ++ byNameV L ks zs
theorem kbn_ss {K : PySem.W.Frag} {x qual : Str} {params : Arguments} {body : List Stmt} {scope : Scope} {kws : List (Str × V)} {f : Addr} {fd : FuncData} {L need : List Str} {self : Str} (F : FunD K x qual params body scope [] kws f fd) (hkws : kws ≠ [])
    (hnon : ∀ q ∈ kws, q.2 = .non) (h1 : params.posonlyargs.map (·.arg) = []) (h2 : params.args.map (·.arg) = [self]) (h3 : params.kwonlyargs.map (·.arg) = L) (h4 : params.vararg = none) (h5 : params.kwarg = none) (hs : self ∉ L)
    (hcov : ∀ n ∈ L, n ∈ need ∨ n ∈ kws.map (·.1)) : ∀ ks gV, SsOk self L need ks gV → ∃ g, KBn K fd (self :: L) 1 ks g gV := by
  rintro ks gV ⟨nd, hin, hnd, rfl⟩
  obtain ⟨oc, od, dV, kV, doc, pm, an, cdv, ct, osl, rfl, lk, hcd, hD, hK⟩ := F.ex
  have edV : dV = .none := by
    rcases hD with ⟨_, e⟩ | ⟨e, _⟩
    · exact e
    · exact absurd rfl e
  subst edV
  rcases hK with e | ⟨D, rfl, hq⟩
  · exact absurd e hkws
  refine ⟨fun us ws => us ++ byName L ks ws, ⟨fun s us ws X l1 l2 => ?_, fun r1 r2 => r1.append (rel_byName r2 L)⟩⟩
  obtain ⟨u, rfl⟩ : ∃ u, us = [u] := by
    cases us with
    | nil => cases l1
    | cons a r =>
      cases r with
      | nil => exact ⟨a, rfl⟩
      | cons b r => cases l1
  refine BindsTo.of_looks fun M => ?_
  show Looks M s.heap _ ((self :: L).zip (u :: byName L ks ws))
  unfold byName
  rw [← bindR_eq hs]
  refine bind_kw X h1 h2 h3 h4 h5 (List.map_fst_zip (by omega)) nd hin _ fun n hn nk => ?_
  rcases hcov n hn with h | h
  · exact absurd (hnd n h) nk
  · obtain ⟨q, hq1, rfl⟩ := List.mem_map.mp h
    obtain ⟨v, e1, e2⟩ := hq q hq1
    rw [hnon q hq1] at e2
    cases (show v = Value.none from e2)
    exact e1
/-- a class that is made by C(**d) -/
structure MakS (P : Program) (w : World) (K : PySem.W.Frag) (mg : Str → Option Value) (base : Heap) (k : Nat) (x : Str) (C : Addr) (sp : Sp) (S : List Str → (List V → List V → List V) → Prop) : Prop where
  ex : ∃ (f : Addr) (fd : FuncData) (ps : List Str), Mk K C f ∧ FnOk P w K mg base L2.CX0 k f fd ps sp ∧ mg x = some (.ref C) ∧ ∀ ks gV, S ks gV → ∃ g, KBn K fd ps 1 ks g gV
section
variable {X : Cx} {k j : Nat} {C : Addr} {sp : Sp} {x : Str} {p pos kp : Pos} {e : Expr} {t : TE} {S : List Str → (List V → List V → List V) → Prop}
theorem pe_mkSS (c : MakS X.prog X.w X.K X.mg X.base k x C sp S) (hr : Room j X.A) (hk : k + 1 ≤ j) (hg : Gl X x) (he : PE X e t) (hdb : (x == ("__debug__" : Str)) = false := by decide) : PE X (.Call (.Name x p) [] [⟨none, e, kp⟩] pos) (tMakeSS C S sp L2.E0 t) := by
  obtain ⟨f, fd, ps, M, F, hm, b⟩ := c.ex
  exact pe_makeSS M F (hr.mono hk) hg hm b L2.pass0 he hdb
end
end TK
set_option maxHeartbeats 4000000
namespace K5
open PySem PySem.Spec PyProof.Rows L2 SX TK TKS
open C8 (pe_c)
def top (i : Nat) : Stmt := PySem.Challenge.pw_trunkland_k05_clients.main.body.getD i (.Pass ⟨0, 0, 0, 0⟩)
abbrev s_is_name : Stmt := top 10
abbrev s_is_tag : Stmt := top 11
abbrev s_is_address : Stmt := top 12
abbrev s_read_number : Stmt := top 13
abbrev s_split_address : Stmt := top 14
abbrev s_consists_of : Stmt := top 15
abbrev s_read_offer : Stmt := top 20
abbrev s_write_offer : Stmt := top 21
abbrev s_read_formats : Stmt := top 22
abbrev s_Letter___init : Stmt := inClass (top 32) 0
abbrev s_Letter_parts : Stmt := inClass (top 32) 1
abbrev s_Letter_reply : Stmt := inClass (top 32) 2
abbrev s_is_final : Stmt := top 33
abbrev s_write : Stmt := top 34
abbrev s_read : Stmt := top 35
abbrev s_write_head : Stmt := top 36
abbrev s_read_head : Stmt := top 37
abbrev s_read_line : Stmt := top 38
abbrev s_read_origin : Stmt := top 39
abbrev s_read_target : Stmt := top 40
abbrev s_read_single : Stmt := top 41
abbrev s_Wait___init : Stmt := inClass (top 45) 0
abbrev s_Wait_repeats : Stmt := inClass (top 45) 1
abbrev s_Wait_is_up : Stmt := inClass (top 45) 2
abbrev s_Client___init : Stmt := inClass (top 47) 0
abbrev s_Client_sending : Stmt := inClass (top 47) 1
abbrev s_Client_take : Stmt := inClass (top 47) 2
abbrev s_Client_stop : Stmt := inClass (top 47) 3
abbrev s_Client_tick : Stmt := inClass (top 47) 4
abbrev s_Client_is_over : Stmt := inClass (top 47) 5
abbrev s_Client__take_provisional : Stmt := inClass (top 47) 6
abbrev s_Client__keep_for : Stmt := inClass (top 47) 7
abbrev s_law_state : Stmt := top 49
abbrev s_law_draw : Stmt := top 50
abbrev s_law_pick : Stmt := top 51
abbrev s_law_sends_at : Stmt := top 52
abbrev s_law_letter : Stmt := top 53
abbrev s_law_keep_right : Stmt := top 54
abbrev s_law_tick : Stmt := top 55
abbrev s_law_reply : Stmt := top 56
abbrev s_law : Stmt := top 57
theorem sc_is_name : FnScope ["word"] ["word"] (defScope s_is_name) := ⟨rfl, rfl, rfl, by decide +kernel, rfl, by decide +kernel, by decide +kernel⟩
theorem sc_is_tag : FnScope ["word"] ["word"] (defScope s_is_tag) := ⟨rfl, rfl, rfl, by decide +kernel, rfl, by decide +kernel, by decide +kernel⟩
theorem sc_is_address : FnScope ["word"] ["word"] (defScope s_is_address) := ⟨rfl, rfl, rfl, by decide +kernel, rfl, by decide +kernel, by decide +kernel⟩
theorem sc_read_number : FnScope ["word", "most", "number"] ["word", "most"] (defScope s_read_number) := ⟨rfl, rfl, rfl, by decide +kernel, rfl, by decide +kernel, by decide +kernel⟩
theorem sc_split_address : FnScope ["word", "parts", "user", "host"] ["word"] (defScope s_split_address) := ⟨rfl, rfl, rfl, by decide +kernel, rfl, by decide +kernel, by decide +kernel⟩
theorem sc_consists_of : FnScope ["word", "marks", "longest", "mark"] ["word", "marks", "longest"] (defScope s_consists_of) := ⟨rfl, rfl, rfl, by decide +kernel, rfl, by decide +kernel, by decide +kernel⟩
theorem sc_read_offer : FnScope ["words", "port", "mode", "formats"] ["words"] (defScope s_read_offer) := ⟨rfl, rfl, rfl, by decide +kernel, rfl, by decide +kernel, by decide +kernel⟩
theorem sc_write_offer : FnScope ["offer", "port", "mode", "formats"] ["offer"] (defScope s_write_offer) := ⟨rfl, rfl, rfl, by decide +kernel, rfl, by decide +kernel, by decide +kernel⟩
theorem sc_read_formats : FnScope ["word", "names", "name"] ["word"] (defScope s_read_formats) := ⟨rfl, rfl, rfl, by decide +kernel, rfl, by decide +kernel, by decide +kernel⟩
theorem sc_Letter___init : FnScope ["self", "verb", "call", "origin", "origin_tag", "target", "target_tag", "seq", "way", "code", "offer", "stay", "goal"] ["self", "verb", "call", "origin", "origin_tag", "target", "target_tag", "seq", "way", "code", "offer", "stay", "goal"] (defScope s_Letter___init) := ⟨rfl, rfl, rfl, by decide +kernel, rfl, by decide +kernel, by decide +kernel⟩
theorem sc_Letter_parts : FnScope ["self"] ["self"] (defScope s_Letter_parts) := ⟨rfl, rfl, rfl, by decide +kernel, rfl, by decide +kernel, by decide +kernel⟩
theorem sc_Letter_reply : FnScope ["self", "code", "tag", "offer", "stay"] ["self", "code", "tag", "offer", "stay"] (defScope s_Letter_reply) := ⟨rfl, rfl, rfl, by decide +kernel, rfl, by decide +kernel, by decide +kernel⟩
theorem sc_is_final : FnScope ["code"] ["code"] (defScope s_is_final) := ⟨rfl, rfl, rfl, by decide +kernel, rfl, by decide +kernel, by decide +kernel⟩
theorem sc_write : FnScope ["letter", "lines", "line"] ["letter"] (defScope s_write) := ⟨rfl, rfl, rfl, by decide +kernel, rfl, by decide +kernel, by decide +kernel⟩
theorem sc_read : FnScope ["text", "lines", "rest", "parts", "number", "key", "part"] ["text"] (defScope s_read) := ⟨rfl, rfl, rfl, by decide +kernel, rfl, by decide +kernel, by decide +kernel⟩
theorem sc_write_head : FnScope ["letter"] ["letter"] (defScope s_write_head) := ⟨rfl, rfl, rfl, by decide +kernel, rfl, by decide +kernel, by decide +kernel⟩
theorem sc_read_head : FnScope ["words"] ["words"] (defScope s_read_head) := ⟨rfl, rfl, rfl, by decide +kernel, rfl, by decide +kernel, by decide +kernel⟩
theorem sc_read_line : FnScope ["key", "line", "words", "offer"] ["key", "line"] (defScope s_read_line) := ⟨rfl, rfl, rfl, by decide +kernel, rfl, by decide +kernel, by decide +kernel⟩
theorem sc_read_origin : FnScope ["words"] ["words"] (defScope s_read_origin) := ⟨rfl, rfl, rfl, by decide +kernel, rfl, by decide +kernel, by decide +kernel⟩
theorem sc_read_target : FnScope ["words"] ["words"] (defScope s_read_target) := ⟨rfl, rfl, rfl, by decide +kernel, rfl, by decide +kernel, by decide +kernel⟩
theorem sc_read_single : FnScope ["key", "word", "number", "is_right"] ["key", "word"] (defScope s_read_single) := ⟨rfl, rfl, rfl, by decide +kernel, rfl, by decide +kernel, by decide +kernel⟩
theorem sc_Wait___init : FnScope ["self", "now", "first"] ["self", "now", "first"] (defScope s_Wait___init) := ⟨rfl, rfl, rfl, by decide +kernel, rfl, by decide +kernel, by decide +kernel⟩
theorem sc_Wait_repeats : FnScope ["self", "now"] ["self", "now"] (defScope s_Wait_repeats) := ⟨rfl, rfl, rfl, by decide +kernel, rfl, by decide +kernel, by decide +kernel⟩
theorem sc_Wait_is_up : FnScope ["self", "now"] ["self", "now"] (defScope s_Wait_is_up) := ⟨rfl, rfl, rfl, by decide +kernel, rfl, by decide +kernel, by decide +kernel⟩
theorem sc_Client___init : FnScope ["self", "letter", "place", "now", "first"] ["self", "letter", "place", "now", "first"] (defScope s_Client___init) := ⟨rfl, rfl, rfl, by decide +kernel, rfl, by decide +kernel, by decide +kernel⟩
theorem sc_Client_sending : FnScope ["self"] ["self"] (defScope s_Client_sending) := ⟨rfl, rfl, rfl, by decide +kernel, rfl, by decide +kernel, by decide +kernel⟩
theorem sc_Client_take : FnScope ["self", "reply", "now"] ["self", "reply", "now"] (defScope s_Client_take) := ⟨rfl, rfl, rfl, by decide +kernel, rfl, by decide +kernel, by decide +kernel⟩
theorem sc_Client_stop : FnScope ["self", "now"] ["self", "now"] (defScope s_Client_stop) := ⟨rfl, rfl, rfl, by decide +kernel, rfl, by decide +kernel, by decide +kernel⟩
theorem sc_Client_tick : FnScope ["self", "now", "given_up"] ["self", "now"] (defScope s_Client_tick) := ⟨rfl, rfl, rfl, by decide +kernel, rfl, by decide +kernel, by decide +kernel⟩
theorem sc_Client_is_over : FnScope ["self"] ["self"] (defScope s_Client_is_over) := ⟨rfl, rfl, rfl, by decide +kernel, rfl, by decide +kernel, by decide +kernel⟩
theorem sc_Client__take_provisional : FnScope ["self", "reply"] ["self", "reply"] (defScope s_Client__take_provisional) := ⟨rfl, rfl, rfl, by decide +kernel, rfl, by decide +kernel, by decide +kernel⟩
theorem sc_Client__keep_for : FnScope ["self", "reply", "call"] ["self", "reply"] (defScope s_Client__keep_for) := ⟨rfl, rfl, rfl, by decide +kernel, rfl, by decide +kernel, by decide +kernel⟩
theorem sc_law_state : FnScope ["script", "seed", "cell"] ["script"] (defScope s_law_state) := ⟨rfl, rfl, rfl, by decide +kernel, rfl, by decide +kernel, by decide +kernel⟩
theorem sc_law_draw : FnScope ["state", "many", "cells", "value", "mixed"] ["state", "many"] (defScope s_law_draw) := ⟨rfl, rfl, rfl, by decide +kernel, rfl, by decide +kernel, by decide +kernel⟩
theorem sc_law_pick : FnScope ["state", "row"] ["state", "row"] (defScope s_law_pick) := ⟨rfl, rfl, rfl, by decide +kernel, rfl, by decide +kernel, by decide +kernel⟩
theorem sc_law_sends_at : FnScope ["first", "ticks", "gap", "tick"] ["first"] (defScope s_law_sends_at) := ⟨rfl, rfl, rfl, by decide +kernel, rfl, by decide +kernel, by decide +kernel⟩
theorem sc_law_letter : FnScope ["verb"] ["verb"] (defScope s_law_letter) := ⟨rfl, rfl, rfl, by decide +kernel, rfl, by decide +kernel, by decide +kernel⟩
theorem sc_law_keep_right : FnScope ["rows", "tag"] ["rows", "tag"] (defScope s_law_keep_right) := ⟨rfl, rfl, rfl, by decide +kernel, rfl, by decide +kernel, by decide +kernel⟩
theorem sc_law_tick : FnScope ["client", "world", "now", "request", "rows", "given_up", "due", "lost"] ["client", "world", "now", "request"] (defScope s_law_tick) := ⟨rfl, rfl, rfl, by decide +kernel, rfl, by decide +kernel, by decide +kernel⟩
theorem sc_law_reply : FnScope ["client", "world", "letter", "code", "now", "tag", "reply", "rows", "told", "is_call"] ["client", "world", "letter", "code", "now", "tag"] (defScope s_law_reply) := ⟨rfl, rfl, rfl, by decide +kernel, rfl, by decide +kernel, by decide +kernel⟩
theorem sc_law : FnScope ["script", "state", "verb", "first", "now", "letter", "request", "client", "world", "cell", "kind", "k", "code"] ["script"] (defScope s_law) := ⟨rfl, rfl, rfl, by decide +kernel, rfl, by decide +kernel, by decide +kernel⟩
structure Tx (K : PySem.W.Frag) (mg : Str → Option Value) : Prop where
  g_CODES : mg "CODES" = some (.ref (He.ga K "CODES"))
  v_CODES : ∀ H : Hp, SqT K H (He.ga K "CODES") [.int 18, .int 20, .int 41, .int 43, .int 44, .int 45, .int 46, .int 48, .int 50]
  g_DIGITS : ∃ t, mg "DIGITS" = some (.str "0123456789" t)
  g_GREATEST_CODE : ∃ t, mg "GREATEST_CODE" = some (.int 99 t)
  g_GREATEST_GAP : ∃ t, mg "GREATEST_GAP" = some (.int 8 t)
  g_GREATEST_PORT : ∃ t, mg "GREATEST_PORT" = some (.int 65535 t)
  g_GREATEST_SEQ : ∃ t, mg "GREATEST_SEQ" = some (.int 999999 t)
  g_LEAST_FINAL_CODE : ∃ t, mg "LEAST_FINAL_CODE" = some (.int 20 t)
  g_LIMIT : ∃ t, mg "LIMIT" = some (.int 32 t)
  g_LONGEST_NUMBER : ∃ t, mg "LONGEST_NUMBER" = some (.int 9 t)
  g_LONGEST_STAY : ∃ t, mg "LONGEST_STAY" = some (.int 9999 t)
  g_LONGEST_WORD : ∃ t, mg "LONGEST_WORD" = some (.int 16 t)
  g_MODES : mg "MODES" = some (.ref (He.ga K "MODES"))
  v_MODES : ∀ H : Hp, SqT K H (He.ga K "MODES") [.str "both", .str "send", .str "take", .str "none"]
  g_MOST_FORMATS : ∃ t, mg "MOST_FORMATS" = some (.int 6 t)
  g_NAME_MARKS : ∃ t, mg "NAME_MARKS" = some (.str "abcdefghijklmnopqrstuvwxyz0123456789" t)
  g_NEEDED : mg "NEEDED" = some (.ref (He.ga K "NEEDED"))
  v_NEEDED : ∀ H : Hp, SqT K H (He.ga K "NEEDED") [.str "call", .str "from", .str "to", .str "seq", .str "way"]
  g_POSSIBLE : mg "POSSIBLE" = some (.ref (He.ga K "POSSIBLE"))
  v_POSSIBLE : ∀ H : Hp, SqT K H (He.ga K "POSSIBLE") [.str "offer", .str "stay", .str "goal"]
  g_SMALL_LETTERS : ∃ t, mg "SMALL_LETTERS" = some (.str "abcdefghijklmnopqrstuvwxyz" t)
  g_TAG_MARKS : ∃ t, mg "TAG_MARKS" = some (.str "ABCDEFGHIJKLMNOPQRSTUVWXYZabcdefghijklmnopqrstuvwxyz0123456789" t)
  g_VERBS : mg "VERBS" = some (.ref (He.ga K "VERBS"))
  v_VERBS : ∀ H : Hp, SqT K H (He.ga K "VERBS") [.str "CALL", .str "KEEP", .str "STOP", .str "END", .str "TURN", .str "MOVE", .str "LIVE", .str "SIGN"]
  f_abs : mg "abs" = none
  f_all : mg "all" = none
  f_bool : mg "bool" = none
  f_int : mg "int" = none
  f_isinstance : mg "isinstance" = none
  f_len : mg "len" = none
  f_list : mg "list" = none
  f_min : mg "min" = none
  f_range : mg "range" = none
  f_set : mg "set" = none
  f_str : mg "str" = none
  f_tuple : mg "tuple" = none
  cl_Letter : Cls K (He.ga K "Letter")
  na_Letter_verb : NoAttr K (He.ga K "Letter") "verb"
  na_Letter_code : NoAttr K (He.ga K "Letter") "code"
  na_Letter_call : NoAttr K (He.ga K "Letter") "call"
  na_Letter_origin : NoAttr K (He.ga K "Letter") "origin"
  na_Letter_origin_tag : NoAttr K (He.ga K "Letter") "origin_tag"
  na_Letter_target : NoAttr K (He.ga K "Letter") "target"
  na_Letter_target_tag : NoAttr K (He.ga K "Letter") "target_tag"
  na_Letter_seq : NoAttr K (He.ga K "Letter") "seq"
  na_Letter_way : NoAttr K (He.ga K "Letter") "way"
  na_Letter_offer : NoAttr K (He.ga K "Letter") "offer"
  na_Letter_stay : NoAttr K (He.ga K "Letter") "stay"
  na_Letter_goal : NoAttr K (He.ga K "Letter") "goal"
  cl_Wait : Cls K (He.ga K "Wait")
  na_Wait__began : NoAttr K (He.ga K "Wait") "_began"
  na_Wait__first : NoAttr K (He.ga K "Wait") "_first"
  na_Wait__gap : NoAttr K (He.ga K "Wait") "_gap"
  na_Wait__due : NoAttr K (He.ga K "Wait") "_due"
  cl_Client : Cls K (He.ga K "Client")
  na_Client_letter : NoAttr K (He.ga K "Client") "letter"
  na_Client_place : NoAttr K (He.ga K "Client") "place"
  na_Client_state : NoAttr K (He.ga K "Client") "state"
  na_Client__first : NoAttr K (He.ga K "Client") "_first"
  na_Client__wait : NoAttr K (He.ga K "Client") "_wait"
  na_Client__keep : NoAttr K (He.ga K "Client") "_keep"
/-! ### what the program's defs answer -/
def consL (l m : List Nat) (n : Int) : Bool := (decide ((1 : Int) ≤ (l.length : Int)) && decide ((l.length : Int) ≤ n)) && l.all fun c => decide (c ∈ m)
def consB (z m : Str) (n : Int) : Bool := consL (TL.tl z) (TL.tl m) n
theorem consB_len {z m : Str} {n : Int} (h : consB z m n = true) : 0 < (TL.tl z).length ∧ ((TL.tl z).length : Int) ≤ n ∧ ∀ c ∈ TL.tl z, c ∈ TL.tl m := by
  unfold consB consL at h
  rw [Bool.and_eq_true, Bool.and_eq_true, decide_eq_true_eq, decide_eq_true_eq] at h
  refine ⟨by omega, h.1.2, fun c hc => ?_⟩
  exact of_decide_eq_true (List.all_eq_true.mp h.2 c hc)
def spCons : Sp := fun vs H Q _ => ∃ (z m : Str) (n : Int), vs = [.str z, .str m, .int n] ∧ z.length ≤ 1000 ∧ ∀ H', Same H H' → Q (.bl (consB z m n)) H'
theorem ok_consists_of {P : Program} {w : World} {K : PySem.W.Frag} {mg : Str → Option Value} {base : Heap} {f : Addr} {fd : FuncData} (T : Tx K mg) 
    (F : FunD K "_consists_of" "_consists_of" (defArgs s_consists_of) (defBody s_consists_of) (defScope s_consists_of) [] [] f fd) : FnOk P w K mg base CX0 1 f fd ["word", "marks", "longest"] spCons := by
  refine F.ok sc_consists_of (fun vs H Q E h => ?_) (fun cdv A outer s H vs Q E hr h => ?_)
  · obtain ⟨z, m, n, rfl, _⟩ := h
    rfl
  · obtain ⟨z, m, n, rfl, hz, k⟩ := h
    have hz2 : z.length ≤ sizeLine := Nat.le_trans hz (by decide)
    have eB : consB z m n = ((decide ((1 : Int) ≤ (z.length : Int)) && decide ((z.length : Int) ≤ n)) && (TL.tl z).all fun c => decide (c ∈ TL.tl m)) := by
      unfold consB consL
      rw [len_eq]
    refine ⟨_, PSs.nox (pss_one (ps_ret (pe_and (pe_chain op_le op_le pe_int (pe_callB call_len_str rfl T.f_len PySem.boot_len (pa_cons (pv 0) pa_nil)) (pv 2)) (pe_one (pe_callB (cr_all rfl) rfl T.f_all (by decide +kernel) (pa_cons (pe_lc (own := [("mark", 3)]) (g := gName 3) rfl sc_consists_of.nd (pi_str (pv 0)) (blkOk_by (own := [("mark", 3)]) (N := ["word", "marks", "longest", "mark"]) (sc := defScope s_consists_of) (by decide +kernel)) (fun _ _ _ _ _ => pg_name (i := 3) sc_consists_of.nd rfl (Or.inl rfl)) (fun _ _ _ _ _ => pts_nil) (fun _ _ _ _ _ => (pe_cmpR op_in_sign (pv 3) (pv 1) (by with_unfolding_all rfl)))) pa_nil)))))), ?_⟩
    refine ⟨_, rfl, _, rfl, hz2, _, _, rfl, rfl, _, rfl, ?_⟩
    refine ite2 (fun h1 => ?_) (fun h1 => ?_)
    · refine ⟨_, rfl, _, _, rfl, rfl, _, rfl, ?_⟩
      refine ite2 (fun h2 => ?_) (fun h2 => ?_)
      · refine ⟨_, rfl, _, rfl, fun D hD => ?_⟩
        have hn : z.cps.size ≤ sizeLine := by
          rw [size_tl, ← len_eq]
          exact hz2
        refine lc_pureN walk_str (fun i => V.bl (decide ((TL.tl z).getD i 0 ∈ TL.tl m))) hn (fun _ _ => trivial) (fun i x H' kk hi y q => ?_) ?_
        · obtain ⟨rfl, c, hc, rfl⟩ := y
          refine ⟨rfl, _, rfl, _, rfl, _, _, rfl, rfl, ?_⟩
          have e : (TL.tl z).getD i 0 = c := by
            have h5 : (TL.tl z)[i]? = some c := by
              show z.cps.toList[i]? = some c
              rw [Array.getElem?_toList]
              exact hc
            rw [List.getD_eq_getElem?_getD, h5]
            rfl
          rw [← e]
          exact q
        · refine ⟨D, (TL.tl z).map fun c => decide (c ∈ TL.tl m), rfl, SqL.of ?_, ?_⟩
          · rw [upd_same, size_tl, List.map_map]
            exact congrArg (fun l => some (HO.lst l)) (range_map_getD (TL.tl z) 0 fun c => V.bl (decide (c ∈ TL.tl m)))
          · have e : (List.map (fun c => decide (c ∈ TL.tl m)) (TL.tl z)).all id = consB z m n := by
              rw [eB, h1, h2, List.all_map]
              rfl
            rw [e]
            exact k _ (same_upd hD)
      · have e : consB z m n = false := by
          rw [eB, ef h2, Bool.and_false, Bool.false_and]
        have q := k H (Same.refl H)
        rw [e] at q
        exact q
    · have e : consB z m n = false := by
        rw [eB, ef h1, Bool.false_and, Bool.false_and]
      refine ⟨false, rfl, iteF ?_⟩
      have q := k H (Same.refl H)
      rw [e] at q
      exact q

/-! ### names, tags -/
abbrev zSM : Str := "abcdefghijklmnopqrstuvwxyz"
abbrev zNM : Str := "abcdefghijklmnopqrstuvwxyz0123456789"
abbrev zTM : Str := "ABCDEFGHIJKLMNOPQRSTUVWXYZabcdefghijklmnopqrstuvwxyz0123456789"
abbrev zDG : Str := "0123456789"
def nameB (z : Str) : Bool := consB z zNM 16 && decide ((TL.tl z).getD 0 0 ∈ TL.tl zSM)
def spName : Sp := fun vs H Q _ => ∃ z : Str, vs = [.str z] ∧ z.length ≤ 1000 ∧ ∀ H', Same H H' → Q (.bl (nameB z)) H'
theorem ok_is_name {P : Program} {w : World} {K : PySem.W.Frag} {mg : Str → Option Value} {base : Heap} {f : Addr} {fd : FuncData} (T : Tx K mg) (c_consists_of : C8.Cal P w K mg base 1 "_consists_of" spCons [])
    (F : FunD K "is_name" "is_name" (defArgs s_is_name) (defBody s_is_name) (defScope s_is_name) [] [] f fd) : FnOk P w K mg base CX0 2 f fd ["word"] spName := by
  refine F.ok sc_is_name (fun vs H Q E h => ?_) (fun cdv A outer s H vs Q E hr h => ?_)
  · obtain ⟨z, rfl, _⟩ := h
    rfl
  · obtain ⟨z, rfl, hz, k⟩ := h
    have hz2 : z.length ≤ sizeLine := Nat.le_trans hz (by decide)
    refine ⟨_, PSs.nox (pss_one (ps_ret (pe_and (pe_c c_consists_of hr (by decide) rfl (pa_cons (pv 0) (pa_cons (pgS T.g_NAME_MARKS) (pa_cons (pgI T.g_LONGEST_WORD) pa_nil)))) (pe_one (pe_cmpR op_in_sign (pe_ix ix_str (pv 0) pe_int (fun _ _ => rfl)) (pgS T.g_SMALL_LETTERS) (by with_unfolding_all rfl)))))), ?_⟩
    refine ⟨_, rfl, z, zNM, 16, rfl, hz, fun H1 s1 => ⟨_, rfl, ?_⟩⟩
    refine ite2 (fun h1 => ?_) (fun h1 => ?_)
    · refine ⟨_, rfl, _, 0, _, rfl, rfl, hz2, at0 0 (consB_len h1).1, _, _, rfl, rfl, ?_⟩
      have e : decide ((TL.tl z).getD 0 0 ∈ TL.tl zSM) = nameB z := by
        unfold nameB
        rw [h1, Bool.true_and]
      have q := k H1 s1
      rw [← e] at q
      exact q
    · have e : nameB z = false := by
        unfold nameB
        rw [ef h1, Bool.false_and]
      have q := k H1 s1
      rw [e] at q
      exact q

def tagB (z : Str) : Bool := consB z zTM 16
def spTag : Sp := fun vs H Q _ => ∃ z : Str, vs = [.str z] ∧ z.length ≤ 1000 ∧ ∀ H', Same H H' → Q (.bl (tagB z)) H'
theorem ok_is_tag {P : Program} {w : World} {K : PySem.W.Frag} {mg : Str → Option Value} {base : Heap} {f : Addr} {fd : FuncData} (T : Tx K mg) (c_consists_of : C8.Cal P w K mg base 1 "_consists_of" spCons [])
    (F : FunD K "is_tag" "is_tag" (defArgs s_is_tag) (defBody s_is_tag) (defScope s_is_tag) [] [] f fd) : FnOk P w K mg base CX0 2 f fd ["word"] spTag := by
  refine F.ok sc_is_tag (fun vs H Q E h => ?_) (fun cdv A outer s H vs Q E hr h => ?_)
  · obtain ⟨z, rfl, _⟩ := h
    rfl
  · obtain ⟨z, rfl, hz, k⟩ := h
    refine ⟨_, PSs.nox (pss_one (ps_ret (pe_c c_consists_of hr (by decide) rfl (pa_cons (pv 0) (pa_cons (pgS T.g_TAG_MARKS) (pa_cons (pgI T.g_LONGEST_WORD) pa_nil)))))), ?_⟩
    exact ⟨_, rfl, z, zTM, 16, rfl, hz, fun H1 s1 => k H1 s1⟩

/-! ### numbers -/
def numV (z : Str) (most : Int) : V :=
  if consB z zDG 9 = true then
    (if (decide (V.str (S [(TL.tl z).getD 0 0]) = V.str "0") && !decide (V.str z = V.str "0")) = true then .non
     else if ((NumText.digitsVal (TL.tl z) : Nat) : Int) ≤ most then .int (NumText.digitsVal (TL.tl z) : Nat) else .non)
  else .non
theorem digits_of {z : Str} (h : ∀ c ∈ TL.tl z, c ∈ TL.tl zDG) : ∀ c ∈ TL.tl z, 48 ≤ c ∧ c ≤ 57 := fun c hc => by
  have h1 := h c hc
  have h2 : ∀ c ∈ TL.tl zDG, 48 ≤ c ∧ c ≤ 57 := by decide +kernel
  exact h2 c h1
def spNum : Sp := fun vs H Q _ => ∃ (z : Str) (m : Int), vs = [.str z, .int m] ∧ z.length ≤ 1000 ∧ ∀ H', Same H H' → Q (numV z m) H'
theorem ok_read_number {P : Program} {w : World} {K : PySem.W.Frag} {mg : Str → Option Value} {base : Heap} {f : Addr} {fd : FuncData} (T : Tx K mg) (c_consists_of : C8.Cal P w K mg base 1 "_consists_of" spCons [])
    (F : FunD K "read_number" "read_number" (defArgs s_read_number) (defBody s_read_number) (defScope s_read_number) [] [] f fd) : FnOk P w K mg base CX0 2 f fd ["word", "most"] spNum := by
  refine F.ok sc_read_number (fun vs H Q E h => ?_) (fun cdv A outer s H vs Q E hr h => ?_)
  · obtain ⟨z, m, rfl, _⟩ := h
    rfl
  · obtain ⟨z, m, rfl, hz, k⟩ := h
    have hz2 : z.length ≤ sizeLine := Nat.le_trans hz (by decide)
    refine ⟨_, PSs.nox (C8.pss_cut (ps_if (pt_not (pt_val (pe_c c_consists_of hr (by decide) rfl (pa_cons (pv 0) (pa_cons (pgS T.g_DIGITS) (pa_cons (pgI T.g_LONGEST_NUMBER) pa_nil)))))) (pss_one (ps_ret pe_non)) pss_nil) (C8.pss_cut (ps_if (PW.pt (pw_and (pt_cmpR op_eq (pe_ix ix_str (pv 0) pe_int (fun _ _ => rfl)) pe_str (nomark _)) (pw_and1 (pt_cmpR op_ne (pv 0) pe_str (nomark _))))) (pss_one (ps_ret pe_non)) pss_nil) (pss_cons (ps_set (i := 2) sc_read_number.nd rfl (Or.inl rfl) (pe_callTy call_int_str rfl T.f_int (by decide +kernel) (pa_cons (pv 0) pa_nil))) (pss_one (ps_ret (pe_ifExp (pt_cmpR op_le (pv 2) (pv 1) (nomark _)) (pv 2) pe_non)))))), ?_⟩
    refine ⟨fun σ' H' => σ' = [some (.str z), some (.int m), none] ∧ Same H H' ∧ consB z zDG 9 = true, ?_, ?_⟩
    · refine ⟨_, rfl, z, zDG, 9, rfl, hz, fun H1 s1 => ⟨_, rfl, ?_⟩⟩
      have q := k H1 s1
      unfold numV at q
      by_cases h1 : consB z zDG 9 = true
      · rw [h1]
        exact iteF ⟨rfl, s1, rfl⟩
      · rw [if_neg h1] at q
        rw [ef h1]
        exact iteT q
    · rintro σ' H1 ⟨rfl, s1, h1⟩
      have q := k H1 s1
      unfold numV at q
      rw [if_pos h1] at q
      have hl := consB_len h1
      by_cases h2 : (decide (V.str (S [(TL.tl z).getD 0 0]) = V.str "0") && !decide (V.str z = V.str "0")) = true
      · rw [if_pos h2] at q
        rw [Bool.and_eq_true] at h2
        refine ⟨fun σ' H' => False, ?_, fun _ _ z => z.elim⟩
        refine ⟨_, rfl, _, 0, _, rfl, rfl, hz2, at0 0 hl.1, rfl, _, rfl, ?_⟩
        refine ite2 (fun _ => ?_) (fun h3 => absurd h2.1 h3)
        refine ⟨_, rfl, rfl, _, rfl, ?_⟩
        refine ite2 (fun _ => q) (fun h3 => absurd h2.2 h3)
      · rw [if_neg h2] at q
        refine ⟨fun σ' H' => σ' = [some (.str z), some (.int m), none] ∧ H' = H1, ?_, ?_⟩
        · refine ⟨_, rfl, _, 0, _, rfl, rfl, hz2, at0 0 hl.1, rfl, _, rfl, ?_⟩
          refine ite2 (fun h3 => ?_) (fun h3 => iteF ⟨rfl, rfl⟩)
          refine ⟨_, rfl, rfl, _, rfl, ?_⟩
          refine ite2 (fun h4 => absurd (Bool.and_eq_true_iff.mpr ⟨h3, h4⟩) h2) (fun _ => ⟨rfl, rfl⟩)
        · rintro σ' H' ⟨rfl, rfl⟩
          refine ⟨_, rfl, z, _, rfl, PySem.intText_digits (x := z) (digits_of hl.2.2) (List.length_pos_iff.mp hl.1) (by rw [len_eq]; omega), by rw [len_eq]; omega, ?_⟩
          refine ⟨_, rfl, _, rfl, _, _, rfl, rfl, _, rfl, ?_⟩
          by_cases h5 : ((NumText.digitsVal (TL.tl z) : Nat) : Int) ≤ m
          · rw [if_pos h5] at q
            rw [decide_eq_true h5]
            exact iteT ⟨_, rfl, q⟩
          · rw [if_neg h5] at q
            rw [decide_eq_false h5]
            exact iteF q

/-! ### addresses -/
def splitO : List Str → Option (Str × Str)
  | [u, h] => if (nameB u && nameB h) = true then some (u, h) else none
  | _ => none
def splitB (z : Str) : Option (Str × Str) := splitO (Txt.split z "@")
/-- None, or a tuple of two texts -/
def PairV (H : Hp) (x : V) : Option (Str × Str) → Prop
  | none => x = .non
  | some (u, h) => ∃ p, x = .ref p ∧ H p = some (.tup [.str u, .str h])
theorem at_len : ("@" : Str) = S [64] := by decide +kernel
theorem split_parts {z u h : Str} (e : Txt.split z "@" = [u, h]) : TL.tl z = TL.tl u ++ 64 :: TL.tl h ∧ 64 ∉ TL.tl u ∧ 64 ∉ TL.tl h := by
  rw [at_len] at e
  have j := StrLaws.join_split z (S [64])
  rw [e] at j
  have f := StrLaws.split_free z 64
  refine ⟨?_, f u (by rw [e]; simp), f h (by rw [e]; simp)⟩
  have e2 := TL.tl_join (S [64]) [u, h]
  rw [← j, e2]
  rfl
theorem split_two {z : Str} {a b : List Nat} (e : TL.tl z = a ++ 64 :: b) (ha : 64 ∉ a) (hb : 64 ∉ b) : Txt.split z "@" = [S a, S b] := by
  rw [at_len]
  have e1 : z = S (a ++ 64 :: b) := by
    rw [← e]
  rw [e1, split_S (by simp) (by decide)]
  have e2 : a ++ 64 :: b = TL.joinL [64] [a, b] := rfl
  rw [e2, spl_join (by simp) (by
    intro p hp
    rcases List.mem_cons.mp hp with z | z
    · rw [z]; exact ha
    · rw [List.mem_singleton.mp z]; exact hb)]
  rfl
def spSplit : Sp := fun vs H Q _ => ∃ z : Str, vs = [.str z] ∧ z.length ≤ 1000 ∧ ∀ x H', Same H H' → PairV H' x (splitB z) → Q x H'
theorem ok_split_address {P : Program} {w : World} {K : PySem.W.Frag} {mg : Str → Option Value} {base : Heap} {f : Addr} {fd : FuncData} (T : Tx K mg) (c_is_name : C8.Cal P w K mg base 2 "is_name" spName [])
    (F : FunD K "split_address" "split_address" (defArgs s_split_address) (defBody s_split_address) (defScope s_split_address) [] [] f fd) : FnOk P w K mg base CX0 3 f fd ["word"] spSplit := by
  refine F.ok sc_split_address (fun vs H Q E h => ?_) (fun cdv A outer s H vs Q E hr h => ?_)
  · obtain ⟨z, rfl, _⟩ := h
    rfl
  · obtain ⟨z, rfl, hz, k⟩ := h
    have hz2 : z.length + 2 ≤ sizeLine := Nat.le_trans (Nat.add_le_add_right hz 2) (by decide)
    refine ⟨_, PSs.nox (pss_cons (ps_set (i := 1) sc_split_address.nd rfl (Or.inl rfl) (pe_split (pv 0) pe_str)) (C8.pss_cut (ps_if (pt_cmpR op_ne (pe_callB call_len_seq rfl T.f_len PySem.boot_len (pa_cons (pv 1) pa_nil)) pe_int (nomark _)) (pss_one (ps_ret pe_non)) pss_nil) (pss_cons (ps_asg (pv 1) (pg_unl rfl (pgs_cons (pg_name (i := 2) sc_split_address.nd rfl (Or.inl rfl)) (pgs_cons (pg_name (i := 3) sc_split_address.nd rfl (Or.inl rfl)) pgs_nil)))) (pss_one (ps_ret (pe_ifExp (PW.pt (pw_and (pt_val (pe_c c_is_name hr (by decide) rfl (pa_cons (pv 2) pa_nil))) (pw_and1 (pt_val (pe_c c_is_name hr (by decide) rfl (pa_cons (pv 3) pa_nil)))))) (pe_tup (pa_cons (pv 2) (pa_cons (pv 3) pa_nil))) pe_non)))))), ?_⟩
    refine ⟨_, rfl, ⟨_, rfl⟩, z, "@", rfl, rfl, by decide +kernel, hz2, fun p hp => ?_⟩
    have s1 := same_upd (o := .lst ((Txt.split z "@").map V.str)) hp
    generalize eY : Txt.split z "@" = ys at *
    refine ⟨fun σ' H' => σ' = [some (.str z), some (.ref p), none, none] ∧ H' = upd H p (.lst (ys.map V.str)) ∧ ys.length = 2, ?_, ?_⟩
    · refine ⟨_, rfl, p, _, rfl, .inl (SqL.of upd_same), rfl, _, rfl, ?_⟩
      rw [List.length_map]
      by_cases h2 : ys.length = 2
      · rw [h2]
        exact iteF ⟨rfl, rfl, rfl⟩
      · have e : decide (V.int (ys.length : Nat) = V.int 2) = false := decide_eq_false fun q => h2 (by
          have := V.int.inj q
          omega)
        rw [e]
        refine iteT ?_
        refine k _ _ s1 ?_
        unfold splitB
        rw [eY]
        unfold splitO
        split
        · exact absurd rfl h2
        · rfl
    · rintro σ' H' ⟨rfl, rfl, h2⟩
      obtain ⟨u, ys, rfl⟩ : ∃ u r, ys = u :: r := by
        cases ys with
        | nil => cases h2
        | cons u r => exact ⟨u, r, rfl⟩
      obtain ⟨h, ys, rfl⟩ : ∃ u r, ys = u :: r := by
        cases ys with
        | nil => cases h2
        | cons u r => exact ⟨u, r, rfl⟩
      obtain rfl : ys = [] := List.length_eq_zero_iff.mp (by
        rw [List.length_cons, List.length_cons] at h2
        omega)
      obtain ⟨ez, _, _⟩ := split_parts eY
      have el := congrArg List.length ez
      rw [List.length_append, List.length_cons, ← len_eq, ← len_eq, ← len_eq] at el
      refine ⟨_, rfl, p, _, rfl, SqL.of upd_same, rfl, _, _, rfl, _, _, rfl, rfl, ?_⟩
      refine ⟨_, rfl, u, rfl, by omega, fun H2 s2 => ⟨_, rfl, ?_⟩⟩
      have eB : splitB z = if (nameB u && nameB h) = true then some (u, h) else none := by
        unfold splitB
        rw [eY]
        rfl
      by_cases h3 : nameB u = true
      · rw [h3]
        refine iteT ⟨_, rfl, h, rfl, by omega, fun H3 s3 => ⟨_, rfl, ?_⟩⟩
        by_cases h4 : nameB h = true
        · rw [h4]
          refine iteT ⟨_, rfl, _, rfl, by show 2 ≤ sizeLine; decide, fun t ht => ?_⟩
          refine k _ _ (((s1.trans s2).trans s3).trans (same_upd ht)) ?_
          rw [eB, h3, h4]
          exact ⟨t, rfl, upd_same⟩
        · rw [ef h4]
          refine iteF (k _ _ ((s1.trans s2).trans s3) ?_)
          rw [eB, h3, ef h4]
          rfl
      · rw [ef h3]
        refine iteF (iteF (k _ _ (s1.trans s2) ?_))
        rw [eB, ef h3]
        rfl
def spIsAddr : Sp := fun vs H Q _ => ∃ z : Str, vs = [.str z] ∧ z.length ≤ 1000 ∧ ∀ H', Same H H' → Q (.bl (splitB z).isSome) H'
theorem PairV.none_iff {H : Hp} {x : V} {o : Option (Str × Str)} (h : PairV H x o) : (!decide (x = .non)) = o.isSome := by
  cases o with
  | none =>
    cases (show x = .non from h)
    rfl
  | some q =>
    obtain ⟨u, w⟩ := q
    obtain ⟨p, rfl, _⟩ := h
    rfl
theorem ok_is_address {P : Program} {w : World} {K : PySem.W.Frag} {mg : Str → Option Value} {base : Heap} {f : Addr} {fd : FuncData} (T : Tx K mg) (c_split_address : C8.Cal P w K mg base 3 "split_address" spSplit [])
    (F : FunD K "is_address" "is_address" (defArgs s_is_address) (defBody s_is_address) (defScope s_is_address) [] [] f fd) : FnOk P w K mg base CX0 4 f fd ["word"] spIsAddr := by
  refine F.ok sc_is_address (fun vs H Q E h => ?_) (fun cdv A outer s H vs Q E hr h => ?_)
  · obtain ⟨z, rfl, _⟩ := h
    rfl
  · obtain ⟨z, rfl, hz, k⟩ := h
    refine ⟨_, PSs.nox (pss_one (ps_ret (pe_cmpR op_notN (pe_c c_split_address hr (by decide) rfl (pa_cons (pv 0) pa_nil)) pe_non (nomark _)))), ?_⟩
    refine ⟨_, rfl, z, rfl, hz, fun x H1 s1 hp => ⟨rfl, ?_⟩⟩
    rw [hp.none_iff]
    exact k H1 s1

end K5
set_option maxHeartbeats 4000000
namespace K5
open PySem PySem.Spec PyProof.Rows L2 SX TK TKS
open C8 (pe_c)
/-! ### offers -/
structure Off where
  port : Int
  mode : Str
  fs : List Str
/-- an offer stands at x -/
def OffAt (H : Hp) (x : V) (o : Off) : Prop := ∃ p f, x = .ref p ∧ H p = some (.tup [.int o.port, .str o.mode, .ref f]) ∧ H f = some (.tup (o.fs.map V.str))
theorem OffAt.same {H H' : Hp} {x : V} {o : Off} (h : OffAt H x o) (s : Same H H') : OffAt H' x o := by
  obtain ⟨p, f, rfl, e1, e2⟩ := h
  exact ⟨p, f, rfl, s _ _ e1, s _ _ e2⟩
theorem OffAt.keep {H H' : Hp} {x : V} {o : Off} {s c : Addr} (h : OffAt H x o) (st : StAt H s c) (k : Keep H H' s c) : OffAt H' x o := by
  obtain ⟨p, f, rfl, e1, e2⟩ := h
  obtain ⟨_, ⟨n, g1⟩, ns, g2, _⟩ := st
  exact ⟨p, f, rfl, k _ _ e1 (ne_of e1 g1 (by intro z; cases z)) (ne_of e1 g2 (by intro z; cases z)), k _ _ e2 (ne_of e2 g1 (by intro z; cases z)) (ne_of e2 g2 (by intro z; cases z))⟩
/-- a text within a list of texts -/
theorem inV_strs (z : Str) : ∀ l : List Str, inV (.str z) (l.map V.str) = decide (z ∈ l)
  | [] => rfl
  | a :: l => by
    have ih := inV_strs z l
    unfold inV at ih ⊢
    rw [List.map_cons, List.any_cons, ih]
    show ((a == z) || decide (z ∈ l)) = decide (z ∈ a :: l)
    by_cases e : a = z
    · subst e
      simp
    · have h1 : (a == z) = false := by simpa using e
      rw [h1, Bool.false_or]
      exact decide_eq_decide.mpr ⟨fun h => List.mem_cons_of_mem _ h, fun h => by
        rcases List.mem_cons.mp h with q | q
        · exact absurd q.symm e
        · exact q⟩
theorem flat_strs : ∀ l : List Str, (l.map V.str).all flatV = true
  | [] => rfl
  | _ :: l => by
    rw [List.map_cons, List.all_cons, flat_strs l]
    rfl
/-- None, or an offer -/
def OffO (H : Hp) (x : V) : Option Off → Prop
  | none => x = .non
  | some o => OffAt H x o
theorem OffO.same {H H' : Hp} {x : V} {o : Option Off} (h : OffO H x o) (s : Same H H') : OffO H' x o := by
  cases o with
  | none => exact h
  | some o => exact OffAt.same h s
theorem OffO.none_iff {H : Hp} {x : V} {o : Option Off} (h : OffO H x o) : (!decide (x = .non)) = o.isSome := by
  cases o with
  | none =>
    cases (show x = .non from h)
    rfl
  | some o =>
    obtain ⟨p, f, rfl, _⟩ := h
    rfl

/-! ### offers as words -/
def wordsS (o : Off) : Str := Txt.join " " [Str.ofString (toString o.port), o.mode, Txt.join "," o.fs]
structure OffOk (o : Off) : Prop where
  p0 : 0 ≤ o.port
  p1 : o.port ≤ 65535
  m : o.mode.length ≤ 16
  n : o.fs.length ≤ 6
  f : ∀ z ∈ o.fs, z.length ≤ 16
theorem comma_len : ("," : Str).length = 1 := by decide +kernel
theorem blank_len : (" " : Str).length = 1 := by decide +kernel
theorem OffOk.join {o : Off} (h : OffOk o) : (o.fs.map (·.length)).sum + o.fs.length * ("," : Str).length ≤ 102 ∧ (Txt.join "," o.fs).length ≤ 102 := by
  have a := sum_le h.f
  have b := join_len "," o.fs
  have n := h.n
  rw [comma_len] at b ⊢
  omega
theorem OffOk.str {o : Off} (h : OffOk o) : (Str.ofString (toString o.port)).length ≤ 5 ∧ o.port.natAbs.log2 < 1920 := by
  have p0 := h.p0
  have p1 := h.p1
  refine ⟨PyProof.Rows.toString_length_le p0 (k := 5) (by decide) (by omega), log_small ?_⟩
  have : o.port.natAbs ≤ 65535 := by omega
  exact Nat.lt_of_le_of_lt this (Nat.lt_of_lt_of_le (by decide : 65535 < 2 ^ 16) (Nat.pow_le_pow_right (by decide) (by decide)))
def spWrite : Sp := fun vs H Q _ => ∃ x o, vs = [x] ∧ OffAt H x o ∧ OffOk o ∧ ∀ H', Same H H' → Q (.str (wordsS o)) H'
theorem ok_write_offer {P : Program} {w : World} {K : PySem.W.Frag} {mg : Str → Option Value} {base : Heap} {f : Addr} {fd : FuncData} (T : Tx K mg) 
    (F : FunD K "write_offer" "write_offer" (defArgs s_write_offer) (defBody s_write_offer) (defScope s_write_offer) [] [] f fd) : FnOk P w K mg base CX0 1 f fd ["offer"] spWrite := by
  refine F.ok sc_write_offer (fun vs H Q E h => ?_) (fun cdv A outer s H vs Q E hr h => ?_)
  · obtain ⟨x, o, rfl, _⟩ := h
    rfl
  · obtain ⟨x, o, rfl, ⟨p, f, rfl, e1, e2⟩, ok, k⟩ := h
    obtain ⟨j1, j2⟩ := ok.join
    obtain ⟨t1, t2⟩ := ok.str
    have lm := ok.m
    refine ⟨_, PSs.nox (pss_cons (ps_asg (pv 0) (pg_tup rfl (pgs_cons (pg_name (i := 1) sc_write_offer.nd rfl (Or.inl rfl)) (pgs_cons (pg_name (i := 2) sc_write_offer.nd rfl (Or.inl rfl)) (pgs_cons (pg_name (i := 3) sc_write_offer.nd rfl (Or.inl rfl)) pgs_nil))))) (pss_one (ps_ret (pe_join pe_str (pe_lst (pa_cons (pe_callTy call_str_int rfl T.f_str (by decide +kernel) (pa_cons (pv 1) pa_nil)) (pa_cons (pv 2) (pa_cons (pe_join pe_str (pv 3)) pa_nil)))))))), ?_⟩
    refine ⟨_, rfl, p, _, rfl, SqT.of e1, rfl, _, _, rfl, _, _, rfl, _, _, rfl, rfl, ?_⟩
    refine ⟨⟨_, rfl⟩, _, rfl, _, rfl, t2, _, rfl, ⟨_, rfl⟩, _, rfl, ",", f, o.fs, rfl, rfl, .inr (SqT.of e2), by omega, by show 3 ≤ sizeLine; decide, fun q hq => ?_⟩
    refine ⟨" ", q, [Str.ofString (toString o.port), o.mode, Txt.join "," o.fs], rfl, rfl, .inl (SqL.of upd_same), ?_, k _ (same_upd hq)⟩
    rw [blank_len]
    show (Str.ofString (toString o.port)).length + (o.mode.length + ((Txt.join "," o.fs).length + 0)) + 3 * 1 ≤ 16777216
    omega
def fmtO (z : Str) : Option (List Str) :=
  if (Txt.split z ",").length ≤ 6 ∧ (Txt.split z ",").Nodup then (if (Txt.split z ",").all nameB = true then some (Txt.split z ",") else none) else none
/-- None, or a tuple of texts -/
def TupO (H : Hp) (x : V) : Option (List Str) → Prop
  | none => x = .non
  | some l => ∃ f, x = .ref f ∧ H f = some (.tup (l.map V.str))
def spFmt : Sp := fun vs H Q _ => ∃ z : Str, vs = [.str z] ∧ z.length ≤ 1000 ∧ ∀ x H', Same H H' → TupO H' x (fmtO z) → Q x H'
theorem ok_read_formats {P : Program} {w : World} {K : PySem.W.Frag} {mg : Str → Option Value} {base : Heap} {f : Addr} {fd : FuncData} (T : Tx K mg) (c_is_name : C8.Cal P w K mg base 2 "is_name" spName [])
    (F : FunD K "_read_formats" "_read_formats" (defArgs s_read_formats) (defBody s_read_formats) (defScope s_read_formats) [] [] f fd) : FnOk P w K mg base CX0 3 f fd ["word"] spFmt := by
  refine F.ok sc_read_formats (fun vs H Q E h => ?_) (fun cdv A outer s H vs Q E hr h => ?_)
  · obtain ⟨z, rfl, _⟩ := h
    rfl
  · obtain ⟨z, rfl, hz, k⟩ := h
    have hz2 : z.length + 2 ≤ sizeLine := Nat.le_trans (Nat.add_le_add_right hz 2) (by decide)
    have hp0 : ∀ y ∈ Txt.split z ",", y.length ≤ 1000 := fun y hy => Nat.le_trans (part_len hy) hz
    have eF : fmtO z = if (Txt.split z ",").length ≤ 6 ∧ (Txt.split z ",").Nodup then (if (Txt.split z ",").all nameB = true then some (Txt.split z ",") else none) else none := rfl
    have hy1 : (Txt.split z ",").length ≤ 1002 := Nat.le_trans (PyProof.Rows.split_le z ",") (by omega)
    refine ⟨_, PSs.nox (pss_cons (ps_set (i := 1) sc_read_formats.nd rfl (Or.inl rfl) (pe_split (pv 0) pe_str)) (C8.pss_cut (ps_if (PW.pt (pw_or (pt_cmpR op_gt (pe_callB call_len_seq rfl T.f_len PySem.boot_len (pa_cons (pv 1) pa_nil)) (pgI T.g_MOST_FORMATS) (nomark _)) (pw_or1 (pt_cmpR op_lt (TKS.pe_lenSetK (pv 1) T.f_len T.f_set) (pe_callB call_len_seq rfl T.f_len PySem.boot_len (pa_cons (pv 1) pa_nil)) (nomark _))))) (pss_one (ps_ret pe_non)) pss_nil) (pss_one (ps_ret (pe_ifExp (pt_val (pe_callB (cr_all rfl) rfl T.f_all (by decide +kernel) (pa_cons (pe_lc (own := [("name", 2)]) (g := gName 2) rfl sc_read_formats.nd (pi_list (pv 1)) (blkOk_by (own := [("name", 2)]) (N := ["word", "names", "name"]) (sc := defScope s_read_formats) (by decide +kernel)) (fun _ _ _ _ _ => pg_name (i := 2) sc_read_formats.nd rfl (Or.inl rfl)) (fun _ _ _ _ _ => pts_nil) (fun _ _ _ _ _ => (pe_c c_is_name hr (by decide) rfl (pa_cons (pv 2) pa_nil)))) pa_nil))) (pe_callTy call_tuple_of rfl T.f_tuple (by decide +kernel) (pa_cons (pv 1) pa_nil)) pe_non))))), ?_⟩
    refine ⟨_, rfl, ⟨_, rfl⟩, z, ",", rfl, rfl, by decide +kernel, hz2, fun p hp => ?_⟩
    have s1 := same_upd (o := .lst ((Txt.split z ",").map V.str)) hp
    generalize Txt.split z "," = ys at hp0 eF hy1 s1 ⊢
    refine ⟨fun σ' H' => σ' = [some (.str z), some (.ref p), none] ∧ H' = upd H p (.lst (ys.map V.str)) ∧ ys.length ≤ 6 ∧ ys.Nodup, ?_, ?_⟩
    · refine ⟨_, rfl, p, _, rfl, .inl (SqL.of upd_same), _, _, rfl, rfl, _, rfl, ?_⟩
      rw [List.length_map]
      by_cases h6 : ys.length ≤ 6
      · rw [decide_eq_false (by omega)]
        refine iteF ⟨_, rfl, p, ys.map Sum.inr, rfl, SqL.of (by rw [upd_same, key_strs]), by rw [List.length_map]; omega, _, rfl, p, _, rfl, .inl (SqL.of upd_same), _, _, rfl, rfl, _, rfl, ?_⟩
        have le := metK_len (fun i => (ys.map (Sum.inr : Str → Key)).getD i (.inl 0)) (ys.map (Sum.inr : Str → Key)).length
        have nd := met_all (ys.map (Sum.inr : Str → Key))
        rw [nodup_inr] at nd
        rw [List.length_map] at le nd ⊢
        by_cases hn : ys.Nodup
        · rw [nd.mpr hn, List.length_map, decide_eq_false (by omega)]
          exact iteF ⟨rfl, rfl, h6, hn⟩
        · have ne : (metK (fun i => (ys.map (Sum.inr : Str → Key)).getD i (.inl 0)) ys.length).length ≠ ys.length := fun q => hn (nd.mp q)
          rw [List.length_map, decide_eq_true (by omega)]
          refine iteT (k _ _ s1 ?_)
          rw [eF, if_neg (fun q => hn q.2)]
          rfl
      · rw [decide_eq_true (by omega)]
        refine iteT (iteT (k _ _ s1 ?_))
        rw [eF, if_neg (fun q => h6 q.1)]
        rfl
    · rintro σ' H' ⟨rfl, rfl, h6, hn⟩
      rw [if_pos ⟨h6, hn⟩] at eF
      refine ⟨_, rfl, p, rfl, ⟨_, SqL.of upd_same⟩, fun D hD => ?_⟩
      have hpD : p ≠ D := fun e => by
        rw [e, upd_same] at hD
        cases hD
      have hD0 : H D = none := by
        rw [upd_ne hpD.symm] at hD
        exact hD
      refine lc_itN (walk_list (xs := ys.map V.str)) (fun i H' => Same (upd H p (.lst (ys.map V.str))) H' ∧ H' D = some (.lst ((ys.take i).map fun y => V.bl (nameB y)))) ⟨same_upd hD, upd_same⟩ (fun i H1 hi q => SqL.of (q.1 _ _ upd_same)) (fun i v H1 H2 hi q yy => ?_) (fun H1 q => ?_)
      · obtain ⟨sm, ed⟩ := q
        obtain ⟨rfl, ev⟩ := yy
        rw [List.getElem?_map] at ev
        obtain ⟨w, ew, rfl⟩ := Option.map_eq_some_iff.mp ev
        rw [List.length_map] at hi
        refine ⟨rfl, _, rfl, w, rfl, hp0 w (List.mem_of_getElem? ew), fun H3 s3 => ⟨_, s3 _ _ ed, ?_, same_upd2 (sm.trans s3) hD, ?_⟩⟩
        · rw [List.length_map, List.length_take]
          exact Nat.lt_of_le_of_lt (show min i ys.length ≤ 6 by omega) (by decide)
        · rw [upd_same, List.take_add_one, ew, List.map_append]
          rfl
      · obtain ⟨sm, ed⟩ := q
        rw [List.length_map, List.take_length] at ed
        refine ⟨D, ys.map nameB, rfl, SqL.of (by rw [ed, List.map_map]; rfl), _, rfl, ?_⟩
        have eA : (ys.map nameB).all id = ys.all nameB := by
          rw [List.all_map]
          rfl
        rw [eA]
        by_cases hA : ys.all nameB = true
        · rw [if_pos hA] at eF
          rw [hA]
          refine iteT ⟨_, rfl, p, _, rfl, .inl ⟨SqL.of (sm _ _ upd_same), fun t ht => k _ _ ((s1.trans sm).trans (same_upd ht)) ?_⟩⟩
          rw [eF]
          exact ⟨t, rfl, upd_same⟩
        · rw [if_neg hA] at eF
          rw [ef hA]
          refine iteF (k _ _ (s1.trans sm) ?_)
          rw [eF]
          rfl
def modesL : List Str := ["both", "send", "take", "none"]
/-- the offer that three words write -/
def readP : V → Str → Option (List Str) → Option Off
  | .int p, b, some fs => if b ∈ modesL then some ⟨p, b, fs⟩ else none
  | _, _, _ => none
def readO : List Str → Option Off
  | [a, b, c] => readP (numV a 65535) b (fmtO c)
  | _ => none
theorem readP_ok (p : Int) (b : Str) (fs : List Str) : readP (.int p) b (some fs) = if b ∈ modesL then some ⟨p, b, fs⟩ else none := rfl
theorem readO_eq (a b c : Str) : readO [a, b, c] = readP (numV a 65535) b (fmtO c) := rfl
theorem readO_len {ws : List Str} (h : ws.length ≠ 3) : readO ws = none := by
  unfold readO
  split
  · exact absurd rfl h
  · rfl
theorem numV_cases (z : Str) (m : Int) : numV z m = .non ∨ ∃ i, numV z m = .int i := by
  unfold numV
  split
  · split
    · exact .inl rfl
    · split
      · exact .inr ⟨_, rfl⟩
      · exact .inl rfl
  · exact .inl rfl
def spRead : Sp := fun vs H Q _ => ∃ l ws, vs = [.ref l] ∧ H l = some (.lst (ws.map V.str)) ∧ (∀ z ∈ ws, z.length ≤ 1000) ∧ ws.length ≤ 1000 ∧ ∀ x H', Same H H' → OffO H' x (readO ws) → Q x H'
theorem ok_read_offer {P : Program} {w : World} {K : PySem.W.Frag} {mg : Str → Option Value} {base : Heap} {f : Addr} {fd : FuncData} (T : Tx K mg) (c_read_number : C8.Cal P w K mg base 2 "read_number" spNum []) (c_read_formats : C8.Cal P w K mg base 3 "_read_formats" spFmt [])
    (F : FunD K "read_offer" "read_offer" (defArgs s_read_offer) (defBody s_read_offer) (defScope s_read_offer) [] [] f fd) : FnOk P w K mg base CX0 4 f fd ["words"] spRead := by
  refine F.ok sc_read_offer (fun vs H Q E h => ?_) (fun cdv A outer s H vs Q E hr h => ?_)
  · obtain ⟨l, ws, rfl, _⟩ := h
    rfl
  · obtain ⟨l, ws, rfl, hl, hw, hn, k⟩ := h
    refine ⟨_, PSs.nox (C8.pss_cut (ps_if (pt_cmpR op_ne (pe_callB call_len_seq rfl T.f_len PySem.boot_len (pa_cons (pv 0) pa_nil)) pe_int (nomark _)) (pss_one (ps_ret pe_non)) pss_nil) (pss_cons (ps_set (i := 1) sc_read_offer.nd rfl (Or.inl rfl) (pe_c c_read_number hr (by decide) rfl (pa_cons (pe_ix ix_list (pv 0) pe_int (fun _ _ => rfl)) (pa_cons (pgI T.g_GREATEST_PORT) pa_nil)))) (pss_cons (ps_set (i := 2) sc_read_offer.nd rfl (Or.inl rfl) (pe_ix ix_list (pv 0) pe_int (fun _ _ => rfl))) (pss_cons (ps_set (i := 3) sc_read_offer.nd rfl (Or.inl rfl) (pe_c c_read_formats hr (by decide) rfl (pa_cons (pe_ix ix_list (pv 0) pe_int (fun _ _ => rfl)) pa_nil))) (C8.pss_cut (ps_if (PW.pt (pw_or (pt_cmpR op_isN (pv 1) pe_non (nomark _)) (pw_or (pt_cmpR op_notIn_seq (pv 2) (pgR T.g_MODES) (by with_unfolding_all rfl)) (pw_or1 (pt_cmpR op_isN (pv 3) pe_non (nomark _)))))) (pss_one (ps_ret pe_non)) pss_nil) (pss_one (ps_ret (pe_tup (pa_cons (pv 1) (pa_cons (pv 2) (pa_cons (pv 3) pa_nil))))))))))), ?_⟩
    refine ⟨fun σ' H' => σ' = [some (.ref l), none, none, none] ∧ H' = H ∧ ws.length = 3, ?_, ?_⟩
    · refine ⟨_, rfl, l, _, rfl, .inl (SqL.of hl), rfl, _, rfl, ?_⟩
      rw [List.length_map]
      by_cases h3 : ws.length = 3
      · rw [h3]
        exact iteF ⟨rfl, rfl, rfl⟩
      · have e : decide (V.int (ws.length : Nat) = V.int 3) = false := decide_eq_false fun q => h3 (by
          have := V.int.inj q
          omega)
        rw [e]
        refine iteT (k _ _ (Same.refl H) ?_)
        rw [readO_len h3]
        rfl
    · rintro σ' H' ⟨rfl, rfl, h3⟩
      obtain ⟨a, b, c, rfl⟩ : ∃ a b c, ws = [a, b, c] := by
        cases ws with
        | nil => cases h3
        | cons a r => cases r with
          | nil => cases h3
          | cons b r => cases r with
            | nil => cases h3
            | cons c r => cases r with
              | nil => exact ⟨a, b, c, rfl⟩
              | cons d r => simp at h3
      refine ⟨_, rfl, l, _, 0, _, rfl, rfl, SqL.of hl, rfl, a, 65535, rfl, hw a (by simp), fun H1 s1 => ?_⟩
      refine ⟨_, rfl, l, _, 1, _, rfl, rfl, SqL.of (s1 _ _ hl), rfl, ?_⟩
      refine ⟨_, rfl, l, _, 2, _, rfl, rfl, SqL.of (s1 _ _ hl), rfl, c, rfl, hw c (by simp), fun x H2 s2 hx => ?_⟩
      have s12 := s1.trans s2
      refine ⟨fun σ' H' => σ' = [some (.ref l), some (numV a 65535), some (.str b), some x] ∧ H' = H2 ∧ (∃ p, numV a 65535 = .int p) ∧ b ∈ modesL ∧ ∃ fs, fmtO c = some fs, ?_, ?_⟩
      · refine ⟨_, rfl, rfl, _, rfl, ?_⟩
        rcases numV_cases a 65535 with e | ⟨p, e⟩
        · rw [e]
          refine iteT (iteT (k _ _ s12 ?_))
          rw [readO_eq, e]
          rfl
        · rw [e]
          refine iteF ⟨_, rfl, _, modesL.map V.str, rfl, .inr (T.v_MODES H2), rfl, rfl, _, rfl, ?_⟩
          rw [inV_strs]
          by_cases hb : b ∈ modesL
          · rw [decide_eq_true hb]
            refine iteF ⟨_, rfl, rfl, _, rfl, ?_⟩
            cases ef : fmtO c with
            | none =>
              rw [ef] at hx
              cases (show x = .non from hx)
              refine iteT (k _ _ s12 ?_)
              rw [readO_eq, e, ef]
              rfl
            | some fs =>
              rw [ef] at hx
              obtain ⟨f, rfl, _⟩ := hx
              exact iteF ⟨rfl, rfl, ⟨p, rfl⟩, hb, fs, rfl⟩
          · rw [decide_eq_false hb]
            refine iteT (iteT (k _ _ s12 ?_))
            rw [readO_eq, e]
            cases fmtO c with
            | none => rfl
            | some fs =>
              rw [readP_ok, if_neg hb]
              rfl
      · rintro σ' H3 ⟨rfl, rfl, ⟨p, e⟩, hb, fs, ef⟩
        rw [ef] at hx
        obtain ⟨f, rfl, e2⟩ := hx
        rw [e]
        refine ⟨_, rfl, _, rfl, _, rfl, by show 3 ≤ sizeLine; decide, fun q hq => k _ _ (s12.trans (same_upd hq)) ?_⟩
        rw [readO_eq, e, ef]
        rw [readP_ok, if_pos hb]
        exact ⟨q, f, rfl, upd_same, (same_upd hq) _ _ e2⟩

end K5
set_option maxHeartbeats 4000000
namespace K5
open PySem PySem.Spec PyProof.Rows L2 SX TK TKS
open C8 (pe_c)
/-! ### letters -/
structure Ltr where
  verb : Str
  call : Str
  origin : Str
  otag : Str
  target : Str
  ttag : Str
  seq : Int
  way : Str
  code : V
  offer : V
  stay : V
  goal : V
def Ltr.fl (L : Ltr) : List (Str × V) := [("verb", .str L.verb), ("code", L.code), ("call", .str L.call), ("origin", .str L.origin), ("origin_tag", .str L.otag), ("target", .str L.target), ("target_tag", .str L.ttag), ("seq", .int L.seq), ("way", .str L.way), ("offer", L.offer), ("stay", L.stay), ("goal", L.goal)]
def LetAt (K : PySem.W.Frag) (H : Hp) (a : Addr) (L : Ltr) : Prop := ∃ dx, H a = some (.ins (He.ga K "Letter") dx L.fl)
theorem LetAt.same {K : PySem.W.Frag} {H H' : Hp} {a : Addr} {L : Ltr} (h : LetAt K H a L) (s : Same H H') : LetAt K H' a L := by
  obtain ⟨dx, e⟩ := h
  exact ⟨dx, s _ _ e⟩
def Ltr.args (L : Ltr) : List V := [.str L.verb, .str L.call, .str L.origin, .str L.otag, .str L.target, .str L.ttag, .int L.seq, .str L.way, L.code, L.offer, L.stay, L.goal]
def spLetInit (K : PySem.W.Frag) : Sp := fun vs H Q _ => ∃ (p dx : Addr) (L : Ltr), vs = .ref p :: L.args ∧ H p = some (.ins (He.ga K "Letter") dx []) ∧ Q .non (upd H p (.ins (He.ga K "Letter") dx L.fl))
theorem ok_Letter___init {P : Program} {w : World} {K : PySem.W.Frag} {mg : Str → Option Value} {base : Heap} {f : Addr} {fd : FuncData} (T : Tx K mg) 
    (F : FunD K "__init__" "Letter.__init__" (defArgs s_Letter___init) (defBody s_Letter___init) (defScope s_Letter___init) [] [("code", (V.non)), ("offer", (V.non)), ("stay", (V.non)), ("goal", (V.non))] f fd) : FnOk P w K mg base CX0 1 f fd ["self", "verb", "call", "origin", "origin_tag", "target", "target_tag", "seq", "way", "code", "offer", "stay", "goal"] (spLetInit K) := by
  refine F.ok sc_Letter___init (fun vs H Q E h => ?_) (fun cdv A outer s H vs Q E hr h => ?_)
  · obtain ⟨p, dx, L, rfl, _⟩ := h
    rfl
  · obtain ⟨p, dx, L, rfl, hp, k⟩ := h
    refine ⟨_, PSs.nox (pss_cons (ps_fldC rfl T.cl_Letter T.na_Letter_verb (pv 0) (pv 1) rfl) (pss_cons (ps_fldC rfl T.cl_Letter T.na_Letter_code (pv 0) (pv 9) rfl) (pss_cons (ps_fldC rfl T.cl_Letter T.na_Letter_call (pv 0) (pv 2) rfl) (pss_cons (ps_fldC rfl T.cl_Letter T.na_Letter_origin (pv 0) (pv 3) rfl) (pss_cons (ps_fldC rfl T.cl_Letter T.na_Letter_origin_tag (pv 0) (pv 4) rfl) (pss_cons (ps_fldC rfl T.cl_Letter T.na_Letter_target (pv 0) (pv 5) rfl) (pss_cons (ps_fldC rfl T.cl_Letter T.na_Letter_target_tag (pv 0) (pv 6) rfl) (pss_cons (ps_fldC rfl T.cl_Letter T.na_Letter_seq (pv 0) (pv 7) rfl) (pss_cons (ps_fldC rfl T.cl_Letter T.na_Letter_way (pv 0) (pv 8) rfl) (pss_cons (ps_fldC rfl T.cl_Letter T.na_Letter_offer (pv 0) (pv 10) rfl) (pss_cons (ps_fldC rfl T.cl_Letter T.na_Letter_stay (pv 0) (pv 11) rfl) (pss_one (ps_fldC rfl T.cl_Letter T.na_Letter_goal (pv 0) (pv 12) rfl))))))))))))), ?_⟩
    refine ⟨_, rfl, _, rfl, p, dx, _, rfl, hp, sm, ?_⟩
    refine ⟨_, rfl, _, rfl, p, dx, _, rfl, upd_same, sm, ?_⟩
    refine ⟨_, rfl, _, rfl, p, dx, _, rfl, upd_same, sm, ?_⟩
    refine ⟨_, rfl, _, rfl, p, dx, _, rfl, upd_same, sm, ?_⟩
    refine ⟨_, rfl, _, rfl, p, dx, _, rfl, upd_same, sm, ?_⟩
    refine ⟨_, rfl, _, rfl, p, dx, _, rfl, upd_same, sm, ?_⟩
    refine ⟨_, rfl, _, rfl, p, dx, _, rfl, upd_same, sm, ?_⟩
    refine ⟨_, rfl, _, rfl, p, dx, _, rfl, upd_same, sm, ?_⟩
    refine ⟨_, rfl, _, rfl, p, dx, _, rfl, upd_same, sm, ?_⟩
    refine ⟨_, rfl, _, rfl, p, dx, _, rfl, upd_same, sm, ?_⟩
    refine ⟨_, rfl, _, rfl, p, dx, _, rfl, upd_same, sm, ?_⟩
    refine ⟨_, rfl, _, rfl, p, dx, _, rfl, upd_same, sm, ?_⟩
    simp only [upd_upd]
    exact k
def Ltr.partsV (L : Ltr) : List V := [.str L.verb, L.code, .str L.call, .str L.origin, .str L.otag, .str L.target, .str L.ttag, .int L.seq, .str L.way, L.offer, L.stay, L.goal]
def spParts (K : PySem.W.Frag) : Sp := fun vs H Q _ => ∃ (a : Addr) (L : Ltr), vs = [.ref a] ∧ LetAt K H a L ∧ ∀ t, H t = none → Q (.ref t) (upd H t (.tup L.partsV))
theorem ok_Letter_parts {P : Program} {w : World} {K : PySem.W.Frag} {mg : Str → Option Value} {base : Heap} {f : Addr} {fd : FuncData} (T : Tx K mg) 
    (F : FunD K "parts" "Letter.parts" (defArgs s_Letter_parts) (defBody s_Letter_parts) (defScope s_Letter_parts) [] [] f fd) : FnOk P w K mg base CX0 1 f fd ["self"] (spParts K) := by
  refine F.ok sc_Letter_parts (fun vs H Q E h => ?_) (fun cdv A outer s H vs Q E hr h => ?_)
  · obtain ⟨p, L, rfl, _⟩ := h
    rfl
  · obtain ⟨p, L, rfl, ⟨dx, hp⟩, k⟩ := h
    refine ⟨_, PSs.nox (pss_one (ps_ret (pe_tup (pa_cons (pe_fldC rfl T.cl_Letter T.na_Letter_verb (pv 0) rfl) (pa_cons (pe_fldC rfl T.cl_Letter T.na_Letter_code (pv 0) rfl) (pa_cons (pe_fldC rfl T.cl_Letter T.na_Letter_call (pv 0) rfl) (pa_cons (pe_fldC rfl T.cl_Letter T.na_Letter_origin (pv 0) rfl) (pa_cons (pe_fldC rfl T.cl_Letter T.na_Letter_origin_tag (pv 0) rfl) (pa_cons (pe_fldC rfl T.cl_Letter T.na_Letter_target (pv 0) rfl) (pa_cons (pe_fldC rfl T.cl_Letter T.na_Letter_target_tag (pv 0) rfl) (pa_cons (pe_fldC rfl T.cl_Letter T.na_Letter_seq (pv 0) rfl) (pa_cons (pe_fldC rfl T.cl_Letter T.na_Letter_way (pv 0) rfl) (pa_cons (pe_fldC rfl T.cl_Letter T.na_Letter_offer (pv 0) rfl) (pa_cons (pe_fldC rfl T.cl_Letter T.na_Letter_stay (pv 0) rfl) (pa_cons (pe_fldC rfl T.cl_Letter T.na_Letter_goal (pv 0) rfl) pa_nil))))))))))))))), ?_⟩
    refine ⟨_, rfl, p, dx, _, _, rfl, hp, rfl, _, rfl, p, dx, _, _, rfl, hp, rfl, _, rfl, p, dx, _, _, rfl, hp, rfl, _, rfl, p, dx, _, _, rfl, hp, rfl, _, rfl, p, dx, _, _, rfl, hp, rfl, _, rfl, p, dx, _, _, rfl, hp, rfl, ?_⟩
    refine ⟨_, rfl, p, dx, _, _, rfl, hp, rfl, _, rfl, p, dx, _, _, rfl, hp, rfl, _, rfl, p, dx, _, _, rfl, hp, rfl, _, rfl, p, dx, _, _, rfl, hp, rfl, _, rfl, p, dx, _, _, rfl, hp, rfl, _, rfl, p, dx, _, _, rfl, hp, rfl, ?_⟩
    exact ⟨by show 12 ≤ sizeLine; decide, k⟩
def Ltr.reply (L : Ltr) (code : V) (tag : Str) (offer stay : V) : Ltr := ⟨L.verb, L.call, L.origin, L.otag, L.target, tag, L.seq, L.way, code, offer, stay, .non⟩
def spLReply (K : PySem.W.Frag) : Sp := fun vs H Q _ => ∃ (a : Addr) (L : Ltr) (code : V) (tag : Str) (offer stay : V), vs = [.ref a, code, .str tag, offer, stay] ∧ LetAt K H a L ∧ ∀ b H', Same H H' → H b = none → LetAt K H' b (L.reply code tag offer stay) → Q (.ref b) H'
theorem ok_Letter_reply {P : Program} {w : World} {K : PySem.W.Frag} {mg : Str → Option Value} {base : Heap} {f : Addr} {fd : FuncData} (T : Tx K mg) (c_mk_Letter_b : MakK P w K mg base 1 "Letter" (He.ga K "Letter") (spLetInit K) 0 ["verb", "code", "call", "origin", "origin_tag", "target", "target_tag", "seq", "way", "offer", "stay"] (fun vs zs => vs ++ ((((zs.drop 0).take 1) ++ (((zs.drop 2).take 7) ++ (((zs.drop 1).take 1) ++ (((zs.drop 9).take 2) ++ ((([(V.non)] : List V).drop 0).take 1))))))))
    (F : FunD K "reply" "Letter.reply" (defArgs s_Letter_reply) (defBody s_Letter_reply) (defScope s_Letter_reply) [(V.non), (V.non)] [] f fd) : FnOk P w K mg base CX0 3 f fd ["self", "code", "tag", "offer", "stay"] (spLReply K) := by
  refine F.ok sc_Letter_reply (fun vs H Q E h => ?_) (fun cdv A outer s H vs Q E hr h => ?_)
  · obtain ⟨p, L, code, tag, offer, stay, rfl, _⟩ := h
    rfl
  · obtain ⟨p, L, code, tag, offer, stay, rfl, ⟨dx, hp⟩, k⟩ := h
    refine ⟨_, PSs.nox (pss_one (ps_ret (pe_mkK0 c_mk_Letter_b hr (by decide) rfl (pk_cons (pe_fldC rfl T.cl_Letter T.na_Letter_verb (pv 0) rfl) (pk_cons (pv 1) (pk_cons (pe_fldC rfl T.cl_Letter T.na_Letter_call (pv 0) rfl) (pk_cons (pe_fldC rfl T.cl_Letter T.na_Letter_origin (pv 0) rfl) (pk_cons (pe_fldC rfl T.cl_Letter T.na_Letter_origin_tag (pv 0) rfl) (pk_cons (pe_fldC rfl T.cl_Letter T.na_Letter_target (pv 0) rfl) (pk_cons (pv 2) (pk_cons (pe_fldC rfl T.cl_Letter T.na_Letter_seq (pv 0) rfl) (pk_cons (pe_fldC rfl T.cl_Letter T.na_Letter_way (pv 0) rfl) (pk_cons (pv 3) (pk_cons (pv 4) pk_nil)))))))))))))), ?_⟩
    refine ⟨_, rfl, p, dx, _, _, rfl, hp, rfl, _, rfl, _, rfl, p, dx, _, _, rfl, hp, rfl, _, rfl, p, dx, _, _, rfl, hp, rfl, _, rfl, p, dx, _, _, rfl, hp, rfl, _, rfl, p, dx, _, _, rfl, hp, rfl, _, rfl, _, rfl, p, dx, _, _, rfl, hp, rfl, _, rfl, p, dx, _, _, rfl, hp, rfl, _, rfl, _, rfl, rfl, rfl, ?_⟩
    intro x dy hx hdy hne
    refine ⟨x, dy, L.reply code tag offer stay, rfl, upd_same, rfl, ?_⟩
    rw [upd_upd]
    exact k x _ (same_own hx hdy) hx ⟨dy, upd_same⟩

end K5
set_option maxHeartbeats 4000000
namespace K5
open PySem PySem.Spec PyProof.Rows L2 SX TK TKS
open C8 (pe_c)
/-! ### the text of a letter without offer, stay and goal -/
theorem emp_len : Str.empty.length = 0 := rfl
theorem k_request : ("request " : Str).length = 8 := by decide +kernel
theorem k_reply : ("reply " : Str).length = 6 := by decide +kernel
theorem k_blank : (" " : Str).length = 1 := by decide +kernel
theorem k_call : ("call " : Str).length = 5 := by decide +kernel
theorem k_from : ("from " : Str).length = 5 := by decide +kernel
theorem k_to : ("to " : Str).length = 3 := by decide +kernel
theorem k_seq : ("seq " : Str).length = 4 := by decide +kernel
theorem k_way : ("way " : Str).length = 4 := by decide +kernel
theorem k_nl : ("\n" : Str).length = 1 := by decide +kernel
def TxOk (z : Str) : Prop := PyData.strOk z = true
structure LOk (L : Ltr) : Prop where
  oks : TxOk L.verb ∧ TxOk L.call ∧ TxOk L.origin ∧ TxOk L.otag ∧ TxOk L.target ∧ TxOk L.ttag ∧ TxOk L.way
  seq0 : 0 ≤ L.seq
  verb : L.verb.length ≤ 1000
  call : L.call.length ≤ 1000
  origin : L.origin.length ≤ 1000
  otag : L.otag.length ≤ 1000
  target : L.target.length ≤ 1000
  ttag : L.ttag.length ≤ 1000
  seq : L.seq.natAbs < 1000000000
  way : L.way.length ≤ 1000
  code : L.code = .non ∨ ∃ c : Int, L.code = .int c ∧ 0 ≤ c ∧ c.natAbs < 1000000000
def headS (L : Ltr) : Str := match L.code with
  | .int c => Str.empty ++ "reply " ++ numS c ++ " " ++ L.verb
  | _ => Str.empty ++ "request " ++ L.verb
theorem headS_len {L : Ltr} (g : LOk L) : (headS L).length ≤ 2000 := by
  have := g.verb
  rcases g.code with e | ⟨c, e, hc0, hc⟩
  · have q : headS L = Str.empty ++ "request " ++ L.verb := by unfold headS; rw [e]
    rw [q, cat_len, cat_len, emp_len, k_request]
    omega
  · have q : headS L = Str.empty ++ "reply " ++ numS c ++ " " ++ L.verb := by unfold headS; rw [e]
    have := numS_len hc
    rw [q, cat_len, cat_len, cat_len, cat_len, emp_len, k_reply, k_blank]
    omega
def spHead (K : PySem.W.Frag) : Sp := fun vs H Q _ => ∃ (a : Addr) (L : Ltr), vs = [.ref a] ∧ LetAt K H a L ∧ LOk L ∧ Q (.str (headS L)) H
theorem ok_write_head {P : Program} {w : World} {K : PySem.W.Frag} {mg : Str → Option Value} {base : Heap} {f : Addr} {fd : FuncData} (T : Tx K mg) 
    (F : FunD K "_write_head" "_write_head" (defArgs s_write_head) (defBody s_write_head) (defScope s_write_head) [] [] f fd) : FnOk P w K mg base CX0 1 f fd ["letter"] (spHead K) := by
  refine F.ok sc_write_head (fun vs H Q E h => ?_) (fun cdv A outer s H vs Q E hr h => ?_)
  · obtain ⟨a, L, rfl, _⟩ := h
    rfl
  · obtain ⟨a, L, rfl, ⟨dx, hp⟩, g, k⟩ := h
    have g1 := g.verb
    refine ⟨_, PSs.nox (C8.pss_cut (ps_if (pt_cmpR op_isN (pe_fldC rfl T.cl_Letter T.na_Letter_code (pv 0) rfl) pe_non (nomark _)) (pss_one (ps_ret (pe_joined (PJ.cons pe_str (PJ.cons (pe_fmt (pe_fldC rfl T.cl_Letter T.na_Letter_verb (pv 0) rfl)) PJ.nil))))) pss_nil) (pss_one (ps_ret (pe_joined (PJ.cons pe_str (PJ.cons (pe_fmt (pe_fldC rfl T.cl_Letter T.na_Letter_code (pv 0) rfl)) (PJ.cons pe_str (PJ.cons (pe_fmt (pe_fldC rfl T.cl_Letter T.na_Letter_verb (pv 0) rfl)) PJ.nil)))))))), ?_⟩
    rcases g.code with e | ⟨c, e, hc0, hc⟩
    · have q : headS L = Str.empty ++ "request " ++ L.verb := by unfold headS; rw [e]
      rw [q] at k
      refine ⟨fun _ _ => False, ?_, fun _ _ z => z.elim⟩
      refine ⟨_, rfl, a, dx, _, _, rfl, hp, rfl, rfl, _, rfl, ?_⟩
      rw [e]
      refine iteT ⟨_, rfl, szl (by rw [cat_len, emp_len, k_request]; omega), _, rfl, a, dx, _, _, rfl, hp, rfl, .inl ⟨_, rfl, szl (by omega), _, rfl, szl (by rw [cat_len, cat_len, emp_len, k_request]; omega), k⟩⟩
    · have q : headS L = Str.empty ++ "reply " ++ numS c ++ " " ++ L.verb := by unfold headS; rw [e]
      have := numS_len hc
      rw [q] at k
      refine ⟨fun σ' H' => σ' = [some (.ref a)] ∧ H' = H, ?_, ?_⟩
      · refine ⟨_, rfl, a, dx, _, _, rfl, hp, rfl, rfl, _, rfl, ?_⟩
        rw [e]
        exact iteF ⟨rfl, rfl⟩
      · rintro σ' H' ⟨rfl, rfl⟩
        refine ⟨_, rfl, szl (by rw [cat_len, emp_len, k_reply]; omega), _, rfl, a, dx, _, _, rfl, hp, rfl, .inr ⟨c, e, numS_log hc, ?_⟩⟩
        refine ⟨_, rfl, szl (by show (_ ++ _ ++ numS c).length ≤ _; rw [cat_len, cat_len, emp_len, k_reply]; omega), ?_⟩
        refine ⟨_, rfl, szl (by show (_ ++ _ ++ numS c ++ _).length ≤ _; rw [cat_len, cat_len, cat_len, emp_len, k_reply, k_blank]; omega), ?_⟩
        exact ⟨_, rfl, a, dx, _, _, rfl, hp, rfl, .inl ⟨_, rfl, szl (by omega), _, rfl, szl (by show (_ ++ _ ++ numS c ++ _ ++ _).length ≤ _; rw [cat_len, cat_len, cat_len, cat_len, emp_len, k_reply, k_blank]; omega), k⟩⟩
def toS (L : Ltr) : Str := if ((L.ttag.length : Int) != 0) = true then Str.empty ++ "to " ++ L.target ++ " " ++ L.ttag else Str.empty ++ "to " ++ L.target
def linesS (L : Ltr) : List Str := [headS L, Str.empty ++ "call " ++ L.call, Str.empty ++ "from " ++ L.origin ++ " " ++ L.otag, toS L, Str.empty ++ "seq " ++ numS L.seq, Str.empty ++ "way " ++ L.way]
def textOf (l : List Str) : Str := Txt.join "" (l.map fun z => z ++ "\n")
theorem toS_len {L : Ltr} (g : LOk L) : (toS L).length ≤ 3000 := by
  have := g.target
  have := g.ttag
  unfold toS
  split
  · rw [cat_len, cat_len, cat_len, cat_len, emp_len, k_to, k_blank]
    omega
  · rw [cat_len, cat_len, emp_len, k_to]
    omega
theorem linesS_len {L : Ltr} (g : LOk L) : ∀ z ∈ linesS L, z.length ≤ 3000 := by
  intro z hz
  have := g.call
  have := g.origin
  have := g.otag
  have := g.way
  have := numS_len g.seq
  simp only [linesS, List.mem_cons, List.not_mem_nil, or_false] at hz
  rcases hz with rfl | rfl | rfl | rfl | rfl | rfl
  · exact Nat.le_trans (headS_len g) (by decide)
  · rw [cat_len, cat_len, emp_len, k_call]; omega
  · rw [cat_len, cat_len, cat_len, cat_len, emp_len, k_from, k_blank]; omega
  · exact toS_len g
  · rw [cat_len, cat_len, emp_len, k_seq]; omega
  · rw [cat_len, cat_len, emp_len, k_way]; omega
theorem textOf_fits {l : List Str} (h : ∀ z ∈ l, z.length ≤ 3000) (hn : l.length ≤ 100) : ((l.map fun z => z ++ ("\n" : Str)).map (·.length)).sum + (l.map fun z => z ++ ("\n" : Str)).length * ("" : Str).length ≤ 1000000 := by
  have e0 : ("" : Str).length = 0 := rfl
  rw [e0, Nat.mul_zero, Nat.add_zero]
  refine Nat.le_trans (sum_le (m := 3001) fun z hz => ?_) ?_
  · obtain ⟨y, hy, rfl⟩ := List.mem_map.mp hz
    rw [cat_len, k_nl]
    exact Nat.succ_le_succ (h y hy)
  · rw [List.length_map]
    omega
theorem linesS_ok {L : Ltr} (g : LOk L) : ∀ z ∈ linesS L, PyData.strOk z = true := by
  obtain ⟨h1, h2, h3, h4, h5, h6, h7⟩ := g.oks
  have q : PyData.strOk Str.empty = true := by decide +kernel
  have e1 := ok_num g.seq0
  intro z hz
  simp only [linesS, List.mem_cons, List.not_mem_nil, or_false] at hz
  rcases hz with rfl | rfl | rfl | rfl | rfl | rfl
  · rcases g.code with e | ⟨c, e, hc0, hc⟩
    · have e2 : headS L = Str.empty ++ "request " ++ L.verb := by unfold headS; rw [e]
      rw [e2]
      exact ok_cat (ok_cat q (by decide +kernel)) h1
    · have e2 : headS L = Str.empty ++ "reply " ++ numS c ++ " " ++ L.verb := by unfold headS; rw [e]
      rw [e2]
      exact ok_cat (ok_cat (ok_cat (ok_cat q (by decide +kernel)) (ok_num hc0)) (by decide +kernel)) h1
  · exact ok_cat (ok_cat q (by decide +kernel)) h2
  · exact ok_cat (ok_cat (ok_cat (ok_cat q (by decide +kernel)) h3) (by decide +kernel)) h4
  · unfold toS
    split
    · exact ok_cat (ok_cat (ok_cat (ok_cat q (by decide +kernel)) h5) (by decide +kernel)) h6
    · exact ok_cat (ok_cat q (by decide +kernel)) h5
  · exact ok_cat (ok_cat q (by decide +kernel)) e1
  · exact ok_cat (ok_cat q (by decide +kernel)) h7
theorem textOf_ok {l : List Str} (h : ∀ z ∈ l, PyData.strOk z = true) : PyData.strOk (textOf l) = true :=
  ok_join (by decide +kernel) fun z hz => by
    obtain ⟨y, hy, rfl⟩ := List.mem_map.mp hz
    exact ok_cat (h y hy) (by decide +kernel)

/-! ### the text of any letter -/
theorem k_offer : ("offer " : Str).length = 6 := by decide +kernel
theorem k_stay : ("stay " : Str).length = 5 := by decide +kernel
theorem k_goal : ("goal " : Str).length = 5 := by decide +kernel
def offL : Option Off → List Str
  | none => []
  | some o => [Str.empty ++ "offer " ++ wordsS o]
def stayL : V → List Str
  | .int n => [Str.empty ++ "stay " ++ numS n]
  | _ => []
def goalL : V → List Str
  | .str z => [Str.empty ++ "goal " ++ z]
  | _ => []
def linesX (L : Ltr) (o : Option Off) : List Str := linesS L ++ offL o ++ stayL L.stay ++ goalL L.goal
structure XOk (L : Ltr) (o : Option Off) : Prop where
  off : ∀ u, o = some u → OffOk u
  offT : ∀ u, o = some u → TxOk (wordsS u)
  stay : L.stay = .non ∨ ∃ c : Int, L.stay = .int c ∧ 0 ≤ c ∧ c.natAbs < 1000000000
  goal : L.goal = .non ∨ ∃ z : Str, L.goal = .str z ∧ TxOk z ∧ z.length ≤ 1000
theorem wordsS_len {o : Off} (ok : OffOk o) : (wordsS o).length ≤ 130 := by
  obtain ⟨j1, j2⟩ := ok.join
  obtain ⟨t1, t2⟩ := ok.str
  have lm := ok.m
  have b := join_len " " [Str.ofString (toString o.port), o.mode, Txt.join "," o.fs]
  rw [blank_len] at b
  unfold wordsS
  refine Nat.le_trans b ?_
  show (Str.ofString (toString o.port)).length + (o.mode.length + ((Txt.join "," o.fs).length + 0)) + 3 * 1 ≤ 130
  omega
theorem linesX_n (L : Ltr) (o : Option Off) : (linesX L o).length ≤ 9 := by
  unfold linesX
  rw [List.length_append, List.length_append, List.length_append]
  have : (offL o).length ≤ 1 := by cases o <;> simp [offL]
  have : (stayL L.stay).length ≤ 1 := by unfold stayL; split <;> simp
  have : (goalL L.goal).length ≤ 1 := by unfold goalL; split <;> simp
  show 6 + _ + _ + _ ≤ 9
  omega
theorem linesX_len {L : Ltr} {o : Option Off} (g : LOk L) (xk : XOk L o) : ∀ z ∈ linesX L o, z.length ≤ 3000 := by
  intro z hz
  unfold linesX at hz
  rw [List.mem_append, List.mem_append, List.mem_append] at hz
  rcases hz with ((hz | hz) | hz) | hz
  · exact linesS_len g z hz
  · cases o with
    | none => cases hz
    | some o =>
      have := wordsS_len (xk.off o rfl)
      rw [List.mem_singleton.mp hz, cat_len, cat_len, emp_len, k_offer]
      omega
  · rcases xk.stay with e | ⟨c, e, hc0, hc⟩
    · rw [e] at hz
      cases hz
    · have := numS_len hc
      rw [e] at hz
      rw [List.mem_singleton.mp hz, cat_len, cat_len, emp_len, k_stay]
      omega
  · rcases xk.goal with e | ⟨y, e, hz0, hy⟩
    · rw [e] at hz
      cases hz
    · rw [e] at hz
      rw [List.mem_singleton.mp hz, cat_len, cat_len, emp_len, k_goal]
      omega
theorem linesX_ok {L : Ltr} {o : Option Off} (g : LOk L) (xk : XOk L o) : ∀ z ∈ linesX L o, PyData.strOk z = true := by
  have q : PyData.strOk Str.empty = true := by decide +kernel
  intro z hz
  unfold linesX at hz
  rw [List.mem_append, List.mem_append, List.mem_append] at hz
  rcases hz with ((hz | hz) | hz) | hz
  · exact linesS_ok g z hz
  · cases o with
    | none => cases hz
    | some o =>
      rw [List.mem_singleton.mp hz]
      exact ok_cat (ok_cat q (by decide +kernel)) (xk.offT o rfl)
  · rcases xk.stay with e | ⟨c, e, hc0, hc⟩
    · rw [e] at hz
      cases hz
    · rw [e] at hz
      rw [List.mem_singleton.mp hz]
      exact ok_cat (ok_cat q (by decide +kernel)) (ok_num hc0)
  · rcases xk.goal with e | ⟨y, e, hz0, hy⟩
    · rw [e] at hz
      cases hz
    · rw [e] at hz
      rw [List.mem_singleton.mp hz]
      exact ok_cat (ok_cat q (by decide +kernel)) hz0
def spWrite1 (K : PySem.W.Frag) : Sp := fun vs H Q _ => ∃ (a : Addr) (L : Ltr), vs = [.ref a] ∧ LetAt K H a L ∧ LOk L ∧ (∃ o, OffO H L.offer o ∧ XOk L o ∧ ∀ H', Same H H' → Q (.str (textOf (linesX L o))) H')
theorem ok_write {P : Program} {w : World} {K : PySem.W.Frag} {mg : Str → Option Value} {base : Heap} {f : Addr} {fd : FuncData} (T : Tx K mg) (c_write_head : C8.Cal P w K mg base 1 "_write_head" (spHead K) []) (c_write_offer : C8.Cal P w K mg base 1 "write_offer" spWrite [])
    (F : FunD K "write" "write" (defArgs s_write) (defBody s_write) (defScope s_write) [] [] f fd) : FnOk P w K mg base CX0 2 f fd ["letter"] (spWrite1 K) := by
  refine F.ok sc_write (fun vs H Q E h => ?_) (fun cdv A outer s H vs Q E hr h => ?_)
  · obtain ⟨a, L, rfl, _⟩ := h
    rfl
  · obtain ⟨a, L, rfl, hl, g, o, ho, xk, k⟩ := h
    obtain ⟨dx, hp⟩ := id hl
    have g1 := g.call
    have g2 := g.origin
    have g3 := g.otag
    have g4 := g.target
    have g5 := g.ttag
    have g6 := g.way
    have g7 := numS_len g.seq
    refine ⟨_, PSs.nox (pss_cons (ps_set (i := 1) sc_write.nd rfl (Or.inl rfl) (pe_lst (pa_cons (pe_c c_write_head hr (by decide) rfl (pa_cons (pv 0) pa_nil)) (pa_cons (pe_joined (PJ.cons pe_str (PJ.cons (pe_fmt (pe_fldC rfl T.cl_Letter T.na_Letter_call (pv 0) rfl)) PJ.nil))) (pa_cons (pe_joined (PJ.cons pe_str (PJ.cons (pe_fmt (pe_fldC rfl T.cl_Letter T.na_Letter_origin (pv 0) rfl)) (PJ.cons pe_str (PJ.cons (pe_fmt (pe_fldC rfl T.cl_Letter T.na_Letter_origin_tag (pv 0) rfl)) PJ.nil))))) pa_nil))))) (pss_cons (ps_expr (pe_bm PySem.F.plainAttrs_list PySem.F.slot_list_append PySem.F.type_list_append mt_append (pv 1) (pa_cons (pe_cut (pe_ifExp (pt_truth (pe_fldC rfl T.cl_Letter T.na_Letter_target_tag (pv 0) rfl) (fun _ => rfl)) (pe_joined (PJ.cons pe_str (PJ.cons (pe_fmt (pe_fldC rfl T.cl_Letter T.na_Letter_target (pv 0) rfl)) (PJ.cons pe_str (PJ.cons (pe_fmt (pe_fldC rfl T.cl_Letter T.na_Letter_target_tag (pv 0) rfl)) PJ.nil))))) (pe_joined (PJ.cons pe_str (PJ.cons (pe_fmt (pe_fldC rfl T.cl_Letter T.na_Letter_target (pv 0) rfl)) PJ.nil))))) pa_nil))) (pss_cons (ps_expr (pe_bm PySem.F.plainAttrs_list PySem.F.slot_list_extend PySem.F.type_list_extend mt_extend (pv 1) (pa_cons (pe_lst (pa_cons (pe_joined (PJ.cons pe_str (PJ.cons (pe_fmt (pe_fldC rfl T.cl_Letter T.na_Letter_seq (pv 0) rfl)) PJ.nil))) (pa_cons (pe_joined (PJ.cons pe_str (PJ.cons (pe_fmt (pe_fldC rfl T.cl_Letter T.na_Letter_way (pv 0) rfl)) PJ.nil))) pa_nil))) pa_nil))) (C8.pss_cut (ps_if (pt_cmpR op_notN (pe_fldC rfl T.cl_Letter T.na_Letter_offer (pv 0) rfl) pe_non (nomark _)) (pss_one (ps_expr (pe_bm PySem.F.plainAttrs_list PySem.F.slot_list_append PySem.F.type_list_append mt_append (pv 1) (pa_cons (pe_joined (PJ.cons pe_str (PJ.cons (pe_fmt (pe_c c_write_offer hr (by decide) rfl (pa_cons (pe_fldC rfl T.cl_Letter T.na_Letter_offer (pv 0) rfl) pa_nil))) PJ.nil))) pa_nil)))) pss_nil) (C8.pss_cut (ps_if (pt_cmpR op_notN (pe_fldC rfl T.cl_Letter T.na_Letter_stay (pv 0) rfl) pe_non (nomark _)) (pss_one (ps_expr (pe_bm PySem.F.plainAttrs_list PySem.F.slot_list_append PySem.F.type_list_append mt_append (pv 1) (pa_cons (pe_joined (PJ.cons pe_str (PJ.cons (pe_fmt (pe_fldC rfl T.cl_Letter T.na_Letter_stay (pv 0) rfl)) PJ.nil))) pa_nil)))) pss_nil) (C8.pss_cut (ps_if (pt_cmpR op_notN (pe_fldC rfl T.cl_Letter T.na_Letter_goal (pv 0) rfl) pe_non (nomark _)) (pss_one (ps_expr (pe_bm PySem.F.plainAttrs_list PySem.F.slot_list_append PySem.F.type_list_append mt_append (pv 1) (pa_cons (pe_joined (PJ.cons pe_str (PJ.cons (pe_fmt (pe_fldC rfl T.cl_Letter T.na_Letter_goal (pv 0) rfl)) PJ.nil))) pa_nil)))) pss_nil) (pss_one (ps_ret (pe_join pe_str (pe_lc (own := [("line", 2)]) (g := gName 2) rfl sc_write.nd (pi_list (pv 1)) (blkOk_by (own := [("line", 2)]) (N := ["letter", "lines", "line"]) (sc := defScope s_write) (by decide +kernel)) (fun _ _ _ _ _ => pg_name (i := 2) sc_write.nd rfl (Or.inl rfl)) (fun _ _ _ _ _ => pts_nil) (fun _ _ _ _ _ => (pe_op op_add_str (pv 2) pe_str)))))))))))), ?_⟩
    refine ⟨_, rfl, a, L, rfl, hl, g, ?_⟩
    refine ⟨_, rfl, szl (by rw [cat_len, emp_len, k_call]; omega), _, rfl, a, dx, _, _, rfl, hp, rfl, .inl ⟨_, rfl, szl (by omega), _, rfl, szl (by rw [cat_len, cat_len, emp_len, k_call]; omega), ?_⟩⟩
    refine ⟨_, rfl, szl (by rw [cat_len, emp_len, k_from]; omega), _, rfl, a, dx, _, _, rfl, hp, rfl, .inl ⟨_, rfl, szl (by omega), _, rfl, szl (by rw [cat_len, cat_len, emp_len, k_from]; omega), ?_⟩⟩
    refine ⟨_, rfl, szl (by rw [cat_len, cat_len, cat_len, emp_len, k_from, k_blank]; omega), _, rfl, a, dx, _, _, rfl, hp, rfl, .inl ⟨_, rfl, szl (by omega), _, rfl, szl (by rw [cat_len, cat_len, cat_len, cat_len, emp_len, k_from, k_blank]; omega), ?_⟩⟩
    refine ⟨by show 3 ≤ sizeLine; decide, fun l hnl => ?_⟩
    have al : a ≠ l := ne_of_none hp hnl
    -- lines.append(to)
    refine ⟨_, rfl, .inl ⟨rfl, _, SqL.of upd_same⟩, fun v H' => v = .str (toS L) ∧ H' = upd H l (.lst [.str (headS L), .str (Str.empty ++ "call " ++ L.call), .str (Str.empty ++ "from " ++ L.origin ++ " " ++ L.otag)]), ?_, ?_⟩
    · have hp1 : ∀ o, (upd H l o) a = some (.ins (He.ga K "Letter") dx L.fl) := fun o => by rw [upd_ne al]; exact hp
      refine ⟨_, rfl, a, dx, _, .str L.ttag, rfl, hp1 _, rfl, _, ⟨szl (by omega), rfl⟩, ?_⟩
      cases e : ((L.ttag.length : Int) != 0) with
      | true =>
        have q : toS L = Str.empty ++ "to " ++ L.target ++ " " ++ L.ttag := by unfold toS; rw [e]; rfl
        rw [q]
        refine iteT ⟨_, rfl, szl (by rw [cat_len, emp_len, k_to]; omega), _, rfl, a, dx, _, _, rfl, hp1 _, rfl, .inl ⟨_, rfl, szl (by omega), _, rfl, szl (by rw [cat_len, cat_len, emp_len, k_to]; omega), ?_⟩⟩
        exact ⟨_, rfl, szl (by rw [cat_len, cat_len, cat_len, emp_len, k_to, k_blank]; omega), _, rfl, a, dx, _, _, rfl, hp1 _, rfl, .inl ⟨_, rfl, szl (by omega), _, rfl, szl (by rw [cat_len, cat_len, cat_len, cat_len, emp_len, k_to, k_blank]; omega), rfl, rfl⟩⟩
      | false =>
        have q : toS L = Str.empty ++ "to " ++ L.target := by unfold toS; rw [e]; rfl
        rw [q]
        exact iteF ⟨_, rfl, szl (by rw [cat_len, emp_len, k_to]; omega), _, rfl, a, dx, _, _, rfl, hp1 _, rfl, .inl ⟨_, rfl, szl (by omega), _, rfl, szl (by rw [cat_len, cat_len, emp_len, k_to]; omega), rfl, rfl⟩⟩
    rintro v H' ⟨rfl, rfl⟩
    refine ⟨l, _, _, rfl, rfl, upd_same, by show 3 < sizeLine; decide, ?_⟩
    rw [upd_upd]
    -- lines.extend([seq, way])
    have hp1 : ∀ o, (upd H l o) a = some (.ins (He.ga K "Letter") dx L.fl) := fun o => by rw [upd_ne al]; exact hp
    refine ⟨_, rfl, .inl ⟨rfl, _, SqL.of upd_same⟩, _, rfl, szl (by rw [cat_len, emp_len, k_seq]; omega), _, rfl, a, dx, _, _, rfl, hp1 _, rfl, .inr ⟨_, rfl, numS_log g.seq, ?_⟩⟩
    refine ⟨_, rfl, szl (by show (_ ++ _ ++ numS L.seq).length ≤ _; rw [cat_len, cat_len, emp_len, k_seq]; omega), ?_⟩
    refine ⟨_, rfl, szl (by rw [cat_len, emp_len, k_way]; omega), _, rfl, a, dx, _, _, rfl, hp1 _, rfl, .inl ⟨_, rfl, szl (by omega), _, rfl, szl (by rw [cat_len, cat_len, emp_len, k_way]; omega), ?_⟩⟩
    refine ⟨by show 2 ≤ sizeLine; decide, fun l2 hn2 => ?_⟩
    have l2l : l ≠ l2 := fun e => by rw [← e, upd_same] at hn2; cases hn2
    have hn20 : H l2 = none := by rw [upd_ne l2l.symm] at hn2; exact hn2
    refine ⟨l, l2, _, _, rfl, rfl, (by rw [upd_ne l2l]; exact upd_same), upd_same, by show 6 ≤ sizeLine; decide, ?_⟩
    have sH : Same H (upd (upd (upd H l (.lst [.str (headS L), .str (Str.empty ++ "call " ++ L.call), .str (Str.empty ++ "from " ++ L.origin ++ " " ++ L.otag), .str (toS L)])) l2 (.lst [.str (Str.empty ++ "seq " ++ numS L.seq), .str (Str.empty ++ "way " ++ L.way)])) l (.lst ((linesS L).map V.str))) := TK.Same.upd_of ((same_upd hnl).trans (same_upd hn2)) hnl
    -- the offer, the stay, the goal
    have app : ∀ {H1 : Hp} {l1 : List Str} {z : Str}, H1 l = some (.lst (l1.map V.str)) → upd H1 l (.lst (l1.map V.str ++ [.str z])) = upd H1 l (.lst ((l1 ++ [z]).map V.str)) := fun _ => by rw [List.map_append]; rfl
    refine ⟨fun σ' H' => σ' = [some (.ref a), some (.ref l), none] ∧ Same H H' ∧ H' l = some (.lst ((linesS L ++ offL o).map V.str)), ?_, ?_⟩
    · refine ⟨_, rfl, a, dx, _, _, rfl, sH _ _ hp, rfl, rfl, _, rfl, ?_⟩
      rw [ho.none_iff]
      cases o with
      | none =>
        refine iteF ⟨rfl, sH, ?_⟩
        rw [show offL none = [] from rfl, List.append_nil]
        exact upd_same
      | some o =>
        have ok := xk.off o rfl
        have wl := wordsS_len ok
        refine iteT ⟨_, rfl, .inl ⟨rfl, _, SqL.of upd_same⟩, _, rfl, szl (by rw [cat_len, emp_len, k_offer]; omega), ?_⟩
        refine ⟨_, rfl, a, dx, _, _, rfl, sH _ _ hp, rfl, _, o, rfl, ho.same sH, ok, fun H2 s2 => .inl ⟨_, rfl, szl (by omega), _, rfl, szl (by rw [cat_len, cat_len, emp_len, k_offer]; omega), ?_⟩⟩
        have h2 := s2 _ _ (show (upd _ l _) l = some (.lst ((linesS L).map V.str)) from upd_same)
        refine ⟨l, _, _, rfl, rfl, h2, by show 6 < sizeLine; decide, ?_⟩
        refine ⟨rfl, TK.Same.upd_of (sH.trans s2) hnl, ?_⟩
        rw [upd_same, List.map_append]
        rfl
    rintro σ' H1 ⟨rfl, sH, hl1⟩
    have n1 : (linesS L ++ offL o).length ≤ 7 := by
      rw [List.length_append]
      have : (offL o).length ≤ 1 := by cases o <;> simp [offL]
      show 6 + _ ≤ 7
      omega
    have zl1 := linesX_len (L := L) (o := o) g xk
    unfold linesX at zl1
    refine ⟨fun σ' H' => σ' = [some (.ref a), some (.ref l), none] ∧ Same H H' ∧ H' l = some (.lst ((linesS L ++ offL o ++ stayL L.stay).map V.str)), ?_, ?_⟩
    · refine ⟨_, rfl, a, dx, _, _, rfl, sH _ _ hp, rfl, rfl, _, rfl, ?_⟩
      rcases xk.stay with e | ⟨c, e, hc0, hc⟩
      · rw [e]
        refine iteF ⟨rfl, sH, ?_⟩
        rw [show stayL V.non = [] from rfl, List.append_nil]
        exact hl1
      · have := numS_len hc
        rw [e]
        refine iteT ⟨_, rfl, .inl ⟨rfl, _, SqL.of hl1⟩, _, rfl, szl (by rw [cat_len, emp_len, k_stay]; omega), ?_⟩
        refine ⟨_, rfl, a, dx, _, _, rfl, sH _ _ hp, rfl, .inr ⟨c, e, numS_log hc, ?_⟩⟩
        refine ⟨_, rfl, szl (by show (_ ++ _ ++ numS c).length ≤ _; rw [cat_len, cat_len, emp_len, k_stay]; omega), ?_⟩
        refine ⟨l, _, _, rfl, rfl, hl1, by rw [List.length_map]; exact Nat.lt_of_le_of_lt n1 (by decide), ?_⟩
        refine ⟨rfl, TK.Same.upd_of sH hnl, ?_⟩
        rw [upd_same, List.map_append (l₂ := stayL _)]
        rfl
    rintro σ' H2 ⟨rfl, sH, hl1⟩
    have n2 : (linesS L ++ offL o ++ stayL L.stay).length ≤ 8 := by
      rw [List.length_append]
      have : (stayL L.stay).length ≤ 1 := by unfold stayL; split <;> simp
      omega
    refine ⟨fun σ' H' => σ' = [some (.ref a), some (.ref l), none] ∧ Same H H' ∧ H' l = some (.lst ((linesX L o).map V.str)), ?_, ?_⟩
    · refine ⟨_, rfl, a, dx, _, _, rfl, sH _ _ hp, rfl, rfl, _, rfl, ?_⟩
      unfold linesX
      rcases xk.goal with e | ⟨z, e, hz0, hz⟩
      · rw [e]
        refine iteF ⟨rfl, sH, ?_⟩
        rw [show goalL V.non = [] from rfl, List.append_nil]
        exact hl1
      · rw [e]
        refine iteT ⟨_, rfl, .inl ⟨rfl, _, SqL.of hl1⟩, _, rfl, szl (by rw [cat_len, emp_len, k_goal]; omega), ?_⟩
        refine ⟨_, rfl, a, dx, _, _, rfl, sH _ _ hp, rfl, .inl ⟨z, e, szl (by omega), _, rfl, szl (by rw [cat_len, cat_len, emp_len, k_goal]; omega), ?_⟩⟩
        refine ⟨l, _, _, rfl, rfl, hl1, by rw [List.length_map]; exact Nat.lt_of_le_of_lt n2 (by decide), ?_⟩
        refine ⟨rfl, TK.Same.upd_of sH hnl, ?_⟩
        rw [upd_same, List.map_append (l₂ := goalL _)]
        rfl
    rintro σ' H3 ⟨rfl, sH, hl1⟩
    have n3 := linesX_n L o
    -- the join
    refine ⟨⟨_, rfl⟩, _, rfl, l, rfl, ⟨_, SqL.of hl1⟩, fun D hD => ?_⟩
    have hS2 : ∀ u, SqL K (upd H3 D u) l ((linesX L o).map V.str) := fun o => SqL.of ((same_upd hD) _ _ hl1)
    have hfit := textOf_fits (linesX_len g xk) (Nat.le_trans n3 (by decide))
    refine lc_pureN walk_list (fun i => V.str ((linesX L o).getD i "" ++ "\n")) (by rw [List.length_map]; exact Nat.le_trans n3 (by show 9 ≤ sizeLine; decide)) (fun _ _ => hS2 _) (fun i x H4 kk hi y q => ?_) ?_
    · obtain ⟨rfl, hx⟩ := y
      rw [List.length_map] at hi
      rw [List.getElem?_map, List.getElem?_eq_getElem hi] at hx
      obtain rfl := Option.some.inj hx
      refine ⟨rfl, _, rfl, _, _, rfl, rfl, Nat.le_trans (Nat.add_le_add (linesX_len g xk _ (List.getElem_mem hi)) (Nat.le_of_eq k_nl)) (by decide), ?_⟩
      rw [List.getD_eq_getElem?_getD, List.getElem?_eq_getElem hi] at q
      exact q
    · rw [List.length_map, range_map_getD (linesX L o) "" fun z => V.str (z ++ "\n")]
      refine ⟨_, D, (linesX L o).map fun z => z ++ "\n", rfl, rfl, .inl (SqL.of ?_), ?_, ?_⟩
      · rw [List.map_map]
        exact upd_same
      · exact Nat.le_trans hfit (by decide)
      · exact k _ (sH.trans (same_upd hD))

end K5
set_option maxHeartbeats 4000000
namespace K5
open PySem PySem.Spec PyProof.Rows L2 SX TK TKS
open C8 (pe_c)
/-! ### an offer's words, read back -/
theorem numL_zero : ∀ n : Nat, (TL.numL n).getD 0 0 = 48 → n = 0 := by
  intro n
  induction n using Nat.strongRecOn with
  | _ n ih =>
    intro h
    by_cases h1 : n < 10
    · rw [TL.numL_lt h1] at h
      have : 48 + n = 48 := h
      omega
    · have h2 : 10 ≤ n := by omega
      rw [TL.numL_step h2] at h
      have h3 : (TL.numL (n / 10)).getD 0 0 = 48 := by
        cases e : TL.numL (n / 10) with
        | nil => exact absurd e (TL.numL_ne _)
        | cons a r =>
          rw [e] at h
          exact h
      have := ih (n / 10) (by omega) h3
      omega
theorem digits_in : ∀ c, 48 ≤ c → c ≤ 57 → c ∈ TL.tl zDG := by
  intro c h1 h2
  have e : TL.tl zDG = [48, 49, 50, 51, 52, 53, 54, 55, 56, 57] := by decide +kernel
  rw [e]
  simp only [List.mem_cons, List.not_mem_nil, or_false]
  omega
theorem num_back {i m : Int} (h0 : 0 ≤ i) (h1 : i ≤ m) (h2 : i ≤ 999999999) : numV (Str.ofString (toString i)) m = .int i := by
  obtain ⟨n, rfl⟩ := Int.eq_ofNat_of_zero_le h0
  rw [num_S]
  have hl : (TL.numL n).length ≤ 9 := TL.numL_len (by decide) (by omega)
  have hp : 0 < (TL.numL n).length := List.length_pos_iff.mpr (TL.numL_ne n)
  have hd := TL.numL_digits n
  have c1 : consB (S (TL.numL n)) zDG 9 = true := by
    unfold consB consL
    rw [Bool.and_eq_true, Bool.and_eq_true, decide_eq_true_eq, decide_eq_true_eq, List.all_eq_true]
    refine ⟨⟨?_, ?_⟩, fun c hc => decide_eq_true (digits_in c (hd c hc).1 (hd c hc).2)⟩
    · show (1 : Int) ≤ ((TL.numL n).length : Int)
      omega
    · show ((TL.numL n).length : Int) ≤ 9
      omega
  have c2 : (decide (V.str (S [(TL.tl (S (TL.numL n))).getD 0 0]) = V.str "0") && !decide (V.str (S (TL.numL n)) = V.str "0")) = false := by
    by_cases e : (TL.numL n).getD 0 0 = 48
    · have e0 := numL_zero n e
      subst e0
      decide +kernel
    · have e1 : decide (V.str (S [(TL.tl (S (TL.numL n))).getD 0 0]) = V.str "0") = false := decide_eq_false fun q => e (by
        have q2 := V.str.inj q
        rw [show ("0" : Str) = S [48] by decide +kernel] at q2
        exact (List.cons.inj (S_inj q2)).1)
      rw [e1]
      rfl
  unfold numV
  rw [if_pos c1, if_neg (by rw [c2]; exact Bool.false_ne_true)]
  show (if ((NumText.digitsVal (TL.numL n) : Nat) : Int) ≤ m then V.int (NumText.digitsVal (TL.numL n) : Nat) else .non) = _
  rw [TL.numL_val, if_pos h1]
theorem modes_plain : ∀ z ∈ modesL, 32 ∉ TL.tl z := by decide +kernel
theorem joinL_free {c : Nat} {s : List Nat} (hs : c ∉ s) : ∀ l : List (List Nat), (∀ p ∈ l, c ∉ p) → c ∉ TL.joinL s l
  | [], _ => by simp [TL.joinL]
  | [p], h => h p (by simp)
  | p :: q :: r, h => by
    show c ∉ p ++ (s ++ TL.joinL s (q :: r))
    rw [List.mem_append, List.mem_append]
    rintro (z | z | z)
    · exact h p (by simp) z
    · exact hs z
    · exact joinL_free hs (q :: r) (fun x hx => h x (List.mem_cons_of_mem _ hx)) z
theorem str_noblank {i : Int} (h0 : 0 ≤ i) : 32 ∉ TL.tl (Str.ofString (toString i)) := by
  obtain ⟨n, rfl⟩ := Int.eq_ofNat_of_zero_le h0
  rw [TL.tl_num]
  exact TL.numL_free (by omega)

/-! ### dicts of parts -/
theorem mergeK_app : ∀ (more kvs : List (Key × V)), ((kvs ++ more).map (·.1)).Nodup → mergeK kvs more = kvs ++ more
  | [], kvs, _ => by
    rw [List.append_nil]
    rfl
  | kv :: more, kvs, h => by
    have e : mergeK kvs (kv :: more) = mergeK (putK kvs kv.1 kv.2) more := rfl
    have hv : valV kvs kv.1 = none := by
      have h1 := valV_any kv.1 kvs
      have h2 : (kvs.any fun q => decide (q.1 = kv.1)) = false := by
        rw [Bool.eq_false_iff]
        intro z
        obtain ⟨q, hq, e⟩ := List.any_eq_true.mp z
        rw [List.map_append, List.map_cons, List.nodup_append] at h
        exact h.2.2 q.1 (List.mem_map.mpr ⟨q, hq, rfl⟩) kv.1 (List.mem_cons_self ..) (of_decide_eq_true e)
      rw [h2] at h1
      cases q : valV kvs kv.1 with
      | none => rfl
      | some x => rw [q] at h1; cases h1
    rw [e, putK_new _ hv, mergeK_app more _ (by simpa using h)]
    simp
theorem dkOf_keys : ∀ {ks : List Str} {zs : List V}, ks.length = zs.length → (dkOf ks zs).map (·.1) = ks.map Sum.inr
  | [], _, _ => rfl
  | _ :: _, [], h => nomatch h
  | k :: ks, z :: zs, h => by
    show Sum.inr k :: (dkOf ks zs).map (·.1) = _
    rw [dkOf_keys (Nat.succ.inj h)]
    rfl
theorem dkOf_app : ∀ {ks ks' : List Str} {zs zs' : List V}, ks.length = zs.length → dkOf ks zs ++ dkOf ks' zs' = dkOf (ks ++ ks') (zs ++ zs')
  | [], _, [], _, _ => rfl
  | [], _, _ :: _, _, h => nomatch h
  | _ :: _, _, [], _, h => nomatch h
  | k :: ks, _, z :: zs, _, h => congrArg (List.cons (Sum.inr k, z)) (dkOf_app (Nat.succ.inj h))
theorem nd_inr {ks : List Str} (h : ks.Nodup) : (ks.map (Sum.inr : Str → Key)).Nodup := List.Pairwise.map _ (fun _ _ q e => q (Sum.inr.inj e)) h
theorem merge_dk {ks ks' : List Str} {zs zs' : List V} (hl : ks.length = zs.length) (hl' : ks'.length = zs'.length) (nd : (ks ++ ks').Nodup) : mergeK (dkOf ks zs) (dkOf ks' zs') = dkOf (ks ++ ks') (zs ++ zs') := by
  rw [mergeK_app, dkOf_app hl]
  rw [List.map_append, dkOf_keys hl, dkOf_keys hl', ← List.map_append]
  exact nd_inr nd
theorem merge_dk0 {ks : List Str} {zs : List V} (hl : ks.length = zs.length) (nd : ks.Nodup) : mergeK [] (dkOf ks zs) = dkOf ks zs := merge_dk (ks := []) (zs := []) rfl hl nd
/-! ### the head of a letter, read -/
def verbsL : List Str := ["CALL", "KEEP", "STOP", "END", "TURN", "MOVE", "LIVE", "SIGN"]
def codesL : List Int := [18, 20, 41, 43, 44, 45, 46, 48, 50]
theorem verbs_v : ([.str "CALL", .str "KEEP", .str "STOP", .str "END", .str "TURN", .str "MOVE", .str "LIVE", .str "SIGN"] : List V) = verbsL.map V.str := rfl
theorem verbs_len : ∀ z ∈ verbsL, z.length ≤ 16 := by decide +kernel
def headW (v : Str) : Option Int → List Str
  | none => ["request", v]
  | some c => ["reply", numS c, v]
def headK : Option Int → List Str
  | none => ["verb"]
  | some _ => ["verb", "code"]
def headZ (v : Str) : Option Int → List V
  | none => [.str v]
  | some c => [.str v, .int c]
theorem code_num : ∀ c ∈ codesL, numV (numS c) 99 = .int c := fun c hc => by
  have h : 0 ≤ c ∧ c ≤ 99 := (by decide : ∀ c ∈ codesL, 0 ≤ c ∧ c ≤ 99) c hc
  exact num_back h.1 h.2 (by omega)
theorem code_in : ∀ c ∈ codesL, inV (.int c) [.int 18, .int 20, .int 41, .int 43, .int 44, .int 45, .int 46, .int 48, .int 50] = true := by decide
theorem code_int : ∀ c ∈ codesL, PySem.intText? (numS c) = some c := fun c hc => by
  have h : 0 ≤ c ∧ c ≤ 99 := (by decide : ∀ c ∈ codesL, 0 ≤ c ∧ c ≤ 99) c hc
  obtain ⟨n, rfl⟩ := Int.eq_ofNat_of_zero_le h.1
  have e : numS (n : Int) = S (TL.numL n) := num_S _
  rw [e, PySem.intText_digits (x := S (TL.numL n)) (fun c hc => TL.numL_digits n c hc) (TL.numL_ne n) (by
    show (TL.numL n).length ≤ 4300
    have := TL.numL_len (n := n) (k := 9) (by decide) (by omega)
    omega)]
  show some (((NumText.digitsVal (TL.numL n) : Nat) : Int)) = _
  rw [TL.numL_val]
def spReadHead : Sp := fun vs H Q _ => ∃ l v c, vs = [.ref l] ∧ H l = some (.lst ((headW v c).map V.str)) ∧ v ∈ verbsL ∧ (∀ n, c = some n → n ∈ codesL) ∧ ∀ d H', Same H H' → H d = none → H' d = some (.dK (dkOf (headK c) (headZ v c))) → Q (.ref d) H'
theorem ok_read_head {P : Program} {w : World} {K : PySem.W.Frag} {mg : Str → Option Value} {base : Heap} {f : Addr} {fd : FuncData} (T : Tx K mg) (c_read_number : C8.Cal P w K mg base 2 "read_number" spNum [])
    (F : FunD K "_read_head" "_read_head" (defArgs s_read_head) (defBody s_read_head) (defScope s_read_head) [] [] f fd) : FnOk P w K mg base CX0 3 f fd ["words"] spReadHead := by
  refine F.ok sc_read_head (fun vs H Q E h => ?_) (fun cdv A outer s H vs Q E hr h => ?_)
  · obtain ⟨l, v, c, rfl, _⟩ := h
    rfl
  · obtain ⟨l, v, c, rfl, hl, hv, hc, k⟩ := h
    have lv := verbs_len v hv
    have inv : inV (.str v) (verbsL.map V.str) = true := by rw [inV_strs]; exact decide_eq_true hv
    refine ⟨_, PSs.nox (C8.pss_cut (ps_if (pt_cmpR op_notIn_seq (pe_ix ix_list (pv 0) (pe_un un_neg pe_int) (fun _ _ => rfl)) (pgR T.g_VERBS) (by with_unfolding_all rfl)) (pss_one (ps_ret pe_non)) pss_nil) (C8.pss_cut (ps_if (PW.pt (pw_and (pt_cmpR op_eq (pe_callB call_len_seq rfl T.f_len PySem.boot_len (pa_cons (pv 0) pa_nil)) pe_int (nomark _)) (pw_and1 (pt_cmpR op_eq (pe_ix ix_list (pv 0) pe_int (fun _ _ => rfl)) pe_str (nomark _))))) (pss_one (ps_ret (pe_disp (pps_cons pe_str (pe_ix ix_list (pv 0) pe_int (fun _ _ => rfl)) pps_nil) rfl rfl (by simp) (by decide)))) pss_nil) (C8.pss_cut (ps_if (PW.pt (pw_and (pt_cmpR op_eq (pe_callB call_len_seq rfl T.f_len PySem.boot_len (pa_cons (pv 0) pa_nil)) pe_int (nomark _)) (pw_and (pt_cmpR op_eq (pe_ix ix_list (pv 0) pe_int (fun _ _ => rfl)) pe_str (nomark _)) (pw_and1 (pt_cmpR op_in_seq (pe_c c_read_number hr (by decide) rfl (pa_cons (pe_ix ix_list (pv 0) pe_int (fun _ _ => rfl)) (pa_cons (pgI T.g_GREATEST_CODE) pa_nil))) (pgR T.g_CODES) (by with_unfolding_all rfl)))))) (pss_one (ps_ret (pe_disp (pps_cons pe_str (pe_ix ix_list (pv 0) pe_int (fun _ _ => rfl)) (pps_cons pe_str (pe_callTy call_int_str rfl T.f_int (by decide +kernel) (pa_cons (pe_ix ix_list (pv 0) pe_int (fun _ _ => rfl)) pa_nil)) pps_nil)) rfl rfl (by simp) (by decide)))) pss_nil) (pss_one (ps_ret pe_non))))), ?_⟩
    refine ⟨fun σ' H' => σ' = [some (.ref l)] ∧ H' = H, ?_, ?_⟩
    · cases c with
      | none =>
        refine ⟨_, rfl, 1, rfl, l, _, -1, _, rfl, rfl, SqL.of hl, rfl, _, verbsL.map V.str, rfl, .inr (T.v_VERBS H), rfl, flat_strs _, _, rfl, ?_⟩
        rw [inv]
        exact iteF ⟨rfl, rfl⟩
      | some n =>
        refine ⟨_, rfl, 1, rfl, l, _, -1, _, rfl, rfl, SqL.of hl, rfl, _, verbsL.map V.str, rfl, .inr (T.v_VERBS H), rfl, flat_strs _, _, rfl, ?_⟩
        rw [inv]
        exact iteF ⟨rfl, rfl⟩
    rintro σ' H' ⟨rfl, rfl⟩
    cases c with
    | none =>
      refine ⟨fun _ _ => False, ?_, fun _ _ z => z.elim⟩
      refine ⟨_, rfl, l, _, rfl, .inl (SqL.of hl), rfl, _, rfl, iteT ⟨_, rfl, l, _, 0, _, rfl, rfl, SqL.of hl, rfl, rfl, _, rfl, iteT fun p hp => ?_⟩⟩
      refine ⟨_, rfl, l, _, 1, _, rfl, rfl, SqL.of ((same_upd hp) _ _ hl), rfl, upd_same, dkOf ["verb"] [.str v], rfl, by show 1 ≤ 15; decide, ?_⟩
      rw [upd_upd, merge_dk0 rfl (by decide +kernel)]
      exact k p _ (same_upd hp) hp upd_same
    | some n =>
      have hn := hc n rfl
      refine ⟨fun σ' H2 => σ' = [some (.ref l)] ∧ H2 = H', ⟨_, rfl, l, _, rfl, .inl (SqL.of hl), rfl, _, rfl, iteF ⟨rfl, rfl⟩⟩, ?_⟩
      rintro σ' H2 ⟨rfl, rfl⟩
      refine ⟨fun _ _ => False, ?_, fun _ _ z => z.elim⟩
      have zn : (numS n).length ≤ 10 := numS_len (by have : 0 ≤ n ∧ n ≤ 99 := (by decide : ∀ c ∈ codesL, 0 ≤ c ∧ c ≤ 99) n hn; omega)
      refine ⟨_, rfl, l, _, rfl, .inl (SqL.of hl), rfl, _, rfl, iteT ⟨_, rfl, l, _, 0, _, rfl, rfl, SqL.of hl, rfl, rfl, _, rfl, iteT ?_⟩⟩
      refine ⟨_, rfl, l, _, 1, _, rfl, rfl, SqL.of hl, rfl, numS n, 99, rfl, Nat.le_trans zn (by decide), fun H3 s3 => ?_⟩
      rw [code_num n hn]
      refine ⟨_, _, rfl, .inr (T.v_CODES H3), rfl, rfl, _, rfl, ?_⟩
      rw [code_in n hn]
      refine iteT fun p hp => ?_
      have hl3 : ∀ o, (upd H3 p o) l = some (.lst ((["reply", numS n, v] : List Str).map V.str)) := fun o => (same_upd hp) _ _ (s3 _ _ hl)
      have hb := code_int n hn
      refine ⟨_, rfl, l, _, 2, _, rfl, rfl, SqL.of (hl3 _), rfl, _, rfl, l, _, 1, _, rfl, rfl, SqL.of (hl3 _), rfl, numS n, n, rfl, hb, Nat.le_trans zn (by decide), ?_⟩
      refine ⟨upd_same, dkOf ["verb", "code"] [.str v, .int n], rfl, by show 2 ≤ 15; decide, ?_⟩
      rw [upd_upd, merge_dk0 rfl (by decide +kernel)]
      exact k p _ (s3.trans (same_upd hp)) (by
        cases q : H2 p with
        | none => rfl
        | some u =>
          have := s3 _ _ q
          rw [hp] at this
          cases this) upd_same
end K5
set_option maxHeartbeats 4000000
namespace K5
open PySem PySem.Spec PyProof.Rows L2 SX TK TKS
open C8 (pe_c)
/-! ### the lines of a letter, read -/
theorem fresh_of {H H1 : Hp} {p : Addr} (s : Same H H1) (h : H1 p = none) : H p = none := by
  cases q : H p with
  | none => rfl
  | some u =>
    have := s _ _ q
    rw [h] at this
    cases this
def spOrigin : Sp := fun vs H Q _ => ∃ l o t, vs = [.ref l] ∧ H l = some (.lst [.str o, .str t]) ∧ o.length ≤ 1000 ∧ t.length ≤ 1000 ∧ (splitB o).isSome = true ∧ tagB t = true ∧ ∀ d H', Same H H' → H d = none → H' d = some (.dK (dkOf ["origin", "origin_tag"] [.str o, .str t])) → Q (.ref d) H'
theorem ok_read_origin {P : Program} {w : World} {K : PySem.W.Frag} {mg : Str → Option Value} {base : Heap} {f : Addr} {fd : FuncData} (T : Tx K mg) (c_is_address : C8.Cal P w K mg base 4 "is_address" spIsAddr []) (c_is_tag : C8.Cal P w K mg base 2 "is_tag" spTag [])
    (F : FunD K "_read_origin" "_read_origin" (defArgs s_read_origin) (defBody s_read_origin) (defScope s_read_origin) [] [] f fd) : FnOk P w K mg base CX0 5 f fd ["words"] spOrigin := by
  refine F.ok sc_read_origin (fun vs H Q E h => ?_) (fun cdv A outer s H vs Q E hr h => ?_)
  · obtain ⟨l, o, t, rfl, _⟩ := h
    rfl
  · obtain ⟨l, o, t, rfl, hl, lo, lt, ho, ht, k⟩ := h
    refine ⟨_, PSs.nox (C8.pss_cut (ps_if (PW.pt (pw_and (pt_cmpR op_eq (pe_callB call_len_seq rfl T.f_len PySem.boot_len (pa_cons (pv 0) pa_nil)) pe_int (nomark _)) (pw_and (pt_val (pe_c c_is_address hr (by decide) rfl (pa_cons (pe_ix ix_list (pv 0) pe_int (fun _ _ => rfl)) pa_nil))) (pw_and1 (pt_val (pe_c c_is_tag hr (by decide) rfl (pa_cons (pe_ix ix_list (pv 0) pe_int (fun _ _ => rfl)) pa_nil))))))) (pss_one (ps_ret (pe_disp (pps_cons pe_str (pe_ix ix_list (pv 0) pe_int (fun _ _ => rfl)) (pps_cons pe_str (pe_ix ix_list (pv 0) pe_int (fun _ _ => rfl)) pps_nil)) rfl rfl (by simp) (by decide)))) pss_nil) (pss_one (ps_ret pe_non))), ?_⟩
    refine ⟨fun _ _ => False, ?_, fun _ _ z => z.elim⟩
    refine ⟨_, rfl, l, _, rfl, .inl (SqL.of hl), rfl, _, rfl, iteT ⟨_, rfl, l, _, 0, _, rfl, rfl, SqL.of hl, rfl, o, rfl, lo, fun H1 s1 => ⟨_, rfl, ?_⟩⟩⟩
    rw [ho]
    refine iteT ⟨_, rfl, l, _, 1, _, rfl, rfl, SqL.of (s1 _ _ hl), rfl, t, rfl, lt, fun H2 s2 => ⟨_, rfl, ?_⟩⟩
    rw [ht]
    refine iteT fun p hp => ?_
    have h3 := (s1.trans s2).trans (same_upd (o := .dK []) hp)
    refine ⟨_, rfl, l, _, 0, _, rfl, rfl, SqL.of (h3 _ _ hl), rfl, _, rfl, l, _, 1, _, rfl, rfl, SqL.of (h3 _ _ hl), rfl, upd_same, dkOf ["origin", "origin_tag"] [.str o, .str t], rfl, by show 2 ≤ 15; decide, ?_⟩
    rw [upd_upd, merge_dk0 rfl (by decide +kernel)]
    exact k p _ ((s1.trans s2).trans (same_upd hp)) (fresh_of (s1.trans s2) hp) upd_same
def tgW (t g : Str) : List Str := if g.length = 0 then [t] else [t, g]
def spTarget : Sp := fun vs H Q _ => ∃ l t g, vs = [.ref l] ∧ H l = some (.lst ((tgW t g).map V.str)) ∧ t.length ≤ 1000 ∧ g.length ≤ 1000 ∧ (splitB t).isSome = true ∧ (g = "" ∨ (g.length ≠ 0 ∧ tagB g = true)) ∧ ∀ d H', Same H H' → H d = none → H' d = some (.dK (dkOf ["target", "target_tag"] [.str t, .str g])) → Q (.ref d) H'
theorem ok_read_target {P : Program} {w : World} {K : PySem.W.Frag} {mg : Str → Option Value} {base : Heap} {f : Addr} {fd : FuncData} (T : Tx K mg) (c_is_address : C8.Cal P w K mg base 4 "is_address" spIsAddr []) (c_is_tag : C8.Cal P w K mg base 2 "is_tag" spTag [])
    (F : FunD K "_read_target" "_read_target" (defArgs s_read_target) (defBody s_read_target) (defScope s_read_target) [] [] f fd) : FnOk P w K mg base CX0 5 f fd ["words"] spTarget := by
  refine F.ok sc_read_target (fun vs H Q E h => ?_) (fun cdv A outer s H vs Q E hr h => ?_)
  · obtain ⟨l, t, g, rfl, _⟩ := h
    rfl
  · obtain ⟨l, t, g, rfl, hl, lt, lg, ht, hg, k⟩ := h
    refine ⟨_, PSs.nox (C8.pss_cut (ps_if (PW.pt (pw_and (pt_cmpR op_eq (pe_callB call_len_seq rfl T.f_len PySem.boot_len (pa_cons (pv 0) pa_nil)) pe_int (nomark _)) (pw_and1 (pt_val (pe_c c_is_address hr (by decide) rfl (pa_cons (pe_ix ix_list (pv 0) pe_int (fun _ _ => rfl)) pa_nil)))))) (pss_one (ps_ret (pe_disp (pps_cons pe_str (pe_ix ix_list (pv 0) pe_int (fun _ _ => rfl)) (pps_cons pe_str pe_str pps_nil)) rfl rfl (by simp) (by decide)))) pss_nil) (C8.pss_cut (ps_if (PW.pt (pw_and (pt_cmpR op_eq (pe_callB call_len_seq rfl T.f_len PySem.boot_len (pa_cons (pv 0) pa_nil)) pe_int (nomark _)) (pw_and (pt_val (pe_c c_is_address hr (by decide) rfl (pa_cons (pe_ix ix_list (pv 0) pe_int (fun _ _ => rfl)) pa_nil))) (pw_and1 (pt_val (pe_c c_is_tag hr (by decide) rfl (pa_cons (pe_ix ix_list (pv 0) pe_int (fun _ _ => rfl)) pa_nil))))))) (pss_one (ps_ret (pe_disp (pps_cons pe_str (pe_ix ix_list (pv 0) pe_int (fun _ _ => rfl)) (pps_cons pe_str (pe_ix ix_list (pv 0) pe_int (fun _ _ => rfl)) pps_nil)) rfl rfl (by simp) (by decide)))) pss_nil) (pss_one (ps_ret pe_non)))), ?_⟩
    unfold tgW at hl
    rcases hg with rfl | ⟨hg, hg2⟩
    · rw [if_pos (show ("" : Str).length = 0 from rfl)] at hl
      refine ⟨fun _ _ => False, ?_, fun _ _ z => z.elim⟩
      refine ⟨_, rfl, l, _, rfl, .inl (SqL.of hl), rfl, _, rfl, iteT ⟨_, rfl, l, _, 0, _, rfl, rfl, SqL.of hl, rfl, t, rfl, lt, fun H1 s1 => ⟨_, rfl, ?_⟩⟩⟩
      rw [ht]
      refine iteT fun p hp => ?_
      have h3 := s1.trans (same_upd (o := .dK []) hp)
      refine ⟨_, rfl, l, _, 0, _, rfl, rfl, SqL.of (h3 _ _ hl), rfl, upd_same, dkOf ["target", "target_tag"] [.str t, .str ""], rfl, by show 2 ≤ 15; decide, ?_⟩
      rw [upd_upd, merge_dk0 rfl (by decide +kernel)]
      exact k p _ (s1.trans (same_upd hp)) (fresh_of s1 hp) upd_same
    · rw [if_neg hg] at hl
      refine ⟨fun σ' H' => σ' = [some (.ref l)] ∧ H' = H, ⟨_, rfl, l, _, rfl, .inl (SqL.of hl), rfl, _, rfl, iteF ⟨rfl, rfl⟩⟩, ?_⟩
      rintro σ' H' ⟨rfl, rfl⟩
      refine ⟨fun _ _ => False, ?_, fun _ _ z => z.elim⟩
      refine ⟨_, rfl, l, _, rfl, .inl (SqL.of hl), rfl, _, rfl, iteT ⟨_, rfl, l, _, 0, _, rfl, rfl, SqL.of hl, rfl, t, rfl, lt, fun H1 s1 => ⟨_, rfl, ?_⟩⟩⟩
      rw [ht]
      refine iteT ⟨_, rfl, l, _, 1, _, rfl, rfl, SqL.of (s1 _ _ hl), rfl, g, rfl, lg, fun H2 s2 => ⟨_, rfl, ?_⟩⟩
      rw [hg2]
      refine iteT fun p hp => ?_
      have h3 := (s1.trans s2).trans (same_upd (o := .dK []) hp)
      refine ⟨_, rfl, l, _, 0, _, rfl, rfl, SqL.of (h3 _ _ hl), rfl, _, rfl, l, _, 1, _, rfl, rfl, SqL.of (h3 _ _ hl), rfl, upd_same, dkOf ["target", "target_tag"] [.str t, .str g], rfl, by show 2 ≤ 15; decide, ?_⟩
      rw [upd_upd, merge_dk0 rfl (by decide +kernel)]
      exact k p _ ((s1.trans s2).trans (same_upd hp)) (fresh_of (s1.trans s2) hp) upd_same
/-- what a line of one word says -/
inductive Sing : Str → Str → V → Prop
  | seq {w : Str} {n : Int} (h : numV w 999999 = .int n) : Sing "seq" w (.int n)
  | stay {w : Str} {n : Int} (h : numV w 9999 = .int n) : Sing "stay" w (.int n)
  | goal {w : Str} (h : (splitB w).isSome = true) : Sing "goal" w (.str w)
  | call {w : Str} (h : tagB w = true) : Sing "call" w (.str w)
  | way {w : Str} (h : tagB w = true) : Sing "way" w (.str w)
def spSingle : Sp := fun vs H Q _ => ∃ key w x, vs = [.str key, .str w] ∧ w.length ≤ 1000 ∧ Sing key w x ∧ ∀ d H', Same H H' → H d = none → H' d = some (.dK (dkOf [key] [x])) → Q (.ref d) H'
theorem ok_read_single {P : Program} {w : World} {K : PySem.W.Frag} {mg : Str → Option Value} {base : Heap} {f : Addr} {fd : FuncData} (T : Tx K mg) (c_is_address : C8.Cal P w K mg base 4 "is_address" spIsAddr []) (c_is_tag : C8.Cal P w K mg base 2 "is_tag" spTag []) (c_read_number : C8.Cal P w K mg base 2 "read_number" spNum [])
    (F : FunD K "_read_single" "_read_single" (defArgs s_read_single) (defBody s_read_single) (defScope s_read_single) [] [] f fd) : FnOk P w K mg base CX0 5 f fd ["key", "word"] spSingle := by
  refine F.ok sc_read_single (fun vs H Q E h => ?_) (fun cdv A outer s H vs Q E hr h => ?_)
  · obtain ⟨key, w, x, rfl, _⟩ := h
    rfl
  · obtain ⟨key, w, x, rfl, lw, hs, k⟩ := h
    refine ⟨_, PSs.nox (C8.pss_cut (ps_if (PW.pt (pw_or (pt_cmpR op_eq (pv 0) pe_str (nomark _)) (pw_or1 (pt_cmpR op_eq (pv 0) pe_str (nomark _))))) (pss_cons (ps_set (i := 2) sc_read_single.nd rfl (Or.inl rfl) (pe_c c_read_number hr (by decide) rfl (pa_cons (pv 1) (pa_cons (pe_ifExp (pt_cmpR op_eq (pv 0) pe_str (nomark _)) (pgI T.g_GREATEST_SEQ) (pgI T.g_LONGEST_STAY)) pa_nil)))) (pss_one (ps_ret (pe_ifExp (pt_cmpR op_notN (pv 2) pe_non (nomark _)) (pe_disp (pps_cons (pv 0) (pv 2) pps_nil) rfl rfl (by simp) (by decide)) pe_non)))) pss_nil) (pss_cons (ps_set (i := 3) sc_read_single.nd rfl (Or.inl rfl) (pe_ifExp (pt_cmpR op_eq (pv 0) pe_str (nomark _)) (pe_c c_is_address hr (by decide) rfl (pa_cons (pv 1) pa_nil)) (pe_c c_is_tag hr (by decide) rfl (pa_cons (pv 1) pa_nil)))) (pss_one (ps_ret (pe_ifExp (pt_val (pv 3)) (pe_disp (pps_cons (pv 0) (pv 1) pps_nil) rfl rfl (by simp) (by decide)) pe_non))))), ?_⟩
    cases hs with
    | @seq _ n h =>
      refine ⟨fun _ _ => False, ?_, fun _ _ z => z.elim⟩
      refine ⟨_, rfl, rfl, _, rfl, iteT ⟨_, rfl, _, rfl, rfl, _, rfl, iteT ⟨w, 999999, rfl, lw, fun H1 s1 => ?_⟩⟩⟩
      rw [h]
      refine ⟨_, rfl, rfl, _, rfl, iteT fun p hp => ⟨_, rfl, _, rfl, upd_same, dkOf ["seq"] [.int n], rfl, by show 1 ≤ 15; decide, ?_⟩⟩
      rw [upd_upd, merge_dk0 rfl (by decide +kernel)]
      exact k p _ (s1.trans (same_upd hp)) (fresh_of s1 hp) upd_same
    | @stay _ n h =>
      refine ⟨fun _ _ => False, ?_, fun _ _ z => z.elim⟩
      refine ⟨_, rfl, rfl, _, rfl, iteF ⟨_, rfl, rfl, _, rfl, iteT ⟨_, rfl, _, rfl, rfl, _, rfl, iteF ⟨w, 9999, rfl, lw, fun H1 s1 => ?_⟩⟩⟩⟩
      rw [h]
      refine ⟨_, rfl, rfl, _, rfl, iteT fun p hp => ⟨_, rfl, _, rfl, upd_same, dkOf ["stay"] [.int n], rfl, by show 1 ≤ 15; decide, ?_⟩⟩
      rw [upd_upd, merge_dk0 rfl (by decide +kernel)]
      exact k p _ (s1.trans (same_upd hp)) (fresh_of s1 hp) upd_same
    | goal h =>
      refine ⟨fun σ' H' => σ' = [some (.str "goal"), some (.str w), none, none] ∧ H' = H, ⟨_, rfl, rfl, _, rfl, iteF ⟨_, rfl, rfl, _, rfl, iteF ⟨rfl, rfl⟩⟩⟩, ?_⟩
      rintro σ' H' ⟨rfl, rfl⟩
      refine ⟨_, rfl, rfl, _, rfl, iteT ⟨_, rfl, w, rfl, lw, fun H1 s1 => ?_⟩⟩
      rw [h]
      refine ⟨_, rfl, _, rfl, iteT fun p hp => ⟨_, rfl, _, rfl, upd_same, dkOf ["goal"] [.str w], rfl, by show 1 ≤ 15; decide, ?_⟩⟩
      rw [upd_upd, merge_dk0 rfl (by decide +kernel)]
      exact k p _ (s1.trans (same_upd hp)) (fresh_of s1 hp) upd_same
    | call h =>
      refine ⟨fun σ' H' => σ' = [some (.str "call"), some (.str w), none, none] ∧ H' = H, ⟨_, rfl, rfl, _, rfl, iteF ⟨_, rfl, rfl, _, rfl, iteF ⟨rfl, rfl⟩⟩⟩, ?_⟩
      rintro σ' H' ⟨rfl, rfl⟩
      refine ⟨_, rfl, rfl, _, rfl, iteF ⟨_, rfl, w, rfl, lw, fun H1 s1 => ?_⟩⟩
      rw [h]
      refine ⟨_, rfl, _, rfl, iteT fun p hp => ⟨_, rfl, _, rfl, upd_same, dkOf ["call"] [.str w], rfl, by show 1 ≤ 15; decide, ?_⟩⟩
      rw [upd_upd, merge_dk0 rfl (by decide +kernel)]
      exact k p _ (s1.trans (same_upd hp)) (fresh_of s1 hp) upd_same
    | way h =>
      refine ⟨fun σ' H' => σ' = [some (.str "way"), some (.str w), none, none] ∧ H' = H, ⟨_, rfl, rfl, _, rfl, iteF ⟨_, rfl, rfl, _, rfl, iteF ⟨rfl, rfl⟩⟩⟩, ?_⟩
      rintro σ' H' ⟨rfl, rfl⟩
      refine ⟨_, rfl, rfl, _, rfl, iteF ⟨_, rfl, w, rfl, lw, fun H1 s1 => ?_⟩⟩
      rw [h]
      refine ⟨_, rfl, _, rfl, iteT fun p hp => ⟨_, rfl, _, rfl, upd_same, dkOf ["way"] [.str w], rfl, by show 1 ≤ 15; decide, ?_⟩⟩
      rw [upd_upd, merge_dk0 rfl (by decide +kernel)]
      exact k p _ (s1.trans (same_upd hp)) (fresh_of s1 hp) upd_same
end K5
set_option maxHeartbeats 4000000
namespace K5
open PySem PySem.Spec PyProof.Rows L2 SX TK TKS
open C8 (pe_c)
/-! ### a line of a letter, read -/
theorem cutV_1 (x : V) (xs : List V) : cutV (x :: xs) (some 1) none = xs := by
  unfold cutV
  have a : HT.sIx (x :: xs).length 0 (some 1) = 1 := by
    unfold HT.sIx
    simp
  have b : HT.sIx (x :: xs).length (x :: xs).length none = (x :: xs).length := by rfl
  rw [a, b]
  simp
theorem at_hd (x : Str) (l : List Str) : atI ((x :: l).map V.str) 0 = some (.str x) := atC (V.str x) _
def spLine : Sp := fun vs H Q _ => ∃ (key line : Str) (ws : List Str), vs = [.str key, .str line] ∧ Txt.split line " " = ws ∧ line.length ≤ 3000 ∧ (∀ z ∈ ws, z.length ≤ 1000) ∧ ws.length ≤ 1000 ∧
  ((∃ w r, ws = w :: r ∧ w ≠ key ∧ ∀ H', Same H H' → Q .non H')
  ∨ (∃ o t, key = "from" ∧ ws = ([("from" : Str), o, t] : List Str) ∧ (splitB o).isSome = true ∧ tagB t = true ∧ ∀ d H', Same H H' → H d = none → H' d = some (.dK (dkOf ["origin", "origin_tag"] [.str o, .str t])) → Q (.ref d) H')
  ∨ (∃ t g, key = "to" ∧ ws = (("to" : Str) :: tgW t g : List Str) ∧ (splitB t).isSome = true ∧ (g = "" ∨ (g.length ≠ 0 ∧ tagB g = true)) ∧ ∀ d H', Same H H' → H d = none → H' d = some (.dK (dkOf ["target", "target_tag"] [.str t, .str g])) → Q (.ref d) H')
  ∨ (∃ r o, key = "offer" ∧ ws = (("offer" : Str) :: r : List Str) ∧ readO r = some o ∧ ∀ d x H', Same H H' → H d = none → OffAt H' x o → H' d = some (.dK (dkOf ["offer"] [x])) → Q (.ref d) H')
  ∨ (∃ w x, ws = [key, w] ∧ Sing key w x ∧ ∀ d H', Same H H' → H d = none → H' d = some (.dK (dkOf [key] [x])) → Q (.ref d) H'))
theorem ok_read_line {P : Program} {w : World} {K : PySem.W.Frag} {mg : Str → Option Value} {base : Heap} {f : Addr} {fd : FuncData} (T : Tx K mg) (c_read_origin : C8.Cal P w K mg base 5 "_read_origin" spOrigin []) (c_read_target : C8.Cal P w K mg base 5 "_read_target" spTarget []) (c_read_single : C8.Cal P w K mg base 5 "_read_single" spSingle []) (c_read_offer : C8.Cal P w K mg base 4 "read_offer" spRead [])
    (F : FunD K "_read_line" "_read_line" (defArgs s_read_line) (defBody s_read_line) (defScope s_read_line) [] [] f fd) : FnOk P w K mg base CX0 6 f fd ["key", "line"] spLine := by
  refine F.ok sc_read_line (fun vs H Q E h => ?_) (fun cdv A outer s H vs Q E hr h => ?_)
  · obtain ⟨key, line, ws, rfl, _⟩ := h
    rfl
  · obtain ⟨key, line, ws, rfl, ew, ll, lw, lz, k⟩ := h
    have hz2 : line.length + 2 ≤ sizeLine := Nat.le_trans (Nat.add_le_add_right ll 2) (by decide)
    refine ⟨_, PSs.nox (pss_cons (ps_set (i := 2) sc_read_line.nd rfl (Or.inl rfl) (pe_split (pv 1) pe_str)) (C8.pss_cut (ps_if (pt_cmpR op_ne (pe_ix ix_list (pv 2) pe_int (fun _ _ => rfl)) (pv 0) (nomark _)) (pss_one (ps_ret pe_non)) pss_nil) (C8.pss_cut (ps_if (pt_cmpR op_eq (pv 0) pe_str (nomark _)) (pss_one (ps_ret (pe_c c_read_origin hr (by decide) rfl (pa_cons (pe_slice sl_list (pv 2) (po_some pe_int) po_none) pa_nil)))) pss_nil) (C8.pss_cut (ps_if (pt_cmpR op_eq (pv 0) pe_str (nomark _)) (pss_one (ps_ret (pe_c c_read_target hr (by decide) rfl (pa_cons (pe_slice sl_list (pv 2) (po_some pe_int) po_none) pa_nil)))) pss_nil) (C8.pss_cut (ps_if (pt_cmpR op_eq (pv 0) pe_str (nomark _)) (pss_cons (ps_set (i := 3) sc_read_line.nd rfl (Or.inl rfl) (pe_c c_read_offer hr (by decide) rfl (pa_cons (pe_slice sl_list (pv 2) (po_some pe_int) po_none) pa_nil))) (pss_one (ps_ret (pe_ifExp (pt_cmpR op_notN (pv 3) pe_non (nomark _)) (pe_disp (pps_cons pe_str (pv 3) pps_nil) rfl rfl (by simp) (by decide)) pe_non)))) pss_nil) (pss_one (ps_ret (pe_ifExp (pt_cmpR op_eq (pe_callB call_len_seq rfl T.f_len PySem.boot_len (pa_cons (pv 2) pa_nil)) pe_int (nomark _)) (pe_c c_read_single hr (by decide) rfl (pa_cons (pv 0) (pa_cons (pe_ix ix_list (pv 2) pe_int (fun _ _ => rfl)) pa_nil))) pe_non)))))))), ?_⟩
    refine ⟨_, rfl, ⟨_, rfl⟩, line, " ", rfl, rfl, by decide +kernel, hz2, fun p hp => ?_⟩
    rw [ew]
    have s1 := same_upd (o := .lst (ws.map V.str)) hp
    have e1 : (upd H p (.lst (ws.map V.str))) p = some (.lst (ws.map V.str)) := upd_same
    generalize (upd H p (.lst (ws.map V.str))) = H1 at *
    rcases k with ⟨w, r, rfl, hw, k⟩ | ⟨o, t, rfl, rfl, ho, ht, k⟩ | ⟨t, g, rfl, rfl, ht, hg, k⟩ | ⟨r, o, rfl, rfl, ho, k⟩ | ⟨w, x, rfl, hs, k⟩
    · refine ⟨fun _ _ => False, ?_, fun _ _ z => z.elim⟩
      refine ⟨_, rfl, p, _, 0, .str w, rfl, rfl, SqL.of e1, at_hd _ _, _, rfl, rfl, _, rfl, ?_⟩
      rw [decide_eq_false (show ¬ V.str w = V.str key from fun q => hw (V.str.inj q))]
      exact iteT (k _ s1)
    · refine ⟨fun σ' H' => σ' = [some (.str "from"), some (.str line), some (.ref p), none] ∧ H' = H1, ⟨_, rfl, p, _, 0, .str "from", rfl, rfl, SqL.of e1, rfl, _, rfl, rfl, _, rfl, iteF ⟨rfl, rfl⟩⟩, ?_⟩
      rintro σ' H2 ⟨rfl, e⟩
      obtain rfl : H1 = H2 := e.symm
      refine ⟨fun _ _ => False, ?_, fun _ _ z => z.elim⟩
      refine ⟨_, rfl, rfl, _, rfl, iteT ⟨_, rfl, 1, rfl, p, _, rfl, SqL.of e1, fun q hq => ?_⟩⟩
      refine ⟨q, o, t, rfl, ?_, lw o (by simp), lw t (by simp), ho, ht, fun d H2 s2 hd e2 => k d H2 ((s1.trans (same_upd hq)).trans s2) (fresh_of (s1.trans (same_upd hq)) hd) e2⟩
      rw [upd_same]
      exact congrArg (fun z => some (HO.lst z)) (cutV_1 _ _)
    · refine ⟨fun σ' H' => σ' = [some (.str "to"), some (.str line), some (.ref p), none] ∧ H' = H1, ⟨_, rfl, p, _, 0, .str "to", rfl, rfl, SqL.of e1, at_hd _ _, _, rfl, rfl, _, rfl, iteF ⟨rfl, rfl⟩⟩, ?_⟩
      rintro σ' H2 ⟨rfl, e⟩
      obtain rfl : H1 = H2 := e.symm
      refine ⟨fun σ' H' => σ' = [some (.str "to"), some (.str line), some (.ref p), none] ∧ H' = H1, ⟨_, rfl, rfl, _, rfl, iteF ⟨rfl, rfl⟩⟩, ?_⟩
      rintro σ' H2 ⟨rfl, e⟩
      obtain rfl : H1 = H2 := e.symm
      refine ⟨fun _ _ => False, ?_, fun _ _ z => z.elim⟩
      refine ⟨_, rfl, rfl, _, rfl, iteT ⟨_, rfl, 1, rfl, p, _, rfl, SqL.of e1, fun q hq => ?_⟩⟩
      refine ⟨q, t, g, rfl, ?_, lw t (by unfold tgW; split <;> simp), ?_, ht, hg, fun d H2 s2 hd e2 => k d H2 ((s1.trans (same_upd hq)).trans s2) (fresh_of (s1.trans (same_upd hq)) hd) e2⟩
      · rw [upd_same]
        exact congrArg (fun z => some (HO.lst z)) (cutV_1 _ _)
      · rcases hg with rfl | ⟨hg, _⟩
        · decide
        · exact lw g (by unfold tgW; rw [if_neg hg]; simp)
    · refine ⟨fun σ' H' => σ' = [some (.str "offer"), some (.str line), some (.ref p), none] ∧ H' = H1, ⟨_, rfl, p, _, 0, .str "offer", rfl, rfl, SqL.of e1, at_hd _ _, _, rfl, rfl, _, rfl, iteF ⟨rfl, rfl⟩⟩, ?_⟩
      rintro σ' H2 ⟨rfl, e⟩
      obtain rfl : H1 = H2 := e.symm
      refine ⟨fun σ' H' => σ' = [some (.str "offer"), some (.str line), some (.ref p), none] ∧ H' = H1, ⟨_, rfl, rfl, _, rfl, iteF ⟨rfl, rfl⟩⟩, ?_⟩
      rintro σ' H2 ⟨rfl, e⟩
      obtain rfl : H1 = H2 := e.symm
      refine ⟨fun σ' H' => σ' = [some (.str "offer"), some (.str line), some (.ref p), none] ∧ H' = H1, ⟨_, rfl, rfl, _, rfl, iteF ⟨rfl, rfl⟩⟩, ?_⟩
      rintro σ' H2 ⟨rfl, e⟩
      obtain rfl : H1 = H2 := e.symm
      refine ⟨fun _ _ => False, ?_, fun _ _ z => z.elim⟩
      refine ⟨_, rfl, rfl, _, rfl, iteT ⟨_, rfl, 1, rfl, p, _, rfl, SqL.of e1, fun q hq => ?_⟩⟩
      refine ⟨q, r, rfl, ?_, fun z hz => lw z (List.mem_cons_of_mem _ hz), by rw [List.length_cons] at lz; omega, fun x H2 s2 hx => ?_⟩
      · rw [upd_same]
        exact congrArg (fun z => some (HO.lst z)) (cutV_1 _ _)
      · rw [ho] at hx
        have hx2 : OffAt H2 x o := hx
        obtain ⟨b, f, rfl, _⟩ := id hx2
        have s3 := (s1.trans (same_upd hq)).trans s2
        refine ⟨_, rfl, rfl, _, rfl, iteT fun y hy => ⟨_, rfl, upd_same, dkOf ["offer"] [.ref b], rfl, by show 1 ≤ 15; decide, ?_⟩⟩
        rw [upd_upd, merge_dk0 rfl (by decide +kernel)]
        exact k y _ _ (s3.trans (same_upd hy)) (fresh_of s3 hy) (hx2.same (same_upd hy)) upd_same
    · have hk : key ≠ "from" ∧ key ≠ "to" ∧ key ≠ "offer" := by
        cases hs <;> decide +kernel
      have d1 : ∀ z : Str, key ≠ z → decide (V.str key = V.str z) = false := fun z h => decide_eq_false fun q => h (V.str.inj q)
      refine ⟨fun σ' H' => σ' = [some (.str key), some (.str line), some (.ref p), none] ∧ H' = H1, ⟨_, rfl, p, _, 0, .str key, rfl, rfl, SqL.of e1, rfl, _, rfl, rfl, _, rfl, ?_⟩, ?_⟩
      · rw [decide_eq_true rfl]
        exact iteF ⟨rfl, rfl⟩
      rintro σ' H2 ⟨rfl, e⟩
      obtain rfl : H1 = H2 := e.symm
      refine ⟨fun σ' H' => σ' = [some (.str key), some (.str line), some (.ref p), none] ∧ H' = H1, ⟨_, rfl, rfl, _, rfl, ?_⟩, ?_⟩
      · rw [d1 _ hk.1]
        exact iteF ⟨rfl, rfl⟩
      rintro σ' H2 ⟨rfl, e⟩
      obtain rfl : H1 = H2 := e.symm
      refine ⟨fun σ' H' => σ' = [some (.str key), some (.str line), some (.ref p), none] ∧ H' = H1, ⟨_, rfl, rfl, _, rfl, ?_⟩, ?_⟩
      · rw [d1 _ hk.2.1]
        exact iteF ⟨rfl, rfl⟩
      rintro σ' H2 ⟨rfl, e⟩
      obtain rfl : H1 = H2 := e.symm
      refine ⟨fun σ' H' => σ' = [some (.str key), some (.str line), some (.ref p), none] ∧ H' = H1, ⟨_, rfl, rfl, _, rfl, ?_⟩, ?_⟩
      · rw [d1 _ hk.2.2]
        exact iteF ⟨rfl, rfl⟩
      rintro σ' H2 ⟨rfl, e⟩
      obtain rfl : H1 = H2 := e.symm
      refine ⟨_, rfl, p, _, rfl, .inl (SqL.of e1), rfl, _, rfl, iteT ⟨_, rfl, _, rfl, p, _, 1, _, rfl, rfl, SqL.of e1, rfl, ?_⟩⟩
      exact ⟨key, w, x, rfl, lw w (by simp), hs, fun d H2 s2 hd e2 => k d H2 (s1.trans s2) (fresh_of s1 hd) e2⟩
end K5
set_option maxHeartbeats 4000000
namespace K5
open PySem PySem.Spec PyProof.Rows L2 SX TK TKS
open C8 (pe_c)
/-! ### a letter that can be read -/
def codeV : Option Int → V
  | none => .non
  | some c => .int c
structure GLet (L : Ltr) (o : Option Off) (c : Option Int) : Prop where
  verb : L.verb ∈ verbsL
  code : L.code = codeV c
  codeOk : ∀ n, c = some n → n ∈ codesL
  call : tagB L.call = true
  origin : (splitB L.origin).isSome = true
  otag : tagB L.otag = true
  target : (splitB L.target).isSome = true
  ttag : L.ttag = "" ∨ (L.ttag.length ≠ 0 ∧ tagB L.ttag = true)
  seq0 : 0 ≤ L.seq
  seq1 : L.seq ≤ 999999
  way : tagB L.way = true
  off : ∀ u, o = some u → readO (Txt.split (wordsS u) " ") = some u ∧ OffOk u ∧ 10 ∉ TL.tl (wordsS u) ∧ PyData.strOk (wordsS u) = true ∧ (∀ z ∈ Txt.split (wordsS u) " ", z.length ≤ 1000) ∧ (Txt.split (wordsS u) " ").length ≤ 999
  stay : L.stay = .non ∨ ∃ n : Int, L.stay = .int n ∧ 0 ≤ n ∧ n ≤ 9999
  goal : L.goal = .non ∨ ∃ z : Str, L.goal = .str z ∧ (splitB z).isSome = true
theorem tm_free : ∀ c ∈ TL.tl zTM, c ≠ 32 ∧ c ≠ 10 := by decide +kernel
theorem nm_free : ∀ c ∈ TL.tl zNM, c ≠ 32 ∧ c ≠ 10 := by decide +kernel
theorem tag_free {z : Str} (h : tagB z = true) : 32 ∉ TL.tl z ∧ 10 ∉ TL.tl z ∧ z.length ≤ 16 := by
  obtain ⟨_, h2, h3⟩ := consB_len h
  exact ⟨fun m => (tm_free _ (h3 _ m)).1 rfl, fun m => (tm_free _ (h3 _ m)).2 rfl, by rw [len_eq]; omega⟩
theorem name_free {z : Str} (h : nameB z = true) : 32 ∉ TL.tl z ∧ 10 ∉ TL.tl z ∧ z.length ≤ 16 := by
  unfold nameB at h
  rw [Bool.and_eq_true] at h
  obtain ⟨_, h2, h3⟩ := consB_len h.1
  exact ⟨fun m => (nm_free _ (h3 _ m)).1 rfl, fun m => (nm_free _ (h3 _ m)).2 rfl, by rw [len_eq]; omega⟩
theorem addr_free {z : Str} (h : (splitB z).isSome = true) : 32 ∉ TL.tl z ∧ 10 ∉ TL.tl z ∧ z.length ≤ 33 := by
  unfold splitB at h
  cases e : Txt.split z "@" with
  | nil => rw [e] at h; cases h
  | cons u r => cases r with
    | nil => rw [e] at h; cases h
    | cons w r => cases r with
      | cons _ _ => rw [e] at h; cases h
      | nil =>
        rw [e] at h
        obtain ⟨ez, _, _⟩ := split_parts e
        by_cases g : (nameB u && nameB w) = true
        · rw [Bool.and_eq_true] at g
          obtain ⟨a1, a2, a3⟩ := name_free g.1
          obtain ⟨b1, b2, b3⟩ := name_free g.2
          have el := congrArg List.length ez
          rw [List.length_append, List.length_cons, ← len_eq, ← len_eq, ← len_eq] at el
          rw [ez]
          simp only [List.mem_append, List.mem_cons]
          refine ⟨?_, ?_, by omega⟩
          · rintro (q | q | q)
            · exact a1 q
            · cases q
            · exact b1 q
          · rintro (q | q | q)
            · exact a2 q
            · cases q
            · exact b2 q
        · have e2 : splitO [u, w] = none := by
            show (if (nameB u && nameB w) = true then some (u, w) else none) = none
            rw [if_neg g]
          rw [e2] at h
          cases h
theorem num_free {i : Int} (h0 : 0 ≤ i) : 32 ∉ TL.tl (numS i) ∧ 10 ∉ TL.tl (numS i) := by
  rw [numS_tl h0]
  exact ⟨TL.numL_free (by omega), TL.numL_free (by omega)⟩
theorem cut_sp {ws : List Str} (hne : ws ≠ []) (h : ∀ w ∈ ws, 32 ∉ TL.tl w) : Txt.split (Txt.join " " ws) " " = ws :=
  TL.split_join (y := " ") (s := 32) (S := []) (by decide +kernel) (by decide +kernel) hne h
theorem cut_nl {ws : List Str} (hne : ws ≠ []) (h : ∀ w ∈ ws, 10 ∉ TL.tl w) : Txt.split (Txt.join "\n" ws) "\n" = ws :=
  TL.split_join (y := "\n") (s := 10) (S := []) (by decide +kernel) (by decide +kernel) hne h
theorem tl_sp : TL.tl (" " : Str) = [32] := by decide +kernel
theorem tl_nl : TL.tl ("\n" : Str) = [10] := by decide +kernel
theorem tl_e : TL.tl Str.empty = [] := rfl
theorem join2 {a b p : Str} (h : TL.tl p = TL.tl a ++ [32]) : Str.empty ++ p ++ b = Txt.join " " [a, b] := by
  rw [show ∀ l, Txt.join " " l = Str.join " " l from fun l => TL.join_eq _ _]
  apply TL.ext_tl
  rw [TL.tl_join, TL.tl_append, TL.tl_append, tl_e, h, tl_sp]
  simp [TL.joinL]
theorem join3 {a b c p : Str} (h : TL.tl p = TL.tl a ++ [32]) : Str.empty ++ p ++ b ++ " " ++ c = Txt.join " " [a, b, c] := by
  rw [show ∀ l, Txt.join " " l = Str.join " " l from fun l => TL.join_eq _ _]
  apply TL.ext_tl
  rw [TL.tl_join, TL.tl_append, TL.tl_append, TL.tl_append, TL.tl_append, tl_e, h, tl_sp]
  simp [TL.joinL]
theorem text_join : ∀ l : List Str, textOf l = Txt.join "\n" (l ++ [("" : Str)]) := by
  intro l
  unfold textOf
  rw [show ∀ y l, Txt.join y l = Str.join y l from fun y l => TL.join_eq _ _]
  rw [show ∀ y l, Txt.join y l = Str.join y l from fun y l => TL.join_eq _ _]
  apply TL.ext_tl
  rw [TL.tl_join, TL.tl_join, tl_nl, show TL.tl ("" : Str) = [] from rfl]
  induction l with
  | nil => rfl
  | cons a r ih =>
    have e1 : ∀ m : List Str, TL.joinL [] ((a :: m).map fun z => TL.tl (z ++ ("\n" : Str))) = TL.tl a ++ ([10] ++ TL.joinL [] (m.map fun z => TL.tl (z ++ ("\n" : Str)))) := by
      intro m
      cases m with
      | nil =>
        show TL.tl (a ++ ("\n" : Str)) = _
        rw [TL.tl_append, tl_nl]
        rfl
      | cons b m =>
        show TL.tl (a ++ ("\n" : Str)) ++ ([] ++ TL.joinL [] _) = _
        rw [TL.tl_append, tl_nl, List.nil_append, List.append_assoc]
        rfl
    rw [List.map_map] at ih ⊢
    have e2 := e1 r
    refine e2.trans ?_
    have e3 : TL.joinL [10] ((a :: r ++ [("" : Str)]).map TL.tl) = TL.tl a ++ ([10] ++ TL.joinL [10] ((r ++ [("" : Str)]).map TL.tl)) := by
      cases r <;> rfl
    rw [e3]
    exact congrArg (fun z => TL.tl a ++ ([10] ++ z)) ih
theorem text_cut {l : List Str} (h : ∀ w ∈ l, 10 ∉ TL.tl w) : Txt.split (textOf l) "\n" = l ++ [("" : Str)] := by
  rw [text_join]
  refine cut_nl (by simp) fun w hw => ?_
  rcases List.mem_append.mp hw with q | q
  · exact h w q
  · rw [List.mem_singleton.mp q]
    exact List.not_mem_nil
theorem cut2 {a b p : Str} (h : TL.tl p = TL.tl a ++ [32]) (ha : 32 ∉ TL.tl a) (hb : 32 ∉ TL.tl b) : Txt.split (Str.empty ++ p ++ b) " " = [a, b] := by
  rw [join2 h]
  refine cut_sp (by simp) fun w hw => ?_
  simp only [List.mem_cons, List.not_mem_nil, or_false] at hw
  rcases hw with rfl | rfl
  · exact ha
  · exact hb
theorem cut3 {a b c p : Str} (h : TL.tl p = TL.tl a ++ [32]) (ha : 32 ∉ TL.tl a) (hb : 32 ∉ TL.tl b) (hc : 32 ∉ TL.tl c) : Txt.split (Str.empty ++ p ++ b ++ " " ++ c) " " = [a, b, c] := by
  rw [join3 h]
  refine cut_sp (by simp) fun w hw => ?_
  simp only [List.mem_cons, List.not_mem_nil, or_false] at hw
  rcases hw with rfl | rfl | rfl
  · exact ha
  · exact hb
  · exact hc
end K5
set_option maxHeartbeats 4000000
namespace K5
open PySem PySem.Spec PyProof.Rows L2 SX TK TKS
open C8 (pe_c)
theorem tm_ok : ∀ c ∈ TL.tl zTM, c < 0x110000 := by decide +kernel
theorem nm_ok : ∀ c ∈ TL.tl zNM, c < 0x110000 := by decide +kernel
theorem tag_ok {z : Str} (h : tagB z = true) : PyData.strOk z = true := ok_iff.mpr fun c hc => tm_ok _ ((consB_len h).2.2 c hc)
theorem name_okS {z : Str} (h : nameB z = true) : ∀ c ∈ TL.tl z, c < 0x110000 := fun c hc => by
  unfold nameB at h
  rw [Bool.and_eq_true] at h
  exact nm_ok _ ((consB_len h.1).2.2 c hc)
theorem addr_ok {z : Str} (h : (splitB z).isSome = true) : PyData.strOk z = true := by
  rw [ok_iff]
  unfold splitB at h
  cases e : Txt.split z "@" with
  | nil => rw [e] at h; cases h
  | cons u r => cases r with
    | nil => rw [e] at h; cases h
    | cons w r => cases r with
      | cons _ _ => rw [e] at h; cases h
      | nil =>
        rw [e] at h
        obtain ⟨ez, _, _⟩ := split_parts e
        by_cases g : (nameB u && nameB w) = true
        · rw [Bool.and_eq_true] at g
          intro c hc
          rw [ez, List.mem_append, List.mem_cons] at hc
          rcases hc with q | q | q
          · exact name_okS g.1 c q
          · rw [q]; decide
          · exact name_okS g.2 c q
        · have e2 : splitO [u, w] = none := by
            show (if (nameB u && nameB w) = true then some (u, w) else none) = none
            rw [if_neg g]
          rw [e2] at h
          cases h
theorem verbs_ok : ∀ z ∈ verbsL, PyData.strOk z = true ∧ 32 ∉ TL.tl z ∧ 10 ∉ TL.tl z := by decide +kernel
theorem GLet.lok {L : Ltr} {o : Option Off} {c : Option Int} (g : GLet L o c) : LOk L := by
  have a1 := tag_free g.call
  have a2 := addr_free g.origin
  have a3 := tag_free g.otag
  have a4 := addr_free g.target
  have a5 := tag_free g.way
  have a6 := verbs_len _ g.verb
  have s0 := g.seq0
  have s1 := g.seq1
  have tt : PyData.strOk L.ttag = true ∧ L.ttag.length ≤ 16 := by
    rcases g.ttag with e | ⟨_, e⟩
    · rw [e]
      exact ⟨by decide +kernel, by decide +kernel⟩
    · exact ⟨tag_ok e, (tag_free e).2.2⟩
  refine ⟨⟨(verbs_ok _ g.verb).1, tag_ok g.call, addr_ok g.origin, tag_ok g.otag, addr_ok g.target, tt.1, tag_ok g.way⟩, s0, by omega, by omega, by omega, by omega, by omega, by omega, by omega, by omega, ?_⟩
  rw [g.code]
  cases c with
  | none => exact .inl rfl
  | some n =>
    have h : 0 ≤ n ∧ n ≤ 99 := (by decide : ∀ c ∈ codesL, 0 ≤ c ∧ c ≤ 99) n (g.codeOk n rfl)
    exact .inr ⟨n, rfl, h.1, by omega⟩
theorem GLet.xok {L : Ltr} {o : Option Off} {c : Option Int} (g : GLet L o c) : XOk L o := by
  refine ⟨fun u e => (g.off u e).2.1, fun u e => (g.off u e).2.2.2.1, ?_, ?_⟩
  · rcases g.stay with e | ⟨n, e, h0, h1⟩
    · exact .inl e
    · exact .inr ⟨n, e, h0, by omega⟩
  · rcases g.goal with e | ⟨z, e, h⟩
    · exact .inl e
    · have := (addr_free h).2.2
      exact .inr ⟨z, e, addr_ok h, by omega⟩
/-! ### the lines that every letter has -/
def keyI : Nat → Str
  | 0 => "call"
  | 1 => "from"
  | 2 => "to"
  | 3 => "seq"
  | _ => "way"
def lineI (L : Ltr) : Nat → Str
  | 0 => Str.empty ++ "call " ++ L.call
  | 1 => Str.empty ++ "from " ++ L.origin ++ " " ++ L.otag
  | 2 => toS L
  | 3 => Str.empty ++ "seq " ++ numS L.seq
  | _ => Str.empty ++ "way " ++ L.way
def ksI : Nat → List Str
  | 0 => ["call"]
  | 1 => ["origin", "origin_tag"]
  | 2 => ["target", "target_tag"]
  | 3 => ["seq"]
  | _ => ["way"]
def zsI (L : Ltr) : Nat → List V
  | 0 => [.str L.call]
  | 1 => [.str L.origin, .str L.otag]
  | 2 => [.str L.target, .str L.ttag]
  | 3 => [.int L.seq]
  | _ => [.str L.way]
theorem toS_cut {L : Ltr} {o : Option Off} {c : Option Int} (g : GLet L o c) : Txt.split (toS L) " " = (("to" : Str) :: tgW L.target L.ttag : List Str) := by
  have a4 := addr_free g.target
  unfold toS tgW
  rcases g.ttag with e | ⟨h, e⟩
  · rw [e, if_neg (by decide +kernel), if_pos (show ("" : Str).length = 0 from rfl)]
    exact cut2 (by decide +kernel) (by decide +kernel) a4.1
  · rw [if_pos (by simpa using h), if_neg h]
    exact cut3 (by decide +kernel) (by decide +kernel) a4.1 (tag_free e).1
theorem need_line {L : Ltr} {o : Option Off} {c : Option Int} (g : GLet L o c) (i : Nat) {H : Hp} {Q : VK} {E : XK} (k : ∀ d H', Same H H' → H d = none → H' d = some (.dK (dkOf (ksI i) (zsI L i))) → Q (.ref d) H') : spLine [.str (keyI i), .str (lineI L i)] H Q E := by
  have ll := linesS_len g.lok
  have a1 := tag_free g.call
  have a2 := addr_free g.origin
  have a3 := tag_free g.otag
  have a4 := addr_free g.target
  have a5 := tag_free g.way
  have w2 : ∀ (x y : Str), x.length ≤ 1000 → y.length ≤ 1000 → ∀ z ∈ [x, y], z.length ≤ 1000 := by
    intro x y hx hy z hz
    simp only [List.mem_cons, List.not_mem_nil, or_false] at hz
    rcases hz with rfl | rfl
    · exact hx
    · exact hy
  match i, k with
  | 0, k => exact ⟨_, _, ["call", L.call], rfl, cut2 (by decide +kernel) (by decide +kernel) a1.1, ll _ (by simp [linesS, lineI]), w2 _ _ (by decide +kernel) (by omega), by simp, .inr (.inr (.inr (.inr ⟨_, _, rfl, .call g.call, k⟩)))⟩
  | 1, k => exact ⟨_, _, ["from", L.origin, L.otag], rfl, cut3 (by decide +kernel) (by decide +kernel) a2.1 a3.1, ll _ (by simp [linesS, lineI]), (fun z hz => by
      simp only [List.mem_cons, List.not_mem_nil, or_false] at hz
      rcases hz with rfl | rfl | rfl
      · decide +kernel
      · omega
      · omega), by simp, .inr (.inl ⟨_, _, rfl, rfl, g.origin, g.otag, k⟩)⟩
  | 2, k => exact ⟨_, _, _, rfl, toS_cut g, ll _ (by simp [linesS, lineI]), (fun z hz => by
      unfold tgW at hz
      rcases g.ttag with e | ⟨h, e⟩
      · rw [e, if_pos (show ("" : Str).length = 0 from rfl)] at hz
        exact w2 _ _ (by decide +kernel) (by omega) z hz
      · rw [if_neg h] at hz
        have := (tag_free e).2.2
        simp only [List.mem_cons, List.not_mem_nil, or_false] at hz
        rcases hz with rfl | rfl | rfl
        · decide +kernel
        · omega
        · omega), by unfold tgW; split <;> simp, .inr (.inr (.inl ⟨_, _, rfl, rfl, g.target, g.ttag, k⟩))⟩
  | 3, k => exact ⟨_, _, ["seq", numS L.seq], rfl, cut2 (by decide +kernel) (by decide +kernel) (num_free g.seq0).1, ll _ (by simp [linesS, lineI]), w2 _ _ (by decide +kernel) (Nat.le_trans (numS_len (by have := g.seq0; have := g.seq1; omega)) (by decide)), by simp, .inr (.inr (.inr (.inr ⟨_, _, rfl, .seq (num_back g.seq0 g.seq1 (by have := g.seq1; omega)), k⟩)))⟩
  | n + 4, k => exact ⟨_, _, ["way", L.way], rfl, cut2 (by decide +kernel) (by decide +kernel) a5.1, ll _ (by simp [linesS, lineI]), w2 _ _ (by decide +kernel) (by omega), by simp, .inr (.inr (.inr (.inr ⟨_, _, rfl, .way g.way, k⟩)))⟩
/-! ### the lines that a letter may have -/
def keyP : Nat → Str
  | 0 => "offer"
  | 1 => "stay"
  | _ => "goal"
def lineP (L : Ltr) (o : Option Off) : Nat → List Str
  | 0 => offL o
  | 1 => stayL L.stay
  | _ => goalL L.goal
/-- what stands for the part j -/
def XV (L : Ltr) (o : Option Off) (H : Hp) : Nat → V → Prop
  | 0, x => ∃ u, o = some u ∧ OffAt H x u
  | 1, x => x = L.stay
  | _, x => x = L.goal
theorem split_sp_ne (w : Str) : Txt.split w " " ≠ [] := by
  intro e
  have q := congrArg TL.tl (StrLaws.join_split w " ")
  rw [e, TL.tl_join] at q
  have q2 : TL.tl w = [] := q.symm
  have e2 : w = S [] := TL.ext_tl (by rw [q2])
  have e3 : Txt.split (S []) " " = [S []] := by decide +kernel
  rw [e2, e3] at e
  cases e
theorem cut_cons {a p : Str} (w : Str) (h : TL.tl p = TL.tl a ++ [32]) (ha : 32 ∉ TL.tl a) : Txt.split (Str.empty ++ p ++ w) " " = a :: Txt.split w " " := by
  have e1 := StrLaws.join_split w " "
  have e32 : (" " : Str) = S [32] := by decide +kernel
  have f1 : ∀ p ∈ Txt.split w " ", 32 ∉ TL.tl p := by
    rw [e32]
    exact StrLaws.split_free w 32
  have hne : Txt.split w " " ≠ [] := split_sp_ne w
  have e : Str.empty ++ p ++ w = Txt.join " " (a :: Txt.split w " ") := by
    rw [show ∀ l, Txt.join " " l = Str.join " " l from fun l => TL.join_eq _ _]
    apply TL.ext_tl
    rw [TL.tl_join, TL.tl_append, TL.tl_append, tl_e, h, tl_sp]
    have e2 := congrArg TL.tl e1
    rw [TL.tl_join, tl_sp] at e2
    cases q : Txt.split w " " with
    | nil => exact absurd q hne
    | cons b r =>
      rw [q] at e2
      show [] ++ (TL.tl a ++ [32]) ++ TL.tl w = TL.tl a ++ ([32] ++ TL.joinL [32] ((b :: r).map TL.tl))
      rw [e2, List.nil_append, List.append_assoc]
  rw [e]
  refine cut_sp (by simp) fun x hx => ?_
  rcases List.mem_cons.mp hx with rfl | q
  · exact ha
  · exact f1 x q
theorem poss_here {L : Ltr} {o : Option Off} {c : Option Int} (g : GLet L o c) (j : Nat) {z : Str} (hz : lineP L o j = [z]) {H : Hp} {Q : VK} {E : XK}
    (k : ∀ d x H', Same H H' → H d = none → XV L o H' j x → H' d = some (.dK (dkOf [keyP j] [x])) → Q (.ref d) H') : spLine [.str (keyP j), .str z] H Q E := by
  have ll : z.length ≤ 3000 := linesX_len g.lok g.xok z (by
    unfold linesX
    match j, hz with
    | 0, hz => rw [show offL o = [z] from hz]; simp
    | 1, hz => rw [show stayL L.stay = [z] from hz]; simp
    | n + 2, hz => rw [show goalL L.goal = [z] from hz]; simp)
  match j, hz, k with
  | 0, hz, k =>
    cases o with
    | none => cases hz
    | some u =>
      obtain ⟨r1, r2, r3, r4, r5, r6⟩ := g.off u rfl
      obtain rfl : Str.empty ++ "offer " ++ wordsS u = z := (List.cons.inj hz).1
      exact ⟨_, _, _, rfl, cut_cons (a := "offer") _ (by decide +kernel) (by decide +kernel), ll, (fun y hy => by
        rcases List.mem_cons.mp hy with rfl | q
        · decide +kernel
        · exact r5 y q), by rw [List.length_cons]; omega, .inr (.inr (.inr (.inl ⟨_, u, rfl, rfl, r1, fun d x H' s hd hx e => k d x H' s hd ⟨u, rfl, hx⟩ e⟩)))⟩
  | 1, hz, k =>
    rcases g.stay with e | ⟨n, e, h0, h1⟩
    · rw [show lineP L o 1 = stayL L.stay from rfl, e] at hz
      cases hz
    · rw [show lineP L o 1 = stayL L.stay from rfl, e] at hz
      obtain rfl : Str.empty ++ "stay " ++ numS n = z := (List.cons.inj hz).1
      have := numS_len (i := n) (by omega)
      exact ⟨_, _, ["stay", numS n], rfl, cut2 (by decide +kernel) (by decide +kernel) (num_free h0).1, ll, (fun y hy => by
        simp only [List.mem_cons, List.not_mem_nil, or_false] at hy
        rcases hy with rfl | rfl
        · decide +kernel
        · omega), by simp, .inr (.inr (.inr (.inr ⟨_, .int n, rfl, .stay (num_back h0 h1 (by omega)), fun d H' s hd q => k d _ H' s hd e.symm q⟩)))⟩
  | m + 2, hz, k =>
    rcases g.goal with e | ⟨y, e, h0⟩
    · rw [show lineP L o (m + 2) = goalL L.goal from rfl, e] at hz
      cases hz
    · rw [show lineP L o (m + 2) = goalL L.goal from rfl, e] at hz
      obtain rfl : Str.empty ++ "goal " ++ y = z := (List.cons.inj hz).1
      have ya := addr_free h0
      exact ⟨_, _, ["goal", y], rfl, cut2 (by decide +kernel) (by decide +kernel) ya.1, ll, (fun y hy => by
        simp only [List.mem_cons, List.not_mem_nil, or_false] at hy
        rcases hy with rfl | rfl
        · decide +kernel
        · omega), by simp, .inr (.inr (.inr (.inr ⟨_, .str y, rfl, .goal h0, fun d H' s hd q => k d _ H' s hd e.symm q⟩)))⟩
/-- the first word of the line j -/
theorem poss_not {L : Ltr} {o : Option Off} {c : Option Int} (g : GLet L o c) (j : Nat) {z key : Str} (hz : lineP L o j = [z]) (hk : keyP j ≠ key) {H : Hp} {Q : VK} {E : XK}
    (k : ∀ H', Same H H' → Q .non H') : spLine [.str key, .str z] H Q E := by
  have ll : z.length ≤ 3000 := linesX_len g.lok g.xok z (by
    unfold linesX
    match j, hz with
    | 0, hz => rw [show offL o = [z] from hz]; simp
    | 1, hz => rw [show stayL L.stay = [z] from hz]; simp
    | n + 2, hz => rw [show goalL L.goal = [z] from hz]; simp)
  match j, hz, hk with
  | 0, hz, hk =>
    cases o with
    | none => cases hz
    | some u =>
      obtain ⟨r1, r2, r3, r4, r5, r6⟩ := g.off u rfl
      obtain rfl : Str.empty ++ "offer " ++ wordsS u = z := (List.cons.inj hz).1
      exact ⟨_, _, _, rfl, cut_cons (a := "offer") _ (by decide +kernel) (by decide +kernel), ll, (fun y hy => by
        rcases List.mem_cons.mp hy with rfl | q
        · decide +kernel
        · exact r5 y q), by rw [List.length_cons]; omega, .inl ⟨_, _, rfl, hk, k⟩⟩
  | 1, hz, hk =>
    rcases g.stay with e | ⟨n, e, h0, h1⟩
    · rw [show lineP L o 1 = stayL L.stay from rfl, e] at hz
      cases hz
    · rw [show lineP L o 1 = stayL L.stay from rfl, e] at hz
      obtain rfl : Str.empty ++ "stay " ++ numS n = z := (List.cons.inj hz).1
      have := numS_len (i := n) (by omega)
      exact ⟨_, _, ["stay", numS n], rfl, cut2 (by decide +kernel) (by decide +kernel) (num_free h0).1, ll, (fun y hy => by
        simp only [List.mem_cons, List.not_mem_nil, or_false] at hy
        rcases hy with rfl | rfl
        · decide +kernel
        · omega), by simp, .inl ⟨_, _, rfl, hk, k⟩⟩
  | m + 2, hz, hk =>
    rcases g.goal with e | ⟨y, e, h0⟩
    · rw [show lineP L o (m + 2) = goalL L.goal from rfl, e] at hz
      cases hz
    · rw [show lineP L o (m + 2) = goalL L.goal from rfl, e] at hz
      obtain rfl : Str.empty ++ "goal " ++ y = z := (List.cons.inj hz).1
      have ya := addr_free h0
      exact ⟨_, _, ["goal", y], rfl, cut2 (by decide +kernel) (by decide +kernel) ya.1, ll, (fun y hy => by
        simp only [List.mem_cons, List.not_mem_nil, or_false] at hy
        rcases hy with rfl | rfl
        · decide +kernel
        · omega), by simp, .inl ⟨_, _, rfl, hk, k⟩⟩
end K5
set_option maxHeartbeats 4000000
namespace K5
open PySem PySem.Spec PyProof.Rows L2 SX TK TKS
open C8 (pe_c)
/-! ### read, of a letter's own text -/
theorem GLet.nonl {L : Ltr} {o : Option Off} {c : Option Int} (g : GLet L o c) : ∀ z ∈ linesX L o, 10 ∉ TL.tl z := by
  have a1 := (tag_free g.call).2.1
  have a2 := (addr_free g.origin).2.1
  have a3 := (tag_free g.otag).2.1
  have a4 := (addr_free g.target).2.1
  have a5 := (tag_free g.way).2.1
  have a6 := (verbs_ok _ g.verb).2.2
  have a7 := (num_free g.seq0).2
  have cat : ∀ {x y : Str}, 10 ∉ TL.tl x → 10 ∉ TL.tl y → 10 ∉ TL.tl (x ++ y) := fun hx hy => by
    rw [TL.tl_append, List.mem_append]
    exact fun h => h.elim hx hy
  have e0 : 10 ∉ TL.tl Str.empty := List.not_mem_nil
  intro z hz
  unfold linesX at hz
  rw [List.mem_append, List.mem_append, List.mem_append] at hz
  rcases hz with ((hz | hz) | hz) | hz
  · simp only [linesS, List.mem_cons, List.not_mem_nil, or_false] at hz
    rcases hz with rfl | rfl | rfl | rfl | rfl | rfl
    · unfold headS
      rw [g.code]
      cases c with
      | none => exact cat (cat e0 (by decide +kernel)) a6
      | some n =>
        have h : 0 ≤ n ∧ n ≤ 99 := (by decide : ∀ c ∈ codesL, 0 ≤ c ∧ c ≤ 99) n (g.codeOk n rfl)
        exact cat (cat (cat (cat e0 (by decide +kernel)) (num_free h.1).2) (by decide +kernel)) a6
    · exact cat (cat e0 (by decide +kernel)) a1
    · exact cat (cat (cat (cat e0 (by decide +kernel)) a2) (by decide +kernel)) a3
    · unfold toS
      split
      · rename_i h
        rcases g.ttag with e | ⟨_, e⟩
        · rw [e] at h
          exact absurd h (by decide +kernel)
        · exact cat (cat (cat (cat e0 (by decide +kernel)) a4) (by decide +kernel)) (tag_free e).2.1
      · exact cat (cat e0 (by decide +kernel)) a4
    · exact cat (cat e0 (by decide +kernel)) a7
    · exact cat (cat e0 (by decide +kernel)) a5
  · cases o with
    | none => cases hz
    | some u =>
      rw [List.mem_singleton.mp hz]
      exact cat (cat e0 (by decide +kernel)) (g.off u rfl).2.2.1
  · rcases g.stay with e | ⟨n, e, h0, _⟩
    · rw [e] at hz
      cases hz
    · rw [e] at hz
      rw [List.mem_singleton.mp hz]
      exact cat (cat e0 (by decide +kernel)) (num_free h0).2
  · rcases g.goal with e | ⟨y, e, h0⟩
    · rw [e] at hz
      cases hz
    · rw [e] at hz
      rw [List.mem_singleton.mp hz]
      exact cat (cat e0 (by decide +kernel)) (addr_free h0).2.1
theorem head_cut {L : Ltr} {o : Option Off} {c : Option Int} (g : GLet L o c) : Txt.split (headS L) " " = headW L.verb c := by
  have a6 := (verbs_ok _ g.verb).2.1
  unfold headS
  rw [g.code]
  cases c with
  | none => exact cut2 (by decide +kernel) (by decide +kernel) a6
  | some n =>
    have h : 0 ≤ n ∧ n ≤ 99 := (by decide : ∀ c ∈ codesL, 0 ≤ c ∧ c ≤ 99) n (g.codeOk n rfl)
    exact cut3 (by decide +kernel) (by decide +kernel) (num_free h.1).1 a6
theorem line_at (L : Ltr) (o : Option Off) (i : Nat) (hi : i < 5) : atI ((linesX L o).map V.str) ((((i : Nat) : Int) + 1 + 1) - 1) = some (.str (lineI L i)) := by
  have hl : 6 ≤ ((linesX L o).map V.str).length := by
    rw [List.length_map]
    unfold linesX
    rw [List.length_append, List.length_append, List.length_append]
    show 6 ≤ 6 + _ + _ + _
    omega
  rw [atN (V.str "") (by omega) (by omega)]
  have e : ((((i : Nat) : Int) + 1 + 1) - 1).toNat = i + 1 := by omega
  rw [e]
  match i, hi with
  | 0, _ => rfl
  | 1, _ => rfl
  | 2, _ => rfl
  | 3, _ => rfl
  | 4, _ => rfl
def hKb : Bool → List Str
  | false => ["verb"]
  | true => ["verb", "code"]
theorem hKb_eq (c : Option Int) : headK c = hKb c.isSome := by cases c <;> rfl
def KK (b : Bool) : Nat → List Str
  | 0 => hKb b
  | i + 1 => KK b i ++ ksI i
def ZZ (L : Ltr) (c : Option Int) : Nat → List V
  | 0 => headZ L.verb c
  | i + 1 => ZZ L c i ++ zsI L i
theorem ksI_len (L : Ltr) : ∀ i, (ksI i).length = (zsI L i).length
  | 0 => rfl
  | 1 => rfl
  | 2 => rfl
  | 3 => rfl
  | _ + 4 => rfl
theorem KK_len (L : Ltr) (c : Option Int) : ∀ i, (KK c.isSome i).length = (ZZ L c i).length
  | 0 => by cases c <;> rfl
  | i + 1 => by
    show (KK c.isSome i ++ ksI i).length = (ZZ L c i ++ zsI L i).length
    rw [List.length_append, List.length_append, KK_len L c i, ksI_len L i]
theorem KK_nd : ∀ b : Bool, ∀ i < 5, (KK b i ++ ksI i).Nodup := by decide +kernel
theorem KK_short : ∀ b : Bool, ∀ i < 6, (KK b i).length ≤ 9 := by decide +kernel
theorem dkOf_len {ks : List Str} {zs : List V} (h : ks.length = zs.length) : (dkOf ks zs).length = ks.length := by
  unfold dkOf
  rw [List.length_map, List.length_zip, h, Nat.min_self]
/-! the parts that a letter may have -/
def tailP (L : Ltr) (o : Option Off) : Nat → List Str
  | 0 => offL o ++ (stayL L.stay ++ goalL L.goal)
  | 1 => stayL L.stay ++ goalL L.goal
  | 2 => goalL L.goal
  | _ => []
def ExtAt (L : Ltr) (o : Option Off) (H : Hp) : Nat → List Str → List V → Prop
  | 0, kx, zx => kx = [] ∧ zx = []
  | j + 1, kx, zx => ∃ k0 z0, ExtAt L o H j k0 z0 ∧ ((lineP L o j = [] ∧ kx = k0 ∧ zx = z0) ∨ ∃ z x, lineP L o j = [z] ∧ XV L o H j x ∧ kx = k0 ++ [keyP j] ∧ zx = z0 ++ [x])
theorem XV.same {L : Ltr} {o : Option Off} {H H' : Hp} (s : Same H H') : ∀ {j : Nat} {x : V}, XV L o H j x → XV L o H' j x
  | 0, _, ⟨u, e, h⟩ => ⟨u, e, h.same s⟩
  | 1, _, h => h
  | _ + 2, _, h => h
theorem ExtAt.same {L : Ltr} {o : Option Off} {H H' : Hp} (s : Same H H') : ∀ {j : Nat} {kx : List Str} {zx : List V}, ExtAt L o H j kx zx → ExtAt L o H' j kx zx
  | 0, _, _, h => h
  | j + 1, _, _, ⟨k0, z0, h, q⟩ => ⟨k0, z0, h.same s, q.imp id fun ⟨z, x, a, b, e⟩ => ⟨z, x, a, b.same s, e⟩⟩
theorem ExtAt.sub {L : Ltr} {o : Option Off} {H : Hp} : ∀ {j : Nat} {kx : List Str} {zx : List V}, ExtAt L o H j kx zx → kx.Sublist ((List.range j).map keyP) ∧ kx.length = zx.length
  | 0, _, _, ⟨e1, e2⟩ => by rw [e1, e2]; exact ⟨List.Sublist.slnil, rfl⟩
  | j + 1, _, _, ⟨k0, z0, h, q⟩ => by
    obtain ⟨a, b⟩ := h.sub
    rw [List.range_succ, List.map_append]
    rcases q with ⟨_, rfl, rfl⟩ | ⟨z, x, _, _, rfl, rfl⟩
    · exact ⟨a.trans (List.sublist_append_left _ _), b⟩
    · exact ⟨a.append (List.Sublist.refl _), by rw [List.length_append, List.length_append, b]; rfl⟩
theorem PK_nd : ∀ b : Bool, ∀ j < 4, (KK b 5 ++ (List.range j).map keyP).Nodup := by decide +kernel
theorem lineP_cases (L : Ltr) (o : Option Off) : ∀ j, lineP L o j = [] ∨ ∃ z, lineP L o j = [z]
  | 0 => by
    show offL o = [] ∨ ∃ z, offL o = [z]
    cases o
    · exact .inl rfl
    · exact .inr ⟨_, rfl⟩
  | 1 => by
    show stayL L.stay = [] ∨ ∃ z, stayL L.stay = [z]
    unfold stayL
    split
    · exact .inr ⟨_, rfl⟩
    · exact .inl rfl
  | _ + 2 => by
    show goalL L.goal = [] ∨ ∃ z, goalL L.goal = [z]
    unfold goalL
    split
    · exact .inr ⟨_, rfl⟩
    · exact .inl rfl
theorem tail_split (L : Ltr) (o : Option Off) : ∀ j < 3, tailP L o j = lineP L o j ++ tailP L o (j + 1)
  | 0, _ => rfl
  | 1, _ => rfl
  | 2, _ => (List.append_nil _).symm
theorem next_line {L : Ltr} {o : Option Off} {z : Str} {r : List Str} : ∀ j < 3, tailP L o (j + 1) = z :: r → ∃ i, lineP L o i = [z] ∧ keyP i ≠ keyP j
  | 0, _, h => by
    have h2 : lineP L o 1 ++ lineP L o 2 = z :: r := h
    rcases lineP_cases L o 1 with e | ⟨y, e⟩
    · rw [e, List.nil_append] at h2
      rcases lineP_cases L o 2 with e3 | ⟨y, e3⟩
      · rw [e3] at h2
        cases h2
      · rw [e3] at h2
        obtain rfl : y = z := (List.cons.inj h2).1
        exact ⟨2, e3, by decide +kernel⟩
    · rw [e] at h2
      obtain rfl : y = z := (List.cons.inj h2).1
      exact ⟨1, e, by decide +kernel⟩
  | 1, _, h => by
    have h2 : lineP L o 2 = z :: r := h
    rcases lineP_cases L o 2 with e3 | ⟨y, e3⟩
    · rw [e3] at h2
      cases h2
    · rw [e3] at h2
      obtain rfl : y = z := (List.cons.inj h2).1
      exact ⟨2, e3, by decide +kernel⟩
  | 2, _, h => nomatch h
theorem drop_at {ls : List Str} {nn : Nat} {z : Str} {r : List Str} (h : ls.drop nn = z :: r) : nn < ls.length ∧ atI (ls.map V.str) ((nn : Nat) : Int) = some (.str z) ∧ ls.drop (nn + 1) = r := by
  have hlt : nn < ls.length := by
    rcases Nat.lt_or_ge nn ls.length with q | q
    · exact q
    · rw [List.drop_eq_nil_of_le q] at h
      cases h
  rw [List.drop_eq_getElem_cons hlt] at h
  obtain ⟨h1, h2⟩ := List.cons.inj h
  refine ⟨hlt, ?_, h2⟩
  rw [atN (V.str "") (by omega) (by rw [List.length_map]; omega), Int.toNat_natCast, List.getD_eq_getElem?_getD, List.getElem?_map, List.getElem?_eq_getElem hlt, h1]
  rfl
theorem XV.updD {L : Ltr} {o : Option Off} {H : Hp} {d : Addr} {kvs kvs' : List (Key × V)} (hd : H d = some (.dK kvs)) : ∀ {j : Nat} {x : V}, XV L o H j x → XV L o (upd H d (.dK kvs')) j x
  | 0, _, ⟨u, e, p, f, e0, e1, e2⟩ => ⟨u, e, p, f, e0, by rw [upd_ne (fun z => by rw [z, hd] at e1; cases e1)]; exact e1, by rw [upd_ne (fun z => by rw [z, hd] at e2; cases e2)]; exact e2⟩
  | 1, _, h => h
  | _ + 2, _, h => h
theorem ExtAt.updD {L : Ltr} {o : Option Off} {H : Hp} {d : Addr} {kvs kvs' : List (Key × V)} (hd : H d = some (.dK kvs)) : ∀ {j : Nat} {kx : List Str} {zx : List V}, ExtAt L o H j kx zx → ExtAt L o (upd H d (.dK kvs')) j kx zx
  | 0, _, _, h => h
  | j + 1, _, _, ⟨k0, z0, h, q⟩ => ⟨k0, z0, h.updD hd, q.imp id fun ⟨z, x, a, b, e⟩ => ⟨z, x, a, b.updD hd, e⟩⟩
end K5
set_option maxHeartbeats 4000000
set_option pp.maxSteps 400
namespace K5
open PySem PySem.Spec PyProof.Rows L2 SX TK TKS
open C8 (pe_c)
abbrev ssS : List Str → (List V → List V → List V) → Prop := SsOk "self" ["verb", "call", "origin", "origin_tag", "target", "target_tag", "seq", "way", "code", "offer", "stay", "goal"] ["verb", "call", "origin", "origin_tag", "target", "target_tag", "seq", "way"]
abbrev namesP : List Str := ["verb", "call", "origin", "origin_tag", "target", "target_tag", "seq", "way", "code", "offer", "stay", "goal"]
theorem all_in : ∀ b : Bool, ∀ k ∈ KK b 5 ++ (List.range 3).map keyP, k ∈ namesP ∧ k ≠ "self" := by decide +kernel
theorem need_in : ∀ b : Bool, ∀ k ∈ (["verb", "call", "origin", "origin_tag", "target", "target_tag", "seq", "way"] : List Str), k ∈ KK b 5 := by decide +kernel
theorem ext_ss {L : Ltr} {o : Option Off} {H : Hp} {kx : List Str} {zx : List V} (b : Bool) (h : ExtAt L o H 3 kx zx) : ssS (KK b 5 ++ kx) (fun vs zs => vs ++ byNameV namesP (KK b 5 ++ kx) zs) := by
  have sub : (KK b 5 ++ kx).Sublist (KK b 5 ++ (List.range 3).map keyP) := (List.Sublist.refl _).append h.sub.1
  refine ⟨List.nodup_cons.mpr ⟨fun m => (all_in b _ (sub.subset m)).2 rfl, (PK_nd b 3 (by decide)).sublist sub⟩, fun k hk => (all_in b k (sub.subset hk)).1, fun k hk => List.mem_append_left _ (need_in b k hk), rfl⟩
theorem ext_args {L : Ltr} {o : Option Off} {c : Option Int} {H : Hp} {kx : List Str} {zx : List V} (g : GLet L o c) (h : ExtAt L o H 3 kx zx) : ∃ ox, OffO H ox o ∧ byNameV namesP (KK c.isSome 5 ++ kx) (ZZ L c 5 ++ zx) = ({ L with offer := ox } : Ltr).args := by
  obtain ⟨k2, z2, ⟨k1, z1, ⟨k0, z0, ⟨rfl, rfl⟩, q0⟩, q1⟩, q2⟩ := h
  have hc := g.code
  have hst : stayL L.stay = [] → L.stay = .non := fun e => by
    rcases g.stay with q | ⟨n, q, _⟩
    · exact q
    · rw [q] at e
      cases e
  have hgl : goalL L.goal = [] → L.goal = .non := fun e => by
    rcases g.goal with q | ⟨n, q, _⟩
    · exact q
    · rw [q] at e
      cases e
  obtain ⟨ox, hox, e0⟩ : ∃ ox, OffO H ox o ∧ ((k1 = [] ∧ z1 = [] ∧ ox = .non) ∨ (k1 = [("offer" : Str)] ∧ z1 = [ox])) := by
    rcases q0 with ⟨e, rfl, rfl⟩ | ⟨z, x, e, ⟨u, rfl, hu⟩, rfl, rfl⟩
    · cases o with
      | none => exact ⟨.non, rfl, .inl ⟨rfl, rfl, rfl⟩⟩
      | some u => cases e
    · exact ⟨x, hu, .inr ⟨rfl, rfl⟩⟩
  refine ⟨ox, hox, ?_⟩
  obtain ⟨verb, call, origin, otag, target, ttag, seq, way, code, offer, stay, goal⟩ := L
  cases hc
  have e1 : (k2 = k1 ∧ z2 = z1 ∧ stay = .non) ∨ (k2 = k1 ++ [("stay" : Str)] ∧ z2 = z1 ++ [stay]) := by
    rcases q1 with ⟨e, rfl, rfl⟩ | ⟨z, x, e, hx, rfl, rfl⟩
    · exact .inl ⟨rfl, rfl, hst e⟩
    · cases (show x = stay from hx)
      exact .inr ⟨rfl, rfl⟩
  have e2 : (kx = k2 ∧ zx = z2 ∧ goal = .non) ∨ (kx = k2 ++ [("goal" : Str)] ∧ zx = z2 ++ [goal]) := by
    rcases q2 with ⟨e, rfl, rfl⟩ | ⟨z, x, e, hx, rfl, rfl⟩
    · exact .inl ⟨rfl, rfl, hgl e⟩
    · cases (show x = goal from hx)
      exact .inr ⟨rfl, rfl⟩
  clear q0 q1 q2 hst hgl g hox
  cases c with
  | none =>
    rcases e0 with ⟨rfl, rfl, rfl⟩ | ⟨rfl, rfl⟩ <;> rcases e1 with ⟨rfl, rfl, rfl⟩ | ⟨rfl, rfl⟩ <;> rcases e2 with ⟨rfl, rfl, rfl⟩ | ⟨rfl, rfl⟩ <;> rfl
  | some n =>
    rcases e0 with ⟨rfl, rfl, rfl⟩ | ⟨rfl, rfl⟩ <;> rcases e1 with ⟨rfl, rfl, rfl⟩ | ⟨rfl, rfl⟩ <;> rcases e2 with ⟨rfl, rfl, rfl⟩ | ⟨rfl, rfl⟩ <;> rfl
def spReadL (K : PySem.W.Frag) : Sp := fun vs H Q _ => ∃ L o c, vs = [.str (textOf (linesX L o))] ∧ GLet L o c ∧ ∀ a x H', Same H H' → H a = none → OffO H' x o → LetAt K H' a { L with offer := x } → Q (.ref a) H'
theorem ok_read {P : Program} {w : World} {K : PySem.W.Frag} {mg : Str → Option Value} {base : Heap} {f : Addr} {fd : FuncData} (T : Tx K mg) (c_read_head : C8.Cal P w K mg base 3 "_read_head" spReadHead []) (c_read_line : C8.Cal P w K mg base 6 "_read_line" spLine []) (c_mk_Letter_ss : TK.MakS P w K mg base 1 "Letter" (He.ga K "Letter") (spLetInit K) (TK.SsOk "self" ["verb", "call", "origin", "origin_tag", "target", "target_tag", "seq", "way", "code", "offer", "stay", "goal"] ["verb", "call", "origin", "origin_tag", "target", "target_tag", "seq", "way"]))
    (F : FunD K "read" "read" (defArgs s_read) (defBody s_read) (defScope s_read) [] [] f fd) : FnOk P w K mg base CX0 7 f fd ["text"] (spReadL K) := by
  refine F.ok sc_read (fun vs H Q E h => ?_) (fun cdv A outer s H vs Q E hr h => ?_)
  · obtain ⟨L, o, c, rfl, _⟩ := h
    rfl
  · obtain ⟨L, o, c, rfl, g, k⟩ := h
    have hlen := linesX_len g.lok g.xok
    have hn9 := linesX_n L o
    have hfit := textOf_fits hlen (Nat.le_trans hn9 (by decide))
    have hz2 : (textOf (linesX L o)).length + 2 ≤ sizeLine := by
      have b := join_len "" ((linesX L o).map fun z => z ++ ("\n" : Str))
      have : (textOf (linesX L o)).length ≤ 1000000 := Nat.le_trans b hfit
      exact Nat.le_trans (Nat.add_le_add_right this 2) (by decide)
    have hcut := text_cut g.nonl
    have hat := line_at L o
    have hhead := head_cut g
    refine ⟨_, PSs.nox (pss_cons (ps_set (i := 1) sc_read.nd rfl (Or.inl rfl) (pe_split (pv 0) pe_str)) (pss_cons (ps_set (i := 2) sc_read.nd rfl (Or.inl rfl) (pe_bm0 PySem.F.plainAttrs_list PySem.F.slot_list_pop PySem.F.type_list_pop mt_pop (pv 1))) (pss_cons (ps_set (i := 3) sc_read.nd rfl (Or.inl rfl) (pe_ifExp (pt_truth (pv 1) (fun _ => rfl)) (pe_c c_read_head hr (by decide) rfl (pa_cons (pe_split (pe_ix ix_list (pv 1) pe_int (fun _ _ => rfl)) pe_str) pa_nil)) pe_non)) (C8.pss_cut (ps_if (pt_cmpR op_isN (pv 3) pe_non (nomark _)) (pss_one ps_never) pss_nil) (pss_cons (ps_set (i := 4) sc_read.nd rfl (Or.inl rfl) pe_int) (pss_cons (ps_for PassesOwn.never rfl (pi_tup (pgR T.g_NEEDED)) (pg_name (i := 5) sc_read.nd rfl (Or.inl rfl)) (pss_cons (ps_aug (i := 4) sc_read.nd rfl (Or.inl rfl) pe_int ip_add) (pss_cons (ps_set (i := 6) sc_read.nd rfl (Or.inl rfl) (pe_ifExp (pt_cmpR op_le (pv 4) (pe_callB call_len_seq rfl T.f_len PySem.boot_len (pa_cons (pv 1) pa_nil)) (nomark _)) (pe_c c_read_line hr (by decide) rfl (pa_cons (pv 5) (pa_cons (pe_ix ix_list (pv 1) (pe_op op_sub (pv 4) pe_int) (fun _ _ => rfl)) pa_nil))) pe_non)) (C8.pss_cut (ps_if (pt_cmpR op_isN (pv 6) pe_non (nomark _)) (pss_one ps_never) pss_nil) (pss_one (ps_expr (TK.pe_dupd (pv 3) (pv 6) ⟨rfl, by rfl, rfl, rfl⟩))))))) (pss_cons (ps_for PassesOwn.never rfl (pi_tup (pgR T.g_POSSIBLE)) (pg_name (i := 5) sc_read.nd rfl (Or.inl rfl)) (pss_cons (ps_set (i := 6) sc_read.nd rfl (Or.inl rfl) (pe_ifExp (pt_cmpR op_lt (pv 4) (pe_callB call_len_seq rfl T.f_len PySem.boot_len (pa_cons (pv 1) pa_nil)) (nomark _)) (pe_c c_read_line hr (by decide) rfl (pa_cons (pv 5) (pa_cons (pe_ix ix_list (pv 1) (pv 4) (fun _ _ => rfl)) pa_nil))) pe_non)) (pss_one (ps_if (pt_cmpR op_notN (pv 6) pe_non (nomark _)) (pss_cons (ps_aug (i := 4) sc_read.nd rfl (Or.inl rfl) pe_int ip_add) (pss_one (ps_expr (TK.pe_dupd (pv 3) (pv 6) ⟨rfl, by rfl, rfl, rfl⟩)))) pss_nil)))) (C8.pss_cut (ps_if (PW.pt (pw_or (pt_cmpR op_lt (pv 4) (pe_callB call_len_seq rfl T.f_len PySem.boot_len (pa_cons (pv 1) pa_nil)) (nomark _)) (pw_or1 (pt_cmpR op_ne (pv 2) pe_str (nomark _))))) (pss_one ps_never) pss_nil) (pss_one (ps_ret (TK.pe_mkSS c_mk_Letter_ss hr (by decide) rfl (pv 3)))))))))))), ?_⟩
    refine ⟨_, rfl, ⟨_, rfl⟩, textOf (linesX L o), "\n", rfl, rfl, by decide +kernel, hz2, fun l hl => ?_⟩
    rw [hcut]
    generalize textOf (linesX L o) = tx
    have hlast : ((linesX L o ++ [("" : Str)]).map V.str)[((linesX L o ++ [("" : Str)]).map V.str).length - 1]? = some (.str "") := by simp
    have ed : ((linesX L o ++ [("" : Str)]).map V.str).dropLast = (linesX L o).map V.str := by simp
    refine ⟨_, rfl, .inl ⟨rfl, _, SqL.of upd_same⟩, l, _, _, rfl, rfl, upd_same, hlast, ?_⟩
    rw [upd_upd, ed]
    have s1 : Same H (upd H l (.lst ((linesX L o).map V.str))) := same_upd hl
    have e1 : (upd H l (.lst ((linesX L o).map V.str))) l = some (.lst ((linesX L o).map V.str)) := upd_same
    generalize upd H l (.lst ((linesX L o).map V.str)) = H1 at s1 e1 ⊢
    have h0 : atI ((linesX L o).map V.str) 0 = some (.str (headS L)) := atC (V.str (headS L)) _
    have hne : (!((linesX L o).map V.str).isEmpty) = true := rfl
    have hh3 : (headS L).length ≤ 2000 := headS_len g.lok
    refine ⟨_, rfl, _, .inl ⟨_, SqL.of e1, rfl⟩, ?_⟩
    rw [hne]
    refine iteT ⟨_, rfl, l, _, 0, .str (headS L), rfl, rfl, SqL.of e1, h0, ⟨_, rfl⟩, headS L, " ", rfl, rfl, by decide +kernel, Nat.le_trans (Nat.add_le_add_right hh3 2) (by decide), fun q hq => ?_⟩
    rw [hhead]
    have s2 := s1.trans (same_upd (o := .lst ((headW L.verb c).map V.str)) hq)
    have e2 := (same_upd (o := .lst ((headW L.verb c).map V.str)) hq) _ _ e1
    refine ⟨q, L.verb, c, rfl, upd_same, g.verb, g.codeOk, fun d H2 s3 hd ed => ?_⟩
    have s4 := s2.trans s3
    have e3 := s3 _ _ e2
    have hdH : H d = none := fresh_of s2 hd
    have ld : l ≠ d := fun e => by rw [← e, e2] at hd; cases hd
    rw [hKb_eq] at ed
    refine ⟨fun σ' H' => σ' = [some (.str tx), some (.ref l), some (.str ""), some (.ref d), none, none, none] ∧ H' = H2, ⟨_, rfl, rfl, _, rfl, iteF ⟨rfl, rfl⟩⟩, ?_⟩
    rintro σ' H3 ⟨rfl, e⟩
    obtain rfl : H2 = H3 := e.symm
    -- the lines that every letter has
    refine ⟨_, rfl, ⟨_, T.v_NEEDED _⟩, for_it walk_tup (fun i σ H' => ∃ v5 v6 : Option V, σ = [some (.str tx), some (.ref l), some (.str ""), some (.ref d), some (.int ((i : Nat) + 1)), v5, v6] ∧ Same H H' ∧ H' l = some (.lst ((linesX L o).map V.str)) ∧ H' d = some (.dK (dkOf (KK c.isSome i) (ZZ L c i)))) ⟨none, none, rfl, s4, e3, ed⟩ (fun _ _ H' _ _ => T.v_NEEDED H') ?_ ?_⟩
    · rintro i x σ H3 H4 hi ⟨v5, v6, rfl, s5, e5, e6⟩ ⟨rfl, hx⟩
      have hi5 : i < 5 := hi
      obtain rfl : V.str (keyI i) = x := by
        have q : ([.str "call", .str "from", .str "to", .str "seq", .str "way"] : List V)[i]? = some (.str (keyI i)) := by
          match i, hi5 with
          | 0, _ => rfl
          | 1, _ => rfl
          | 2, _ => rfl
          | 3, _ => rfl
          | 4, _ => rfl
        exact Option.some.inj (q.symm.trans hx)
      refine ⟨_, rfl, _, _, rfl, rfl, ?_⟩
      have hle : decide ((((i : Nat) : Int) + 1 + 1) ≤ (((linesX L o).map V.str).length : Nat)) = true := decide_eq_true (by
        rw [List.length_map]
        unfold linesX
        rw [List.length_append, List.length_append, List.length_append]
        show _ ≤ ((6 + _ + _ + _ : Nat) : Int)
        omega)
      refine ⟨_, rfl, _, rfl, l, _, rfl, .inl (SqL.of e5), _, _, rfl, rfl, _, rfl, ?_⟩
      rw [hle]
      refine iteT ⟨_, rfl, _, rfl, _, rfl, _, _, rfl, rfl, l, _, _, .str (lineI L i), rfl, rfl, SqL.of e5, hat i hi5, ?_⟩
      delta tNil
      dsimp only
      refine need_line g i fun d2 H5 s6 hd2 e7 => ?_
      refine ⟨fun σ' H' => σ' = [some (.str tx), some (.ref l), some (.str ""), some (.ref d), some (.int ((i : Nat) + 1 + 1)), some (.str (keyI i)), some (.ref d2)] ∧ H' = H5, ⟨_, rfl, rfl, _, rfl, iteF ⟨rfl, rfl⟩⟩, ?_⟩
      rintro σ' H6 ⟨rfl, e⟩
      obtain rfl : H5 = H6 := e.symm
      have dd2 : d ≠ d2 := fun e => by rw [← e, e6] at hd2; cases hd2
      have e8 := s6 _ _ e6
      refine ⟨_, rfl, d, rfl, .inl ⟨_, .inl e8⟩, _, rfl, d2, _, _, rfl, dd2, e8, .inl e7, ?_, ?_⟩
      · rw [dkOf_len (KK_len L c i), dkOf_len (ksI_len L i)]
        have := KK_short c.isSome i (by omega)
        have : (ksI i).length ≤ 2 := by
          unfold ksI
          split <;> decide
        exact Nat.le_trans (by omega : _ ≤ 20) (by decide)
      · refine ⟨_, _, rfl, TK.Same.upd_of (s5.trans s6) hdH, ?_, ?_⟩
        · rw [upd_ne ld]
          exact s6 _ _ e5
        · rw [upd_same, merge_dk (KK_len L c i) (ksI_len L i) (KK_nd c.isSome i hi5)]
          rfl
    · rintro σ H3 ⟨v5, v6, rfl, s5, e5, e6⟩
      -- the lines that a letter may have
      refine ⟨_, rfl, ⟨_, T.v_POSSIBLE _⟩, for_it walk_tup (fun j σ H' => ∃ (v5 v6 : Option V) (nn : Nat) (kx : List Str) (zx : List V), σ = [some (.str tx), some (.ref l), some (.str ""), some (.ref d), some (.int (nn : Nat)), v5, v6] ∧ Same H H' ∧ H' l = some (.lst ((linesX L o).map V.str)) ∧ H' d = some (.dK (dkOf (KK c.isSome 5 ++ kx) (ZZ L c 5 ++ zx))) ∧ (linesX L o).drop nn = tailP L o j ∧ nn ≤ (linesX L o).length ∧ ExtAt L o H' j kx zx) ⟨v5, v6, 6, [], [], rfl, s5, e5, ?_, ?_, ?_, rfl, rfl⟩ (fun _ _ H' _ _ => T.v_POSSIBLE H') ?_ ?_⟩
      · rw [List.append_nil, List.append_nil]
        exact e6
      · unfold linesX tailP
        rw [List.append_assoc, List.append_assoc]
        rfl
      · unfold linesX
        rw [List.length_append, List.length_append, List.length_append]
        show 6 ≤ 6 + _ + _ + _
        omega
      · rintro j x σ H4 H5 hj ⟨v5, v6, nn, kx, zx, rfl, s5, e5, e6, ht, hn, hx⟩ ⟨rfl, hx2⟩
        have hj3 : j < 3 := hj
        obtain rfl : V.str (keyP j) = x := by
          have q : ([.str "offer", .str "stay", .str "goal"] : List V)[j]? = some (.str (keyP j)) := by
            match j, hj3 with
            | 0, _ => rfl
            | 1, _ => rfl
            | 2, _ => rfl
          exact Option.some.inj (q.symm.trans hx2)
        have hsp := tail_split L o j hj3
        rw [hsp] at ht
        obtain ⟨hsub, hkl⟩ := hx.sub
        have none_case : ∀ (v6 : V) (H6 : Hp), v6 = .non → Same H5 H6 → lineP L o j = [] → ∃ (v5' v6' : Option V) (n' : Nat) (k' : List Str) (z' : List V), ([some (.str tx), some (.ref l), some (.str ""), some (.ref d), some (.int (nn : Nat)), some (.str (keyP j)), some v6] : List (Option V)) = [some (.str tx), some (.ref l), some (.str ""), some (.ref d), some (.int (n' : Nat)), v5', v6'] ∧ Same H H6 ∧ H6 l = some (.lst ((linesX L o).map V.str)) ∧ H6 d = some (.dK (dkOf (KK c.isSome 5 ++ k') (ZZ L c 5 ++ z'))) ∧ (linesX L o).drop n' = tailP L o (j + 1) ∧ n' ≤ (linesX L o).length ∧ ExtAt L o H6 (j + 1) k' z' := by
          rintro v6 H6 rfl s6 e7
          rw [e7, List.nil_append] at ht
          exact ⟨_, _, nn, kx, zx, rfl, s5.trans s6, s6 _ _ e5, s6 _ _ e6, ht, hn, kx, zx, hx.same s6, .inl ⟨e7, rfl, rfl⟩⟩
        rcases lineP_cases L o j with e7 | ⟨z, e7⟩
        · obtain e8 | ⟨z, r, e8⟩ : tailP L o (j + 1) = [] ∨ ∃ z r, tailP L o (j + 1) = z :: r := by
            cases tailP L o (j + 1) with
            | nil => exact .inl rfl
            | cons z r => exact .inr ⟨z, r, rfl⟩
          · have ht2 := ht
            rw [e7, e8] at ht2
            have hnn : ¬ ((nn : Nat) : Int) < (((linesX L o).map V.str).length : Nat) := by
              rw [List.length_map]
              have := congrArg List.length ht2
              rw [List.length_drop] at this
              have : (linesX L o).length - nn = 0 := this
              omega
            refine ⟨_, rfl, _, rfl, l, _, rfl, .inl (SqL.of e5), _, _, rfl, rfl, _, rfl, ?_⟩
            rw [decide_eq_false hnn]
            refine iteF ⟨_, rfl, rfl, _, rfl, iteF ?_⟩
            exact none_case .non H5 rfl (Same.refl H5) e7
          · obtain ⟨i, e9, hki⟩ := next_line j hj3 e8
            have ht2 := ht
            rw [e7, e8] at ht2
            obtain ⟨hlt, hat2, _⟩ := drop_at ht2
            refine ⟨_, rfl, _, rfl, l, _, rfl, .inl (SqL.of e5), _, _, rfl, rfl, _, rfl, ?_⟩
            rw [decide_eq_true (by rw [List.length_map]; omega)]
            refine iteT ⟨_, rfl, _, rfl, _, rfl, l, _, _, .str z, rfl, rfl, SqL.of e5, hat2, ?_⟩
            delta tNil
            dsimp only
            refine poss_not g i e9 hki fun H6 s6 => ?_
            refine ⟨_, rfl, rfl, _, rfl, iteF ?_⟩
            exact none_case .non H6 rfl s6 e7
        · rw [e7] at ht
          obtain ⟨hlt, hat2, hdr⟩ := drop_at ht
          refine ⟨_, rfl, _, rfl, l, _, rfl, .inl (SqL.of e5), _, _, rfl, rfl, _, rfl, ?_⟩
          rw [decide_eq_true (by rw [List.length_map]; omega)]
          refine iteT ⟨_, rfl, _, rfl, _, rfl, l, _, _, .str z, rfl, rfl, SqL.of e5, hat2, ?_⟩
          delta tNil
          dsimp only
          refine poss_here g j e7 fun d2 x H6 s6 hd2 hxv e9 => ?_
          have dd2 : d ≠ d2 := fun e => by rw [← e, e6] at hd2; cases hd2
          have e10 := s6 _ _ e6
          have hl5 : (KK c.isSome 5 ++ kx).length = (ZZ L c 5 ++ zx).length := by rw [List.length_append, List.length_append, KK_len, hkl]
          refine ⟨_, rfl, rfl, _, rfl, iteT ⟨_, rfl, _, _, rfl, rfl, ?_⟩⟩
          refine ⟨_, rfl, d, rfl, .inl ⟨_, .inl e10⟩, _, rfl, d2, _, _, rfl, dd2, e10, .inl e9, ?_, ?_⟩
          · rw [dkOf_len hl5, dkOf_len (ks := [keyP j]) (zs := [x]) rfl, List.length_append]
            have := KK_short c.isSome 5 (by omega)
            have := hsub.length_le
            rw [List.length_map, List.length_range] at this
            exact Nat.le_trans (by show _ + _ + 1 ≤ 20; omega) (by decide)
          · have nd : (KK c.isSome 5 ++ kx ++ [keyP j]).Nodup := by
              have q := PK_nd c.isSome (j + 1) (by omega)
              rw [List.range_succ, List.map_append] at q
              rw [List.append_assoc]
              exact q.sublist ((List.Sublist.refl _).append (hsub.append (List.Sublist.refl _)))
            refine ⟨_, _, nn + 1, kx ++ [keyP j], zx ++ [x], rfl, TK.Same.upd_of (s5.trans s6) hdH, ?_, ?_, hdr, hlt, kx, zx, ?_, .inr ⟨z, x, e7, ?_, rfl, rfl⟩⟩
            · rw [upd_ne ld]
              exact s6 _ _ e5
            · rw [upd_same, merge_dk hl5 rfl nd, List.append_assoc, List.append_assoc]
            · exact (hx.same s6).updD e10
            · exact hxv.updD e10
      · rintro σ H4 ⟨v5, v6, nn, kx, zx, rfl, s5, e5, e6, ht, hn, hx⟩
        have hnn : nn = (linesX L o).length := by
          have := congrArg List.length ht
          rw [List.length_drop] at this
          have : (linesX L o).length - nn = 0 := this
          omega
        refine ⟨fun σ' H' => σ' = [some (.str tx), some (.ref l), some (.str ""), some (.ref d), some (.int (nn : Nat)), v5, v6] ∧ H' = H4, ⟨_, rfl, _, rfl, l, _, rfl, .inl (SqL.of e5), _, _, rfl, rfl, _, rfl, ?_⟩, ?_⟩
        · rw [decide_eq_false (by rw [List.length_map]; omega)]
          exact iteF ⟨_, rfl, rfl, _, rfl, iteF ⟨rfl, rfl⟩⟩
        rintro σ' H5 ⟨rfl, e⟩
        obtain rfl : H4 = H5 := e.symm
        obtain ⟨ox, hox, eargs⟩ := ext_args g hx
        have hl5 : (KK c.isSome 5 ++ kx).length = (ZZ L c 5 ++ zx).length := by rw [List.length_append, List.length_append, KK_len, hx.sub.2]
        intro p hp
        have pd : p ≠ d := fun e => by rw [e, e6] at hp; cases hp
        refine ⟨_, rfl, upd_same, d, _, _, _, rfl, pd, .inl (by rw [upd_ne pd.symm]; exact e6), hl5, ext_ss c.isSome hx, ?_⟩
        intro x dx hx1 hx2 hne
        rw [upd_upd] at hx1 hx2 ⊢
        refine ⟨x, dx, { L with offer := ox }, congrArg (List.cons (V.ref x)) eargs, upd_same, rfl, ?_⟩
        rw [upd_upd]
        have sp := (same_upd (o := .dK (dkOf (KK c.isSome 5 ++ kx) (ZZ L c 5 ++ zx))) hp).trans (same_own (C := He.ga K "Letter") (fs := ({ L with offer := ox } : Ltr).fl) hx1 hx2)
        exact k x ox _ (s5.trans sp) (fresh_of (s5.trans (same_upd hp)) hx1) (hox.same sp) ⟨dx, upd_same⟩
end K5
set_option maxHeartbeats 4000000
set_option pp.maxSteps 400
namespace K5
open PySem PySem.Spec PyProof.Rows L2 SX TK TKS
open C8 (pe_c)
/-! ### waits -/
def wfl (b f g d : Int) : List (Str × V) := [("_began", .int b), ("_first", .int f), ("_gap", .int g), ("_due", .int d)]
instance {b f g d : Int} : SmallF (wfl b f g d) 4 := ⟨Nat.le_refl _⟩
def WtAt (K : PySem.W.Frag) (H : Hp) (a : Addr) (b f g d : Int) : Prop := ∃ dx, H a = some (.ins (He.ga K "Wait") dx (wfl b f g d))
def spWaitInit (K : PySem.W.Frag) : Sp := fun vs H Q _ => ∃ (p dx : Addr) (now f : Int), vs = [.ref p, .int now, .int f] ∧ H p = some (.ins (He.ga K "Wait") dx []) ∧ Q .non (upd H p (.ins (He.ga K "Wait") dx (wfl now f f (now + f))))
theorem ok_Wait___init {P : Program} {w : World} {K : PySem.W.Frag} {mg : Str → Option Value} {base : Heap} {f : Addr} {fd : FuncData} (T : Tx K mg) 
    (F : FunD K "__init__" "Wait.__init__" (defArgs s_Wait___init) (defBody s_Wait___init) (defScope s_Wait___init) [] [] f fd) : FnOk P w K mg base CX0 1 f fd ["self", "now", "first"] (spWaitInit K) := by
  refine F.ok sc_Wait___init (fun vs H Q E h => ?_) (fun cdv A outer s H vs Q E hr h => ?_)
  · obtain ⟨p, dx, now, f, rfl, _⟩ := h
    rfl
  · obtain ⟨p, dx, now, f, rfl, hp, k⟩ := h
    refine ⟨_, PSs.nox (pss_cons (ps_fldC rfl T.cl_Wait T.na_Wait__began (pv 0) (pv 1) rfl) (pss_cons (ps_fldC rfl T.cl_Wait T.na_Wait__first (pv 0) (pv 2) rfl) (pss_cons (ps_fldC rfl T.cl_Wait T.na_Wait__gap (pv 0) (pv 2) rfl) (pss_one (ps_fldC rfl T.cl_Wait T.na_Wait__due (pv 0) (pe_op op_add (pv 1) (pv 2)) rfl))))), ?_⟩
    refine ⟨_, rfl, _, rfl, p, dx, _, rfl, hp, sm, ?_⟩
    refine ⟨_, rfl, _, rfl, p, dx, _, rfl, upd_same, sm, ?_⟩
    refine ⟨_, rfl, _, rfl, p, dx, _, rfl, upd_same, sm, ?_⟩
    refine ⟨_, rfl, _, rfl, _, _, rfl, rfl, _, rfl, p, dx, _, rfl, upd_same, sm, ?_⟩
    simp only [upd_upd]
    exact k
def minI (i j : Int) : Int := if j < i then j else i
def spRepeats (K : PySem.W.Frag) : Sp := fun vs H Q _ => ∃ (a : Addr) (b f g d now : Int), vs = [.ref a, .int now] ∧ WtAt K H a b f g d ∧
  ((now < d ∧ Q (.bl false) H) ∨ (¬ now < d ∧ ∀ H', WtAt K H' a b f (minI (2 * g) (8 * f)) (now + minI (2 * g) (8 * f)) → (∀ c o, H c = some o → c ≠ a → H' c = some o) → Q (.bl true) H'))
theorem ok_Wait_repeats {P : Program} {w : World} {K : PySem.W.Frag} {mg : Str → Option Value} {base : Heap} {f : Addr} {fd : FuncData} (T : Tx K mg) 
    (F : FunD K "repeats" "Wait.repeats" (defArgs s_Wait_repeats) (defBody s_Wait_repeats) (defScope s_Wait_repeats) [] [] f fd) : FnOk P w K mg base CX0 1 f fd ["self", "now"] (spRepeats K) := by
  refine F.ok sc_Wait_repeats (fun vs H Q E h => ?_) (fun cdv A outer s H vs Q E hr h => ?_)
  · obtain ⟨a, b, f, g, d, now, rfl, _⟩ := h
    rfl
  · obtain ⟨a, b, f, g, d, now, rfl, ⟨dx, hp⟩, h⟩ := h
    refine ⟨_, PSs.nox (C8.pss_cut (ps_if (pt_cmpR op_lt (pv 1) (pe_fldC rfl T.cl_Wait T.na_Wait__due (pv 0) rfl) (nomark _)) (pss_one (ps_ret pe_bl)) pss_nil) (pss_cons (ps_fldC rfl T.cl_Wait T.na_Wait__gap (pv 0) (pe_callB (call_min2 rfl) rfl T.f_min (by decide +kernel) (pa_cons (pe_op op_mul pe_int (pe_fldC rfl T.cl_Wait T.na_Wait__gap (pv 0) rfl)) (pa_cons (pe_op op_mul (pgI T.g_GREATEST_GAP) (pe_fldC rfl T.cl_Wait T.na_Wait__first (pv 0) rfl)) pa_nil))) rfl) (pss_cons (ps_fldC rfl T.cl_Wait T.na_Wait__due (pv 0) (pe_op op_add (pv 1) (pe_fldC rfl T.cl_Wait T.na_Wait__gap (pv 0) rfl)) rfl) (pss_one (ps_ret pe_bl))))), ?_⟩
    rcases h with ⟨h1, k⟩ | ⟨h1, k⟩
    · refine ⟨fun _ _ => False, ?_, fun _ _ z => z.elim⟩
      refine ⟨_, rfl, _, rfl, a, dx, _, _, rfl, hp, rfl, _, _, rfl, rfl, _, rfl, ?_⟩
      rw [decide_eq_true h1]
      exact iteT k
    · refine ⟨fun σ' H' => σ' = [some (.ref a), some (.int now)] ∧ H' = H, ?_, ?_⟩
      · refine ⟨_, rfl, _, rfl, a, dx, _, _, rfl, hp, rfl, _, _, rfl, rfl, _, rfl, ?_⟩
        rw [decide_eq_false h1]
        exact iteF ⟨rfl, rfl⟩
      rintro σ' H' ⟨rfl, rfl⟩
      refine ⟨_, rfl, a, dx, _, _, rfl, hp, rfl, _, _, rfl, rfl, .inl ⟨by decide, by decide⟩, _, rfl, a, dx, _, _, rfl, hp, rfl, _, _, rfl, rfl, .inl ⟨by decide, by decide⟩, _, _, rfl, _, rfl, a, dx, _, rfl, hp, sm, ?_⟩
      refine ⟨_, rfl, _, rfl, a, dx, _, _, rfl, upd_same, rfl, _, _, rfl, rfl, _, rfl, a, dx, _, rfl, upd_same, sm, ?_⟩
      rw [upd_upd]
      refine k _ ⟨dx, upd_same⟩ fun c o e hc => ?_
      rw [upd_ne hc]
      exact e
def spIsUp (K : PySem.W.Frag) : Sp := fun vs H Q _ => ∃ (a : Addr) (b f g d now : Int), vs = [.ref a, .int now] ∧ WtAt K H a b f g d ∧ Q (.bl (decide (32 * f ≤ now - b))) H
theorem ok_Wait_is_up {P : Program} {w : World} {K : PySem.W.Frag} {mg : Str → Option Value} {base : Heap} {f : Addr} {fd : FuncData} (T : Tx K mg) 
    (F : FunD K "is_up" "Wait.is_up" (defArgs s_Wait_is_up) (defBody s_Wait_is_up) (defScope s_Wait_is_up) [] [] f fd) : FnOk P w K mg base CX0 1 f fd ["self", "now"] (spIsUp K) := by
  refine F.ok sc_Wait_is_up (fun vs H Q E h => ?_) (fun cdv A outer s H vs Q E hr h => ?_)
  · obtain ⟨a, b, f, g, d, now, rfl, _⟩ := h
    rfl
  · obtain ⟨a, b, f, g, d, now, rfl, ⟨dx, hp⟩, k⟩ := h
    refine ⟨_, PSs.nox (pss_one (ps_ret (pe_cmpR op_ge (pe_op op_sub (pv 1) (pe_fldC rfl T.cl_Wait T.na_Wait__began (pv 0) rfl)) (pe_op op_mul (pgI T.g_LIMIT) (pe_fldC rfl T.cl_Wait T.na_Wait__first (pv 0) rfl)) (nomark _)))), ?_⟩
    exact ⟨_, rfl, _, rfl, a, dx, _, _, rfl, hp, rfl, _, _, rfl, rfl, _, rfl, a, dx, _, _, rfl, hp, rfl, _, _, rfl, rfl, .inl ⟨by decide, by decide⟩, _, _, rfl, rfl, k⟩

def spFinal : Sp := fun vs H Q _ => ∃ c : Int, vs = [.int c] ∧ Q (.bl (decide (c ≥ 20))) H
theorem ok_is_final {P : Program} {w : World} {K : PySem.W.Frag} {mg : Str → Option Value} {base : Heap} {f : Addr} {fd : FuncData} (T : Tx K mg) 
    (F : FunD K "is_final" "is_final" (defArgs s_is_final) (defBody s_is_final) (defScope s_is_final) [] [] f fd) : FnOk P w K mg base CX0 1 f fd ["code"] spFinal := by
  refine F.ok sc_is_final (fun vs H Q E h => ?_) (fun cdv A outer s H vs Q E hr h => ?_)
  · obtain ⟨c, rfl, _⟩ := h
    rfl
  · obtain ⟨c, rfl, k⟩ := h
    refine ⟨_, PSs.nox (pss_one (ps_ret (pe_cmpR op_ge (pv 0) (pgI T.g_LEAST_FINAL_CODE) (nomark _)))), ?_⟩
    exact ⟨_, rfl, _, _, rfl, rfl, k⟩
/-! ### frames by kind: small instances may change -/
def keepO : HO → Bool
  | .ins _ _ fs => decide (7 ≤ fs.length)
  | _ => true
def FrI (H H' : Hp) : Prop := ∀ b o, H b = some o → keepO o = true → H' b = some o
theorem FrI.refl (H : Hp) : FrI H H := fun _ _ e _ => e
theorem FrI.of_same {H H' : Hp} (s : Same H H') : FrI H H' := fun b o e _ => s b o e
theorem FrI.trans {H H1 H2 : Hp} (s : FrI H H1) (t : FrI H1 H2) : FrI H H2 := fun b o e n => t b o (s b o e n) n
theorem FrI.upd {H : Hp} {p C dx : Addr} {fs : List (Str × V)} {o : HO} (h : H p = some (.ins C dx fs)) (hn : fs.length < 7) : FrI H (upd H p o) := fun b u e n => by
  rw [upd_ne (fun z => by
    rw [z, h] at e
    cases e
    have : decide (7 ≤ fs.length) = true := n
    have := of_decide_eq_true this
    omega)]
  exact e
theorem FrI.let {K : PySem.W.Frag} {H H' : Hp} {a : Addr} {L : Ltr} (s : FrI H H') (h : LetAt K H a L) : LetAt K H' a L := by
  obtain ⟨dx, e⟩ := h
  exact ⟨dx, s _ _ e rfl⟩
theorem newW {H : Hp} {x dx p : Addr} {o u z : HO} (hx : H x = none) (hdx : H dx = none) (hp : H p = some z) : (upd (upd (upd H dx (.own x)) x o) p u) p = some u ∧ (upd (upd (upd H dx (.own x)) x o) p u) x = some o ∧ x ≠ p ∧ ∀ y v, H y = some v → y ≠ p → (upd (upd (upd H dx (.own x)) x o) p u) y = some v := by
  have xp : x ≠ p := (ne_of_none hp hx).symm
  refine ⟨upd_same, (upd_ne xp).trans upd_same, xp, fun y v e hy => ?_⟩
  rw [upd_ne hy, upd_ne (ne_of_none e hx), upd_ne (ne_of_none e hdx)]
  exact e
theorem new2 {H : Hp} {t l : Addr} {o u : HO} (ht : H t = none) (hl : upd H t o l = none) : t ≠ l ∧ H l = none ∧ Same H (upd (upd H t o) l u) ∧ (upd (upd H t o) l u) t = some o ∧ (upd (upd H t o) l u) l = some u := by
  have n : t ≠ l := fun e => by rw [← e, upd_same] at hl; cases hl
  exact ⟨n, by rw [upd_ne n.symm] at hl; exact hl, (same_upd ht).trans (same_upd hl), (upd_ne n).trans upd_same, upd_same⟩
/-! ### a list of what is sent -/
def RowsAt (H : Hp) (r : Addr) : Option Str → Prop
  | none => H r = some (.lst [])
  | some z => ∃ t, H r = some (.lst [.ref t]) ∧ H t = some (.tup [.str "q", .str z])
theorem RowsAt.fr {H H' : Hp} {r : Addr} {o : Option Str} (h : RowsAt H r o) (s : FrI H H') : RowsAt H' r o := by
  cases o with
  | none => exact s _ _ h rfl
  | some z =>
    obtain ⟨t, e1, e2⟩ := h
    exact ⟨t, s _ _ e1 rfl, s _ _ e2 rfl⟩
/-! ### clients -/
inductive CS where | cl | wt | sp | fn | ov
  deriving DecidableEq
def CS.s : CS → Str | .cl => "calling" | .wt => "waiting" | .sp => "stopping" | .fn => "final" | .ov => "over"
structure Cl where
  st : CS
  b : Int
  g : Int
  d : Int
  kp : Option Str
def clfl (la : Addr) (st : Str) (f : Int) (wa ka : Addr) : List (Str × V) := [("letter", .ref la), ("place", .str "q"), ("state", .str st), ("_first", .int f), ("_wait", .ref wa), ("_keep", .ref ka)]
instance {la : Addr} {st : Str} {f : Int} {wa ka : Addr} : SmallF (clfl la st f wa ka) 6 := ⟨Nat.le_refl _⟩
def ClAt (K : PySem.W.Frag) (H : Hp) (p la : Addr) (f : Int) (z : Addr) (C : Cl) : Prop :=
  ∃ dx wa ka, H p = some (.ins (He.ga K "Client") dx (clfl la C.st.s f wa ka)) ∧ WtAt K H wa C.b f C.g C.d ∧ RowsAt H ka C.kp ∧ ka ≠ z
theorem ClAt.mono {K : PySem.W.Frag} {H H' : Hp} {p la z : Addr} {f : Int} {C : Cl} (h : ClAt K H p la f z C) (s : ∀ b o, H b = some o → (∀ xs, o = .lst xs → b ≠ z ∧ (xs = [] ∨ ∃ t, xs = [.ref t])) → H' b = some o) : ClAt K H' p la f z C := by
  obtain ⟨dx, wa, ka, hp, ⟨dw, hw⟩, hk, n⟩ := h
  refine ⟨dx, wa, ka, s _ _ hp (fun xs e => nomatch e), ⟨dw, s _ _ hw fun xs e => nomatch e⟩, ?_, n⟩
  cases e : C.kp with
  | none =>
    rw [e] at hk
    exact s _ _ hk fun xs e => by cases e; exact ⟨n, .inl rfl⟩
  | some u =>
    rw [e] at hk
    obtain ⟨t, e1, e2⟩ := hk
    exact ⟨t, s _ _ e1 (fun xs e => by cases e; exact ⟨n, .inr ⟨t, rfl⟩⟩), s _ _ e2 fun xs e => nomatch e⟩
theorem ClAt.same {K : PySem.W.Frag} {H H' : Hp} {p la z : Addr} {f : Int} {C : Cl} (h : ClAt K H p la f z C) (s : Same H H') : ClAt K H' p la f z C := h.mono fun b o e _ => s b o e
def cl4 (la : Addr) (f : Int) : List (Str × V) := [("letter", .ref la), ("place", .str "q"), ("state", .str "calling"), ("_first", .int f)]
def cl5 (la x : Addr) (f : Int) : List (Str × V) := [("letter", .ref la), ("place", .str "q"), ("state", .str "calling"), ("_first", .int f), ("_wait", .ref x)]
instance {la : Addr} {f : Int} : SmallF (cl4 la f) 4 := ⟨Nat.le_refl _⟩
instance {la x : Addr} {f : Int} : SmallF (cl5 la x f) 5 := ⟨Nat.le_refl _⟩
def spClInit (K : PySem.W.Frag) : Sp := fun vs H Q _ => ∃ (p dx la z : Addr) (now f : Int), vs = [.ref p, .ref la, .str "q", .int now, .int f] ∧ H p = some (.ins (He.ga K "Client") dx []) ∧ (∃ o, H z = some o) ∧
  ∀ H', ClAt K H' p la f z ⟨.cl, now, f, now + f, none⟩ → FrI H H' → Q .non H'
theorem ok_Client___init {P : Program} {w : World} {K : PySem.W.Frag} {mg : Str → Option Value} {base : Heap} {f : Addr} {fd : FuncData} (T : Tx K mg) (c_mk_Wait : C8.Mak P w K mg base 1 "Wait" (He.ga K "Wait") (spWaitInit K) [])
    (F : FunD K "__init__" "Client.__init__" (defArgs s_Client___init) (defBody s_Client___init) (defScope s_Client___init) [] [] f fd) : FnOk P w K mg base CX0 3 f fd ["self", "letter", "place", "now", "first"] (spClInit K) := by
  refine F.ok sc_Client___init (fun vs H Q E h => ?_) (fun cdv A outer s H vs Q E hr h => ?_)
  · obtain ⟨p, dx, la, z, now, f, rfl, _⟩ := h
    rfl
  · obtain ⟨p, dx, la, z, now, f, rfl, hp, ⟨oz, hz⟩, k⟩ := h
    refine ⟨_, PSs.nox (pss_cons (ps_fldC rfl T.cl_Client T.na_Client_letter (pv 0) (pv 1) rfl) (pss_cons (ps_fldC rfl T.cl_Client T.na_Client_place (pv 0) (pv 2) rfl) (pss_cons (ps_fldC rfl T.cl_Client T.na_Client_state (pv 0) pe_str rfl) (pss_cons (ps_fldC rfl T.cl_Client T.na_Client__first (pv 0) (pv 4) rfl) (pss_cons (ps_fldC rfl T.cl_Client T.na_Client__wait (pv 0) (C8.pe_mk c_mk_Wait hr (by decide) rfl (pa_cons (pv 3) (pa_cons (pv 4) pa_nil))) rfl) (pss_one (ps_fldC rfl T.cl_Client T.na_Client__keep (pv 0) (pe_lst pa_nil) rfl))))))), ?_⟩
    refine ⟨_, rfl, _, rfl, p, dx, _, rfl, hp, sm, ?_⟩
    refine ⟨_, rfl, _, rfl, p, dx, _, rfl, upd_same, sm, ?_⟩
    refine ⟨_, rfl, p, dx, _, rfl, upd_same, sm, ?_⟩
    refine ⟨_, rfl, _, rfl, p, dx, _, rfl, upd_same, sm, ?_⟩
    simp only [upd_upd]
    rw [show putF "_first" (V.int f) (putF "state" (V.str "calling") (putF "place" (V.str "q") (putF "letter" (V.ref la) []))) = (cl4 la f) from rfl]
    have fr1 : FrI H (upd H p (.ins (He.ga K "Client") dx (cl4 la f))) := FrI.upd hp (by decide)
    have hp1 : (upd H p (.ins (He.ga K "Client") dx (cl4 la f))) p = _ := upd_same
    have hz1 : ∃ o, (upd H p (.ins (He.ga K "Client") dx (cl4 la f))) z = some o := by
      by_cases e : z = p
      · exact ⟨_, by rw [e]; exact upd_same⟩
      · exact ⟨oz, (upd_ne e).trans hz⟩
    generalize upd H p (.ins (He.ga K "Client") dx (cl4 la f)) = H1 at fr1 hp1 hz1 ⊢
    obtain ⟨oz1, hz1⟩ := hz1
    refine ⟨_, rfl, _, rfl, fun x dx' hx hdx hne => ?_⟩
    have px : p ≠ x := ne_of_none hp1 hx
    have pdx : p ≠ dx' := ne_of_none hp1 hdx
    refine ⟨x, dx', now, f, rfl, upd_same, rfl, _, rfl, p, dx, _, rfl, (upd_ne px).trans ((upd_ne px).trans ((upd_ne pdx).trans hp1)), sm, ?_⟩
    rw [upd_upd]
    rw [show putF "_wait" (V.ref x) (cl4 la f) = (cl5 la x f) from rfl]
    obtain ⟨w1, w2, xp, w3⟩ := newW (o := .ins (He.ga K "Wait") dx' (wfl now f f (now + f))) (u := .ins (He.ga K "Client") dx (cl5 la x f)) hx hdx hp1
    generalize (upd (upd (upd H1 dx' (.own x)) x (.ins (He.ga K "Wait") dx' (wfl now f f (now + f)))) p (.ins (He.ga K "Client") dx (cl5 la x f))) = H2 at w1 w2 w3 ⊢
    have fr2 : FrI H1 H2 := fun b o e n => w3 b o e fun q => by
      rw [q, hp1] at e
      cases e
      cases n
    have hz2 : ∃ o, H2 z = some o := by
      by_cases e : z = p
      · exact ⟨_, by rw [e]; exact w1⟩
      · exact ⟨_, w3 _ _ hz1 e⟩
    obtain ⟨oz2, hz2⟩ := hz2
    refine ⟨by show 0 ≤ sizeLine; decide, fun ka hka => ?_⟩
    refine ⟨_, rfl, p, dx, _, rfl, (upd_ne (ne_of_none w1 hka)).trans w1, sm, ?_⟩
    have kap : ka ≠ p := (ne_of_none w1 hka).symm
    refine k _ ⟨dx, x, ka, upd_same, ⟨dx', (upd_ne xp).trans ((upd_ne (ne_of_none w2 hka)).trans w2)⟩, (upd_ne kap).trans upd_same, (ne_of_none hz2 hka).symm⟩ ?_
    refine (fr1.trans fr2).trans ((FrI.of_same (same_upd hka)).trans (FrI.upd ((upd_ne (ne_of_none w1 hka)).trans w1) (by show 5 < 7; decide)))
/-! ### what is sent -/
structure Plain (L : Ltr) : Prop where
  lok : LOk L
  o : L.offer = .non
  s : L.stay = .non
  g : L.goal = .non
theorem Plain.xok {L : Ltr} (h : Plain L) : XOk L none := ⟨(fun _ e => nomatch e), (fun _ e => nomatch e), .inl h.s, .inl h.g⟩
theorem Plain.off {L : Ltr} {H : Hp} (h : Plain L) : OffO H L.offer none := h.o
abbrev tx (L : Ltr) : Str := textOf (linesX L none)
def spSending (K : PySem.W.Frag) : Sp := fun vs H Q _ => ∃ (p la z : Addr) (f : Int) (C : Cl) (L : Ltr), vs = [.ref p] ∧ ClAt K H p la f z C ∧ LetAt K H la L ∧ Plain L ∧ ∀ r H', Same H H' → H r = none → RowsAt H' r (some (tx L)) → Q (.ref r) H'
theorem ok_Client_sending {P : Program} {w : World} {K : PySem.W.Frag} {mg : Str → Option Value} {base : Heap} {f : Addr} {fd : FuncData} (T : Tx K mg) (c_write : C8.Cal P w K mg base 2 "write" (spWrite1 K) [])
    (F : FunD K "sending" "Client.sending" (defArgs s_Client_sending) (defBody s_Client_sending) (defScope s_Client_sending) [] [] f fd) : FnOk P w K mg base CX0 3 f fd ["self"] (spSending K) := by
  refine F.ok sc_Client_sending (fun vs H Q E h => ?_) (fun cdv A outer s H vs Q E hr h => ?_)
  · obtain ⟨p, la, z, f, C, L, rfl, _⟩ := h
    rfl
  · obtain ⟨p, la, z, f, C, L, rfl, ⟨dx, wa, ka, hp, _⟩, hl, pl, k⟩ := h
    refine ⟨_, PSs.nox (pss_one (ps_ret (pe_lst (pa_cons (pe_tup (pa_cons (pe_fldC rfl T.cl_Client T.na_Client_place (pv 0) rfl) (pa_cons (pe_c c_write hr (by decide) rfl (pa_cons (pe_fldC rfl T.cl_Client T.na_Client_letter (pv 0) rfl) pa_nil)) pa_nil))) pa_nil)))), ?_⟩
    refine ⟨_, rfl, p, dx, _, _, rfl, hp, rfl, _, rfl, p, dx, _, _, rfl, hp, rfl, la, L, rfl, hl, pl.lok, none, pl.off, pl.xok, fun H1 s1 => ⟨by show 2 ≤ sizeLine; decide, fun t ht => ⟨by show 1 ≤ sizeLine; decide, fun r hr => ?_⟩⟩⟩
    obtain ⟨n1, n2, s5, q1, q2⟩ := new2 (u := .lst [.ref t]) ht hr
    exact k r _ (s1.trans s5) (s1.free n2) ⟨t, q2, q1⟩
def spClOver (K : PySem.W.Frag) : Sp := fun vs H Q _ => ∃ (p la z : Addr) (f : Int) (C : Cl), vs = [.ref p] ∧ ClAt K H p la f z C ∧ Q (.bl (decide (C.st = .ov))) H
theorem ok_Client_is_over {P : Program} {w : World} {K : PySem.W.Frag} {mg : Str → Option Value} {base : Heap} {f : Addr} {fd : FuncData} (T : Tx K mg) 
    (F : FunD K "is_over" "Client.is_over" (defArgs s_Client_is_over) (defBody s_Client_is_over) (defScope s_Client_is_over) [] [] f fd) : FnOk P w K mg base CX0 1 f fd ["self"] (spClOver K) := by
  refine F.ok sc_Client_is_over (fun vs H Q E h => ?_) (fun cdv A outer s H vs Q E hr h => ?_)
  · obtain ⟨p, la, z, f, C, rfl, _⟩ := h
    rfl
  · obtain ⟨p, la, z, f, C, rfl, ⟨dx, wa, ka, hp, _⟩, k⟩ := h
    refine ⟨_, PSs.nox (pss_one (ps_ret (pe_cmpR op_eq (pe_fldC rfl T.cl_Client T.na_Client_state (pv 0) rfl) pe_str (nomark _)))), ?_⟩
    refine ⟨_, rfl, p, dx, _, _, rfl, hp, rfl, rfl, ?_⟩
    have e : decide (V.str C.st.s = V.str "over") = decide (C.st = .ov) := by cases C.st <;> rfl
    rw [e]
    exact k
def stopC (C : Cl) (f now : Int) : Cl := if (decide (C.st = .cl) || decide (C.st = .wt)) = true then ⟨.sp, now, f, now + f, C.kp⟩ else C
def spStop (K : PySem.W.Frag) : Sp := fun vs H Q _ => ∃ (p la z : Addr) (f now : Int) (C : Cl), vs = [.ref p, .int now] ∧ ClAt K H p la f z C ∧ ∀ H', ClAt K H' p la f z (stopC C f now) → FrI H H' → Q .non H'
/-- a new wait at x, the client's state and wait set -/
theorem set_wait {K : PySem.W.Frag} {H : Hp} {p dx la wa ka x dx' : Addr} {st st' : Str} {f now : Int} (hp : H p = some (.ins (He.ga K "Client") dx (clfl la st f wa ka))) (hx : (upd H p (.ins (He.ga K "Client") dx (clfl la st' f wa ka))) x = none) (hdx : (upd H p (.ins (He.ga K "Client") dx (clfl la st' f wa ka))) dx' = none) :
    (upd (upd (upd (upd H p (.ins (He.ga K "Client") dx (clfl la st' f wa ka))) dx' (.own x)) x (.ins (He.ga K "Wait") dx' (wfl now f f (now + f)))) p (.ins (He.ga K "Client") dx (clfl la st' f x ka))) p = some (.ins (He.ga K "Client") dx (clfl la st' f x ka)) ∧
    WtAt K (upd (upd (upd (upd H p (.ins (He.ga K "Client") dx (clfl la st' f wa ka))) dx' (.own x)) x (.ins (He.ga K "Wait") dx' (wfl now f f (now + f)))) p (.ins (He.ga K "Client") dx (clfl la st' f x ka))) x now f f (now + f) ∧ x ≠ p ∧
    FrI H (upd (upd (upd (upd H p (.ins (He.ga K "Client") dx (clfl la st' f wa ka))) dx' (.own x)) x (.ins (He.ga K "Wait") dx' (wfl now f f (now + f)))) p (.ins (He.ga K "Client") dx (clfl la st' f x ka))) := by
  obtain ⟨w1, w2, xp, w3⟩ := newW (o := .ins (He.ga K "Wait") dx' (wfl now f f (now + f))) (u := .ins (He.ga K "Client") dx (clfl la st' f x ka)) hx hdx (upd_same (H := H) (a := p) (o := .ins (He.ga K "Client") dx (clfl la st' f wa ka)))
  refine ⟨w1, ⟨dx', w2⟩, xp, fun b o e n => ?_⟩
  have bp : b ≠ p := fun q => by
    rw [q, hp] at e
    cases e
    cases n
  exact w3 b o ((upd_ne bp).trans e) bp
theorem ok_Client_stop {P : Program} {w : World} {K : PySem.W.Frag} {mg : Str → Option Value} {base : Heap} {f : Addr} {fd : FuncData} (T : Tx K mg) (c_mk_Wait : C8.Mak P w K mg base 1 "Wait" (He.ga K "Wait") (spWaitInit K) [])
    (F : FunD K "stop" "Client.stop" (defArgs s_Client_stop) (defBody s_Client_stop) (defScope s_Client_stop) [] [] f fd) : FnOk P w K mg base CX0 3 f fd ["self", "now"] (spStop K) := by
  refine F.ok sc_Client_stop (fun vs H Q E h => ?_) (fun cdv A outer s H vs Q E hr h => ?_)
  · obtain ⟨p, la, z, f, now, C, rfl, _⟩ := h
    rfl
  · obtain ⟨p, la, z, f, now, ⟨st, b, g, d, kp⟩, rfl, ⟨dx, wa, ka, hp, hw, hk, nz⟩, k⟩ := h
    refine ⟨_, PSs.nox (pss_one (ps_if (pt_cmpR op_in_seq (pe_fldC rfl T.cl_Client T.na_Client_state (pv 0) rfl) (pe_tup (pa_cons pe_str (pa_cons pe_str pa_nil))) (by with_unfolding_all rfl)) (pss_cons (ps_fldC rfl T.cl_Client T.na_Client_state (pv 0) pe_str rfl) (pss_one (ps_fldC rfl T.cl_Client T.na_Client__wait (pv 0) (C8.pe_mk c_mk_Wait hr (by decide) rfl (pa_cons (pv 1) (pa_cons (pe_fldC rfl T.cl_Client T.na_Client__first (pv 0) rfl) pa_nil))) rfl))) pss_nil)), ?_⟩
    refine ⟨_, rfl, p, dx, _, _, rfl, hp, rfl, by show 2 ≤ sizeLine; decide, fun t hnt => ?_⟩
    have s1 := same_upd (o := .tup [.str "calling", .str "waiting"]) hnt
    refine ⟨t, _, rfl, .inr (SqT.of upd_same), rfl, rfl, _, rfl, ?_⟩
    have e1 : inV (V.str st.s) [.str "calling", .str "waiting"] = (decide (st = .cl) || decide (st = .wt)) := by cases st <;> rfl
    show (if inV (V.str st.s) [.str "calling", .str "waiting"] = true then _ else _)
    rw [e1]
    cases e : (decide (st = .cl) || decide (st = .wt)) with
    | false =>
      have es : stopC ⟨st, b, g, d, kp⟩ f now = ⟨st, b, g, d, kp⟩ := if_neg (by show ¬ (decide (st = .cl) || decide (st = .wt)) = true; rw [e]; exact Bool.false_ne_true)
      rw [es] at k
      exact iteF (k _ (ClAt.same ⟨dx, wa, ka, hp, hw, hk, nz⟩ s1) (FrI.of_same s1))
    | true =>
      have es : stopC ⟨st, b, g, d, kp⟩ f now = ⟨.sp, now, f, now + f, kp⟩ := if_pos e
      rw [es] at k
      have hp1 := s1 _ _ hp
      have hk1 := RowsAt.fr hk (FrI.of_same s1)
      generalize (upd H t (.tup [.str "calling", .str "waiting"])) = H1 at s1 hp1 hk1 ⊢
      refine iteT ⟨_, rfl, p, dx, _, rfl, hp1, sm, ?_⟩
      rw [show putF "state" (V.str "stopping") (clfl la (Cl.mk st b g d kp).st.s f wa ka) = clfl la "stopping" f wa ka from rfl]
      refine ⟨_, rfl, _, rfl, p, dx, _, _, rfl, upd_same, rfl, fun x dx' hx hdx hne => ?_⟩
      obtain ⟨w1, w2, xp, fr⟩ := set_wait (now := now) hp1 hx hdx
      refine ⟨x, dx', now, f, rfl, upd_same, rfl, _, rfl, p, dx, _, rfl, (upd_ne xp.symm).trans ((upd_ne xp.symm).trans ((upd_ne (ne_of_none upd_same hdx)).trans upd_same)), sm, ?_⟩
      rw [upd_upd, show putF "_wait" (V.ref x) (clfl la "stopping" f wa ka) = clfl la "stopping" f x ka from rfl]
      exact k _ ⟨dx, x, ka, w1, w2, hk1.fr fr, nz⟩ ((FrI.of_same s1).trans fr)
end K5
set_option maxHeartbeats 4000000
set_option pp.maxSteps 400
namespace K5
open PySem PySem.Spec PyProof.Rows L2 SX TK TKS
open C8 (pe_c)
theorem vstr (a b : Str) : decide (V.str a = V.str b) = decide (a = b) := by
  by_cases h : a = b
  · rw [h, decide_eq_true rfl, decide_eq_true rfl]
  · rw [decide_eq_false h, decide_eq_false fun e => h (V.str.inj e)]
theorem st_is (a : CS) (b : CS) : decide (V.str a.s = V.str b.s) = decide (a = b) := by cases a <;> cases b <;> rfl
def isC (L : Ltr) : Bool := decide (L.verb = "CALL")
def provB (L : Ltr) (C : Cl) : Bool := isC L && !decide (C.st = .fn)
def provC (L : Ltr) (C : Cl) : Cl := if (provB L C && decide (C.st = .cl)) = true then ⟨.wt, C.b, C.g, C.d, C.kp⟩ else C
def provV (L : Ltr) (C : Cl) (c : Int) : V := if provB L C = true then .int c else .non
def spProv (K : PySem.W.Frag) : Sp := fun vs H Q _ => ∃ (p la b z : Addr) (f c : Int) (C : Cl) (L M : Ltr), vs = [.ref p, .ref b] ∧ ClAt K H p la f z C ∧ LetAt K H la L ∧ LetAt K H b M ∧ M.code = .int c ∧
  ∀ H', ClAt K H' p la f z (provC L C) → FrI H H' → Q (provV L C c) H'
theorem ok_Client__take_provisional {P : Program} {w : World} {K : PySem.W.Frag} {mg : Str → Option Value} {base : Heap} {f : Addr} {fd : FuncData} (T : Tx K mg) 
    (F : FunD K "_take_provisional" "Client._take_provisional" (defArgs s_Client__take_provisional) (defBody s_Client__take_provisional) (defScope s_Client__take_provisional) [] [] f fd) : FnOk P w K mg base CX0 1 f fd ["self", "reply"] (spProv K) := by
  refine F.ok sc_Client__take_provisional (fun vs H Q E h => ?_) (fun cdv A outer s H vs Q E hr h => ?_)
  · obtain ⟨p, la, b, z, f, c, C, L, M, rfl, _⟩ := h
    rfl
  · obtain ⟨p, la, b, z, f, c, C, L, M, rfl, hC, ⟨dl, hl⟩, ⟨dm, hm⟩, em, k⟩ := h
    obtain ⟨dx, wa, ka, hp, hw, hk, nz⟩ := id hC
    refine ⟨_, PSs.nox (C8.pss_cut (ps_if (PW.pt (pw_or (pt_cmpR op_ne (pe_fldC rfl T.cl_Letter T.na_Letter_verb (pe_fldC rfl T.cl_Client T.na_Client_letter (pv 0) rfl) rfl) pe_str (nomark _)) (pw_or1 (pt_cmpR op_eq (pe_fldC rfl T.cl_Client T.na_Client_state (pv 0) rfl) pe_str (nomark _))))) (pss_one (ps_ret pe_non)) pss_nil) (C8.pss_cut (ps_if (pt_cmpR op_eq (pe_fldC rfl T.cl_Client T.na_Client_state (pv 0) rfl) pe_str (nomark _)) (pss_one (ps_fldC rfl T.cl_Client T.na_Client_state (pv 0) pe_str rfl)) pss_nil) (pss_one (ps_ret (pe_fldC rfl T.cl_Letter T.na_Letter_code (pv 1) rfl))))), ?_⟩
    have e2 := st_is C.st .fn
    have e3 := st_is C.st .cl
    refine ⟨fun σ' H' => σ' = [some (.ref p), some (.ref b)] ∧ H' = H ∧ provB L C = true, ?_, ?_⟩
    · have no : provB L C = false → Q .non H := fun e => by
        have e4 : provC L C = C := if_neg (by rw [e]; exact Bool.false_ne_true)
        have e5 : provV L C c = .non := if_neg (by rw [e]; exact Bool.false_ne_true)
        rw [e4, e5] at k
        exact k H hC (FrI.refl H)
      refine ⟨_, rfl, p, dx, _, _, rfl, hp, rfl, la, dl, _, _, rfl, hl, rfl, rfl, _, rfl, ?_⟩
      rw [vstr]
      cases e : decide (L.verb = "CALL") with
      | false => exact iteT (no (by unfold provB isC; rw [e]; rfl))
      | true =>
        refine iteF ⟨_, rfl, p, dx, _, _, rfl, hp, rfl, rfl, _, rfl, ?_⟩
        show (if decide (V.str C.st.s = V.str CS.fn.s) = true then _ else _)
        rw [e2]
        cases e1 : decide (C.st = .fn) with
        | true => exact iteT (no (by unfold provB isC; rw [e, e1]; rfl))
        | false => exact iteF ⟨rfl, rfl, by unfold provB isC; rw [e, e1]; rfl⟩
    rintro σ' H1 ⟨rfl, rfl, eB⟩
    have e5 : provV L C c = .int c := if_pos eB
    refine ⟨fun σ' H' => σ' = [some (.ref p), some (.ref b)] ∧ ClAt K H' p la f z (provC L C) ∧ FrI H1 H', ?_, ?_⟩
    · refine ⟨_, rfl, p, dx, _, _, rfl, hp, rfl, rfl, _, rfl, ?_⟩
      show (if decide (V.str C.st.s = V.str CS.cl.s) = true then _ else _)
      rw [e3]
      cases e1 : decide (C.st = .cl) with
      | false =>
        have e4 : provC L C = C := if_neg (by rw [e1, Bool.and_false]; exact Bool.false_ne_true)
        rw [e4]
        exact iteF ⟨rfl, hC, FrI.refl _⟩
      | true =>
        have e4 : provC L C = ⟨.wt, C.b, C.g, C.d, C.kp⟩ := if_pos (by rw [e1, eB]; rfl)
        rw [e4]
        refine iteT ⟨_, rfl, p, dx, _, rfl, hp, sm, rfl, ?_, FrI.upd hp (by show 6 < 7; decide)⟩
        have fr := FrI.upd (o := .ins (He.ga K "Client") dx (clfl la "waiting" f wa ka)) hp (by show 6 < 7; decide)
        obtain ⟨dw, hw⟩ := hw
        exact ⟨dx, wa, ka, upd_same, ⟨dw, (upd_ne (ne_ins hw hp (by show 4 ≠ 6; decide))).trans hw⟩, hk.fr fr, nz⟩
    rintro σ' H2 ⟨rfl, hC2, fr2⟩
    rw [e5] at k
    refine ⟨_, rfl, b, dm, _, _, rfl, fr2 _ _ hm rfl, rfl, ?_⟩
    rw [em]
    exact k H2 hC2 fr2
def keepL (L : Ltr) (tag : Str) : Ltr := ⟨"KEEP", L.call, L.origin, L.otag, L.target, tag, L.seq, L.way, .non, .non, .non, .non⟩
def spKeepFor (K : PySem.W.Frag) : Sp := fun vs H Q _ => ∃ (p la b z : Addr) (f : Int) (C : Cl) (L M : Ltr), vs = [.ref p, .ref b] ∧ ClAt K H p la f z C ∧ LetAt K H la L ∧ LetAt K H b M ∧
  ∀ x H', Same H H' → LetAt K H' x (keepL L M.ttag) → Q (.ref x) H'
theorem ok_Client__keep_for {P : Program} {w : World} {K : PySem.W.Frag} {mg : Str → Option Value} {base : Heap} {f : Addr} {fd : FuncData} (T : Tx K mg) (c_mk_Letter_a : MakK P w K mg base 1 "Letter" (He.ga K "Letter") (spLetInit K) 0 ["verb", "call", "origin", "origin_tag", "target", "target_tag", "seq", "way"] (fun vs zs => vs ++ ((((zs.drop 0).take 8) ++ ((([(V.non), (V.non), (V.non), (V.non)] : List V).drop 0).take 4)))))
    (F : FunD K "_keep_for" "Client._keep_for" (defArgs s_Client__keep_for) (defBody s_Client__keep_for) (defScope s_Client__keep_for) [] [] f fd) : FnOk P w K mg base CX0 3 f fd ["self", "reply"] (spKeepFor K) := by
  refine F.ok sc_Client__keep_for (fun vs H Q E h => ?_) (fun cdv A outer s H vs Q E hr h => ?_)
  · obtain ⟨p, la, b, z, f, C, L, M, rfl, _⟩ := h
    rfl
  · obtain ⟨p, la, b, z, f, C, L, M, rfl, ⟨dx, wa, ka, hp, _⟩, ⟨dl, hl⟩, ⟨dm, hm⟩, k⟩ := h
    refine ⟨_, PSs.nox (pss_cons (ps_set (i := 2) sc_Client__keep_for.nd rfl (Or.inl rfl) (pe_fldC rfl T.cl_Client T.na_Client_letter (pv 0) rfl)) (pss_one (ps_ret (pe_mkK0 c_mk_Letter_a hr (by decide) rfl (pk_cons pe_str (pk_cons (pe_fldC rfl T.cl_Letter T.na_Letter_call (pv 2) rfl) (pk_cons (pe_fldC rfl T.cl_Letter T.na_Letter_origin (pv 2) rfl) (pk_cons (pe_fldC rfl T.cl_Letter T.na_Letter_origin_tag (pv 2) rfl) (pk_cons (pe_fldC rfl T.cl_Letter T.na_Letter_target (pv 2) rfl) (pk_cons (pe_fldC rfl T.cl_Letter T.na_Letter_target_tag (pv 1) rfl) (pk_cons (pe_fldC rfl T.cl_Letter T.na_Letter_seq (pv 2) rfl) (pk_cons (pe_fldC rfl T.cl_Letter T.na_Letter_way (pv 2) rfl) pk_nil)))))))))))), ?_⟩
    refine ⟨_, rfl, p, dx, _, _, rfl, hp, rfl, ?_⟩
    refine ⟨_, rfl, la, dl, _, _, rfl, hl, rfl, _, rfl, la, dl, _, _, rfl, hl, rfl, _, rfl, la, dl, _, _, rfl, hl, rfl, _, rfl, la, dl, _, _, rfl, hl, rfl, _, rfl, b, dm, _, _, rfl, hm, rfl, _, rfl, la, dl, _, _, rfl, hl, rfl, _, rfl, la, dl, _, _, rfl, hl, rfl, rfl, rfl, ?_⟩
    intro x dy hx hdy hne
    refine ⟨x, dy, keepL L M.ttag, rfl, upd_same, rfl, ?_⟩
    rw [upd_upd]
    exact k x _ (same_own hx hdy) ⟨dy, upd_same⟩
def finC (L M : Ltr) (f now : Int) : Cl := ⟨.fn, now, f, now + f, some (tx (keepL L M.ttag))⟩
/-- the client behind a reply, what is sent, what is told -/
def takeR (L M : Ltr) (C : Cl) (f c now : Int) : Cl × Option Str × V :=
  if C.st = .ov then (C, none, .non)
  else if ¬ 20 ≤ c then (provC L C, none, provV L C c)
  else if isC L = false then (⟨.ov, C.b, C.g, C.d, C.kp⟩, none, .int c)
  else if C.st = .fn then (C, C.kp, .non)
  else (finC L M f now, some (tx (keepL L M.ttag)), .int c)
def TkAt (H : Hp) (t : Addr) (o : Option Str) (v : V) : Prop := ∃ r, H t = some (.tup [.ref r, v]) ∧ RowsAt H r o
def spTake (K : PySem.W.Frag) : Sp := fun vs H Q _ => ∃ (p la b z : Addr) (f c now : Int) (C : Cl) (L M : Ltr), vs = [.ref p, .ref b, .int now] ∧ ClAt K H p la f z C ∧ LetAt K H la L ∧ LetAt K H b M ∧ M.code = .int c ∧ Plain (keepL L M.ttag) ∧ (∃ xs, H z = some (.lst xs)) ∧
  ∀ t H', ClAt K H' p la f z (takeR L M C f c now).1 → FrI H H' → TkAt H' t (takeR L M C f c now).2.1 (takeR L M C f c now).2.2 → Q (.ref t) H'
theorem pairR {K : PySem.W.Frag} {H : Hp} {v : V} {Q : VK} (k : ∀ t H', Same H H' → TkAt H' t none v → Q (.ref t) H') : 0 ≤ sizeLine ∧ ∀ l, H l = none → 2 ≤ sizeLine ∧ ∀ t, (upd H l (.lst [])) t = none → Q (.ref t) (upd (upd H l (.lst [])) t (.tup [.ref l, v])) := ⟨by decide, fun l hl => ⟨by decide, fun t ht => by
  obtain ⟨n1, n2, s, q1, q2⟩ := new2 (u := .tup [.ref l, v]) hl ht
  exact k t _ s ⟨l, q2, q1⟩⟩⟩
theorem ok_Client_take {P : Program} {w : World} {K : PySem.W.Frag} {mg : Str → Option Value} {base : Heap} {f : Addr} {fd : FuncData} (T : Tx K mg) (c_is_final : C8.Cal P w K mg base 1 "is_final" spFinal []) (c_Client__take_provisional : C8.Met P w K mg base 1 (He.ga K "Client") "_take_provisional" (spProv K) []) (c_mk_Wait : C8.Mak P w K mg base 1 "Wait" (He.ga K "Wait") (spWaitInit K) []) (c_Client__keep_for : C8.Met P w K mg base 3 (He.ga K "Client") "_keep_for" (spKeepFor K) []) (c_write : C8.Cal P w K mg base 2 "write" (spWrite1 K) [])
    (F : FunD K "take" "Client.take" (defArgs s_Client_take) (defBody s_Client_take) (defScope s_Client_take) [] [] f fd) : FnOk P w K mg base CX0 4 f fd ["self", "reply", "now"] (spTake K) := by
  refine F.ok sc_Client_take (fun vs H Q E h => ?_) (fun cdv A outer s H vs Q E hr h => ?_)
  · obtain ⟨p, la, b, z, f, c, now, C, L, M, rfl, _⟩ := h
    rfl
  · obtain ⟨p, la, b, z, f, c, now, C, L, M, rfl, hC, hla, hb, em, pk, ⟨oz, hz⟩, k⟩ := h
    obtain ⟨dx, wa, ka, hp, hw, hk, nz⟩ := id hC
    obtain ⟨dl, hl⟩ := id hla
    obtain ⟨dm, hm⟩ := id hb
    refine ⟨_, PSs.nox (C8.pss_cut (ps_if (pt_cmpR op_eq (pe_fldC rfl T.cl_Client T.na_Client_state (pv 0) rfl) pe_str (nomark _)) (pss_one (ps_ret (pe_tup (pa_cons (pe_lst pa_nil) (pa_cons pe_non pa_nil))))) pss_nil) (C8.pss_cut (ps_if (pt_not (pt_val (pe_c c_is_final hr (by decide) rfl (pa_cons (pe_fldC rfl T.cl_Letter T.na_Letter_code (pv 1) rfl) pa_nil)))) (pss_one (ps_ret (pe_tup (pa_cons (pe_lst pa_nil) (pa_cons (C8.pe_mt c_Client__take_provisional hr (by decide) (pv 0) (pa_cons (pv 1) pa_nil)) pa_nil))))) pss_nil) (C8.pss_cut (ps_if (pt_cmpR op_ne (pe_fldC rfl T.cl_Letter T.na_Letter_verb (pe_fldC rfl T.cl_Client T.na_Client_letter (pv 0) rfl) rfl) pe_str (nomark _)) (pss_cons (ps_fldC rfl T.cl_Client T.na_Client_state (pv 0) pe_str rfl) (pss_one (ps_ret (pe_tup (pa_cons (pe_lst pa_nil) (pa_cons (pe_fldC rfl T.cl_Letter T.na_Letter_code (pv 1) rfl) pa_nil)))))) pss_nil) (C8.pss_cut (ps_if (pt_cmpR op_eq (pe_fldC rfl T.cl_Client T.na_Client_state (pv 0) rfl) pe_str (nomark _)) (pss_one (ps_ret (pe_tup (pa_cons (pe_callTy call_list_of rfl T.f_list (by decide +kernel) (pa_cons (pe_fldC rfl T.cl_Client T.na_Client__keep (pv 0) rfl) pa_nil)) (pa_cons pe_non pa_nil))))) pss_nil) (pss_cons (ps_fldC rfl T.cl_Client T.na_Client_state (pv 0) pe_str rfl) (pss_cons (ps_fldC rfl T.cl_Client T.na_Client__wait (pv 0) (C8.pe_mk c_mk_Wait hr (by decide) rfl (pa_cons (pv 2) (pa_cons (pe_fldC rfl T.cl_Client T.na_Client__first (pv 0) rfl) pa_nil))) rfl) (pss_cons (ps_fldC rfl T.cl_Client T.na_Client__keep (pv 0) (pe_lst (pa_cons (pe_tup (pa_cons (pe_fldC rfl T.cl_Client T.na_Client_place (pv 0) rfl) (pa_cons (pe_c c_write hr (by decide) rfl (pa_cons (C8.pe_mt c_Client__keep_for hr (by decide) (pv 0) (pa_cons (pv 1) pa_nil)) pa_nil)) pa_nil))) pa_nil)) rfl) (pss_one (ps_ret (pe_tup (pa_cons (pe_callTy call_list_of rfl T.f_list (by decide +kernel) (pa_cons (pe_fldC rfl T.cl_Client T.na_Client__keep (pv 0) rfl) pa_nil)) (pa_cons (pe_fldC rfl T.cl_Letter T.na_Letter_code (pv 1) rfl) pa_nil)))))))))))), ?_⟩
    -- over
    refine ⟨fun σ' H' => σ' = [some (.ref p), some (.ref b), some (.int now)] ∧ H' = H ∧ C.st ≠ .ov, ?_, ?_⟩
    · refine ⟨_, rfl, p, dx, _, _, rfl, hp, rfl, rfl, _, rfl, ?_⟩
      show (if decide (V.str C.st.s = V.str CS.ov.s) = true then _ else _)
      rw [st_is]
      by_cases e : C.st = .ov
      · rw [decide_eq_true e]
        have et : takeR L M C f c now = (C, none, .non) := if_pos e
        rw [et] at k
        exact iteT (pairR (K := K) fun t H' s1 h => k t H' (hC.same s1) (FrI.of_same s1) h)
      · rw [decide_eq_false e]
        exact iteF ⟨rfl, rfl, e⟩
    rintro σ' H1 ⟨rfl, e, h1⟩
    obtain rfl : H = H1 := e.symm
    -- a provisional code
    refine ⟨fun σ' H' => σ' = [some (.ref p), some (.ref b), some (.int now)] ∧ H' = H ∧ 20 ≤ c, ?_, ?_⟩
    · refine ⟨_, rfl, b, dm, _, _, rfl, hm, rfl, c, congrArg (fun v => [v]) em, _, rfl, ?_⟩
      by_cases e : 20 ≤ c
      · rw [decide_eq_true (show c ≥ 20 from e)]
        exact iteF ⟨rfl, rfl, e⟩
      · rw [decide_eq_false (show ¬ c ≥ 20 from e)]
        have et : takeR L M C f c now = (provC L C, none, provV L C c) := by unfold takeR; rw [if_neg h1, if_pos e]
        rw [et] at k
        refine iteT ⟨by show 0 ≤ sizeLine; decide, fun l hnl => ?_⟩
        have s1 := same_upd (o := .lst []) hnl
        have el : (upd H l (.lst [])) l = some (.lst []) := upd_same
        generalize upd H l (.lst []) = H1 at s1 el ⊢
        refine ⟨_, rfl, p, dx, _, rfl, s1 _ _ hp, rfl, _, rfl, p, la, b, z, f, c, C, L, M, rfl, hC.same s1, hla.same s1, hb.same s1, em, fun H2 hC2 fr2 => ⟨by show 2 ≤ sizeLine; decide, fun t ht => ?_⟩⟩
        have s3 := same_upd (o := .tup [.ref l, provV L C c]) ht
        exact k t _ (hC2.same s3) (((FrI.of_same s1).trans fr2).trans (FrI.of_same s3)) ⟨l, upd_same, s3 _ _ (fr2 _ _ el rfl)⟩
    rintro σ' H1 ⟨rfl, e, h2⟩
    obtain rfl : H = H1 := e.symm
    -- no CALL
    refine ⟨fun σ' H' => σ' = [some (.ref p), some (.ref b), some (.int now)] ∧ H' = H ∧ isC L = true, ?_, ?_⟩
    · refine ⟨_, rfl, p, dx, _, _, rfl, hp, rfl, la, dl, _, _, rfl, hl, rfl, rfl, _, rfl, ?_⟩
      rw [vstr]
      cases e : decide (L.verb = "CALL") with
      | true => exact iteF ⟨rfl, rfl, e⟩
      | false =>
        have et : takeR L M C f c now = (⟨.ov, C.b, C.g, C.d, C.kp⟩, none, .int c) := by unfold takeR; rw [if_neg h1, if_neg (fun z => z h2), if_pos (show isC L = false from e)]
        rw [et] at k
        refine iteT ⟨_, rfl, p, dx, _, rfl, hp, sm, ?_⟩
        have fr := FrI.upd (o := .ins (He.ga K "Client") dx (clfl la "over" f wa ka)) hp (by show 6 < 7; decide)
        obtain ⟨dw, hw⟩ := hw
        have hC1 : ClAt K (upd H p (.ins (He.ga K "Client") dx (clfl la "over" f wa ka))) p la f z ⟨.ov, C.b, C.g, C.d, C.kp⟩ := ⟨dx, wa, ka, upd_same, ⟨dw, (upd_ne (ne_ins hw hp (by show 4 ≠ 6; decide))).trans hw⟩, hk.fr fr, nz⟩
        have hm1 := fr _ _ hm rfl
        rw [show putF "state" (V.str "over") (clfl la C.st.s f wa ka) = clfl la "over" f wa ka from rfl]
        generalize upd H p (.ins (He.ga K "Client") dx (clfl la "over" f wa ka)) = H1 at fr hC1 hm1 ⊢
        refine ⟨by show 0 ≤ sizeLine; decide, fun l hnl => ?_⟩
        have s1 := same_upd (o := .lst []) hnl
        refine ⟨_, rfl, b, dm, _, _, rfl, s1 _ _ hm1, rfl, by show 2 ≤ sizeLine; decide, fun t ht => ?_⟩
        rw [em]
        have s3 := same_upd (o := .tup [.ref l, .int c]) ht
        exact k t _ ((hC1.same s1).same s3) (fr.trans (FrI.of_same (s1.trans s3))) ⟨l, upd_same, s3 _ _ upd_same⟩
    rintro σ' H1 ⟨rfl, e, h3⟩
    obtain rfl : H = H1 := e.symm
    have h3' : ¬ isC L = false := by rw [h3]; exact fun e => nomatch e
    -- the same KEEP again
    refine ⟨fun σ' H' => σ' = [some (.ref p), some (.ref b), some (.int now)] ∧ H' = H ∧ C.st ≠ .fn, ?_, ?_⟩
    · refine ⟨_, rfl, p, dx, _, _, rfl, hp, rfl, rfl, _, rfl, ?_⟩
      show (if decide (V.str C.st.s = V.str CS.fn.s) = true then _ else _)
      rw [st_is]
      by_cases e : C.st = .fn
      · rw [decide_eq_true e]
        have et : takeR L M C f c now = (C, C.kp, .non) := by unfold takeR; rw [if_neg h1, if_neg (fun z => z h2), if_neg h3', if_pos e]
        rw [et] at k
        refine iteT ?_
        cases ek : C.kp with
        | none =>
          rw [ek] at hk k
          refine ⟨_, rfl, p, dx, _, _, rfl, hp, rfl, ka, _, rfl, .inl (SqL.of hk), fun l hnl => ⟨by show 2 ≤ sizeLine; decide, fun t ht => ?_⟩⟩
          obtain ⟨n1, n2, s5, q1, q2⟩ := new2 (u := .tup [.ref l, .non]) hnl ht
          exact k t _ (hC.same s5) (FrI.of_same s5) ⟨l, q2, q1⟩
        | some u =>
          rw [ek] at hk k
          obtain ⟨y, g1, g2⟩ := hk
          refine ⟨_, rfl, p, dx, _, _, rfl, hp, rfl, ka, _, rfl, .inl (SqL.of g1), fun l hnl => ⟨by show 2 ≤ sizeLine; decide, fun t ht => ?_⟩⟩
          obtain ⟨n1, n2, s5, q1, q2⟩ := new2 (u := .tup [.ref l, .non]) hnl ht
          exact k t _ (hC.same s5) (FrI.of_same s5) ⟨l, q2, y, q1, s5 _ _ g2⟩
      · rw [decide_eq_false e]
        exact iteF ⟨rfl, rfl, e⟩
    rintro σ' H1 ⟨rfl, e, h4⟩
    obtain rfl : H = H1 := e.symm
    have et : takeR L M C f c now = (finC L M f now, some (tx (keepL L M.ttag)), .int c) := by unfold takeR; rw [if_neg h1, if_neg (fun z => z h2), if_neg h3', if_neg h4]
    rw [et] at k
    -- a new wait, the KEEP
    refine ⟨_, rfl, p, dx, _, rfl, hp, sm, ?_⟩
    rw [show putF "state" (V.str "final") (clfl la C.st.s f wa ka) = clfl la "final" f wa ka from rfl]
    refine ⟨_, rfl, _, rfl, p, dx, _, _, rfl, upd_same, rfl, fun x dx' hx hdx hne => ?_⟩
    obtain ⟨w1, w2, xp, fr⟩ := set_wait (now := now) hp hx hdx
    refine ⟨x, dx', now, f, rfl, upd_same, rfl, _, rfl, p, dx, _, rfl, (upd_ne xp.symm).trans ((upd_ne xp.symm).trans ((upd_ne (ne_of_none upd_same hdx)).trans upd_same)), sm, ?_⟩
    rw [upd_upd, show putF "_wait" (V.ref x) (clfl la "final" f wa ka) = clfl la "final" f x ka from rfl]
    generalize (upd (upd (upd (upd H p (.ins (He.ga K "Client") dx (clfl la "final" f wa ka))) dx' (.own x)) x (.ins (He.ga K "Wait") dx' (wfl now f f (now + f)))) p (.ins (He.ga K "Client") dx (clfl la "final" f x ka))) = H1 at w1 w2 fr ⊢
    have hC1 : ClAt K H1 p la f z ⟨.fn, now, f, now + f, C.kp⟩ := ⟨dx, x, ka, w1, w2, hk.fr fr, nz⟩
    refine ⟨_, rfl, p, dx, _, _, rfl, w1, rfl, _, rfl, p, dx, _, rfl, w1, rfl, _, rfl, p, la, b, z, f, _, L, M, rfl, hC1, fr.let hla, fr.let hb, fun y H2 s2 hy => ?_⟩
    refine ⟨y, keepL L M.ttag, rfl, hy, pk.lok, none, pk.off, pk.xok, fun H3 s3 => ⟨by show 2 ≤ sizeLine; decide, fun t ht => ⟨by show 1 ≤ sizeLine; decide, fun l hnl => ?_⟩⟩⟩
    obtain ⟨n1, n2, s5, q1, q2⟩ := new2 (o := .tup [.str "q", .str (tx (keepL L M.ttag))]) (u := .lst [.ref t]) ht hnl
    have s15 := (s2.trans s3).trans s5
    have hp5 := s15 _ _ w1
    refine ⟨_, rfl, p, dx, _, rfl, hp5, sm, ?_⟩
    rw [show putF "_keep" (V.ref l) (clfl la "final" f x ka) = clfl la "final" f x l from rfl]
    have hz1 := fr z _ hz rfl
    have lz : l ≠ z := fun e => by
      have n3 := (s2.trans s3).free n2
      rw [e, hz1] at n3
      cases n3
    have tp : t ≠ p := ne_of q1 hp5 (by intro z; cases z)
    have lp : l ≠ p := ne_of q2 hp5 (by intro z; cases z)
    have fr6 : FrI H1 (upd (upd (upd H3 t (.tup [.str "q", .str (tx (keepL L M.ttag))])) l (.lst [.ref t])) p (.ins (He.ga K "Client") dx (clfl la "final" f x l))) := (FrI.of_same s15).trans (FrI.upd hp5 (by show 6 < 7; decide))
    have q1' : (upd (upd (upd H3 t (.tup [.str "q", .str (tx (keepL L M.ttag))])) l (.lst [.ref t])) p (.ins (He.ga K "Client") dx (clfl la "final" f x l))) t = some (.tup [.str "q", .str (tx (keepL L M.ttag))]) := (upd_ne tp).trans q1
    have q2' : (upd (upd (upd H3 t (.tup [.str "q", .str (tx (keepL L M.ttag))])) l (.lst [.ref t])) p (.ins (He.ga K "Client") dx (clfl la "final" f x l))) l = some (.lst [.ref t]) := (upd_ne lp).trans q2
    have q3' : (upd (upd (upd H3 t (.tup [.str "q", .str (tx (keepL L M.ttag))])) l (.lst [.ref t])) p (.ins (He.ga K "Client") dx (clfl la "final" f x l))) p = some (.ins (He.ga K "Client") dx (clfl la "final" f x l)) := upd_same
    obtain ⟨dw, w2⟩ := w2
    have w2' : WtAt K (upd (upd (upd H3 t (.tup [.str "q", .str (tx (keepL L M.ttag))])) l (.lst [.ref t])) p (.ins (He.ga K "Client") dx (clfl la "final" f x l))) x now f f (now + f) := ⟨dw, (upd_ne xp).trans (s15 _ _ w2)⟩
    generalize (upd (upd (upd H3 t (.tup [.str "q", .str (tx (keepL L M.ttag))])) l (.lst [.ref t])) p (.ins (He.ga K "Client") dx (clfl la "final" f x l))) = H6 at fr6 q1' q2' q3' w2' ⊢
    have hC6 : ClAt K H6 p la f z (finC L M f now) := ⟨dx, x, l, q3', w2', ⟨t, q2', q1'⟩, lz⟩
    refine ⟨_, rfl, p, dx, _, _, rfl, q3', rfl, l, _, rfl, .inl (SqL.of q2'), fun r hnr => ?_⟩
    have s7 := same_upd (o := .lst [.ref t]) hnr
    refine ⟨_, rfl, b, dm, _, _, rfl, s7 _ _ (fr6 _ _ (fr _ _ hm rfl) rfl), rfl, by show 2 ≤ sizeLine; decide, fun t2 ht2 => ?_⟩
    rw [em]
    have s8 := same_upd (o := .tup [.ref r, .int c]) ht2
    exact k t2 _ (hC6.same (s7.trans s8)) ((fr.trans fr6).trans (FrI.of_same (s7.trans s8))) ⟨r, upd_same, t, s8 _ _ upd_same, (s7.trans s8) _ _ q1'⟩
end K5
set_option maxHeartbeats 4000000
set_option pp.maxSteps 400
namespace K5
open PySem PySem.Spec PyProof.Rows L2 SX TK TKS
open C8 (pe_c)
/-! ### a tick -/
def tickR (L : Ltr) (C : Cl) (f now : Int) : Cl × Option Str × Bool :=
  if (decide (C.st = .wt) || decide (C.st = .ov)) = true then (C, none, false)
  else if 32 * f ≤ now - C.b then (⟨.ov, C.b, C.g, C.d, C.kp⟩, none, !decide (C.st = .fn))
  else if C.st = .cl ∧ ¬ now < C.d then (⟨.cl, C.b, minI (2 * C.g) (8 * f), now + minI (2 * C.g) (8 * f), C.kp⟩, some (tx L), false)
  else (C, none, false)
def spTick (K : PySem.W.Frag) : Sp := fun vs H Q _ => ∃ (p la z : Addr) (f now : Int) (C : Cl) (L : Ltr), vs = [.ref p, .int now] ∧ ClAt K H p la f z C ∧ LetAt K H la L ∧ Plain L ∧ 
  ∀ t H', ClAt K H' p la f z (tickR L C f now).1 → FrI H H' → TkAt H' t (tickR L C f now).2.1 (.bl (tickR L C f now).2.2) → Q (.ref t) H'
theorem ok_Client_tick {P : Program} {w : World} {K : PySem.W.Frag} {mg : Str → Option Value} {base : Heap} {f : Addr} {fd : FuncData} (T : Tx K mg) (c_Wait_is_up : C8.Met P w K mg base 1 (He.ga K "Wait") "is_up" (spIsUp K) []) (c_Wait_repeats : C8.Met P w K mg base 1 (He.ga K "Wait") "repeats" (spRepeats K) []) (c_Client_sending : C8.Met P w K mg base 3 (He.ga K "Client") "sending" (spSending K) [])
    (F : FunD K "tick" "Client.tick" (defArgs s_Client_tick) (defBody s_Client_tick) (defScope s_Client_tick) [] [] f fd) : FnOk P w K mg base CX0 4 f fd ["self", "now"] (spTick K) := by
  refine F.ok sc_Client_tick (fun vs H Q E h => ?_) (fun cdv A outer s H vs Q E hr h => ?_)
  · obtain ⟨p, la, z, f, now, C, L, rfl, _⟩ := h
    rfl
  · obtain ⟨p, la, z, f, now, C, L, rfl, hC, hla, pl, k⟩ := h
    obtain ⟨dx, wa, ka, hp, hw, hk, nz⟩ := id hC
    refine ⟨_, PSs.nox (C8.pss_cut (ps_if (pt_cmpR op_in_seq (pe_fldC rfl T.cl_Client T.na_Client_state (pv 0) rfl) (pe_tup (pa_cons pe_str (pa_cons pe_str pa_nil))) (by with_unfolding_all rfl)) (pss_one (ps_ret (pe_tup (pa_cons (pe_lst pa_nil) (pa_cons pe_bl pa_nil))))) pss_nil) (C8.pss_cut (ps_if (pt_val (C8.pe_mt c_Wait_is_up hr (by decide) (pe_fldC rfl T.cl_Client T.na_Client__wait (pv 0) rfl) (pa_cons (pv 1) pa_nil))) (pss_cons (ps_set (i := 2) sc_Client_tick.nd rfl (Or.inl rfl) (pe_cmpR op_ne (pe_fldC rfl T.cl_Client T.na_Client_state (pv 0) rfl) pe_str (nomark _))) (pss_cons (ps_fldC rfl T.cl_Client T.na_Client_state (pv 0) pe_str rfl) (pss_one (ps_ret (pe_tup (pa_cons (pe_lst pa_nil) (pa_cons (pv 2) pa_nil))))))) pss_nil) (C8.pss_cut (ps_if (PW.pt (pw_and (pt_cmpR op_eq (pe_fldC rfl T.cl_Client T.na_Client_state (pv 0) rfl) pe_str (nomark _)) (pw_and1 (pt_val (C8.pe_mt c_Wait_repeats hr (by decide) (pe_fldC rfl T.cl_Client T.na_Client__wait (pv 0) rfl) (pa_cons (pv 1) pa_nil)))))) (pss_one (ps_ret (pe_tup (pa_cons (C8.pe_mt0 c_Client_sending hr (by decide) (pv 0)) (pa_cons pe_bl pa_nil))))) pss_nil) (pss_one (ps_ret (pe_tup (pa_cons (pe_lst pa_nil) (pa_cons pe_bl pa_nil)))))))), ?_⟩
    refine ⟨fun σ' H' => σ' = [some (.ref p), some (.int now), none] ∧ Same H H' ∧ (decide (C.st = .wt) || decide (C.st = .ov)) = false, ?_, ?_⟩
    · refine ⟨_, rfl, p, dx, _, _, rfl, hp, rfl, by show 2 ≤ sizeLine; decide, fun t hnt => ?_⟩
      have s1 := same_upd (o := .tup [.str "waiting", .str "over"]) hnt
      refine ⟨t, _, rfl, .inr (SqT.of upd_same), rfl, rfl, _, rfl, ?_⟩
      have e1 : inV (V.str C.st.s) [.str "waiting", .str "over"] = (decide (C.st = .wt) || decide (C.st = .ov)) := by cases C.st <;> rfl
      show (if inV (V.str C.st.s) [.str "waiting", .str "over"] = true then _ else _)
      rw [e1]
      cases e : (decide (C.st = .wt) || decide (C.st = .ov)) with
      | true =>
        have et : tickR L C f now = (C, none, false) := if_pos e
        rw [et] at k
        exact iteT (pairR (K := K) fun t H' s2 h => k t H' (hC.same (s1.trans s2)) (FrI.of_same (s1.trans s2)) h)
      | false => exact iteF ⟨rfl, s1, rfl⟩
    rintro σ' H1 ⟨rfl, s1, h1⟩
    have h1' : ¬ (decide (C.st = .wt) || decide (C.st = .ov)) = true := by rw [h1]; exact Bool.false_ne_true
    have hp1 := s1 _ _ hp
    have hC1 := hC.same s1
    obtain ⟨dw, hw⟩ := hw
    have hw1 := s1 _ _ hw
    have hk1 := hk.fr (FrI.of_same s1)
    -- is it up
    refine ⟨fun σ' H' => σ' = [some (.ref p), some (.int now), none] ∧ H' = H1 ∧ ¬ 32 * f ≤ now - C.b, ?_, ?_⟩
    · refine ⟨_, rfl, p, dx, _, _, rfl, hp1, rfl, wa, dw, _, rfl, hw1, rfl, _, rfl, wa, C.b, f, C.g, C.d, now, rfl, ⟨dw, hw1⟩, _, rfl, ?_⟩
      by_cases e : 32 * f ≤ now - C.b
      · rw [decide_eq_true e]
        have et : tickR L C f now = (⟨.ov, C.b, C.g, C.d, C.kp⟩, none, !decide (C.st = .fn)) := by unfold tickR; rw [if_neg h1', if_pos e]
        rw [et] at k
        refine iteT ⟨_, rfl, p, dx, _, _, rfl, hp1, rfl, rfl, ?_⟩
        have e2 : (!decide (V.str C.st.s = V.str "final")) = !decide (C.st = .fn) := congrArg (fun b => !b) (st_is C.st .fn)
        rw [e2]
        refine ⟨_, rfl, p, dx, _, rfl, hp1, sm, ?_⟩
        rw [show putF "state" (V.str "over") (clfl la C.st.s f wa ka) = clfl la "over" f wa ka from rfl]
        have fr := FrI.upd (o := .ins (He.ga K "Client") dx (clfl la "over" f wa ka)) hp1 (by show 6 < 7; decide)
        have hC2 : ClAt K (upd H1 p (.ins (He.ga K "Client") dx (clfl la "over" f wa ka))) p la f z ⟨.ov, C.b, C.g, C.d, C.kp⟩ := ⟨dx, wa, ka, upd_same, ⟨dw, (upd_ne (ne_ins hw1 hp1 (by show 4 ≠ 6; decide))).trans hw1⟩, hk1.fr fr, nz⟩
        generalize upd H1 p (.ins (He.ga K "Client") dx (clfl la "over" f wa ka)) = H2 at fr hC2 ⊢
        refine ⟨by show 0 ≤ sizeLine; decide, fun l hl => ⟨_, rfl, by show 2 ≤ sizeLine; decide, fun t ht => ?_⟩⟩
        obtain ⟨n1, n2, s5, q1, q2⟩ := new2 (u := .tup [.ref l, .bl (!decide (C.st = .fn))]) hl ht
        exact k t _ (hC2.same s5) (((FrI.of_same s1).trans fr).trans (FrI.of_same s5)) ⟨l, q2, q1⟩
      · rw [decide_eq_false e]
        exact iteF ⟨rfl, rfl, e⟩
    rintro σ' H2 ⟨rfl, e, h2⟩
    obtain rfl : H1 = H2 := e.symm
    -- once more
    have no : ¬ (C.st = .cl ∧ ¬ now < C.d) → tickR L C f now = (C, none, false) := fun e => by unfold tickR; rw [if_neg h1', if_neg h2, if_neg e]
    refine ⟨fun σ' H' => σ' = [some (.ref p), some (.int now), none] ∧ H' = H1 ∧ ¬ (C.st = .cl ∧ ¬ now < C.d), ?_, ?_⟩
    · refine ⟨_, rfl, p, dx, _, _, rfl, hp1, rfl, rfl, _, rfl, ?_⟩
      show (if decide (V.str C.st.s = V.str CS.cl.s) = true then _ else _)
      rw [st_is]
      by_cases ec : C.st = .cl
      · rw [decide_eq_true ec]
        refine iteT ⟨_, rfl, p, dx, _, _, rfl, hp1, rfl, wa, dw, _, rfl, hw1, rfl, _, rfl, wa, C.b, f, C.g, C.d, now, rfl, ⟨dw, hw1⟩, ?_⟩
        by_cases ed : now < C.d
        · exact .inl ⟨ed, _, rfl, iteF ⟨rfl, rfl, fun q => q.2 ed⟩⟩
        · refine .inr ⟨ed, fun H3 hw3 f3 => ⟨_, rfl, iteT ?_⟩⟩
          have et : tickR L C f now = (⟨.cl, C.b, minI (2 * C.g) (8 * f), now + minI (2 * C.g) (8 * f), C.kp⟩, some (tx L), false) := by unfold tickR; rw [if_neg h1', if_neg h2, if_pos ⟨ec, ed⟩]
          rw [et] at k
          have fr3 : FrI H1 H3 := fun b o e n => f3 b o e fun q => by
            rw [q, hw1] at e
            cases e
            cases n
          have hp3 := f3 _ _ hp1 (ne_ins hp1 hw1 (by show 6 ≠ 4; decide))
          have hC3 : ClAt K H3 p la f z ⟨.cl, C.b, minI (2 * C.g) (8 * f), now + minI (2 * C.g) (8 * f), C.kp⟩ := by
            refine ⟨dx, wa, ka, ?_, hw3, hk1.fr fr3, nz⟩
            rw [hp3, ec]
          have fr := (FrI.of_same s1).trans fr3
          refine ⟨_, rfl, p, dx, _, rfl, hp3, rfl, p, la, z, f, _, L, rfl, hC3, fr.let hla, pl, fun r H4 s4 _ hr4 => ⟨by show 2 ≤ sizeLine; decide, fun t ht => ?_⟩⟩
          have s5 := same_upd (o := .tup [.ref r, .bl false]) ht
          exact k t _ (hC3.same (s4.trans s5)) (fr.trans (FrI.of_same (s4.trans s5))) ⟨r, upd_same, hr4.fr (FrI.of_same s5)⟩
      · rw [decide_eq_false ec]
        exact iteF ⟨rfl, rfl, fun q => ec q.1⟩
    rintro σ' H2 ⟨rfl, e, h3⟩
    obtain rfl : H1 = H2 := e.symm
    rw [no h3] at k
    exact pairR (K := K) fun t H' s2 h => k t H' (hC1.same s2) (FrI.of_same (s1.trans s2)) h
/-! ### the law's source of draws -/
def spState (K : PySem.W.Frag) : Sp := fun vs H Q _ => ∃ (a : Addr) (ns : List Int), vs = [.ref a] ∧ SqL K H a (ns.map V.int) ∧ ns.length ≤ 63 ∧ ∀ s c H', Same H H' → H s = none → H c = none → StAt H' s c → Q (.ref s) H'
theorem ok_law_state {P : Program} {w : World} {K : PySem.W.Frag} {mg : Str → Option Value} {base : Heap} {f : Addr} {fd : FuncData} (T : Tx K mg) 
    (F : FunD K "_law_state" "_law_state" (defArgs s_law_state) (defBody s_law_state) (defScope s_law_state) [] [] f fd) : FnOk P w K mg base CX0 1 f fd ["script"] (spState K) := by
  refine F.ok sc_law_state (fun vs H Q E h => ?_) (fun cdv A outer s H vs Q E hr h => ?_)
  · obtain ⟨a, ns, rfl, _⟩ := h
    rfl
  · obtain ⟨a, ns, rfl, hS, hn, k⟩ := h
    refine ⟨_, PSs.nox (pss_cons (ps_set (i := 1) sc_law_state.nd rfl (Or.inl rfl) pe_int) (pss_cons (ps_for PassesOwn.never rfl (pi_list (pv 0)) (pg_name (i := 2) sc_law_state.nd rfl (Or.inl rfl)) (pss_one (ps_set (i := 1) sc_law_state.nd rfl (Or.inl rfl) (pe_op op_mod (pe_callTy call_int1 rfl T.f_int (by decide +kernel) (pa_cons (pe_op op_add (pe_op op_mul (pv 1) pe_int) (pv 2)) pa_nil)) pe_int)))) (pss_one (ps_ret (pe_lst (pa_cons (pe_lc (own := [("cell", 2)]) (g := gName 2) rfl sc_law_state.nd (pi_list (pv 0)) (blkOk_by (own := [("cell", 2)]) (N := ["script", "seed", "cell"]) (sc := defScope s_law_state) (by decide +kernel)) (fun _ _ _ _ _ => pg_name (i := 2) sc_law_state.nd rfl (Or.inl rfl)) (fun _ _ _ _ _ => pts_nil) (fun _ _ _ _ _ => (pe_callB call_abs rfl T.f_abs (by decide +kernel) (pa_cons (pv 2) pa_nil)))) (pa_cons (pe_op op_add (pv 1) pe_int) pa_nil))))))), ?_⟩
    refine ⟨_, rfl, a, rfl, ⟨_, hS⟩, for_list (K := K) (a := a) (xs := ns.map V.int) (fun i σ H' => H' = H ∧ ∃ (n : Int) (v : Option V), σ = [some (.ref a), some (.int n), v]) ⟨rfl, 7, none, rfl⟩ (fun i σ H' _ q => q.1 ▸ hS) ?_ ?_⟩
    · rintro i y σ H' hi ⟨rfl, n, v, rfl⟩
      obtain ⟨z, rfl⟩ : ∃ z, y = V.int z := by
        obtain ⟨z, _, e⟩ := List.mem_map.mp (List.mem_of_getElem? hi)
        exact ⟨z, e.symm⟩
      refine ⟨_, rfl, _, _, rfl, rfl, .inr ⟨by decide, by decide⟩, _, rfl, _, _, rfl, rfl, .inl ⟨_, rfl, _, _, rfl, rfl, (by show (0 : Int) < 1000003; decide), rfl, _, _, rfl⟩⟩
    · rintro σ H' ⟨rfl, n, v, rfl⟩
      refine ⟨_, rfl, a, rfl, ⟨_, hS⟩, fun D hD => ?_⟩
      have hS2 : ∀ o, SqL K (upd H' D o) a (ns.map V.int) := fun o => (same_upd hD).seq hS
      refine lc_pureN walk_list (fun i => V.int (if ns.getD i 0 < 0 then -(ns.getD i 0) else ns.getD i 0)) (by rw [List.length_map]; exact Nat.le_trans hn (by decide)) (fun _ _ => hS2 _) (fun i x H1 kk hi y q => ?_) ?_
      · obtain ⟨rfl, hx⟩ := y
        refine ⟨rfl, _, rfl, ns.getD i 0, ?_, q⟩
        rw [List.getElem?_map] at hx
        rw [List.length_map] at hi
        rw [List.getElem?_eq_getElem hi] at hx
        rw [List.getD_eq_getElem?_getD, List.getElem?_eq_getElem hi]
        exact congrArg (fun v => [v]) (Option.some.inj hx).symm
      · refine ⟨_, rfl, _, _, rfl, rfl, by show 2 ≤ sizeLine; decide, fun p hp => ?_⟩
        have npD : p ≠ D := fun e => by
          rw [e, upd_same] at hp
          cases hp
        have hp0 : H' p = none := by
          rw [upd_ne npD] at hp
          exact hp
        refine k p D _ ((same_upd hD).trans (same_upd hp)) hp0 hD ⟨npD, ⟨_, upd_same⟩, ns.map (fun i => if i < 0 then -i else i), ?_, ?_⟩
        · rw [upd_ne npD.symm, upd_same, List.length_map, List.map_map]
          exact congrArg (fun l => some (HO.lst l)) (range_map_getD ns 0 fun i => V.int (if i < 0 then -i else i))
        · rw [List.length_map]
          exact hn
def spDraw : Sp := fun vs H Q _ => ∃ (s c : Addr) (m : Int), vs = [.ref s, .int m] ∧ StAt H s c ∧ 0 < m ∧ m < 1073741824 ∧ ∀ r H', 0 ≤ r → r < m → StAt H' s c → Keep H H' s c → Q (.int r) H'
theorem ok_law_draw {P : Program} {w : World} {K : PySem.W.Frag} {mg : Str → Option Value} {base : Heap} {f : Addr} {fd : FuncData} (T : Tx K mg) 
    (F : FunD K "_law_draw" "_law_draw" (defArgs s_law_draw) (defBody s_law_draw) (defScope s_law_draw) [] [] f fd) : FnOk P w K mg base CX0 1 f fd ["state", "many"] spDraw := by
  refine F.ok sc_law_draw (fun vs H Q E h => ?_) (fun cdv A outer s0 H vs Q E hr h => ?_)
  · obtain ⟨s, c, m, rfl, _⟩ := h
    rfl
  · obtain ⟨s, c, m, rfl, ⟨ne, ⟨n, h1⟩, ns, h2, h3⟩, hm0, hm1, k⟩ := h
    refine ⟨_, PSs.nox (pss_cons (ps_set (i := 2) sc_law_draw.nd rfl (Or.inl rfl) (pe_ix ix_list (pv 0) pe_int (fun _ _ => rfl))) (C8.pss_cut (ps_while PassesOwn.never (PW.pt (pw_and (pt_cmpR op_gt (pe_callB call_len_seq rfl T.f_len PySem.boot_len (pa_cons (pv 2) pa_nil)) pe_int (nomark _)) (pw_and1 (pt_cmpR op_eq (pe_ix ix_list (pv 2) pe_int (fun _ _ => rfl)) pe_int (nomark _))))) (pss_one (ps_expr (pe_bm PySem.F.plainAttrs_list PySem.F.slot_list_pop PySem.F.type_list_pop mt_popAt (pv 2) (pa_cons pe_int pa_nil))))) (C8.pss_cut (ps_if (pt_cmpR op_gt (pe_callB call_len_seq rfl T.f_len PySem.boot_len (pa_cons (pv 2) pa_nil)) pe_int (nomark _)) (pss_cons (ps_set (i := 3) sc_law_draw.nd rfl (Or.inl rfl) (pe_ix ix_list (pv 2) pe_int (fun _ _ => rfl))) (pss_cons (ps_asg (pe_op op_fdiv (pv 3) (pv 1)) (pg_sub (pv 2) pe_int set_list)) (pss_one (ps_ret (pe_op op_mod (pe_callTy call_int1 rfl T.f_int (by decide +kernel) (pa_cons (pv 3) pa_nil)) (pv 1)))))) pss_nil) (pss_cons (ps_set (i := 4) sc_law_draw.nd rfl (Or.inl rfl) (pe_op op_mod (pe_callTy call_int1 rfl T.f_int (by decide +kernel) (pa_cons (pe_op op_add (pe_op op_mul (pe_ix ix_list (pv 0) pe_int (fun _ _ => rfl)) pe_int) pe_int) pa_nil)) pe_int)) (pss_cons (ps_asg (pv 4) (pg_sub (pv 0) pe_int set_list)) (pss_one (ps_ret (pe_op op_mod (pe_callTy call_int1 rfl T.f_int (by decide +kernel) (pa_cons (pe_op op_fdiv (pv 4) pe_int) pa_nil)) (pv 1))))))))), ?_⟩
    refine ⟨_, rfl, s, _, 0, _, rfl, rfl, SqL.of h1, rfl, ?_⟩
    let I : L2.St → Hp → List Int → Prop := fun σ H' ns' => σ = [some (.ref s), some (.int m), some (.ref c), none, none] ∧ H' s = some (.lst [.ref c, .int n]) ∧ Keep H H' s c ∧ H' c = some (.lst (ns'.map V.int)) ∧ ns'.length ≤ 63
    refine ⟨fun σ H' => ∃ ns', I σ H' ns', ?_, ?_⟩
    · refine ⟨fun l σ H' => ∃ ns', l = ns'.length ∧ I σ H' ns', ⟨ns.length, ns, rfl, rfl, h1, Keep.refl _ _ _, h2, h3⟩, ?_⟩
      rintro l σ H' ⟨ns', rfl, rfl, g1, kp, g2, g3⟩
      refine ⟨_, rfl, c, _, rfl, .inl (SqL.of g2), _, _, rfl, rfl, _, rfl, ?_⟩
      cases ns' with
      | nil => exact iteF (iteF ⟨[], rfl, g1, kp, g2, g3⟩)
      | cons v r =>
        rw [List.length_map, decide_eq_true (by rw [List.length_cons]; omega)]
        refine iteT ?_
        refine ⟨_, rfl, c, _, 0, V.int v, rfl, rfl, SqL.of g2, atC _ _, rfl, _, rfl, ?_⟩
        refine ite2 (fun h5 => ?_) (fun h5 => ⟨v :: r, rfl, g1, kp, g2, g3⟩)
        refine ⟨fun σ' H2 => ∃ l, l < (v :: r).length ∧ ∃ ns', l = ns'.length ∧ I σ' H2 ns', fun _ _ q => q, ?_⟩
        refine ⟨_, rfl, .inl ⟨rfl, _, SqL.of g2⟩, c, _, 0, 0, V.int v, rfl, rfl, g2, by decide, by decide, sqC _ _, rfl, ?_⟩
        refine ⟨r.length, Nat.lt_succ_self _, r, rfl, rfl, ?_, fun b o e q1 q2 => ?_, upd_same, Nat.le_of_succ_le g3⟩
        · rw [upd_ne ne]
          exact g1
        · rw [upd_ne q2]
          exact kp b o e q1 q2
    · rintro σ H' ⟨ns', rfl, g1, kp, g2, g3⟩
      refine ⟨fun σ' H2 => σ' = [some (.ref s), some (.int m), some (.ref c), none, none] ∧ H2 = H', ?_, ?_⟩
      · refine ⟨_, rfl, c, _, rfl, .inl (SqL.of g2), _, _, rfl, rfl, _, rfl, ?_⟩
        cases ns' with
        | nil => exact iteF ⟨rfl, rfl⟩
        | cons v r =>
          rw [List.length_map, decide_eq_true (by rw [List.length_cons]; omega)]
          refine iteT ?_
          refine ⟨_, rfl, c, _, 0, V.int v, rfl, rfl, SqL.of g2, atC _ _, ?_⟩
          refine ⟨_, rfl, _, rfl, _, _, rfl, rfl, ⟨hm0, hm1⟩, _, rfl, c, _, 0, 0, rfl, rfl, g2, ixC _ _, ?_⟩
          refine ⟨_, rfl, .inl ⟨_, rfl, _, rfl, _, _, rfl, rfl, hm0, ?_⟩⟩
          refine k _ _ (Int.emod_nonneg _ (by omega)) (Int.emod_lt_of_pos _ hm0) ⟨ne, ⟨n, ?_⟩, (v / m) :: r, upd_same, g3⟩ (fun b o e q1 q2 => ?_)
          · rw [upd_ne ne]
            exact g1
          · rw [upd_ne q2]
            exact kp b o e q1 q2
      · rintro σ' H2 ⟨rfl, rfl⟩
        refine ⟨_, rfl, s, _, 1, _, rfl, rfl, SqL.of g1, rfl, _, _, rfl, rfl, .inr ⟨by decide, by decide⟩, _, _, rfl, rfl, .inl ⟨_, rfl, _, _, rfl, rfl, (by show (0 : Int) < 2147483647; decide), ?_⟩⟩
        refine ⟨_, rfl, _, rfl, s, _, 1, 1, rfl, rfl, g1, rfl, ?_⟩
        refine ⟨_, rfl, _, _, rfl, rfl, ⟨by decide, by decide⟩, .inl ⟨_, rfl, _, rfl, _, _, rfl, rfl, hm0, ?_⟩⟩
        refine k _ _ (Int.emod_nonneg _ (by omega)) (Int.emod_lt_of_pos _ hm0) ⟨ne, ⟨_, upd_same⟩, ns', ?_, g3⟩ (fun b o e q1 q2 => ?_)
        · rw [upd_ne ne.symm]
          exact g2
        · rw [upd_ne q1]
          exact kp b o e q1 q2
/-- of a text: one of its signs; of a list: one of its items -/
def spPick : Sp := fun vs H Q _ => ∃ (s c : Addr) (x : V), vs = [.ref s, x] ∧ StAt H s c ∧
  ((∃ z : Str, x = .str z ∧ 0 < z.length ∧ z.length ≤ 1000 ∧ ∀ ch H', ch ∈ TL.tl z → StAt H' s c → Keep H H' s c → Q (.str (S [ch])) H') ∨
   (∃ a xs, x = .ref a ∧ H a = some (.lst xs) ∧ a ≠ s ∧ a ≠ c ∧ 0 < xs.length ∧ xs.length ≤ 1000 ∧ ∀ v ∈ xs, ∀ H', StAt H' s c → Keep H H' s c → Q v H'))
theorem ok_law_pick {P : Program} {w : World} {K : PySem.W.Frag} {mg : Str → Option Value} {base : Heap} {f : Addr} {fd : FuncData} (T : Tx K mg) (c_law_draw : C8.Cal P w K mg base 1 "_law_draw" spDraw [])
    (F : FunD K "_law_pick" "_law_pick" (defArgs s_law_pick) (defBody s_law_pick) (defScope s_law_pick) [] [] f fd) : FnOk P w K mg base CX0 2 f fd ["state", "row"] spPick := by
  refine F.ok sc_law_pick (fun vs H Q E h => ?_) (fun cdv A outer s0 H vs Q E hr h => ?_)
  · obtain ⟨s, c, x, rfl, _⟩ := h
    rfl
  · obtain ⟨s, c, x, rfl, hst, h⟩ := h
    refine ⟨_, PSs.nox (pss_one (ps_ret (pe_ix ix_seq (pv 1) (pe_c c_law_draw hr (by decide) rfl (pa_cons (pv 0) (pa_cons (pe_callB call_len rfl T.f_len PySem.boot_len (pa_cons (pv 1) pa_nil)) pa_nil))) (fun _ _ => rfl)))), ?_⟩
    rcases h with ⟨z, rfl, z0, z1, k⟩ | ⟨a, xs, rfl, ha, as, ac, x0, x1, k⟩
    · have hz2 : z.length ≤ sizeLine := Nat.le_trans z1 (by decide)
      refine ⟨_, rfl, _, rfl, _, rfl, _, z.length, rfl, ⟨hz2, rfl⟩, s, c, _, rfl, hst, by omega, by omega, fun r H' r0 r1 st' kp' => ?_⟩
      have hl : r < ((TL.tl z).length : Nat) := by rw [← len_eq]; exact r1
      refine .inr (.inr ⟨z, r, _, rfl, rfl, hz2, atN 0 r0 hl, ?_⟩)
      refine k _ H' ?_ st' kp'
      have hl2 : r.toNat < (TL.tl z).length := by omega
      rw [List.getD_eq_getElem?_getD, List.getElem?_eq_getElem hl2]
      exact List.getElem_mem _
    · have hx2 : xs.length ≤ sizeLine := Nat.le_trans x1 (by decide)
      refine ⟨_, rfl, _, rfl, _, rfl, _, xs.length, rfl, .inl ⟨xs, SqL.of ha, rfl⟩, s, c, _, rfl, hst, by omega, by omega, fun r H' r0 r1 st' kp' => ?_⟩
      refine .inl ⟨a, xs, r, _, rfl, rfl, SqL.of (kp' a _ ha as ac), atN .non r0 r1, ?_⟩
      refine k _ ?_ H' st' kp'
      rw [List.getD_eq_getElem?_getD, List.getElem?_eq_getElem (by omega)]
      exact List.getElem_mem _

/-! ### the ticks at which a letter is sent again -/
def fullT (f : Int) : List Int := [f, 3 * f, 7 * f, 15 * f, 23 * f, 31 * f, 39 * f]
def sendsT (f : Int) : List Int := [f, 3 * f, 7 * f, 15 * f, 23 * f, 31 * f]
theorem filt_full {f : Int} (h : 1 ≤ f) : (fullT f).filter (fun x => decide (x < 32 * f)) = sendsT f := by
  have e : ∀ c : Int, c < 32 → decide (c * f < 32 * f) = true := fun c hc => decide_eq_true (Int.mul_lt_mul_of_pos_right hc (by omega))
  have e1 : decide (f < 32 * f) = true := decide_eq_true (by omega)
  have e2 : decide (39 * f < 32 * f) = false := decide_eq_false (by omega)
  unfold fullT sendsT
  rw [List.filter_cons, if_pos e1, List.filter_cons, if_pos (e 3 (by decide)), List.filter_cons, if_pos (e 7 (by decide)), List.filter_cons, if_pos (e 15 (by decide)), List.filter_cons, if_pos (e 23 (by decide)), List.filter_cons, if_pos (e 31 (by decide)), List.filter_cons, if_neg (by rw [e2]; exact Bool.false_ne_true)]
  rfl
theorem step_full (f : Int) : ∀ i, i < 6 → ∃ z y : Int, ([2, 4, 8, 8, 8, 8] : List Int)[i]? = some y ∧ ((fullT f).take (i + 1))[i]? = some z ∧ (fullT f).take (i + 1) ++ [z + y * f] = (fullT f).take (i + 1 + 1) ∧ 0 ≤ y ∧ y < 100
  | 0, _ => ⟨f, 2, rfl, rfl, by show [f, f + 2 * f] = [f, 3 * f]; rw [show f + 2 * f = 3 * f by omega], by decide, by decide⟩
  | 1, _ => ⟨3 * f, 4, rfl, rfl, by show [f, 3 * f, 3 * f + 4 * f] = [f, 3 * f, 7 * f]; rw [show 3 * f + 4 * f = 7 * f by omega], by decide, by decide⟩
  | 2, _ => ⟨7 * f, 8, rfl, rfl, by show [f, 3 * f, 7 * f, 7 * f + 8 * f] = [f, 3 * f, 7 * f, 15 * f]; rw [show 7 * f + 8 * f = 15 * f by omega], by decide, by decide⟩
  | 3, _ => ⟨15 * f, 8, rfl, rfl, by show [f, 3 * f, 7 * f, 15 * f, 15 * f + 8 * f] = [f, 3 * f, 7 * f, 15 * f, 23 * f]; rw [show 15 * f + 8 * f = 23 * f by omega], by decide, by decide⟩
  | 4, _ => ⟨23 * f, 8, rfl, rfl, by show [f, 3 * f, 7 * f, 15 * f, 23 * f, 23 * f + 8 * f] = [f, 3 * f, 7 * f, 15 * f, 23 * f, 31 * f]; rw [show 23 * f + 8 * f = 31 * f by omega], by decide, by decide⟩
  | 5, _ => ⟨31 * f, 8, rfl, rfl, by show [f, 3 * f, 7 * f, 15 * f, 23 * f, 31 * f, 31 * f + 8 * f] = [f, 3 * f, 7 * f, 15 * f, 23 * f, 31 * f, 39 * f]; rw [show 31 * f + 8 * f = 39 * f by omega], by decide, by decide⟩
  | n + 6, h => absurd h (by omega)
def spSends (K : PySem.W.Frag) : Sp := fun vs H Q _ => ∃ f : Int, vs = [.int f] ∧ 1 ≤ f ∧ ∀ r H', Same H H' → H' r = some (.lst ((sendsT f).map V.int)) → Q (.ref r) H'
theorem ok_law_sends_at {P : Program} {w : World} {K : PySem.W.Frag} {mg : Str → Option Value} {base : Heap} {f : Addr} {fd : FuncData} (T : Tx K mg) 
    (F : FunD K "_law_sends_at" "_law_sends_at" (defArgs s_law_sends_at) (defBody s_law_sends_at) (defScope s_law_sends_at) [] [] f fd) : FnOk P w K mg base CX0 1 f fd ["first"] (spSends K) := by
  refine F.ok sc_law_sends_at (fun vs H Q E h => ?_) (fun cdv A outer s H vs Q E hr h => ?_)
  · obtain ⟨f, rfl, _⟩ := h
    rfl
  · obtain ⟨f, rfl, hf, k⟩ := h
    refine ⟨_, PSs.nox (pss_cons (ps_set (i := 1) sc_law_sends_at.nd rfl (Or.inl rfl) (pe_lst (pa_cons (pv 0) pa_nil))) (pss_cons (ps_for PassesOwn.never rfl (pi_list (pe_lst (pa_cons pe_int (pa_cons pe_int (pa_cons pe_int (pa_cons pe_int (pa_cons pe_int (pa_cons pe_int pa_nil)))))))) (pg_name (i := 2) sc_law_sends_at.nd rfl (Or.inl rfl)) (pss_one (ps_expr (pe_bm PySem.F.plainAttrs_list PySem.F.slot_list_append PySem.F.type_list_append mt_append (pv 1) (pa_cons (pe_op op_add (pe_ix ix_list (pv 1) (pe_op op_sub (pe_callB call_len_seq rfl T.f_len PySem.boot_len (pa_cons (pv 1) pa_nil)) pe_int) (fun _ _ => rfl)) (pe_op op_mul (pv 2) (pv 0))) pa_nil))))) (pss_one (ps_ret (pe_lc (own := [("tick", 3)]) (g := gName 3) rfl sc_law_sends_at.nd (pi_list (pv 1)) (blkOk_by (own := [("tick", 3)]) (N := ["first", "ticks", "gap", "tick"]) (sc := defScope s_law_sends_at) (by decide +kernel)) (fun _ _ _ _ _ => pg_name (i := 3) sc_law_sends_at.nd rfl (Or.inl rfl)) (fun _ _ _ _ _ => pts_one (pt_cmpR op_lt (pv 3) (pe_op op_mul pe_int (pv 0)) (nomark _))) (fun _ _ _ _ _ => (pv 3))))))), ?_⟩
    refine ⟨_, rfl, by show 1 ≤ sizeLine; decide, fun l hnl => ?_⟩
    refine ⟨by show 6 ≤ sizeLine; decide, fun g hng => ?_⟩
    obtain ⟨lg, hg0, s2, ql, qg⟩ := new2 (u := .lst [.int 2, .int 4, .int 8, .int 8, .int 8, .int 8]) hnl hng
    refine ⟨g, rfl, ⟨_, SqL.of qg⟩, for_list (K := K) (a := g) (xs := [.int 2, .int 4, .int 8, .int 8, .int 8, .int 8]) (fun i σ H' => i ≤ 6 ∧ Same H H' ∧ H' g = some (.lst [.int 2, .int 4, .int 8, .int 8, .int 8, .int 8]) ∧ H' l = some (.lst (((fullT f).take (i + 1)).map V.int)) ∧ ∃ v : Option V, σ = [some (.int f), some (.ref l), v, none]) ⟨by decide, s2, qg, ql, none, rfl⟩ (fun i σ H' _ q => SqL.of q.2.2.1) ?_ ?_⟩
    · rintro i y σ H' hi ⟨hi6, sH, h1, h2, v, rfl⟩
      have hi5 : i < 6 := (List.getElem?_eq_some_iff.mp hi).1
      obtain ⟨z, y0, e1, e2, e3, y1, y2⟩ := step_full f i hi5
      have ey : y = .int y0 := by
        have e : (([2, 4, 8, 8, 8, 8] : List Int).map V.int)[i]? = some y := hi
        rw [List.getElem?_map, e1] at e
        exact (Option.some.inj e).symm
      subst ey
      have hlen : (((fullT f).take (i + 1)).map V.int).length = i + 1 := by
        rw [List.length_map, List.length_take]
        show min (i + 1) 7 = i + 1
        omega
      have at1 : atI (((fullT f).take (i + 1)).map V.int) (((((fullT f).take (i + 1)).map V.int).length : Int) - 1) = some (.int z) := by
        rw [hlen, show ((i + 1 : Nat) : Int) - 1 = (i : Int) by omega, atN .non (by omega) (by rw [hlen]; omega)]
        show some (List.getD _ i _) = _
        rw [List.getD_eq_getElem?_getD, List.getElem?_map, e2]
        rfl
      refine ⟨_, rfl, .inl ⟨rfl, _, SqL.of h2⟩, _, rfl, _, rfl, l, _, rfl, .inl (SqL.of h2), _, _, rfl, rfl, l, _, _, .int z, rfl, rfl, SqL.of h2, at1, _, rfl, _, rfl, _, _, rfl, rfl, .inl ⟨by omega, by omega⟩, _, _, rfl, rfl, l, _, _, rfl, rfl, h2, by rw [hlen]; exact Nat.lt_of_lt_of_le (show i + 1 < 100 by omega) (by decide), ?_⟩
      have gl : g ≠ l := lg.symm
      refine ⟨by omega, TK.Same.upd_of sH hnl, (upd_ne gl).trans h1, ?_, _, rfl⟩
      rw [← e3, List.map_append]
      exact upd_same
    · rintro σ H' ⟨_, sH, h1, h2, v, rfl⟩
      refine ⟨_, rfl, l, rfl, ⟨_, SqL.of h2⟩, fun D hD => ?_⟩
      have hS2 : ∀ o, SqL K (upd H' D o) l ((fullT f).map V.int) := fun o => SqL.of ((same_upd hD) _ _ h2)
      refine lc_filt (walk_list (K := K) (a := l) (xs := (fullT f).map V.int)) (fun i => V.int ((fullT f).getD i 0)) (fun i => decide ((fullT f).getD i 0 < 32 * f)) (by show 7 ≤ sizeLine; decide) (fun _ _ => hS2 _) (fun i x H4 kk hi y q => ?_) (fun i x H4 kk hi hb y q => ?_) ?_
      · obtain ⟨rfl, hx⟩ := y
        rw [List.length_map] at hi
        rw [List.getElem?_map, List.getElem?_eq_getElem hi] at hx
        obtain rfl := Option.some.inj hx
        refine ⟨rfl, _, rfl, _, rfl, _, _, rfl, rfl, .inl ⟨by decide, by decide⟩, _, _, rfl, rfl, _, rfl, ?_⟩
        rw [List.getD_eq_getElem?_getD, List.getElem?_eq_getElem hi] at q
        exact q
      · obtain ⟨rfl, hx⟩ := y
        rw [List.length_map] at hi
        rw [List.getElem?_map, List.getElem?_eq_getElem hi] at hx
        obtain rfl := Option.some.inj hx
        rw [List.getD_eq_getElem?_getD, List.getElem?_eq_getElem hi] at q
        exact ⟨_, rfl, q⟩
      · rw [List.length_map, range_filter_getD (fullT f) 0 (fun x => decide (x < 32 * f)) V.int, filt_full hf]
        exact k D _ (sH.trans (same_upd hD)) upd_same

end K5
set_option maxHeartbeats 4000000
set_option pp.maxSteps 400
namespace K5
open PySem PySem.Spec PyProof.Rows L2 SX TK TKS
open C8 (pe_c)
def Stg (f x e g : Int) : Prop := (e = f ∧ g = f ∧ 0 ≤ x ∧ x < f) ∨ (e = 3 * f ∧ g = 2 * f ∧ f ≤ x ∧ x < 3 * f) ∨ (e = 7 * f ∧ g = 4 * f ∧ 3 * f ≤ x ∧ x < 7 * f) ∨ (e = 15 * f ∧ g = 8 * f ∧ 7 * f ≤ x ∧ x < 15 * f) ∨
  (e = 23 * f ∧ g = 8 * f ∧ 15 * f ≤ x ∧ x < 23 * f) ∨ (e = 31 * f ∧ g = 8 * f ∧ 23 * f ≤ x ∧ x < 31 * f) ∨ (e = 39 * f ∧ g = 8 * f ∧ 31 * f ≤ x ∧ x < 39 * f)
theorem mem_sends {f x : Int} : x ∈ sendsT f ↔ x = f ∨ x = 3 * f ∨ x = 7 * f ∨ x = 15 * f ∨ x = 23 * f ∨ x = 31 * f := by simp [sendsT]
theorem stg_step {f x e g : Int} (h1 : 1 ≤ f) (h : Stg f x e g) (hx : x + 1 < 32 * f) : (x + 1 ∈ sendsT f ↔ ¬ x + 1 < e) ∧ (x + 1 < e → Stg f (x + 1) e g) ∧ (¬ x + 1 < e → Stg f (x + 1) (x + 1 + minI (2 * g) (8 * f)) (minI (2 * g) (8 * f))) := by
  rw [mem_sends]
  unfold Stg at *
  have m : ∀ a b : Int, (b < a → minI a b = b) ∧ (¬ b < a → minI a b = a) := fun a b => ⟨fun z => if_pos z, fun z => if_neg z⟩
  rcases h with h | h | h | h | h | h | h <;> obtain ⟨he, hg, h3, h4⟩ := h
  · rw [hg, (m (2 * f) (8 * f)).2 (by omega)]
    refine ⟨by omega, fun _ => by omega, fun _ => by omega⟩
  · rw [hg, (m (2 * (2 * f)) (8 * f)).2 (by omega)]
    refine ⟨by omega, fun _ => by omega, fun _ => by omega⟩
  · rw [hg, (m (2 * (4 * f)) (8 * f)).2 (by omega)]
    refine ⟨by omega, fun _ => by omega, fun _ => by omega⟩
  all_goals
    rw [hg, (m (2 * (8 * f)) (8 * f)).1 (by omega)]
    refine ⟨by omega, fun _ => by omega, fun _ => by omega⟩

def verbs5 : List Str := ["CALL", "END", "LIVE", "SIGN", "TURN"]
def tags5 : List Str := ["a", "b7"]
def lawL (v : Str) : Ltr := ⟨v, "c1", "ann@p", "t1", "bob@x", "t2", 5, "w3", .non, .non, .non, .non⟩
def spLawLet (K : PySem.W.Frag) : Sp := fun vs H Q _ => ∃ v : Str, vs = [.str v] ∧ ∀ a H', Same H H' → LetAt K H' a (lawL v) → Q (.ref a) H'
theorem ok_law_letter {P : Program} {w : World} {K : PySem.W.Frag} {mg : Str → Option Value} {base : Heap} {f : Addr} {fd : FuncData} (T : Tx K mg) (c_mk_Letter_a : MakK P w K mg base 1 "Letter" (He.ga K "Letter") (spLetInit K) 0 ["verb", "call", "origin", "origin_tag", "target", "target_tag", "seq", "way"] (fun vs zs => vs ++ ((((zs.drop 0).take 8) ++ ((([(V.non), (V.non), (V.non), (V.non)] : List V).drop 0).take 4)))))
    (F : FunD K "_law_letter" "_law_letter" (defArgs s_law_letter) (defBody s_law_letter) (defScope s_law_letter) [] [] f fd) : FnOk P w K mg base CX0 3 f fd ["verb"] (spLawLet K) := by
  refine F.ok sc_law_letter (fun vs H Q E h => ?_) (fun cdv A outer s H vs Q E hr h => ?_)
  · obtain ⟨v, rfl, _⟩ := h
    rfl
  · obtain ⟨v, rfl, k⟩ := h
    refine ⟨_, PSs.nox (pss_one (ps_ret (pe_mkK0 c_mk_Letter_a hr (by decide) rfl (pk_cons (pv 0) (pk_cons pe_str (pk_cons pe_str (pk_cons pe_str (pk_cons pe_str (pk_cons pe_str (pk_cons pe_int (pk_cons pe_str pk_nil))))))))))), ?_⟩
    refine ⟨_, rfl, rfl, rfl, fun x dy hx hdy hne => ?_⟩
    refine ⟨x, dy, lawL v, rfl, upd_same, rfl, ?_⟩
    rw [upd_upd]
    exact k x _ (same_own hx hdy) ⟨dy, upd_same⟩
theorem v_small : ∀ v ∈ verbs5, v ∈ verbsL ∧ v.length ≤ 1000 ∧ PyData.strOk v = true := by decide +kernel
theorem lits : (tagB "c1" = true ∧ (splitB "ann@p").isSome = true ∧ tagB "t1" = true ∧ (splitB "bob@x").isSome = true ∧ tagB "w3" = true ∧ ("KEEP" : Str) ∈ verbsL ∧ tagB "t2" = true ∧ ("t2" : Str).length ≠ 0) ∧ ∀ t ∈ tags5, t.length ≠ 0 ∧ tagB t = true ∧ PyData.strOk t = true := by decide +kernel
theorem gLaw {v : Str} (hv : v ∈ verbs5) : GLet (lawL v) none none :=
  ⟨(v_small v hv).1, rfl, (fun _ e => nomatch e), lits.1.1, lits.1.2.1, lits.1.2.2.1, lits.1.2.2.2.1, .inr ⟨lits.1.2.2.2.2.2.2.2, lits.1.2.2.2.2.2.2.1⟩, by show (0 : Int) ≤ 5; decide, by show (5 : Int) ≤ 999999; decide, lits.1.2.2.2.2.1, (fun _ e => nomatch e), .inl rfl, .inl rfl⟩
theorem gKeep {v t : Str} (ht : t ∈ tags5) : GLet (keepL (lawL v) t) none none :=
  ⟨lits.1.2.2.2.2.2.1, rfl, (fun _ e => nomatch e), lits.1.1, lits.1.2.1, lits.1.2.2.1, lits.1.2.2.2.1, .inr ⟨(lits.2 t ht).1, (lits.2 t ht).2.1⟩, by show (0 : Int) ≤ 5; decide, by show (5 : Int) ≤ 999999; decide, lits.1.2.2.2.2.1, (fun _ e => nomatch e), .inl rfl, .inl rfl⟩
theorem pLaw {v : Str} (hv : v ∈ verbs5) : Plain (lawL v) := ⟨(gLaw hv).lok, rfl, rfl, rfl⟩
theorem pKeep {v t : Str} (ht : t ∈ tags5) : Plain (keepL (lawL v) t) := ⟨(gKeep (v := v) ht).lok, rfl, rfl, rfl⟩
/-- the parts of a letter without offer, stay and goal -/
def partsD (L : Ltr) : PyData := .tuple [.str L.verb, .none, .str L.call, .str L.origin, .str L.otag, .str L.target, .str L.ttag, .int L.seq, .str L.way, .none, .none, .none]
theorem partsD_ok {L : Ltr} (h : LOk L) : SeqAt.shaped (partsD L) = true ∧ PyData.eqv (partsD L) (partsD L) = true := by
  obtain ⟨q1, q2, q3, q4, q5, q6, q7⟩ := h.oks
  have c : (partsD L).canLay0 = true := by
    simp only [TxOk] at q1 q2 q3 q4 q5 q6 q7
    simp [partsD, PyData.canLay0, PyData.canLayAll0, q1, q2, q3, q4, q5, q6, q7]
  refine ⟨?_, SeqAt.eqv_refl _ c⟩
  unfold SeqAt.shaped
  rw [c, Bool.true_and, decide_eq_true_eq]
  simp [partsD, PyData.depth, PyData.depthAll]
theorem partsD_dp {K : PySem.W.Frag} {H : Hp} {t : Addr} {L : Ltr} (h : H t = some (.tup L.partsV)) (h1 : L.code = .non) (h2 : L.offer = .non) (h3 : L.stay = .non) (h4 : L.goal = .non) : Dp K H (.ref t) (partsD L) := by
  unfold Ltr.partsV at h
  rw [h1, h2, h3, h4] at h
  exact .tup (SqT.of h) (.cons (.str _) (.cons .non (.cons (.str _) (.cons (.str _) (.cons (.str _) (.cons (.str _) (.cons (.str _) (.cons (.int _) (.cons (.str _) (.cons .non (.cons .non (.cons .non .nil))))))))))))
def spKeepR (K : PySem.W.Frag) : Sp := fun vs H Q _ => ∃ (r : Addr) (v t : Str), vs = [.ref r, .str t] ∧ t ∈ tags5 ∧ RowsAt H r (some (tx (keepL (lawL v) t))) ∧ ∀ H', Same H H' → Q (.bl true) H'
theorem ok_law_keep_right {P : Program} {w : World} {K : PySem.W.Frag} {mg : Str → Option Value} {base : Heap} {f : Addr} {fd : FuncData} (T : Tx K mg) (c_read : C8.Cal P w K mg base 7 "read" (spReadL K) []) (c_Letter_parts : C8.Met P w K mg base 1 (He.ga K "Letter") "parts" (spParts K) [])
    (F : FunD K "_law_keep_right" "_law_keep_right" (defArgs s_law_keep_right) (defBody s_law_keep_right) (defScope s_law_keep_right) [] [] f fd) : FnOk P w K mg base CX0 8 f fd ["rows", "tag"] (spKeepR K) := by
  refine F.ok sc_law_keep_right (fun vs H Q E h => ?_) (fun cdv A outer s H vs Q E hr h => ?_)
  · obtain ⟨r, v, t, rfl, _⟩ := h
    rfl
  · obtain ⟨r, v, t, rfl, ht, ⟨y, e1, e2⟩, k⟩ := h
    refine ⟨_, PSs.nox (C8.pss_cut (ps_if (PW.pt (pw_or (pt_cmpR op_ne (pe_callB call_len_seq rfl T.f_len PySem.boot_len (pa_cons (pv 0) pa_nil)) pe_int (nomark _)) (pw_or1 (pt_cmpR op_ne (pe_ix ix_tup (pe_ix ix_list (pv 0) pe_int (fun _ _ => rfl)) pe_int (fun _ _ => rfl)) pe_str (nomark _))))) (pss_one (ps_ret pe_bl)) pss_nil) (pss_one (ps_ret (pe_cmpR (op_eqD hr.units) (C8.pe_mt0 c_Letter_parts hr (by decide) (pe_c c_read hr (by decide) rfl (pa_cons (pe_ix ix_tup (pe_ix ix_list (pv 0) pe_int (fun _ _ => rfl)) pe_int (fun _ _ => rfl)) pa_nil))) (pe_tup (pa_cons pe_str (pa_cons pe_non (pa_cons pe_str (pa_cons pe_str (pa_cons pe_str (pa_cons pe_str (pa_cons (pv 1) (pa_cons pe_int (pa_cons pe_str (pa_cons pe_non (pa_cons pe_non (pa_cons pe_non pa_nil))))))))))))) (nomark _))))), ?_⟩
    refine ⟨fun σ' H' => σ' = [some (.ref r), some (.str t)] ∧ H' = H, ?_, ?_⟩
    · refine ⟨_, rfl, r, _, rfl, .inl (SqL.of e1), rfl, _, rfl, iteF ?_⟩
      exact ⟨_, rfl, r, _, 0, .ref y, rfl, rfl, SqL.of e1, rfl, y, _, 0, .str "q", rfl, rfl, SqT.of e2, rfl, rfl, _, rfl, iteF ⟨rfl, rfl⟩⟩
    rintro σ' H' ⟨rfl, e⟩
    obtain rfl : H = H' := e.symm
    have g := gKeep (v := v) ht
    refine ⟨_, rfl, r, _, 0, .ref y, rfl, rfl, SqL.of e1, rfl, y, _, 1, .str (tx (keepL (lawL v) t)), rfl, rfl, SqT.of e2, rfl, keepL (lawL v) t, none, none, rfl, g, fun e x H9 s9 he hx hle => ?_⟩
    cases (show x = .non from hx)
    obtain ⟨dy, hle2⟩ := id hle
    refine ⟨e, dy, _, rfl, hle2, rfl, e, _, rfl, hle, fun w hw => ?_⟩
    have s10 := same_upd (o := .tup (keepL (lawL v) t).partsV) hw
    refine ⟨_, rfl, by show 12 ≤ sizeLine; decide, fun w2 hw2 => ?_⟩
    have s11 := same_upd (o := .tup (keepL (lawL v) t).partsV) hw2
    refine ⟨partsD (keepL (lawL v) t), partsD (keepL (lawL v) t), partsD_dp (s11 _ _ upd_same) rfl rfl rfl rfl, partsD_dp (L := keepL (lawL v) t) upd_same rfl rfl rfl rfl, (partsD_ok g.lok).1, (partsD_ok g.lok).1, ?_⟩
    rw [(partsD_ok g.lok).2]
    exact k _ ((s9.trans s10).trans s11)
/-! ### the client and the law's own account of it -/
structure Wd where
  t0 : Int
  u : Int
  tag : Str
def StR (v : Str) (f now : Int) (C : Cl) (W : Wd) : Prop := match C.st with
  | .cl => C.b = W.t0 ∧ now - W.t0 < 32 * f ∧ Stg f (now - W.t0) (C.d - W.t0) C.g
  | .wt => isC (lawL v) = true
  | .sp => W.u = C.b + 32 * f
  | .fn => W.u = C.b + 32 * f ∧ C.kp = some (tx (keepL (lawL v) W.tag)) ∧ W.tag ∈ tags5 ∧ isC (lawL v) = true
  | .ov => True
def wldV (C : Cl) (f : Int) (W : Wd) : List V := [.str C.st.s, .int W.t0, .int f, .int W.u, .str W.tag]
structure Good (K : PySem.W.Frag) (H : Hp) (p la z ws : Addr) (v : Str) (f now : Int) (C : Cl) (W : Wd) : Prop where
  cl : ClAt K H p la f z C
  la : LetAt K H la (lawL v)
  w : H ws = some (.lst (wldV C f W))
  vb : v ∈ verbs5
  f1 : 1 ≤ f
  f2 : f ≤ 20
  r : StR v f now C W
def GoodX (K : PySem.W.Frag) (H : Hp) (p la z ws : Addr) (v : Str) (f now : Int) : Prop := ∃ C W, Good K H p la z ws v f now C W
def FrW (ws : Addr) (H H' : Hp) : Prop := ∀ b o, H b = some o → keepO o = true → b ≠ ws → H' b = some o
theorem FrW.of_fr {ws : Addr} {H H' : Hp} (s : FrI H H') : FrW ws H H' := fun b o e n _ => s b o e n
theorem FrW.trans {ws : Addr} {H H1 H2 : Hp} (s : FrW ws H H1) (t : FrW ws H1 H2) : FrW ws H H2 := fun b o e n m => t b o (s b o e n m) n m
theorem FrW.upd {ws : Addr} {H : Hp} {o : HO} : FrW ws H (upd H ws o) := fun b u e _ m => (upd_ne m).trans e
theorem ClAt.ws {K : PySem.W.Frag} {H : Hp} {p la z ws : Addr} {f : Int} {C : Cl} {a : Str} {l : List V} {o : HO} (h : ClAt K H p la f z C) (hw : H ws = some (.lst (.str a :: l))) : ClAt K (upd H ws o) p la f z C :=
  h.mono fun b u e c => (upd_ne fun q => by
    rw [q, hw] at e
    cases e
    rcases (c _ rfl).2 with e2 | ⟨t, e2⟩
    · cases e2
    · cases e2).trans e
theorem RowsAt.ws {H : Hp} {r ws : Addr} {o : Option Str} {a : Str} {l : List V} {u : HO} (h : RowsAt H r o) (hw : H ws = some (.lst (.str a :: l))) : RowsAt (upd H ws u) r o := by
  cases o with
  | none => exact (upd_ne (ne_of h hw (by intro z; cases z))).trans h
  | some z =>
    obtain ⟨t, e1, e2⟩ := h
    exact ⟨t, (upd_ne (ne_of e1 hw (by intro z; cases z))).trans e1, (upd_ne (ne_of e2 hw (by intro z; cases z))).trans e2⟩
theorem LetAt.ws {K : PySem.W.Frag} {H : Hp} {x ws : Addr} {L : Ltr} {l : List V} {u : HO} (h : LetAt K H x L) (hw : H ws = some (.lst l)) : LetAt K (upd H ws u) x L := by
  obtain ⟨d, e⟩ := h
  exact ⟨d, (upd_ne (ne_of e hw (by intro z; cases z))).trans e⟩
def dataR : Option Str → PyData
  | none => .list []
  | some z => .list [.tuple [.str "q", .str z]]
theorem RowsAt.dp {K : PySem.W.Frag} {H : Hp} {r : Addr} {o : Option Str} (h : RowsAt H r o) : Dp K H (.ref r) (dataR o) := by
  cases o with
  | none => exact .lst (SqL.of h) .nil
  | some z =>
    obtain ⟨t, e1, e2⟩ := h
    exact .lst (SqL.of e1) (.cons (.tup (SqT.of e2) (.cons (.str _) (.cons (.str _) .nil))) .nil)
def OkO (o : Option Str) : Prop := ∀ z, o = some z → PyData.strOk z = true
theorem dataR_ok {o : Option Str} (h : OkO o) : SeqAt.shaped (dataR o) = true ∧ PyData.eqv (dataR o) (dataR o) = true := by
  have q : (dataR o).canLay0 = true := by
    cases o with
    | none => rfl
    | some z => simp [dataR, PyData.canLay0, PyData.canLayAll0, h z rfl, show PyData.strOk "q" = true by decide +kernel]
  refine ⟨?_, SeqAt.eqv_refl _ q⟩
  unfold SeqAt.shaped
  rw [q, Bool.true_and, decide_eq_true_eq]
  cases o <;> simp [dataR, PyData.depth, PyData.depthAll]
theorem okO_none : OkO none := fun z e => nomatch e
theorem Plain.tx_ok {L : Ltr} (h : Plain L) : PyData.strOk (tx L) = true := textOf_ok (linesX_ok h.lok h.xok)
theorem inV_ints (z : Int) : ∀ l : List Int, inV (.int z) (l.map V.int) = decide (z ∈ l)
  | [] => rfl
  | a :: r => by
    have ih := inV_ints z r
    unfold inV at *
    rw [List.map_cons, List.any_cons, ih]
    show ((a == z) || decide (z ∈ r)) = decide (z ∈ a :: r)
    by_cases h : a = z
    · rw [h, beq_self_eq_true, Bool.true_or, decide_eq_true (List.mem_cons_self ..)]
    · rw [show (a == z) = false from beq_eq_false_iff_ne.mpr h, Bool.false_or]
      exact decide_eq_decide.mpr ⟨fun m => List.mem_cons_of_mem _ m, fun m => (List.mem_cons.mp m).elim (fun e => absurd e.symm h) id⟩
theorem flat_ints : ∀ l : List Int, (l.map V.int).all flatV = true
  | [] => rfl
  | _ :: r => flat_ints r
end K5
set_option maxHeartbeats 1000000
set_option pp.maxSteps 400
namespace K5
open PySem PySem.Spec PyProof.Rows L2 SX TK TKS
open C8 (pe_c)
def spOpTick (K : PySem.W.Frag) : Sp := fun vs H Q _ => ∃ (p la z ws : Addr) (v : Str) (f now : Int) (C : Cl) (W : Wd) (X : Str), vs = [.ref p, .ref ws, .int (now + 1), .str X] ∧ X = tx (lawL v) ∧ Good K H p la z ws v f now C W ∧
  ∀ H', GoodX K H' p la z ws v f (now + 1) → FrW ws H H' → Q (.bl true) H'
theorem ok_law_tick {P : Program} {w : World} {K : PySem.W.Frag} {mg : Str → Option Value} {base : Heap} {f : Addr} {fd : FuncData} (T : Tx K mg) (c_Client_tick : C8.Met P w K mg base 4 (He.ga K "Client") "tick" (spTick K) []) (c_law_sends_at : C8.Cal P w K mg base 1 "_law_sends_at" (spSends K) [])
    (F : FunD K "_law_tick" "_law_tick" (defArgs s_law_tick) (defBody s_law_tick) (defScope s_law_tick) [] [] f fd) : FnOk P w K mg base CX0 5 f fd ["client", "world", "now", "request"] (spOpTick K) := by
  refine F.ok sc_law_tick (fun vs H Q E h => ?_) (fun cdv A outer s H vs Q E hr h => ?_)
  · obtain ⟨p, la, z, ws, v, f, now, C, W, X, rfl, _⟩ := h
    rfl
  · obtain ⟨p, la, z, ws, v, f, now, C, W, X, rfl, eX, G, k⟩ := h
    obtain ⟨dx, wa, ka, hp, _⟩ := id G.cl
    have pl := pLaw G.vb
    have otx : OkO (some X) := fun z e => by cases e; rw [eX]; exact pl.tx_ok
    refine ⟨_, PSs.nox (pss_cons (ps_asg (C8.pe_mt c_Client_tick hr (by decide) (pv 0) (pa_cons (pv 2) pa_nil)) (pg_tup rfl (pgs_cons (pg_name (i := 4) sc_law_tick.nd rfl (Or.inl rfl)) (pgs_cons (pg_name (i := 5) sc_law_tick.nd rfl (Or.inl rfl)) pgs_nil)))) (pss_cons (ps_set (i := 6) sc_law_tick.nd rfl (Or.inl rfl) (pe_lst pa_nil)) (pss_cons (ps_set (i := 7) sc_law_tick.nd rfl (Or.inl rfl) pe_bl) (C8.pss_cut (ps_if (PW.pt (pw_or (PW.pt (pw_and (pt_cmpR op_eq (pe_ix ix_list (pv 1) pe_int (fun _ _ => rfl)) pe_str (nomark _)) (pw_and1 (pt_cmpR op_ge (pe_op op_sub (pv 2) (pe_ix ix_list (pv 1) pe_int (fun _ _ => rfl))) (pe_op op_mul pe_int (pe_ix ix_list (pv 1) pe_int (fun _ _ => rfl))) (nomark _))))) (pw_or1 (PW.pt (pw_and (pt_cmpR op_eq (pe_ix ix_list (pv 1) pe_int (fun _ _ => rfl)) pe_str (nomark _)) (pw_and1 (pt_cmpR op_ge (pv 2) (pe_ix ix_list (pv 1) pe_int (fun _ _ => rfl)) (nomark _)))))))) (pss_cons (ps_asg pe_str (pg_sub (pv 1) pe_int set_list)) (pss_one (ps_set (i := 7) sc_law_tick.nd rfl (Or.inl rfl) pe_bl))) (pss_one (ps_if (PW.pt (pw_and (pt_cmpR op_eq (pe_ix ix_list (pv 1) pe_int (fun _ _ => rfl)) pe_str (nomark _)) (pw_and1 (pt_cmpR op_in_seq (pe_op op_sub (pv 2) (pe_ix ix_list (pv 1) pe_int (fun _ _ => rfl))) (pe_c c_law_sends_at hr (by decide) rfl (pa_cons (pe_ix ix_list (pv 1) pe_int (fun _ _ => rfl)) pa_nil)) (by with_unfolding_all rfl))))) (pss_one (ps_set (i := 6) sc_law_tick.nd rfl (Or.inl rfl) (pe_lst (pa_cons (pe_tup (pa_cons pe_str (pa_cons (pv 3) pa_nil))) pa_nil)))) (pss_one (ps_if (PW.pt (pw_and (pt_cmpR op_eq (pe_ix ix_list (pv 1) pe_int (fun _ _ => rfl)) pe_str (nomark _)) (pw_and1 (pt_cmpR op_ge (pv 2) (pe_ix ix_list (pv 1) pe_int (fun _ _ => rfl)) (nomark _))))) (pss_one (ps_asg pe_str (pg_sub (pv 1) pe_int set_list))) pss_nil))))) (pss_one (ps_ret (pe_and (pe_callB call_isi rfl T.f_isinstance (by decide +kernel) (pa_cons (pv 5) (pa_cons (pe_bltn (v := .ty "bool") rfl T.f_bool (by decide +kernel) rfl) pa_nil))) (pe_and (pe_cmpR op_eq (pv 5) (pv 7) (nomark _)) (pe_one (pe_cmpR (op_eqD hr.units) (pv 4) (pv 6) (nomark _))))))))))), ?_⟩
    refine ⟨_, rfl, p, dx, _, rfl, hp, rfl, _, rfl, p, la, z, f, now + 1, C, lawL v, rfl, G.cl, G.la, pl, fun t H1 C1 fr1 ht => ?_⟩
    obtain ⟨r, ht, hr1⟩ := ht
    have hws1 := fr1 _ _ G.w rfl
    have hla1 := fr1.let G.la
    refine ⟨t, _, rfl, SqT.of ht, rfl, _, _, rfl, _, _, rfl, rfl, ?_⟩
    refine ⟨by show 0 ≤ sizeLine; decide, fun du hdu => ?_⟩
    have sd := same_upd (o := .lst []) hdu
    have hd2 : RowsAt (upd H1 du (.lst [])) du none := upd_same
    generalize upd H1 du (.lst []) = H2 at sd hd2 ⊢
    have hws2 := sd _ _ hws1
    have C2 := C1.same sd
    have hr2 := hr1.fr (FrI.of_same sd)
    have hla2 := hla1.same sd
    have fr2 : FrW ws H H2 := FrW.of_fr (fr1.trans (FrI.of_same sd))
    clear C1 hr1 hws1 hla1 ht fr1 sd hdu hp
    -- what the law reckons
    refine ⟨fun σ' H' => ∃ du' rows gv, σ' = [some (.ref p), some (.ref ws), some (.int (now + 1)), some (.str X), some (.ref r), some (.bl gv), some (.ref du'), some (.bl gv)] ∧
      GoodX K H' p la z ws v f (now + 1) ∧ FrW ws H H' ∧ RowsAt H' r rows ∧ RowsAt H' du' rows ∧ OkO rows, ?_, ?_⟩
    · obtain ⟨st, b, g, d, kp⟩ := C
      have hw3 : H2 ws = some (.lst [.str st.s, .int W.t0, .int f, .int W.u, .str W.tag]) := hws2
      have i0 : SqL K H2 ws [.str st.s, .int W.t0, .int f, .int W.u, .str W.tag] := SqL.of hw3
      have R0 := G.r
      cases st with
      | wt =>
        have et : tickR (lawL v) ⟨.wt, b, g, d, kp⟩ f (now + 1) = (⟨.wt, b, g, d, kp⟩, none, false) := rfl
        rw [et] at C2 hr2 ⊢
        refine ⟨_, rfl, ws, _, 0, _, rfl, rfl, i0, rfl, rfl, _, rfl, iteF (iteF ?_)⟩
        refine ⟨_, rfl, ws, _, 0, _, rfl, rfl, i0, rfl, rfl, _, rfl, iteF (iteF ?_)⟩
        refine ⟨_, rfl, ws, _, 0, _, rfl, rfl, i0, rfl, rfl, _, rfl, iteF (iteF ?_)⟩
        refine ⟨_, rfl, ws, _, 0, _, rfl, rfl, i0, rfl, rfl, _, rfl, iteF (iteF ?_)⟩
        exact ⟨du, none, false, rfl, ⟨_, W, C2, hla2, hws2, G.vb, G.f1, G.f2, R0⟩, fr2, hr2, hd2, okO_none⟩
      | ov =>
        have et : tickR (lawL v) ⟨.ov, b, g, d, kp⟩ f (now + 1) = (⟨.ov, b, g, d, kp⟩, none, false) := rfl
        rw [et] at C2 hr2 ⊢
        refine ⟨_, rfl, ws, _, 0, _, rfl, rfl, i0, rfl, rfl, _, rfl, iteF (iteF ?_)⟩
        refine ⟨_, rfl, ws, _, 0, _, rfl, rfl, i0, rfl, rfl, _, rfl, iteF (iteF ?_)⟩
        refine ⟨_, rfl, ws, _, 0, _, rfl, rfl, i0, rfl, rfl, _, rfl, iteF (iteF ?_)⟩
        refine ⟨_, rfl, ws, _, 0, _, rfl, rfl, i0, rfl, rfl, _, rfl, iteF (iteF ?_)⟩
        exact ⟨du, none, false, rfl, ⟨_, W, C2, hla2, hws2, G.vb, G.f1, G.f2, R0⟩, fr2, hr2, hd2, okO_none⟩
      | sp =>
        have eu : W.u = b + 32 * f := R0
        refine ⟨_, rfl, ws, _, 0, _, rfl, rfl, i0, rfl, rfl, _, rfl, iteF (iteF ?_)⟩
        refine ⟨_, rfl, ws, _, 0, _, rfl, rfl, i0, rfl, rfl, _, rfl, iteT ?_⟩
        refine ⟨_, rfl, _, rfl, ws, _, 3, _, rfl, rfl, i0, rfl, _, _, rfl, rfl, _, rfl, ?_⟩
        by_cases hup : 32 * f ≤ now + 1 - b
        · have et : tickR (lawL v) ⟨.sp, b, g, d, kp⟩ f (now + 1) = (⟨.ov, b, g, d, kp⟩, none, true) := if_pos hup
          rw [et] at C2 hr2 ⊢
          rw [decide_eq_true (show now + 1 ≥ W.u by omega)]
          refine iteT ?_
          refine ⟨_, rfl, ws, _, 0, 0, rfl, rfl, hw3, rfl, ?_⟩
          exact ⟨du, none, true, rfl, ⟨_, W, C2.ws hw3, hla2.ws hw3, upd_same, G.vb, G.f1, G.f2, trivial⟩, fr2.trans FrW.upd, hr2.ws hw3, hd2.ws hw3, okO_none⟩
        · have et : tickR (lawL v) ⟨.sp, b, g, d, kp⟩ f (now + 1) = (⟨.sp, b, g, d, kp⟩, none, false) := by
            show (if 32 * f ≤ now + 1 - b then _ else (if CS.sp = CS.cl ∧ ¬ now + 1 < d then _ else _)) = _
            rw [if_neg hup, if_neg (fun q => nomatch q.1)]
          rw [et] at C2 hr2 ⊢
          rw [decide_eq_false (show ¬ now + 1 ≥ W.u by omega)]
          refine iteF ?_
          refine ⟨_, rfl, ws, _, 0, _, rfl, rfl, i0, rfl, rfl, _, rfl, iteF (iteF ?_)⟩
          refine ⟨_, rfl, ws, _, 0, _, rfl, rfl, i0, rfl, rfl, _, rfl, iteF (iteF ?_)⟩
          exact ⟨du, none, false, rfl, ⟨_, W, C2, hla2, hws2, G.vb, G.f1, G.f2, R0⟩, fr2, hr2, hd2, okO_none⟩
      | fn =>
        have eu : W.u = b + 32 * f := R0.1
        refine ⟨_, rfl, ws, _, 0, _, rfl, rfl, i0, rfl, rfl, _, rfl, iteF (iteF ?_)⟩
        refine ⟨_, rfl, ws, _, 0, _, rfl, rfl, i0, rfl, rfl, _, rfl, iteF (iteF ?_)⟩
        refine ⟨_, rfl, ws, _, 0, _, rfl, rfl, i0, rfl, rfl, _, rfl, iteF (iteF ?_)⟩
        refine ⟨_, rfl, ws, _, 0, _, rfl, rfl, i0, rfl, rfl, _, rfl, iteT ?_⟩
        refine ⟨_, rfl, _, rfl, ws, _, 3, _, rfl, rfl, i0, rfl, _, _, rfl, rfl, _, rfl, ?_⟩
        by_cases hup : 32 * f ≤ now + 1 - b
        · have et : tickR (lawL v) ⟨.fn, b, g, d, kp⟩ f (now + 1) = (⟨.ov, b, g, d, kp⟩, none, false) := if_pos hup
          rw [et] at C2 hr2 ⊢
          rw [decide_eq_true (show now + 1 ≥ W.u by omega)]
          refine iteT ?_
          refine ⟨_, rfl, ws, _, 0, 0, rfl, rfl, hw3, rfl, ?_⟩
          exact ⟨du, none, false, rfl, ⟨_, W, C2.ws hw3, hla2.ws hw3, upd_same, G.vb, G.f1, G.f2, trivial⟩, fr2.trans FrW.upd, hr2.ws hw3, hd2.ws hw3, okO_none⟩
        · have et : tickR (lawL v) ⟨.fn, b, g, d, kp⟩ f (now + 1) = (⟨.fn, b, g, d, kp⟩, none, false) := by
            show (if 32 * f ≤ now + 1 - b then _ else (if CS.fn = CS.cl ∧ ¬ now + 1 < d then _ else _)) = _
            rw [if_neg hup, if_neg (fun q => nomatch q.1)]
          rw [et] at C2 hr2 ⊢
          rw [decide_eq_false (show ¬ now + 1 ≥ W.u by omega)]
          refine iteF ?_
          exact ⟨du, none, false, rfl, ⟨_, W, C2, hla2, hws2, G.vb, G.f1, G.f2, R0⟩, fr2, hr2, hd2, okO_none⟩
      | cl =>
        obtain ⟨eb, hlt, hstg⟩ : b = W.t0 ∧ now - W.t0 < 32 * f ∧ Stg f (now - W.t0) (d - W.t0) g := R0
        refine ⟨_, rfl, ws, _, 0, _, rfl, rfl, i0, rfl, rfl, _, rfl, iteT ?_⟩
        refine ⟨_, rfl, _, rfl, ws, _, 1, _, rfl, rfl, i0, rfl, _, _, rfl, rfl, _, rfl, ws, _, 2, _, rfl, rfl, i0, rfl, _, _, rfl, rfl, .inl ⟨by decide, by decide⟩, _, _, rfl, rfl, _, rfl, ?_⟩
        by_cases hup : 32 * f ≤ now + 1 - W.t0
        · have et : tickR (lawL v) ⟨.cl, b, g, d, kp⟩ f (now + 1) = (⟨.ov, b, g, d, kp⟩, none, true) := by
            have h : 32 * f ≤ now + 1 - b := by omega
            exact if_pos h
          rw [et] at C2 hr2 ⊢
          rw [decide_eq_true (show now + 1 - W.t0 ≥ 32 * f from hup)]
          refine iteT (iteT ?_)
          refine ⟨_, rfl, ws, _, 0, 0, rfl, rfl, hw3, rfl, ?_⟩
          exact ⟨du, none, true, rfl, ⟨_, W, C2.ws hw3, hla2.ws hw3, upd_same, G.vb, G.f1, G.f2, trivial⟩, fr2.trans FrW.upd, hr2.ws hw3, hd2.ws hw3, okO_none⟩
        rw [decide_eq_false (show ¬ now + 1 - W.t0 ≥ 32 * f from hup)]
        refine iteF ?_
        refine ⟨_, rfl, ws, _, 0, _, rfl, rfl, i0, rfl, rfl, _, rfl, iteF (iteF ?_)⟩
        refine ⟨_, rfl, ws, _, 0, _, rfl, rfl, i0, rfl, rfl, _, rfl, iteT ?_⟩
        refine ⟨_, rfl, _, rfl, ws, _, 1, _, rfl, rfl, i0, rfl, _, _, rfl, rfl, _, rfl, ws, _, 2, _, rfl, rfl, i0, rfl, f, rfl, G.f1, fun m H4 s4 hm4 => ?_⟩
        refine ⟨m, _, rfl, .inl (SqL.of hm4), rfl, flat_ints _, _, rfl, ?_⟩
        rw [inV_ints]
        obtain ⟨q1, q2, q3⟩ := stg_step G.f1 hstg (by omega)
        rw [show now - W.t0 + 1 = now + 1 - W.t0 by omega] at q1 q2 q3
        have hw4 := s4 _ _ hw3
        have hup' : ¬ 32 * f ≤ now + 1 - b := by rw [eb]; exact hup
        by_cases hd : now + 1 < d
        · have et : tickR (lawL v) ⟨.cl, b, g, d, kp⟩ f (now + 1) = (⟨.cl, b, g, d, kp⟩, none, false) := by
            show (if 32 * f ≤ now + 1 - b then _ else (if CS.cl = CS.cl ∧ ¬ now + 1 < d then _ else _)) = _
            rw [if_neg hup', if_neg (fun q => q.2 hd)]
          rw [et] at C2 hr2 ⊢
          rw [decide_eq_false (fun m => (q1.mp m) (by omega))]
          refine iteF ?_
          refine ⟨_, rfl, ws, _, 0, _, rfl, rfl, SqL.of hw4, rfl, rfl, _, rfl, iteF (iteF ?_)⟩
          exact ⟨du, none, false, rfl, ⟨_, W, C2.same s4, hla2.same s4, s4 _ _ hws2, G.vb, G.f1, G.f2, eb, by omega, q2 (by omega)⟩, fr2.trans (FrW.of_fr (FrI.of_same s4)), hr2.fr (FrI.of_same s4), hd2.fr (FrI.of_same s4), okO_none⟩
        · have et : tickR (lawL v) ⟨.cl, b, g, d, kp⟩ f (now + 1) = (⟨.cl, b, minI (2 * g) (8 * f), now + 1 + minI (2 * g) (8 * f), kp⟩, some X, false) := by
            rw [eX]
            show (if 32 * f ≤ now + 1 - b then _ else (if CS.cl = CS.cl ∧ ¬ now + 1 < d then _ else _)) = _
            rw [if_neg hup', if_pos ⟨rfl, hd⟩]
          rw [et] at C2 hr2 ⊢
          rw [decide_eq_true (q1.mpr (by omega))]
          refine iteT ⟨_, rfl, by show 2 ≤ sizeLine; decide, fun y hy => ⟨by show 1 ≤ sizeLine; decide, fun d2 hd2' => ?_⟩⟩
          obtain ⟨n1, n2, s5, e1, e2⟩ := new2 (u := .lst [.ref y]) hy hd2'
          have s45 := s4.trans s5
          refine ⟨d2, some X, false, rfl, ⟨_, W, C2.same s45, hla2.same s45, s45 _ _ hws2, G.vb, G.f1, G.f2, eb, by omega, ?_⟩, fr2.trans (FrW.of_fr (FrI.of_same s45)), hr2.fr (FrI.of_same s45), ⟨y, e2, e1⟩, otx⟩
          have q4 := q3 (by omega)
          rw [show now + 1 + minI (2 * g) (8 * f) - W.t0 = now + 1 - W.t0 + minI (2 * g) (8 * f) by omega]
          exact q4
    rintro σ' H' ⟨du', rows, gv, rfl, G', fr', hr', hd', ok⟩
    refine ⟨_, rfl, _, _, _, _, true, rfl, ClsV.ty "bool", TyX.base (TyOf.bl _), kit_ty (by decide +kernel), _, rfl, iteT ?_⟩
    refine ⟨_, rfl, _, rfl, rfl, _, rfl, ?_⟩
    rw [decide_eq_true rfl]
    refine iteT ⟨_, rfl, _, rfl, dataR rows, dataR rows, hr'.dp, hd'.dp, (dataR_ok ok).1, (dataR_ok ok).1, ?_⟩
    rw [(dataR_ok ok).2]
    exact k H' G' fr'
end K5
set_option maxHeartbeats 1000000
set_option pp.maxSteps 400
namespace K5
open PySem PySem.Spec PyProof.Rows L2 SX TK TKS
open C8 (pe_c)
def spOpReply (K : PySem.W.Frag) : Sp := fun vs H Q _ => ∃ (p la z ws : Addr) (v tag : Str) (f now c : Int) (C : Cl) (W : Wd), vs = [.ref p, .ref ws, .ref la, .int c, .int now, .str tag] ∧ Good K H p la z ws v f now C W ∧ tag ∈ tags5 ∧ (∃ xs, H z = some (.lst xs)) ∧
  ∀ H', GoodX K H' p la z ws v f now → FrW ws H H' → Q (.bl true) H'
theorem isN (v : V) : decide (v = V.non) = decide (v = .non) := rfl
theorem ok_law_reply {P : Program} {w : World} {K : PySem.W.Frag} {mg : Str → Option Value} {base : Heap} {f : Addr} {fd : FuncData} (T : Tx K mg) (c_Letter_reply : C8.Met P w K mg base 3 (He.ga K "Letter") "reply" (spLReply K) [(V.non), (V.non)]) (c_Client_take : C8.Met P w K mg base 4 (He.ga K "Client") "take" (spTake K) []) (c_law_keep_right : C8.Cal P w K mg base 8 "_law_keep_right" (spKeepR K) [])
    (F : FunD K "_law_reply" "_law_reply" (defArgs s_law_reply) (defBody s_law_reply) (defScope s_law_reply) [] [] f fd) : FnOk P w K mg base CX0 9 f fd ["client", "world", "letter", "code", "now", "tag"] (spOpReply K) := by
  refine F.ok sc_law_reply (fun vs H Q E h => ?_) (fun cdv A outer s H vs Q E hr h => ?_)
  · obtain ⟨p, la, z, ws, v, tag, f, now, c, C, W, rfl, _⟩ := h
    rfl
  · obtain ⟨p, la, z, ws, v, tag, f, now, c, C, W, rfl, G, htag, hz, k⟩ := h
    obtain ⟨xz, hz⟩ := hz
    obtain ⟨dx, wa, ka, hp, _⟩ := id G.cl
    obtain ⟨dl, hl⟩ := id G.la
    refine ⟨_, PSs.nox (pss_cons (ps_set (i := 6) sc_law_reply.nd rfl (Or.inl rfl) (C8.pe_mt c_Letter_reply hr (by decide) (pv 2) (pa_cons (pv 3) (pa_cons (pv 5) pa_nil)))) (pss_cons (ps_asg (C8.pe_mt c_Client_take hr (by decide) (pv 0) (pa_cons (pv 6) (pa_cons (pv 4) pa_nil))) (pg_tup rfl (pgs_cons (pg_name (i := 7) sc_law_reply.nd rfl (Or.inl rfl)) (pgs_cons (pg_name (i := 8) sc_law_reply.nd rfl (Or.inl rfl)) pgs_nil)))) (pss_cons (ps_set (i := 9) sc_law_reply.nd rfl (Or.inl rfl) (pe_cmpR op_eq (pe_fldC rfl T.cl_Letter T.na_Letter_verb (pv 2) rfl) pe_str (nomark _))) (C8.pss_cut (ps_if (PW.pt (pw_and (pt_cmpR op_eq (pe_ix ix_list (pv 1) pe_int (fun _ _ => rfl)) pe_str (nomark _)) (pw_and1 (pt_cmpR op_ge (pv 3) pe_int (nomark _))))) (pss_one (ps_ret (pe_and (pe_cmpR op_isN (pv 8) pe_non (nomark _)) (pe_one (pe_c c_law_keep_right hr (by decide) rfl (pa_cons (pv 7) (pa_cons (pe_ix ix_list (pv 1) pe_int (fun _ _ => rfl)) pa_nil))))))) pss_nil) (C8.pss_cut (ps_if (PW.pt (pw_or (pt_cmpR op_in_seq (pe_ix ix_list (pv 1) pe_int (fun _ _ => rfl)) (pe_lst (pa_cons pe_str (pa_cons pe_str pa_nil))) (by with_unfolding_all rfl)) (pw_or1 (PW.pt (pw_and (pt_cmpR op_lt (pv 3) pe_int (nomark _)) (pw_and1 (pt_not (pt_val (pv 9))))))))) (pss_one (ps_ret (pe_and (pe_cmpR op_isN (pv 8) pe_non (nomark _)) (pe_one (pe_cmpR (op_eqD hr.units) (pv 7) (pe_lst pa_nil) (nomark _)))))) pss_nil) (C8.pss_cut (ps_if (pt_cmpR op_lt (pv 3) pe_int (nomark _)) (C8.pss_cut (ps_if (pt_cmpR op_eq (pe_ix ix_list (pv 1) pe_int (fun _ _ => rfl)) pe_str (nomark _)) (pss_one (ps_asg pe_str (pg_sub (pv 1) pe_int set_list))) pss_nil) (pss_one (ps_ret (pe_and (pe_cmpR op_eq (pv 8) (pv 3) (nomark _)) (pe_one (pe_cmpR (op_eqD hr.units) (pv 7) (pe_lst pa_nil) (nomark _))))))) pss_nil) (pss_cons (ps_asg pe_str (pg_sub (pv 1) pe_int set_list)) (C8.pss_cut (ps_if (pt_not (pt_val (pv 9))) (pss_one (ps_ret (pe_and (pe_cmpR op_eq (pv 8) (pv 3) (nomark _)) (pe_one (pe_cmpR (op_eqD hr.units) (pv 7) (pe_lst pa_nil) (nomark _)))))) pss_nil) (pss_cons (ps_asg pe_str (pg_sub (pv 1) pe_int set_list)) (pss_cons (ps_asg (pe_op op_add (pv 4) (pe_op op_mul pe_int (pe_ix ix_list (pv 1) pe_int (fun _ _ => rfl)))) (pg_sub (pv 1) pe_int set_list)) (pss_cons (ps_asg (pv 5) (pg_sub (pv 1) pe_int set_list)) (pss_one (ps_ret (pe_and (pe_cmpR op_eq (pv 8) (pv 3) (nomark _)) (pe_one (pe_c c_law_keep_right hr (by decide) rfl (pa_cons (pv 7) (pa_cons (pv 5) pa_nil)))))))))))))))))), ?_⟩
    refine ⟨_, rfl, la, dl, _, rfl, hl, rfl, _, rfl, _, rfl, la, lawL v, .int c, tag, .non, .non, rfl, G.la, fun e H1 s1 he hle => ?_⟩
    refine ⟨_, rfl, p, dx, _, rfl, s1 _ _ hp, rfl, _, rfl, _, rfl, p, la, e, z, f, c, now, C, lawL v, _, rfl, G.cl.same s1, G.la.same s1, hle, rfl, pKeep (v := v) htag, ⟨xz, s1 _ _ hz⟩, fun t H2 C2 fr2 ht => ?_⟩
    obtain ⟨r, ht, hr2⟩ := ht
    have et0 : ((lawL v).reply (.int c) tag .non .non).ttag = tag := rfl
    have hws2 := fr2 _ _ (s1 _ _ G.w) rfl
    have hla2 := fr2.let (G.la.same s1)
    have frA : FrW ws H H2 := FrW.of_fr ((FrI.of_same s1).trans fr2)
    refine ⟨t, _, rfl, SqT.of ht, rfl, _, _, rfl, _, _, rfl, rfl, ?_⟩
    obtain ⟨d2, hl2⟩ := id hla2
    refine ⟨_, rfl, la, d2, _, _, rfl, hl2, rfl, rfl, ?_⟩
    rw [show decide (V.str (lawL v).verb = V.str "CALL") = isC (lawL v) from vstr _ _]
    generalize hT : takeR (lawL v) ((lawL v).reply (.int c) tag .non .non) C f c now = TR at C2 hr2 ⊢
    clear hz hp hl he hle ht s1 fr2
    generalize e0 : (lawL v).reply (.int c) tag .non .non = M at hT et0
    clear e0
    obtain ⟨st, b, g, d, kp⟩ := C
    have hw3 : H2 ws = some (.lst [.str st.s, .int W.t0, .int f, .int W.u, .str W.tag]) := hws2
    have i0 : SqL K H2 ws [.str st.s, .int W.t0, .int f, .int W.u, .str W.tag] := SqL.of hw3
    have R0 := G.r
    have same : TR.1 = ⟨st, b, g, d, kp⟩ → ∀ H3, Same H2 H3 → Q (.bl true) H3 := fun e H3 s3 => by
      rw [e] at C2
      exact k H3 ⟨_, W, C2.same s3, hla2.same s3, s3 _ _ hws2, G.vb, G.f1, G.f2, R0⟩ (frA.trans (FrW.of_fr (FrI.of_same s3)))
    -- final once more
    refine ⟨fun σ' H' => σ' = [some (.ref p), some (.ref ws), some (.ref la), some (.int c), some (.int now), some (.str tag), some (.ref e), some (.ref r), some TR.2.2, some (.bl (isC (lawL v)))] ∧ H' = H2 ∧ ¬ (st = .fn ∧ 20 ≤ c), ?_, ?_⟩
    · refine ⟨_, rfl, ws, _, 0, _, rfl, rfl, i0, rfl, rfl, _, rfl, ?_⟩
      show (if decide (V.str st.s = V.str CS.fn.s) = true then _ else _)
      rw [st_is]
      by_cases e1 : st = .fn
      · rw [decide_eq_true e1]
        refine iteT ⟨_, rfl, _, _, rfl, rfl, _, rfl, ?_⟩
        by_cases e2 : 20 ≤ c
        · rw [decide_eq_true (show c ≥ 20 from e2)]
          subst e1
          obtain ⟨r1, r2, r3, r4⟩ : W.u = b + 32 * f ∧ kp = some (tx (keepL (lawL v) W.tag)) ∧ W.tag ∈ tags5 ∧ isC (lawL v) = true := R0
          have eT : TR = (⟨.fn, b, g, d, kp⟩, kp, .non) := by
            rw [← hT]
            unfold takeR
            rw [if_neg (fun q => nomatch q), if_neg (fun q => q e2), if_neg (by rw [r4]; exact fun q => nomatch q), if_pos rfl]
          have hr3 : RowsAt H2 r (some (tx (keepL (lawL v) W.tag))) := by
            rw [eT, r2] at hr2
            exact hr2
          refine iteT ⟨_, rfl, rfl, _, rfl, ?_⟩
          rw [eT]
          rw [decide_eq_true rfl]
          refine iteT ⟨_, rfl, _, rfl, ws, _, 4, _, rfl, rfl, i0, rfl, r, v, W.tag, rfl, r3, hr3, fun H3 s3 => ?_⟩
          exact same (by rw [eT]) H3 s3
        · rw [decide_eq_false (show ¬ c ≥ 20 from e2)]
          exact iteF ⟨rfl, rfl, fun q => e2 q.2⟩
      · rw [decide_eq_false e1]
        exact iteF (iteF ⟨rfl, rfl, fun q => e1 q.1⟩)
    rintro σ' H3 ⟨rfl, e1, n1⟩
    obtain rfl : H2 = H3 := e1.symm
    -- nothing to tell
    refine ⟨fun σ' H' => σ' = [some (.ref p), some (.ref ws), some (.ref la), some (.int c), some (.int now), some (.str tag), some (.ref e), some (.ref r), some TR.2.2, some (.bl (isC (lawL v)))] ∧ Same H2 H' ∧ st ≠ .fn ∧ st ≠ .ov ∧ (20 ≤ c ∨ isC (lawL v) = true), ?_, ?_⟩
    · have hno : TR.2.1 = none → TR.2.2 = .non → TR.1 = ⟨st, b, g, d, kp⟩ → ∀ H3, Same H2 H3 → 0 ≤ sizeLine ∧ True := fun _ _ _ _ _ => ⟨by decide, trivial⟩
      refine ⟨_, rfl, ws, _, 0, _, rfl, rfl, i0, rfl, by show 2 ≤ sizeLine; decide, fun l hl => ⟨l, _, rfl, .inl (SqL.of upd_same), rfl, rfl, _, rfl, ?_⟩⟩
      have s3 := same_upd (o := .lst [.str "final", .str "over"]) hl
      show (if inV (V.str st.s) [.str "final", .str "over"] = true then _ else _)
      rw [show inV (V.str st.s) [.str "final", .str "over"] = (decide (st = .fn) || decide (st = .ov)) by cases st <;> rfl]
      generalize (upd H2 l (.lst [.str "final", .str "over"])) = H3 at s3 ⊢
      -- told is None and rows == []
      have ret : TR = (⟨st, b, g, d, kp⟩, none, .non) → ∀ H3, Same H2 H3 → ∃ x, TR.2.2 = x ∧ x = .non := fun e _ _ => ⟨_, rfl, by rw [e]⟩
      by_cases h1 : (decide (st = .fn) || decide (st = .ov)) = true
      · rw [h1]
        have eT : TR = (⟨st, b, g, d, kp⟩, none, .non) := by
          rw [← hT]
          rw [Bool.or_eq_true, decide_eq_true_eq, decide_eq_true_eq] at h1
          unfold takeR
          rcases h1 with h1 | h1
          · subst h1
            have h20 : ¬ 20 ≤ c := fun q => n1 ⟨rfl, q⟩
            have hB : provB (lawL v) ⟨.fn, b, g, d, kp⟩ = false := by unfold provB; rw [Bool.and_eq_false_iff]; exact .inr rfl
            rw [if_neg (fun q => nomatch q), if_pos h20]
            unfold provC provV
            rw [hB]
            rfl
          · rw [if_pos h1]
        refine iteT (iteT ?_)
        refine ⟨_, rfl, rfl, _, rfl, ?_⟩
        rw [show decide (TR.2.2 = V.non) = true by rw [eT]; rfl]
        refine iteT ⟨_, rfl, by show 0 ≤ sizeLine; decide, fun l2 hl2 => ?_⟩
        have s4 := s3.trans (same_upd (o := .lst []) hl2)
        have hr3 := hr2.fr (FrI.of_same s4)
        rw [eT] at hr3
        have hd3 : RowsAt (upd H3 l2 (.lst [])) l2 none := upd_same
        refine ⟨dataR none, dataR none, hr3.dp, hd3.dp, (dataR_ok okO_none).1, (dataR_ok okO_none).1, ?_⟩
        rw [(dataR_ok okO_none).2]
        exact same (by rw [eT]) _ s4
      · have h1f : (decide (st = .fn) || decide (st = .ov)) = false := by simpa using h1
        rw [h1f]
        rw [Bool.or_eq_false_iff, decide_eq_false_iff_not, decide_eq_false_iff_not] at h1f
        refine iteF ⟨_, rfl, _, _, rfl, rfl, _, rfl, ?_⟩
        by_cases h20 : c < 20
        · rw [decide_eq_true h20]
          refine iteT ⟨_, rfl, _, rfl, ?_⟩
          cases hc : isC (lawL v) with
          | true => exact iteF ⟨rfl, s3, h1f.1, h1f.2, .inr rfl⟩
          | false =>
            have eT : TR = (⟨st, b, g, d, kp⟩, none, .non) := by
              rw [← hT]
              have hB : provB (lawL v) ⟨st, b, g, d, kp⟩ = false := by unfold provB; rw [hc]; rfl
              unfold takeR
              rw [if_neg h1f.2, if_pos (by omega)]
              unfold provC provV
              rw [hB]
              rfl
            refine iteT ?_
            refine ⟨_, rfl, rfl, _, rfl, ?_⟩
            rw [show decide (TR.2.2 = V.non) = true by rw [eT]; rfl]
            refine iteT ⟨_, rfl, by show 0 ≤ sizeLine; decide, fun l2 hl2 => ?_⟩
            have s4 := s3.trans (same_upd (o := .lst []) hl2)
            have hr3 := hr2.fr (FrI.of_same s4)
            rw [eT] at hr3
            have hd3 : RowsAt (upd H3 l2 (.lst [])) l2 none := upd_same
            refine ⟨dataR none, dataR none, hr3.dp, hd3.dp, (dataR_ok okO_none).1, (dataR_ok okO_none).1, ?_⟩
            rw [(dataR_ok okO_none).2]
            exact same (by rw [eT]) _ s4
        · rw [decide_eq_false h20]
          exact iteF ⟨by simp, s3, h1f.1, h1f.2, .inl (by omega)⟩
    rintro σ' H3 ⟨rfl, s3, n2, n3, n4⟩
    have C3 := C2.same s3
    have hr3 := hr2.fr (FrI.of_same s3)
    have hla3 := hla2.same s3
    have hw4 := s3 _ _ hw3
    have fr3 := frA.trans (FrW.of_fr (FrI.of_same s3))
    clear C2 hr2 hla2 hws2 hw3 i0 frA same
    have i0 : SqL K H3 ws [.str st.s, .int W.t0, .int f, .int W.u, .str W.tag] := SqL.of hw4
    -- a provisional code
    refine ⟨fun σ' H' => σ' = [some (.ref p), some (.ref ws), some (.ref la), some (.int c), some (.int now), some (.str tag), some (.ref e), some (.ref r), some TR.2.2, some (.bl (isC (lawL v)))] ∧ H' = H3 ∧ 20 ≤ c, ?_, ?_⟩
    · refine ⟨_, rfl, _, _, rfl, rfl, _, rfl, ?_⟩
      by_cases h20 : c < 20
      · rw [decide_eq_true h20]
        have hc : isC (lawL v) = true := n4.resolve_left (by omega)
        have hB : provB (lawL v) ⟨st, b, g, d, kp⟩ = true := by unfold provB; rw [hc, Bool.true_and, Bool.not_eq_true', decide_eq_false_iff_not]; exact n2
        have eT : TR = (provC (lawL v) ⟨st, b, g, d, kp⟩, none, .int c) := by
          rw [← hT]
          unfold takeR
          rw [if_neg n3, if_pos (by omega)]
          unfold provV
          rw [if_pos hB]
        rw [eT] at C3 hr3
        refine iteT ?_
        refine ⟨fun σ' H' => σ' = [some (.ref p), some (.ref ws), some (.ref la), some (.int c), some (.int now), some (.str tag), some (.ref e), some (.ref r), some (.int c), some (.bl (isC (lawL v)))] ∧ GoodX K H' p la z ws v f now ∧ FrW ws H H' ∧ RowsAt H' r none, ?_, ?_⟩
        · refine ⟨_, rfl, ws, _, 0, _, rfl, rfl, i0, rfl, rfl, _, rfl, ?_⟩
          show (if decide (V.str st.s = V.str CS.cl.s) = true then _ else _)
          rw [st_is]
          by_cases e1 : st = .cl
          · subst e1
            rw [decide_eq_true rfl]
            refine iteT ⟨_, rfl, ws, _, 0, 0, rfl, rfl, hw4, rfl, ?_⟩
            rw [show provC (lawL v) ⟨.cl, b, g, d, kp⟩ = ⟨.wt, b, g, d, kp⟩ from if_pos (by rw [hB]; rfl)] at C3
            exact ⟨by rw [eT], ⟨_, W, C3.ws hw4, hla3.ws hw4, upd_same, G.vb, G.f1, G.f2, hc⟩, fr3.trans FrW.upd, hr3.ws hw4⟩
          · rw [decide_eq_false e1]
            rw [show provC (lawL v) ⟨st, b, g, d, kp⟩ = ⟨st, b, g, d, kp⟩ from if_neg (by rw [hB, Bool.true_and, decide_eq_true_eq]; exact e1)] at C3
            exact iteF ⟨by rw [eT], ⟨_, W, C3, hla3, hw4, G.vb, G.f1, G.f2, R0⟩, fr3, hr3⟩
        rintro σ' H4 ⟨rfl, G4, fr4, hr4⟩
        refine ⟨_, rfl, _, rfl, rfl, _, rfl, ?_⟩
        rw [decide_eq_true rfl]
        refine iteT ⟨_, rfl, by show 0 ≤ sizeLine; decide, fun l2 hl2 => ?_⟩
        have s4 := same_upd (o := .lst []) hl2
        have hd4 : RowsAt (upd H4 l2 (.lst [])) l2 none := upd_same
        refine ⟨dataR none, dataR none, (hr4.fr (FrI.of_same s4)).dp, hd4.dp, (dataR_ok okO_none).1, (dataR_ok okO_none).1, ?_⟩
        rw [(dataR_ok okO_none).2]
        obtain ⟨C', W', g4⟩ := G4
        exact k _ ⟨C', W', g4.cl.same s4, g4.la.same s4, s4 _ _ g4.w, g4.vb, g4.f1, g4.f2, g4.r⟩ (fr4.trans (FrW.of_fr (FrI.of_same s4)))
      · rw [decide_eq_false h20]
        exact iteF ⟨rfl, rfl, by omega⟩
    rintro σ' H4 ⟨rfl, e1, h20⟩
    obtain rfl : H3 = H4 := e1.symm
    -- a final one
    refine ⟨_, rfl, ws, _, 0, 0, rfl, rfl, hw4, rfl, ?_⟩
    have fr5 : FrW ws H (upd H3 ws (.lst [.str "over", .int W.t0, .int f, .int W.u, .str W.tag])) := fr3.trans FrW.upd
    have hr5 := hr3.ws (u := .lst [.str "over", .int W.t0, .int f, .int W.u, .str W.tag]) hw4
    have C5 := C3.ws (o := .lst [.str "over", .int W.t0, .int f, .int W.u, .str W.tag]) hw4
    have hla5 := hla3.ws (u := .lst [.str "over", .int W.t0, .int f, .int W.u, .str W.tag]) hw4
    have hw5 : (upd H3 ws (.lst [.str "over", .int W.t0, .int f, .int W.u, .str W.tag])) ws = some (.lst [.str "over", .int W.t0, .int f, .int W.u, .str W.tag]) := upd_same
    show _
    refine ⟨fun σ' H' => σ' = [some (.ref p), some (.ref ws), some (.ref la), some (.int c), some (.int now), some (.str tag), some (.ref e), some (.ref r), some TR.2.2, some (.bl (isC (lawL v)))] ∧ H' = (upd H3 ws (.lst [.str "over", .int W.t0, .int f, .int W.u, .str W.tag])) ∧ isC (lawL v) = true, ?_, ?_⟩
    · refine ⟨_, rfl, _, rfl, ?_⟩
      cases hc : isC (lawL v) with
      | true => exact iteF ⟨rfl, rfl, rfl⟩
      | false =>
        have eT : TR = (⟨.ov, b, g, d, kp⟩, none, .int c) := by
          rw [← hT]
          unfold takeR
          rw [if_neg n3, if_neg (fun q => q h20), if_pos hc]
        refine iteT ?_
        rw [eT]
        refine ⟨_, rfl, _, rfl, rfl, _, rfl, ?_⟩
        rw [decide_eq_true rfl]
        refine iteT ⟨_, rfl, by show 0 ≤ sizeLine; decide, fun l2 hl2 => ?_⟩
        have s4 := same_upd (o := .lst []) hl2
        rw [eT] at hr5 C5
        have hd4 : RowsAt (upd (upd H3 ws (.lst [.str "over", .int W.t0, .int f, .int W.u, .str W.tag])) l2 (.lst [])) l2 none := upd_same
        refine ⟨dataR none, dataR none, (hr5.fr (FrI.of_same s4)).dp, hd4.dp, (dataR_ok okO_none).1, (dataR_ok okO_none).1, ?_⟩
        rw [(dataR_ok okO_none).2]
        exact k _ ⟨⟨.ov, b, g, d, kp⟩, W, C5.same s4, hla5.same s4, s4 _ _ hw5, G.vb, G.f1, G.f2, trivial⟩ (fr5.trans (FrW.of_fr (FrI.of_same s4)))
    rintro σ' H4 ⟨rfl, e1, hc⟩
    subst e1
    have eT : TR = (finC (lawL v) M f now, some (tx (keepL (lawL v) M.ttag)), .int c) := by
      rw [← hT]
      unfold takeR
      rw [if_neg n3, if_neg (fun q => q h20), if_neg (by rw [hc]; exact fun q => nomatch q), if_neg n2]
    rw [eT, et0] at hr5
    rw [eT] at C5
    have C5' : ClAt K (upd H3 ws (.lst [.str "over", .int W.t0, .int f, .int W.u, .str W.tag])) p la f z ⟨.fn, now, f, now + f, some (tx (keepL (lawL v) tag))⟩ := by
      have := C5
      unfold finC at this
      rw [et0] at this
      exact this
    clear C5
    generalize (upd H3 ws (.lst [.str "over", .int W.t0, .int f, .int W.u, .str W.tag])) = H5 at fr5 hr5 C5' hla5 hw5 ⊢
    refine ⟨_, rfl, ws, _, 0, 0, rfl, rfl, hw5, rfl, ?_⟩
    refine ⟨_, rfl, _, rfl, ws, _, 2, _, rfl, rfl, SqL.of upd_same, rfl, _, _, rfl, rfl, .inl ⟨by decide, by decide⟩, _, _, rfl, rfl, _, rfl, ws, _, 3, 3, rfl, rfl, upd_same, rfl, ?_⟩
    refine ⟨_, rfl, _, rfl, ws, _, 4, 4, rfl, rfl, upd_same, rfl, ?_⟩
    rw [upd_upd, upd_upd]
    show _
    have hr6 := hr5.ws (u := .lst [.str "final", .int W.t0, .int f, .int (now + 32 * f), .str tag]) hw5
    have C6 := C5'.ws (o := .lst [.str "final", .int W.t0, .int f, .int (now + 32 * f), .str tag]) hw5
    have hla6 := hla5.ws (u := .lst [.str "final", .int W.t0, .int f, .int (now + 32 * f), .str tag]) hw5
    rw [eT]
    refine ⟨_, rfl, _, rfl, rfl, _, rfl, ?_⟩
    rw [decide_eq_true rfl]
    refine iteT ⟨_, rfl, _, rfl, r, v, tag, rfl, htag, hr6, fun H7 s7 => ?_⟩
    exact k _ ⟨⟨.fn, now, f, now + f, some (tx (keepL (lawL v) tag))⟩, ⟨W.t0, now + 32 * f, tag⟩, C6.same s7, hla6.same s7, s7 _ _ upd_same, G.vb, G.f1, G.f2, rfl, rfl, htag, hc⟩ ((fr5.trans FrW.upd).trans (FrW.of_fr (FrI.of_same s7)))
end K5
set_option maxHeartbeats 1000000
set_option pp.maxSteps 400
namespace K5
open PySem PySem.Spec PyProof.Rows L2 SX TK TKS
open C8 (pe_c)
def spLaw (K : PySem.W.Frag) : Sp := fun vs H Q _ => ∃ (a : Addr) (ns : List Int), vs = [.ref a] ∧ SqL K H a (ns.map V.int) ∧ ns.length ≤ 63 ∧ ∀ H', Q (.bl true) H'
structure JJ (K : PySem.W.Frag) (s c p la ws sl : Addr) (xs : List V) (v : Str) (f now : Int) (H : Hp) : Prop where
  st : StAt H s c
  g : GoodX K H p la c ws v f now
  ls : H sl = some (.lst xs)
  n1 : sl ≠ s
  n2 : sl ≠ c
  n3 : sl ≠ ws
section
variable {K : PySem.W.Frag} {s c p la ws sl : Addr} {xs : List V} {v : Str} {f now : Int} {H H' : Hp}
theorem JJ.same (j : JJ K s c p la ws sl xs v f now H) (sm : Same H H') : JJ K s c p la ws sl xs v f now H' := by
  obtain ⟨C, W, G⟩ := j.g
  exact ⟨j.st.same sm, ⟨C, W, G.cl.same sm, G.la.same sm, sm _ _ G.w, G.vb, G.f1, G.f2, G.r⟩, sm _ _ j.ls, j.n1, j.n2, j.n3⟩
theorem JJ.draw (j : JJ K s c p la ws sl xs v f now H) (st : StAt H' s c) (k : Keep H H' s c) : JJ K s c p la ws sl xs v f now H' := by
  obtain ⟨ne, ⟨n, e1⟩, ns, e2, e3⟩ := j.st
  obtain ⟨C, W, G⟩ := j.g
  have w : H ws = some (.lst (.str C.st.s :: _)) := G.w
  have kn : ∀ b o, H b = some o → (∀ l, o ≠ .lst l) → H' b = some o := fun b o e h => k b o e (fun q => by rw [q, e1] at e; exact h _ (Option.some.inj e).symm) (fun q => by rw [q, e2] at e; exact h _ (Option.some.inj e).symm)
  refine ⟨st, ⟨C, W, G.cl.mono fun b o e h => ?_, ?_, k _ _ w (ne_of w e1 (by intro z; cases z)) (ne_of w e2 ?_), G.vb, G.f1, G.f2, G.r⟩, k _ _ j.ls j.n1 j.n2, j.n1, j.n2, j.n3⟩
  · refine k b o e (fun q => ?_) (fun q => ?_)
    · rw [q, e1] at e
      cases e
      rcases (h _ rfl).2 with z | ⟨t, z⟩ <;> cases z
    · rw [q, e2] at e
      cases e
      exact (h _ rfl).1 q
  · obtain ⟨d, e⟩ := G.la
    exact ⟨d, kn _ _ e fun l z => nomatch z⟩
  · intro z
    cases ns with
    | nil => cases z
    | cons a r => cases z
theorem JJ.op {now' : Int} (j : JJ K s c p la ws sl xs v f now H) (g : GoodX K H' p la c ws v f now') (fr : FrW ws H H') : JJ K s c p la ws sl xs v f now' H' := by
  obtain ⟨ne, ⟨n, e1⟩, ns, e2, e3⟩ := j.st
  obtain ⟨C, W, G⟩ := j.g
  have w : H ws = some (.lst (.str C.st.s :: _)) := G.w
  exact ⟨⟨ne, ⟨n, fr _ _ e1 rfl (ne_of e1 w (by intro z; cases z))⟩, ns, fr _ _ e2 rfl (ne_of e2 w (by
    intro z
    cases ns with
    | nil => cases z
    | cons a r => cases z)), e3⟩, g, fr _ _ j.ls rfl j.n3, j.n1, j.n2, j.n3⟩
end
theorem ok_law {P : Program} {w : World} {K : PySem.W.Frag} {mg : Str → Option Value} {base : Heap} {f : Addr} {fd : FuncData} (T : Tx K mg) (c_law_state : C8.Cal P w K mg base 1 "_law_state" (spState K) []) (c_law_pick : C8.Cal P w K mg base 2 "_law_pick" spPick []) (c_law_draw : C8.Cal P w K mg base 1 "_law_draw" spDraw []) (c_law_letter : C8.Cal P w K mg base 3 "_law_letter" (spLawLet K) []) (c_write : C8.Cal P w K mg base 2 "write" (spWrite1 K) []) (c_mk_Client : C8.Mak P w K mg base 3 "Client" (He.ga K "Client") (spClInit K) []) (c_Client_sending : C8.Met P w K mg base 3 (He.ga K "Client") "sending" (spSending K) []) (c_law_tick : C8.Cal P w K mg base 5 "_law_tick" (spOpTick K) []) (c_law_reply : C8.Cal P w K mg base 9 "_law_reply" (spOpReply K) []) (c_Client_stop : C8.Met P w K mg base 3 (He.ga K "Client") "stop" (spStop K) []) (c_Client_is_over : C8.Met P w K mg base 1 (He.ga K "Client") "is_over" (spClOver K) []) (c_Letter_parts : C8.Met P w K mg base 1 (He.ga K "Letter") "parts" (spParts K) [])
    (F : FunD K "law" "law" (defArgs s_law) (defBody s_law) (defScope s_law) [] [] f fd) : FnOk P w K mg base CX0 10 f fd ["script"] (spLaw K) := by
  refine F.ok sc_law (fun vs H Q E h => ?_) (fun cdv A outer s0 H vs Q E hr h => ?_)
  · obtain ⟨a, ns, rfl, _⟩ := h
    rfl
  · obtain ⟨a, ns, rfl, hS, hn, k⟩ := h
    refine ⟨_, PSs.nox (pss_cons (ps_set (i := 1) sc_law.nd rfl (Or.inl rfl) (pe_c c_law_state hr (by decide) rfl (pa_cons (pv 0) pa_nil))) (pss_cons (ps_set (i := 2) sc_law.nd rfl (Or.inl rfl) (pe_c c_law_pick hr (by decide) rfl (pa_cons (pv 1) (pa_cons (pe_lst (pa_cons pe_str (pa_cons pe_str (pa_cons pe_str (pa_cons pe_str (pa_cons pe_str (pa_cons pe_str pa_nil))))))) pa_nil)))) (pss_cons (ps_set (i := 3) sc_law.nd rfl (Or.inl rfl) (pe_op op_add pe_int (pe_c c_law_draw hr (by decide) rfl (pa_cons (pv 1) (pa_cons (pe_c c_law_pick hr (by decide) rfl (pa_cons (pv 1) (pa_cons (pe_lst (pa_cons pe_int (pa_cons pe_int pa_nil))) pa_nil))) pa_nil))))) (pss_cons (ps_set (i := 4) sc_law.nd rfl (Or.inl rfl) (pe_c c_law_draw hr (by decide) rfl (pa_cons (pv 1) (pa_cons pe_int pa_nil)))) (pss_cons (ps_set (i := 5) sc_law.nd rfl (Or.inl rfl) (pe_c c_law_letter hr (by decide) rfl (pa_cons (pv 2) pa_nil))) (pss_cons (ps_set (i := 6) sc_law.nd rfl (Or.inl rfl) (pe_c c_write hr (by decide) rfl (pa_cons (pv 5) pa_nil))) (pss_cons (ps_set (i := 7) sc_law.nd rfl (Or.inl rfl) (C8.pe_mk c_mk_Client hr (by decide) rfl (pa_cons (pv 5) (pa_cons pe_str (pa_cons (pv 4) (pa_cons (pv 3) pa_nil)))))) (pss_cons (ps_set (i := 8) sc_law.nd rfl (Or.inl rfl) (pe_lst (pa_cons pe_str (pa_cons (pv 4) (pa_cons (pv 3) (pa_cons pe_int (pa_cons pe_str pa_nil))))))) (C8.pss_cut (ps_if (pt_cmpR (op_neD hr.units) (C8.pe_mt0 c_Client_sending hr (by decide) (pv 7)) (pe_lst (pa_cons (pe_tup (pa_cons pe_str (pa_cons (pv 6) pa_nil))) pa_nil)) (nomark _)) (pss_one (ps_ret pe_bl)) pss_nil) (pss_cons (ps_for PassesOwn.never rfl (pi_list (pe_slice sl_list (pv 0) po_none (po_some pe_int))) (pg_name (i := 9) sc_law.nd rfl (Or.inl rfl)) (pss_cons (ps_set (i := 10) sc_law.nd rfl (Or.inl rfl) (pe_c c_law_draw hr (by decide) rfl (pa_cons (pv 1) (pa_cons pe_int pa_nil)))) (C8.pss_cut (ps_if (pt_cmpR op_lt (pv 10) pe_int (nomark _)) (pss_one (ps_for PassesOwn.never rfl (pi_range1 rfl T.f_range (pa_cons (pe_c c_law_pick hr (by decide) rfl (pa_cons (pv 1) (pa_cons (pe_lst (pa_cons pe_int (pa_cons pe_int (pa_cons (pv 3) (pa_cons (pe_op op_mul pe_int (pv 3)) (pa_cons (pe_op op_mul pe_int (pv 3)) pa_nil)))))) pa_nil))) pa_nil)) (pg_name (i := 11) sc_law.nd rfl (Or.inl rfl)) (pss_cons (ps_set (i := 4) sc_law.nd rfl (Or.inl rfl) (pe_op op_add (pv 4) pe_int)) (pss_one (ps_if (pt_not (pt_val (pe_c c_law_tick hr (by decide) rfl (pa_cons (pv 7) (pa_cons (pv 8) (pa_cons (pv 4) (pa_cons (pv 6) pa_nil))))))) (pss_one (ps_ret pe_bl)) pss_nil))))) (pss_one (ps_if (pt_cmpR op_lt (pv 10) pe_int (nomark _)) (pss_cons (ps_set (i := 12) sc_law.nd rfl (Or.inl rfl) (pe_c c_law_pick hr (by decide) rfl (pa_cons (pv 1) (pa_cons (pe_lst (pa_cons pe_int (pa_cons pe_int (pa_cons pe_int (pa_cons pe_int (pa_cons pe_int (pa_cons pe_int pa_nil))))))) pa_nil)))) (pss_one (ps_if (pt_not (pt_val (pe_c c_law_reply hr (by decide) rfl (pa_cons (pv 7) (pa_cons (pv 8) (pa_cons (pv 5) (pa_cons (pv 12) (pa_cons (pv 4) (pa_cons (pe_c c_law_pick hr (by decide) rfl (pa_cons (pv 1) (pa_cons (pe_lst (pa_cons pe_str (pa_cons pe_str pa_nil))) pa_nil))) pa_nil))))))))) (pss_one (ps_ret pe_bl)) pss_nil))) (pss_cons (ps_expr (C8.pe_mt c_Client_stop hr (by decide) (pv 7) (pa_cons (pv 4) pa_nil))) (pss_one (ps_if (pt_cmpR op_in_seq (pe_ix ix_list (pv 8) pe_int (fun _ _ => rfl)) (pe_lst (pa_cons pe_str (pa_cons pe_str pa_nil))) (by with_unfolding_all rfl)) (pss_cons (ps_asg pe_str (pg_sub (pv 8) pe_int set_list)) (pss_one (ps_asg (pe_op op_add (pv 4) (pe_op op_mul pe_int (pv 3))) (pg_sub (pv 8) pe_int set_list)))) pss_nil)))))) (pss_one (ps_if (PW.pt (pw_or (pt_cmpR op_ne (pe_fldC rfl T.cl_Client T.na_Client_state (pv 7) rfl) (pe_ix ix_list (pv 8) pe_int (fun _ _ => rfl)) (nomark _)) (pw_or1 (pt_cmpR op_ne (C8.pe_mt0 c_Client_is_over hr (by decide) (pv 7)) (pe_cmpR op_eq (pe_ix ix_list (pv 8) pe_int (fun _ _ => rfl)) pe_str (nomark _)) (nomark _))))) (pss_one (ps_ret pe_bl)) pss_nil))))) (pss_one (ps_ret (pe_and (pe_cmpR (op_eqD hr.units) (C8.pe_mt0 c_Letter_parts hr (by decide) (pe_fldC rfl T.cl_Client T.na_Client_letter (pv 7) rfl)) (C8.pe_mt0 c_Letter_parts hr (by decide) (pv 5)) (nomark _)) (pe_one (pe_cmpR op_eq (pe_fldC rfl T.cl_Client T.na_Client_place (pv 7) rfl) pe_str (nomark _)))))))))))))))), ?_⟩
    refine ⟨_, rfl, a, ns, rfl, hS, hn, fun s c H1 s1 hs hc st1 => ?_⟩
    -- the verb
    refine ⟨_, rfl, by show 6 ≤ sizeLine; decide, fun l1 hl1 => ?_⟩
    obtain ⟨n1, n2⟩ := st1.tracked hl1
    refine ⟨s, c, _, rfl, st1.upd n1 n2, .inr ⟨l1, _, rfl, upd_same, n1, n2, by decide, by decide, fun vv hv H2 st2 kp2 => ?_⟩⟩
    obtain ⟨v, hv2, rfl⟩ : ∃ v ∈ verbs5, vv = V.str v := by
      simp only [List.mem_cons, List.not_mem_nil, or_false] at hv
      rcases hv with rfl | rfl | rfl | rfl | rfl | rfl <;> exact ⟨_, by decide +kernel, rfl⟩
    -- the first gap
    refine ⟨_, rfl, _, rfl, by show 2 ≤ sizeLine; decide, fun l2 hl2 => ?_⟩
    obtain ⟨n1, n2⟩ := st2.tracked hl2
    refine ⟨s, c, _, rfl, st2.upd n1 n2, .inr ⟨l2, _, rfl, upd_same, n1, n2, by decide, by decide, fun mm hm H3 st3 kp3 => ?_⟩⟩
    obtain ⟨m, m0, m1, rfl⟩ : ∃ m : Int, 0 < m ∧ m ≤ 20 ∧ mm = V.int m := by
      simp only [List.mem_cons, List.not_mem_nil, or_false] at hm
      rcases hm with rfl | rfl <;> exact ⟨_, by decide, by decide, rfl⟩
    refine ⟨s, c, m, rfl, st3, m0, by omega, fun r H4 r0 r1 st4 kp4 => ⟨_, _, rfl, rfl, ?_⟩⟩
    have f1 : 1 ≤ 1 + r := by omega
    have f2 : 1 + r ≤ 20 := by omega
    dsimp only
    generalize 1 + r = f at f1 f2 ⊢
    refine ⟨_, rfl, s, c, 50, rfl, st4, by decide, by decide, fun now H5 now0 now1 st5 kp5 => ?_⟩
    have kpA : Keep H H5 s c := (((((Keep.of_same s1).trans (Keep.of_same (same_upd hl1))).trans kp2).trans (Keep.of_same (same_upd hl2))).trans kp3).trans (kp4.trans kp5)
    have s05 : Same H H5 := fun b o e => kpA b o e (ne_of_none e hs) (ne_of_none e hc)
    clear kpA kp2 kp3 kp4 kp5 st1 st2 st3 st4 s1 hl1 hl2 n1 n2 hs hc
    -- the letter, its text, the client, the account
    refine ⟨_, rfl, v, rfl, fun la H6 s6 hla => ?_⟩
    have pl := pLaw hv2
    refine ⟨_, rfl, la, lawL v, rfl, hla, pl.lok, none, pl.off, pl.xok, fun H7 s7 => ?_⟩
    generalize eX : textOf (linesX (lawL v) none) = X
    refine ⟨_, rfl, _, rfl, _, rfl, fun p dx hp hdx hne => ?_⟩
    have sO := same_own (C := He.ga K "Client") (fs := []) hp hdx
    have st7 := (st5.same s6).same s7
    obtain ⟨ms, ec⟩ : ∃ ms, H7 c = some (.lst ms) := by
      obtain ⟨_, _, ms, e, _⟩ := st7
      exact ⟨_, e⟩
    refine ⟨p, dx, la, c, now, f, rfl, upd_same, ⟨_, sO _ _ ec⟩, fun H8 hcl fr8 => ⟨rfl, ?_⟩⟩
    have s08 : FrI H H8 := (FrI.of_same (((s05.trans s6).trans s7).trans sO)).trans fr8
    have hla8 := fr8.let ((hla.same s7).same sO)
    have st8 : StAt H8 s c := by
      obtain ⟨ne, ⟨n, e1⟩, ns, e2, e3⟩ := st7.same sO
      exact ⟨ne, ⟨n, fr8 _ _ e1 rfl⟩, ns, fr8 _ _ e2 rfl, e3⟩
    have hS8 : SqL K H8 a (ns.map V.int) := by
      rcases hS with (h | ⟨o, h⟩) | h
      · exact .inl (.inl (s08 _ _ h rfl))
      · exact .inl (.inr ⟨o, s08 _ _ h rfl⟩)
      · exact .inr h
    clear s05 s6 hla s7 hp hdx hne sO st5 st7 ec fr8
    refine ⟨_, rfl, _, rfl, by show 5 ≤ sizeLine; decide, fun ws hws => ?_⟩
    have s9 := same_upd (o := .lst [.str "calling", .int now, .int f, .int 0, .str ""]) hws
    have w9 : (upd H8 ws (.lst [.str "calling", .int now, .int f, .int 0, .str ""])) ws = some (.lst [.str "calling", .int now, .int f, .int 0, .str ""]) := upd_same
    generalize (upd H8 ws (.lst [.str "calling", .int now, .int f, .int 0, .str ""])) = H9 at s9 w9 ⊢
    have g9 : GoodX K H9 p la c ws v f now := ⟨_, ⟨now, 0, ""⟩, hcl.same s9, hla8.same s9, w9, hv2, f1, f2, rfl, by show now - now < 32 * f; omega, .inl ⟨by show now + f - now = f; omega, rfl, by show 0 ≤ now - now; omega, by show now - now < f; omega⟩⟩
    have st9 := st8.same s9
    have hS9 : SqL K H9 a (ns.map V.int) := s9.seq hS8
    -- the first sending
    obtain ⟨C9, W9, G9⟩ := id g9
    obtain ⟨dp, wap, kap, hpp, _⟩ := id G9.cl
    refine ⟨fun σ' H' => σ' = [some (.ref a), some (.ref s), some (.str v), some (.int f), some (.int now), some (.ref la), some (.str X), some (.ref p), some (.ref ws), none, none, none, none] ∧ Same H9 H', ?_, ?_⟩
    · refine ⟨_, rfl, p, dp, _, rfl, hpp, rfl, p, la, c, f, C9, lawL v, rfl, G9.cl, G9.la, pl, fun rr HA sA hrn hrr => ?_⟩
      refine ⟨_, rfl, by show 2 ≤ sizeLine; decide, fun y hy => ⟨by show 1 ≤ sizeLine; decide, fun d2 hd2 => ?_⟩⟩
      obtain ⟨q1, q2, s5, q3, q4⟩ := new2 (u := .lst [.ref y]) hy hd2
      rw [show tx (lawL v) = X from eX] at hrr
      have ok : OkO (some X) := fun z e => by cases e; rw [← eX]; exact pl.tx_ok
      have hd5 : RowsAt (upd (upd HA y (.tup [.str "q", .str X])) d2 (.lst [.ref y])) d2 (some X) := ⟨y, q4, q3⟩
      refine ⟨dataR (some X), dataR (some X), (hrr.fr (FrI.of_same s5)).dp, hd5.dp, (dataR_ok ok).1, (dataR_ok ok).1, _, rfl, ?_⟩
      rw [(dataR_ok ok).2]
      exact iteF ⟨rfl, sA.trans s5⟩
    rintro σ' HB ⟨rfl, sB⟩
    -- for cell in script[:60]
    refine ⟨_, rfl, 60, rfl, a, _, rfl, sB.seq hS9, fun sl hsl => ?_⟩
    obtain ⟨m1, m2⟩ := (st9.same sB).tracked hsl
    have sC := same_upd (o := .lst (cutV (ns.map V.int) none (some 60))) hsl
    have g0 : GoodX K (upd HB sl (.lst (cutV (ns.map V.int) none (some 60)))) p la c ws v f now := ⟨C9, W9, (G9.cl.same sB).same sC, (G9.la.same sB).same sC, sC _ _ (sB _ _ G9.w), G9.vb, G9.f1, G9.f2, G9.r⟩
    have j9 : JJ K s c p la ws sl (cutV (ns.map V.int) none (some 60)) v f now (upd HB sl (.lst (cutV (ns.map V.int) none (some 60)))) :=
      ⟨(st9.same sB).same sC, g0, upd_same, m1, m2, (ne_of_none (sB _ _ w9) hsl).symm⟩
    refine ⟨sl, rfl, ⟨_, SqL.of j9.ls⟩, for_list (K := K) (a := sl) (xs := cutV (ns.map V.int) none (some 60)) (fun i σ H' => ∃ (nw : Int) (v9 v10 v11 v12 : Option V), σ = [some (.ref a), some (.ref s), some (.str v), some (.int f), some (.int nw), some (.ref la), some (.str X), some (.ref p), some (.ref ws), v9, v10, v11, v12] ∧ JJ K s c p la ws sl (cutV (ns.map V.int) none (some 60)) v f nw H') ⟨now, none, none, none, none, rfl, j9⟩ (fun i σ H' _ ⟨_, _, _, _, _, _, j⟩ => SqL.of j.ls) ?_ ?_⟩
    · rintro i y σ H1 hi ⟨nw, v9, v10, v11, v12, rfl, j⟩
      refine ⟨_, rfl, s, c, 8, rfl, j.st, by decide, by decide, fun kd H2 k0 k1 st2 kp2 => ?_⟩
      have j2 := j.draw st2 kp2
      refine ⟨fun σ' H' => ∃ (nw' : Int) (w11 w12 : Option V), σ' = [some (.ref a), some (.ref s), some (.str v), some (.int f), some (.int nw'), some (.ref la), some (.str X), some (.ref p), some (.ref ws), some y, some (.int kd), w11, w12] ∧ JJ K s c p la ws sl (cutV (ns.map V.int) none (some 60)) v f nw' H', ?_, ?_⟩
      · refine ⟨_, rfl, _, _, rfl, rfl, _, rfl, ?_⟩
        by_cases h5 : kd < 5
        · -- ticks
          rw [decide_eq_true h5]
          refine iteT ⟨_, rfl, _, rfl, _, rfl, _, _, rfl, rfl, .inl ⟨by decide, by decide⟩, _, rfl, _, _, rfl, rfl, .inl ⟨by decide, by decide⟩, by show 5 ≤ sizeLine; decide, fun l hl => ?_⟩
          obtain ⟨n1, n2⟩ := st2.tracked hl
          refine ⟨s, c, _, rfl, st2.upd n1 n2, .inr ⟨l, _, rfl, upd_same, n1, n2, by show 0 < 5; decide, by show 5 ≤ 1000; decide, fun mm hm H3 st3 kp3 => ?_⟩⟩
          have j3 := (j2.same (same_upd (o := .lst [.int 1, .int 1, .int f, .int (8 * f), .int (33 * f)]) hl)).draw st3 kp3
          obtain ⟨m, m0, m1, rfl⟩ : ∃ m : Int, 0 ≤ m ∧ m ≤ 1000 ∧ mm = V.int m := by
            simp only [List.mem_cons, List.not_mem_nil, or_false] at hm
            rcases hm with rfl | rfl | rfl | rfl | rfl
            · exact ⟨_, by decide, by decide, rfl⟩
            · exact ⟨_, by decide, by decide, rfl⟩
            · exact ⟨_, by omega, by omega, rfl⟩
            · exact ⟨8 * f, by omega, by omega, rfl⟩
            · exact ⟨33 * f, by omega, by omega, rfl⟩
          refine ⟨m, rfl, by omega, by omega, ?_⟩
          refine for_it walk_range (fun i σ H' => ∃ (nw' : Int) (w11 : Option V), σ = [some (.ref a), some (.ref s), some (.str v), some (.int f), some (.int nw'), some (.ref la), some (.str X), some (.ref p), some (.ref ws), some y, some (.int kd), w11, v12] ∧ JJ K s c p la ws sl (cutV (ns.map V.int) none (some 60)) v f nw' H') ⟨nw, v11, rfl, j3⟩ (fun _ _ _ _ _ => trivial) ?_ (fun σ H' ⟨nw', w11, e, j⟩ => ⟨nw', w11, v12, e, j⟩)
          rintro i' x σ H4 H5 hi' ⟨nw', w11, rfl, j4⟩ ⟨rfl, rfl⟩
          obtain ⟨C, W, G⟩ := id j4.g
          refine ⟨_, rfl, _, _, rfl, rfl, ?_⟩
          refine ⟨_, rfl, _, rfl, _, rfl, _, rfl, p, la, c, ws, v, f, nw', C, W, X, rfl, eX.symm, G, fun H6 g6 fr6 => ⟨_, rfl, iteF ⟨nw' + 1, _, rfl, j4.op g6 fr6⟩⟩⟩
        · rw [decide_eq_false h5]
          refine iteF ⟨_, rfl, _, _, rfl, rfl, _, rfl, ?_⟩
          by_cases h7 : kd < 7
          · rw [decide_eq_true h7]
            refine iteT ⟨_, rfl, by show 6 ≤ sizeLine; decide, fun l hl => ?_⟩
            obtain ⟨n1, n2⟩ := st2.tracked hl
            refine ⟨s, c, _, rfl, st2.upd n1 n2, .inr ⟨l, _, rfl, upd_same, n1, n2, by show 0 < 6; decide, by show 6 ≤ 1000; decide, fun mm hm H3 st3 kp3 => ?_⟩⟩
            have j3 := (j2.same (same_upd (o := .lst [.int 18, .int 18, .int 20, .int 41, .int 44, .int 48]) hl)).draw st3 kp3
            obtain ⟨m, rfl⟩ : ∃ m : Int, mm = V.int m := by
              simp only [List.mem_cons, List.not_mem_nil, or_false] at hm
              rcases hm with rfl | rfl | rfl | rfl | rfl | rfl <;> exact ⟨_, rfl⟩
            refine ⟨_, rfl, _, rfl, _, rfl, _, rfl, _, rfl, _, rfl, by show 2 ≤ sizeLine; decide, fun l3 hl3 => ?_⟩
            obtain ⟨n1, n2⟩ := st3.tracked hl3
            refine ⟨s, c, _, rfl, st3.upd n1 n2, .inr ⟨l3, _, rfl, upd_same, n1, n2, by show 0 < 2; decide, by show 2 ≤ 1000; decide, fun mm2 hm2 H4 st4 kp4 => ?_⟩⟩
            have j4 := (j3.same (same_upd (o := .lst [.str "a", .str "b7"]) hl3)).draw st4 kp4
            obtain ⟨tg, htg, rfl⟩ : ∃ t ∈ tags5, mm2 = V.str t := by
              simp only [List.mem_cons, List.not_mem_nil, or_false] at hm2
              rcases hm2 with rfl | rfl
              · exact ⟨_, List.mem_cons_self .., rfl⟩
              · exact ⟨_, List.mem_cons_of_mem _ (List.mem_cons_self ..), rfl⟩
            obtain ⟨C, W, G⟩ := id j4.g
            obtain ⟨_, _, ms, ec, _⟩ := id j4.st
            refine ⟨p, la, c, ws, v, tg, f, nw, m, C, W, rfl, G, htg, ⟨_, ec⟩, fun H6 g6 fr6 => ⟨_, rfl, iteF ⟨nw, _, _, rfl, j4.op g6 fr6⟩⟩⟩
          · rw [decide_eq_false h7]
            obtain ⟨C, W, G⟩ := id j2.g
            obtain ⟨dp, wap, kap, hpp, _⟩ := id G.cl
            refine iteF ⟨_, rfl, p, dp, _, rfl, hpp, rfl, _, rfl, p, la, c, f, nw, C, rfl, G.cl, fun H3 C3 fr3 => ?_⟩
            have hw3 : H3 ws = some (.lst [.str C.st.s, .int W.t0, .int f, .int W.u, .str W.tag]) := fr3 _ _ G.w rfl
            have hla3 := fr3.let G.la
            refine ⟨_, rfl, ws, _, 0, _, rfl, rfl, SqL.of hw3, rfl, by show 2 ≤ sizeLine; decide, fun l hl => ⟨l, _, rfl, .inl (SqL.of upd_same), rfl, rfl, _, rfl, ?_⟩⟩
            have s4 := same_upd (o := .lst [.str "calling", .str "waiting"]) hl
            have hw4 := s4 _ _ hw3
            have C4 := C3.same s4
            have hla4 := hla3.same s4
            have fr4 : FrW ws H2 (upd H3 l (.lst [.str "calling", .str "waiting"])) := FrW.of_fr (fr3.trans (FrI.of_same s4))
            generalize (upd H3 l (.lst [.str "calling", .str "waiting"])) = H4 at s4 hw4 C4 hla4 fr4 ⊢
            show (if inV (V.str C.st.s) [.str "calling", .str "waiting"] = true then _ else _)
            rw [show inV (V.str C.st.s) [.str "calling", .str "waiting"] = (decide (C.st = .cl) || decide (C.st = .wt)) by cases C.st <;> rfl]
            cases e : (decide (C.st = .cl) || decide (C.st = .wt)) with
            | false =>
              rw [show stopC C f nw = C from if_neg (by rw [e]; exact Bool.false_ne_true)] at C4
              exact iteF ⟨nw, _, _, rfl, j2.op ⟨C, W, C4, hla4, hw4, G.vb, G.f1, G.f2, G.r⟩ fr4⟩
            | true =>
              rw [show stopC C f nw = ⟨.sp, nw, f, nw + f, C.kp⟩ from if_pos e] at C4
              refine iteT ⟨_, rfl, ws, _, 0, 0, rfl, rfl, hw4, rfl, ?_⟩
              refine ⟨_, rfl, _, rfl, _, _, rfl, rfl, .inl ⟨by decide, by decide⟩, _, _, rfl, rfl, _, rfl, ws, _, 3, 3, rfl, rfl, upd_same, rfl, ?_⟩
              rw [upd_upd]
              exact ⟨nw, _, _, rfl, j2.op ⟨⟨.sp, nw, f, nw + f, C.kp⟩, ⟨W.t0, nw + 32 * f, W.tag⟩, C4.ws hw4, hla4.ws hw4, upd_same, G.vb, G.f1, G.f2, rfl⟩ (fr4.trans FrW.upd)⟩
      rintro σ' H3 ⟨nw', w11, w12, rfl, j3⟩
      obtain ⟨C, W, G⟩ := id j3.g
      obtain ⟨dp, wap, kap, hpp, _⟩ := id G.cl
      have hw : H3 ws = some (.lst [.str C.st.s, .int W.t0, .int f, .int W.u, .str W.tag]) := G.w
      refine ⟨_, rfl, p, dp, _, _, rfl, hpp, rfl, _, rfl, ws, _, 0, _, rfl, rfl, SqL.of hw, rfl, rfl, _, rfl, ?_⟩
      rw [decide_eq_true rfl]
      refine iteF ⟨_, rfl, p, dp, _, rfl, hpp, rfl, p, la, c, f, C, rfl, G.cl, _, rfl, ws, _, 0, _, rfl, rfl, SqL.of hw, rfl, rfl, rfl, _, rfl, ?_⟩
      have e : (!decide (V.bl (decide (C.st = CS.ov)) = V.bl (decide (V.str C.st.s = V.str "over")))) = false := by cases C.st <;> rfl
      rw [e]
      exact iteF ⟨nw', _, _, _, _, rfl, j3⟩
    · rintro σ H1 ⟨nw, v9, v10, v11, v12, rfl, j⟩
      obtain ⟨C, W, G⟩ := id j.g
      obtain ⟨dp, wap, kap, hpp, _⟩ := id G.cl
      obtain ⟨dl, hl⟩ := id G.la
      refine ⟨_, rfl, p, dp, _, _, rfl, hpp, rfl, la, dl, _, rfl, hl, rfl, la, _, rfl, ⟨dl, hl⟩, fun t ht => ?_⟩
      have s3 := same_upd (o := .tup (lawL v).partsV) ht
      refine ⟨_, rfl, la, dl, _, rfl, s3 _ _ hl, rfl, la, _, rfl, ⟨dl, s3 _ _ hl⟩, fun t2 ht2 => ?_⟩
      have s4 := same_upd (o := .tup (lawL v).partsV) ht2
      refine ⟨partsD (lawL v), partsD (lawL v), partsD_dp (s4 _ _ upd_same) rfl rfl rfl rfl, partsD_dp (L := lawL v) upd_same rfl rfl rfl rfl, (partsD_ok pl.lok).1, (partsD_ok pl.lok).1, _, rfl, ?_⟩
      rw [(partsD_ok pl.lok).2]
      refine iteT ⟨_, rfl, p, dp, _, _, rfl, s4 _ _ (s3 _ _ hpp), rfl, rfl, ?_⟩
      exact k _
end K5
set_option maxHeartbeats 0
namespace K5
open PySem PySem.Spec PyProof.Rows L2 SX TK TKS
/-! ### the head: facts by names, the run -/
def d_is_name : He.DefD := ⟨("is_name", none), "is_name", "is_name", defArgs s_is_name, defBody s_is_name, defScope s_is_name, [], []⟩
def d_is_tag : He.DefD := ⟨("is_tag", none), "is_tag", "is_tag", defArgs s_is_tag, defBody s_is_tag, defScope s_is_tag, [], []⟩
def d_is_address : He.DefD := ⟨("is_address", none), "is_address", "is_address", defArgs s_is_address, defBody s_is_address, defScope s_is_address, [], []⟩
def d_read_number : He.DefD := ⟨("read_number", none), "read_number", "read_number", defArgs s_read_number, defBody s_read_number, defScope s_read_number, [], []⟩
def d_split_address : He.DefD := ⟨("split_address", none), "split_address", "split_address", defArgs s_split_address, defBody s_split_address, defScope s_split_address, [], []⟩
def d_consists_of : He.DefD := ⟨("_consists_of", none), "_consists_of", "_consists_of", defArgs s_consists_of, defBody s_consists_of, defScope s_consists_of, [], []⟩
def d_read_offer : He.DefD := ⟨("read_offer", none), "read_offer", "read_offer", defArgs s_read_offer, defBody s_read_offer, defScope s_read_offer, [], []⟩
def d_write_offer : He.DefD := ⟨("write_offer", none), "write_offer", "write_offer", defArgs s_write_offer, defBody s_write_offer, defScope s_write_offer, [], []⟩
def d_read_formats : He.DefD := ⟨("_read_formats", none), "_read_formats", "_read_formats", defArgs s_read_formats, defBody s_read_formats, defScope s_read_formats, [], []⟩
def d_Letter___init : He.DefD := ⟨("Letter", some "__init__"), "__init__", "Letter.__init__", defArgs s_Letter___init, defBody s_Letter___init, defScope s_Letter___init, [], [("code", .non), ("offer", .non), ("stay", .non), ("goal", .non)]⟩
def d_Letter_parts : He.DefD := ⟨("Letter", some "parts"), "parts", "Letter.parts", defArgs s_Letter_parts, defBody s_Letter_parts, defScope s_Letter_parts, [], []⟩
def d_Letter_reply : He.DefD := ⟨("Letter", some "reply"), "reply", "Letter.reply", defArgs s_Letter_reply, defBody s_Letter_reply, defScope s_Letter_reply, [.non, .non], []⟩
def d_is_final : He.DefD := ⟨("is_final", none), "is_final", "is_final", defArgs s_is_final, defBody s_is_final, defScope s_is_final, [], []⟩
def d_write : He.DefD := ⟨("write", none), "write", "write", defArgs s_write, defBody s_write, defScope s_write, [], []⟩
def d_read : He.DefD := ⟨("read", none), "read", "read", defArgs s_read, defBody s_read, defScope s_read, [], []⟩
def d_write_head : He.DefD := ⟨("_write_head", none), "_write_head", "_write_head", defArgs s_write_head, defBody s_write_head, defScope s_write_head, [], []⟩
def d_read_head : He.DefD := ⟨("_read_head", none), "_read_head", "_read_head", defArgs s_read_head, defBody s_read_head, defScope s_read_head, [], []⟩
def d_read_line : He.DefD := ⟨("_read_line", none), "_read_line", "_read_line", defArgs s_read_line, defBody s_read_line, defScope s_read_line, [], []⟩
def d_read_origin : He.DefD := ⟨("_read_origin", none), "_read_origin", "_read_origin", defArgs s_read_origin, defBody s_read_origin, defScope s_read_origin, [], []⟩
def d_read_target : He.DefD := ⟨("_read_target", none), "_read_target", "_read_target", defArgs s_read_target, defBody s_read_target, defScope s_read_target, [], []⟩
def d_read_single : He.DefD := ⟨("_read_single", none), "_read_single", "_read_single", defArgs s_read_single, defBody s_read_single, defScope s_read_single, [], []⟩
def d_Wait___init : He.DefD := ⟨("Wait", some "__init__"), "__init__", "Wait.__init__", defArgs s_Wait___init, defBody s_Wait___init, defScope s_Wait___init, [], []⟩
def d_Wait_repeats : He.DefD := ⟨("Wait", some "repeats"), "repeats", "Wait.repeats", defArgs s_Wait_repeats, defBody s_Wait_repeats, defScope s_Wait_repeats, [], []⟩
def d_Wait_is_up : He.DefD := ⟨("Wait", some "is_up"), "is_up", "Wait.is_up", defArgs s_Wait_is_up, defBody s_Wait_is_up, defScope s_Wait_is_up, [], []⟩
def d_Client___init : He.DefD := ⟨("Client", some "__init__"), "__init__", "Client.__init__", defArgs s_Client___init, defBody s_Client___init, defScope s_Client___init, [], []⟩
def d_Client_sending : He.DefD := ⟨("Client", some "sending"), "sending", "Client.sending", defArgs s_Client_sending, defBody s_Client_sending, defScope s_Client_sending, [], []⟩
def d_Client_take : He.DefD := ⟨("Client", some "take"), "take", "Client.take", defArgs s_Client_take, defBody s_Client_take, defScope s_Client_take, [], []⟩
def d_Client_stop : He.DefD := ⟨("Client", some "stop"), "stop", "Client.stop", defArgs s_Client_stop, defBody s_Client_stop, defScope s_Client_stop, [], []⟩
def d_Client_tick : He.DefD := ⟨("Client", some "tick"), "tick", "Client.tick", defArgs s_Client_tick, defBody s_Client_tick, defScope s_Client_tick, [], []⟩
def d_Client_is_over : He.DefD := ⟨("Client", some "is_over"), "is_over", "Client.is_over", defArgs s_Client_is_over, defBody s_Client_is_over, defScope s_Client_is_over, [], []⟩
def d_Client__take_provisional : He.DefD := ⟨("Client", some "_take_provisional"), "_take_provisional", "Client._take_provisional", defArgs s_Client__take_provisional, defBody s_Client__take_provisional, defScope s_Client__take_provisional, [], []⟩
def d_Client__keep_for : He.DefD := ⟨("Client", some "_keep_for"), "_keep_for", "Client._keep_for", defArgs s_Client__keep_for, defBody s_Client__keep_for, defScope s_Client__keep_for, [], []⟩
def d_law_state : He.DefD := ⟨("_law_state", none), "_law_state", "_law_state", defArgs s_law_state, defBody s_law_state, defScope s_law_state, [], []⟩
def d_law_draw : He.DefD := ⟨("_law_draw", none), "_law_draw", "_law_draw", defArgs s_law_draw, defBody s_law_draw, defScope s_law_draw, [], []⟩
def d_law_pick : He.DefD := ⟨("_law_pick", none), "_law_pick", "_law_pick", defArgs s_law_pick, defBody s_law_pick, defScope s_law_pick, [], []⟩
def d_law_sends_at : He.DefD := ⟨("_law_sends_at", none), "_law_sends_at", "_law_sends_at", defArgs s_law_sends_at, defBody s_law_sends_at, defScope s_law_sends_at, [], []⟩
def d_law_letter : He.DefD := ⟨("_law_letter", none), "_law_letter", "_law_letter", defArgs s_law_letter, defBody s_law_letter, defScope s_law_letter, [], []⟩
def d_law_keep_right : He.DefD := ⟨("_law_keep_right", none), "_law_keep_right", "_law_keep_right", defArgs s_law_keep_right, defBody s_law_keep_right, defScope s_law_keep_right, [], []⟩
def d_law_tick : He.DefD := ⟨("_law_tick", none), "_law_tick", "_law_tick", defArgs s_law_tick, defBody s_law_tick, defScope s_law_tick, [], []⟩
def d_law_reply : He.DefD := ⟨("_law_reply", none), "_law_reply", "_law_reply", defArgs s_law_reply, defBody s_law_reply, defScope s_law_reply, [], []⟩
def d_law : He.DefD := ⟨("law", none), "law", "law", defArgs s_law, defBody s_law, defScope s_law, [], []⟩
def fnL : List He.DefD := [d_is_name, d_is_tag, d_is_address, d_read_number, d_split_address, d_consists_of, d_read_offer, d_write_offer, d_read_formats, d_Letter___init, d_Letter_parts, d_Letter_reply, d_is_final, d_write, d_read, d_write_head, d_read_head, d_read_line, d_read_origin, d_read_target, d_read_single, d_Wait___init, d_Wait_repeats, d_Wait_is_up, d_Client___init, d_Client_sending, d_Client_take, d_Client_stop, d_Client_tick, d_Client_is_over, d_Client__take_provisional, d_Client__keep_for, d_law_state, d_law_draw, d_law_pick, d_law_sends_at, d_law_letter, d_law_keep_right, d_law_tick, d_law_reply, d_law]
def faL : List He.Fa := [.glo "CODES", .str "DIGITS" "0123456789", .int "GREATEST_CODE" 99, .int "GREATEST_GAP" 8, .int "GREATEST_PORT" 65535, .int "GREATEST_SEQ" 999999, .int "LEAST_FINAL_CODE" 20, .int "LIMIT" 32, .int "LONGEST_NUMBER" 9, .int "LONGEST_STAY" 9999, .int "LONGEST_WORD" 16, .glo "MODES", .int "MOST_FORMATS" 6, .str "NAME_MARKS" "abcdefghijklmnopqrstuvwxyz0123456789", .glo "NEEDED", .glo "POSSIBLE", .str "SMALL_LETTERS" "abcdefghijklmnopqrstuvwxyz", .str "TAG_MARKS" "ABCDEFGHIJKLMNOPQRSTUVWXYZabcdefghijklmnopqrstuvwxyz0123456789", .glo "VERBS", .free "abs", .free "all", .free "bool", .free "int", .free "isinstance", .free "len", .free "list", .free "min", .free "range", .free "set", .free "str", .free "tuple", .cls "Letter", .noat "Letter" "verb", .noat "Letter" "code", .noat "Letter" "call", .noat "Letter" "origin", .noat "Letter" "origin_tag", .noat "Letter" "target", .noat "Letter" "target_tag", .noat "Letter" "seq", .noat "Letter" "way", .noat "Letter" "offer", .noat "Letter" "stay", .noat "Letter" "goal", .glo "Letter", .mkr "Letter", .cls "Wait", .noat "Wait" "_began", .noat "Wait" "_first", .noat "Wait" "_gap", .noat "Wait" "_due", .glo "Wait", .mkr "Wait", .cls "Client", .noat "Client" "letter", .noat "Client" "place", .noat "Client" "state", .noat "Client" "_first", .noat "Client" "_wait", .noat "Client" "_keep", .glo "Client", .mkr "Client", .glo "is_name", .glo "is_tag", .glo "is_address", .glo "read_number", .glo "split_address", .glo "_consists_of", .glo "read_offer", .glo "write_offer", .glo "_read_formats", .meth "Letter" "parts", .meth "Letter" "reply", .glo "is_final", .glo "write", .glo "read", .glo "_write_head", .glo "_read_head", .glo "_read_line", .glo "_read_origin", .glo "_read_target", .glo "_read_single", .meth "Wait" "repeats", .meth "Wait" "is_up", .meth "Client" "sending", .meth "Client" "take", .meth "Client" "stop", .meth "Client" "tick", .meth "Client" "is_over", .meth "Client" "_take_provisional", .meth "Client" "_keep_for", .glo "_law_state", .glo "_law_draw", .glo "_law_pick", .glo "_law_sends_at", .glo "_law_letter", .glo "_law_keep_right", .glo "_law_tick", .glo "_law_reply", .glo "law"]
def loose0 : List Str := ["SMALL_LETTERS", "DIGITS", "NAME_MARKS", "TAG_MARKS", "LONGEST_WORD", "LONGEST_NUMBER", "MODES", "GREATEST_PORT", "MOST_FORMATS", "VERBS", "CODES", "LEAST_FINAL_CODE", "GREATEST_CODE", "GREATEST_SEQ", "LONGEST_STAY", "NEEDED", "POSSIBLE", "GREATEST_GAP", "LIMIT", "is_name", "is_tag", "is_address", "read_number", "split_address", "_consists_of", "read_offer", "write_offer", "_read_formats", "is_final", "write"]
def loose1 : List Str := ["read", "_write_head", "_read_head", "_read_line", "_read_origin", "_read_target", "_read_single", "_law_state", "_law_draw", "_law_pick", "_law_sends_at", "_law_letter", "_law_keep_right", "_law_tick", "_law_reply", "TrunklandError", "LetterError", "Letter", "Wait", "Client"]
abbrev Row0 : PySem.W.OpenRow := PySem.W.OpenLaw.row PySem.Challenge.rw_trunkland_k05_clients
def exL (K : PySem.W.Frag) : List Bool := [He.tupB K "CODES" [.int 18, .int 20, .int 41, .int 43, .int 44, .int 45, .int 46, .int 48, .int 50], He.tupB K "MODES" [.str "both", .str "send", .str "take", .str "none"], He.tupB K "NEEDED" [.str "call", .str "from", .str "to", .str "seq", .str "way"], He.tupB K "POSSIBLE" [.str "offer", .str "stay", .str "goal"], He.tupB K "VERBS" [.str "CALL", .str "KEEP", .str "STOP", .str "END", .str "TURN", .str "MOVE", .str "LIVE", .str "SIGN"]]
abbrev hk : PySem.W.Hook := TK.hookX 6 faL fnL exL
def ob (s : PySem.W.SharedT) : He.AlD := TK.obsX 6 faL fnL exL (HandSHeadRun.getT s)
theorem ob_eq (s : PySem.W.SharedT) : ob s = hk.obs s.abs := TK.obsX_eq (HandSHeadRun.getT_eq s)
theorem run (w : World) : HandSHeadRun.RunEq Row0 (PySem.W.view Row0.prog [57]) hk ob 4000 (loose0 ++ loose1) w := by
  intro os
  kernel_rfl
theorem facts {P : Program} {w : World} {K : PySem.W.Frag} {h : Heap} {mg : Str → Option Value} {f : Addr} (X : K.In h) (G : h.Ns mainGlobals mg) (hfa : mg ("law" : Str) = some (.ref f)) (c : He.SaysD faL fnL K) (cx : (exL K).all id = true) :
    ∃ fd : FuncData, (∀ (s : Shared) (v : Value), BindsTo s fd ⟨[v], []⟩ [("script", v)]) ∧ ∀ base : Heap, K.In base → base.Ns mainGlobals mg → FnOk P w K mg base CX0 10 f fd ["script"] (spLaw K) := by
  have x_0 := He.tupB_ok (TK.exAt cx 0 rfl)
  have x_1 := He.tupB_ok (TK.exAt cx 1 rfl)
  have x_2 := He.tupB_ok (TK.exAt cx 2 rfl)
  have x_3 := He.tupB_ok (TK.exAt cx 3 rfl)
  have x_4 := He.tupB_ok (TK.exAt cx 4 rfl)
  have T : Tx K mg := ⟨He.glo_ok X G (c.fact 0 (f := .glo "CODES") rfl), x_0, He.str_ok X G (c.fact 1 (f := .str "DIGITS" "0123456789") rfl), He.int_ok X G (c.fact 2 (f := .int "GREATEST_CODE" 99) rfl), He.int_ok X G (c.fact 3 (f := .int "GREATEST_GAP" 8) rfl), He.int_ok X G (c.fact 4 (f := .int "GREATEST_PORT" 65535) rfl), He.int_ok X G (c.fact 5 (f := .int "GREATEST_SEQ" 999999) rfl), He.int_ok X G (c.fact 6 (f := .int "LEAST_FINAL_CODE" 20) rfl), He.int_ok X G (c.fact 7 (f := .int "LIMIT" 32) rfl), He.int_ok X G (c.fact 8 (f := .int "LONGEST_NUMBER" 9) rfl), He.int_ok X G (c.fact 9 (f := .int "LONGEST_STAY" 9999) rfl), He.int_ok X G (c.fact 10 (f := .int "LONGEST_WORD" 16) rfl), He.glo_ok X G (c.fact 11 (f := .glo "MODES") rfl), x_1, He.int_ok X G (c.fact 12 (f := .int "MOST_FORMATS" 6) rfl), He.str_ok X G (c.fact 13 (f := .str "NAME_MARKS" "abcdefghijklmnopqrstuvwxyz0123456789") rfl), He.glo_ok X G (c.fact 14 (f := .glo "NEEDED") rfl), x_2, He.glo_ok X G (c.fact 15 (f := .glo "POSSIBLE") rfl), x_3, He.str_ok X G (c.fact 16 (f := .str "SMALL_LETTERS" "abcdefghijklmnopqrstuvwxyz") rfl), He.str_ok X G (c.fact 17 (f := .str "TAG_MARKS" "ABCDEFGHIJKLMNOPQRSTUVWXYZabcdefghijklmnopqrstuvwxyz0123456789") rfl), He.glo_ok X G (c.fact 18 (f := .glo "VERBS") rfl), x_4, He.free_ok X G (c.fact 19 (f := .free "abs") rfl), He.free_ok X G (c.fact 20 (f := .free "all") rfl), He.free_ok X G (c.fact 21 (f := .free "bool") rfl), He.free_ok X G (c.fact 22 (f := .free "int") rfl), He.free_ok X G (c.fact 23 (f := .free "isinstance") rfl), He.free_ok X G (c.fact 24 (f := .free "len") rfl), He.free_ok X G (c.fact 25 (f := .free "list") rfl), He.free_ok X G (c.fact 26 (f := .free "min") rfl), He.free_ok X G (c.fact 27 (f := .free "range") rfl), He.free_ok X G (c.fact 28 (f := .free "set") rfl), He.free_ok X G (c.fact 29 (f := .free "str") rfl), He.free_ok X G (c.fact 30 (f := .free "tuple") rfl), He.cls_ok (c.fact 31 (f := .cls "Letter") rfl), He.noat_ok (c.fact 32 (f := .noat "Letter" "verb") rfl), He.noat_ok (c.fact 33 (f := .noat "Letter" "code") rfl), He.noat_ok (c.fact 34 (f := .noat "Letter" "call") rfl), He.noat_ok (c.fact 35 (f := .noat "Letter" "origin") rfl), He.noat_ok (c.fact 36 (f := .noat "Letter" "origin_tag") rfl), He.noat_ok (c.fact 37 (f := .noat "Letter" "target") rfl), He.noat_ok (c.fact 38 (f := .noat "Letter" "target_tag") rfl), He.noat_ok (c.fact 39 (f := .noat "Letter" "seq") rfl), He.noat_ok (c.fact 40 (f := .noat "Letter" "way") rfl), He.noat_ok (c.fact 41 (f := .noat "Letter" "offer") rfl), He.noat_ok (c.fact 42 (f := .noat "Letter" "stay") rfl), He.noat_ok (c.fact 43 (f := .noat "Letter" "goal") rfl), He.cls_ok (c.fact 46 (f := .cls "Wait") rfl), He.noat_ok (c.fact 47 (f := .noat "Wait" "_began") rfl), He.noat_ok (c.fact 48 (f := .noat "Wait" "_first") rfl), He.noat_ok (c.fact 49 (f := .noat "Wait" "_gap") rfl), He.noat_ok (c.fact 50 (f := .noat "Wait" "_due") rfl), He.cls_ok (c.fact 53 (f := .cls "Client") rfl), He.noat_ok (c.fact 54 (f := .noat "Client" "letter") rfl), He.noat_ok (c.fact 55 (f := .noat "Client" "place") rfl), He.noat_ok (c.fact 56 (f := .noat "Client" "state") rfl), He.noat_ok (c.fact 57 (f := .noat "Client" "_first") rfl), He.noat_ok (c.fact 58 (f := .noat "Client" "_wait") rfl), He.noat_ok (c.fact 59 (f := .noat "Client" "_keep") rfl)⟩
  obtain ⟨fd_is_name, F_is_name⟩ := c.def_ 0 (d := d_is_name) rfl
  obtain ⟨fd_is_tag, F_is_tag⟩ := c.def_ 1 (d := d_is_tag) rfl
  obtain ⟨fd_is_address, F_is_address⟩ := c.def_ 2 (d := d_is_address) rfl
  obtain ⟨fd_read_number, F_read_number⟩ := c.def_ 3 (d := d_read_number) rfl
  obtain ⟨fd_split_address, F_split_address⟩ := c.def_ 4 (d := d_split_address) rfl
  obtain ⟨fd_consists_of, F_consists_of⟩ := c.def_ 5 (d := d_consists_of) rfl
  obtain ⟨fd_read_offer, F_read_offer⟩ := c.def_ 6 (d := d_read_offer) rfl
  obtain ⟨fd_write_offer, F_write_offer⟩ := c.def_ 7 (d := d_write_offer) rfl
  obtain ⟨fd_read_formats, F_read_formats⟩ := c.def_ 8 (d := d_read_formats) rfl
  obtain ⟨fd_Letter___init, F_Letter___init⟩ := c.def_ 9 (d := d_Letter___init) rfl
  obtain ⟨fd_Letter_parts, F_Letter_parts⟩ := c.def_ 10 (d := d_Letter_parts) rfl
  obtain ⟨fd_Letter_reply, F_Letter_reply⟩ := c.def_ 11 (d := d_Letter_reply) rfl
  obtain ⟨fd_is_final, F_is_final⟩ := c.def_ 12 (d := d_is_final) rfl
  obtain ⟨fd_write, F_write⟩ := c.def_ 13 (d := d_write) rfl
  obtain ⟨fd_read, F_read⟩ := c.def_ 14 (d := d_read) rfl
  obtain ⟨fd_write_head, F_write_head⟩ := c.def_ 15 (d := d_write_head) rfl
  obtain ⟨fd_read_head, F_read_head⟩ := c.def_ 16 (d := d_read_head) rfl
  obtain ⟨fd_read_line, F_read_line⟩ := c.def_ 17 (d := d_read_line) rfl
  obtain ⟨fd_read_origin, F_read_origin⟩ := c.def_ 18 (d := d_read_origin) rfl
  obtain ⟨fd_read_target, F_read_target⟩ := c.def_ 19 (d := d_read_target) rfl
  obtain ⟨fd_read_single, F_read_single⟩ := c.def_ 20 (d := d_read_single) rfl
  obtain ⟨fd_Wait___init, F_Wait___init⟩ := c.def_ 21 (d := d_Wait___init) rfl
  obtain ⟨fd_Wait_repeats, F_Wait_repeats⟩ := c.def_ 22 (d := d_Wait_repeats) rfl
  obtain ⟨fd_Wait_is_up, F_Wait_is_up⟩ := c.def_ 23 (d := d_Wait_is_up) rfl
  obtain ⟨fd_Client___init, F_Client___init⟩ := c.def_ 24 (d := d_Client___init) rfl
  obtain ⟨fd_Client_sending, F_Client_sending⟩ := c.def_ 25 (d := d_Client_sending) rfl
  obtain ⟨fd_Client_take, F_Client_take⟩ := c.def_ 26 (d := d_Client_take) rfl
  obtain ⟨fd_Client_stop, F_Client_stop⟩ := c.def_ 27 (d := d_Client_stop) rfl
  obtain ⟨fd_Client_tick, F_Client_tick⟩ := c.def_ 28 (d := d_Client_tick) rfl
  obtain ⟨fd_Client_is_over, F_Client_is_over⟩ := c.def_ 29 (d := d_Client_is_over) rfl
  obtain ⟨fd_Client__take_provisional, F_Client__take_provisional⟩ := c.def_ 30 (d := d_Client__take_provisional) rfl
  obtain ⟨fd_Client__keep_for, F_Client__keep_for⟩ := c.def_ 31 (d := d_Client__keep_for) rfl
  obtain ⟨fd_law_state, F_law_state⟩ := c.def_ 32 (d := d_law_state) rfl
  obtain ⟨fd_law_draw, F_law_draw⟩ := c.def_ 33 (d := d_law_draw) rfl
  obtain ⟨fd_law_pick, F_law_pick⟩ := c.def_ 34 (d := d_law_pick) rfl
  obtain ⟨fd_law_sends_at, F_law_sends_at⟩ := c.def_ 35 (d := d_law_sends_at) rfl
  obtain ⟨fd_law_letter, F_law_letter⟩ := c.def_ 36 (d := d_law_letter) rfl
  obtain ⟨fd_law_keep_right, F_law_keep_right⟩ := c.def_ 37 (d := d_law_keep_right) rfl
  obtain ⟨fd_law_tick, F_law_tick⟩ := c.def_ 38 (d := d_law_tick) rfl
  obtain ⟨fd_law_reply, F_law_reply⟩ := c.def_ 39 (d := d_law_reply) rfl
  obtain ⟨fd_law, F_law⟩ := c.def_ 40 (d := d_law) rfl
  have e := hfa.symm.trans (He.glo_ok X G (c.fact 99 (f := .glo "law") rfl))
  cases e
  have b := FunD.bindsA (ps := ["script"]) F_law fun _ _ _ _ _ _ us hl => match us, hl with | [_], _ => rfl
  refine ⟨fd_law, fun s v => b s [v] rfl, fun base _ _ => ?_⟩
  have c_consists_of := cal_of (P := P) (w := w) (base := base) F_consists_of (ok_consists_of T  F_consists_of) (He.glo_ok X G (c.fact 67 (f := .glo "_consists_of") rfl)) fun _ _ _ _ _ _ us hl => match us, hl with | [_, _, _], _ => rfl
  have c_is_name := cal_of (P := P) (w := w) (base := base) F_is_name (ok_is_name T c_consists_of F_is_name) (He.glo_ok X G (c.fact 62 (f := .glo "is_name") rfl)) fun _ _ _ _ _ _ us hl => match us, hl with | [_], _ => rfl
  have c_is_tag := cal_of (P := P) (w := w) (base := base) F_is_tag (ok_is_tag T c_consists_of F_is_tag) (He.glo_ok X G (c.fact 63 (f := .glo "is_tag") rfl)) fun _ _ _ _ _ _ us hl => match us, hl with | [_], _ => rfl
  have c_read_number := cal_of (P := P) (w := w) (base := base) F_read_number (ok_read_number T c_consists_of F_read_number) (He.glo_ok X G (c.fact 65 (f := .glo "read_number") rfl)) fun _ _ _ _ _ _ us hl => match us, hl with | [_, _], _ => rfl
  have c_split_address := cal_of (P := P) (w := w) (base := base) F_split_address (ok_split_address T c_is_name F_split_address) (He.glo_ok X G (c.fact 66 (f := .glo "split_address") rfl)) fun _ _ _ _ _ _ us hl => match us, hl with | [_], _ => rfl
  have c_is_address := cal_of (P := P) (w := w) (base := base) F_is_address (ok_is_address T c_split_address F_is_address) (He.glo_ok X G (c.fact 64 (f := .glo "is_address") rfl)) fun _ _ _ _ _ _ us hl => match us, hl with | [_], _ => rfl
  have c_write_offer := cal_of (P := P) (w := w) (base := base) F_write_offer (ok_write_offer T  F_write_offer) (He.glo_ok X G (c.fact 69 (f := .glo "write_offer") rfl)) fun _ _ _ _ _ _ us hl => match us, hl with | [_], _ => rfl
  have c_read_formats := cal_of (P := P) (w := w) (base := base) F_read_formats (ok_read_formats T c_is_name F_read_formats) (He.glo_ok X G (c.fact 70 (f := .glo "_read_formats") rfl)) fun _ _ _ _ _ _ us hl => match us, hl with | [_], _ => rfl
  have c_read_offer := cal_of (P := P) (w := w) (base := base) F_read_offer (ok_read_offer T c_read_number c_read_formats F_read_offer) (He.glo_ok X G (c.fact 68 (f := .glo "read_offer") rfl)) fun _ _ _ _ _ _ us hl => match us, hl with | [_], _ => rfl
  obtain ⟨mv_Letter_a, kb_Letter_a⟩ := TK.kbn_of (ps := ["self", "verb", "call", "origin", "origin_tag", "target", "target_tag", "seq", "way", "code", "offer", "stay", "goal"]) (ks := ["verb", "call", "origin", "origin_tag", "target", "target_tag", "seq", "way"]) (L := ["verb", "call", "origin", "origin_tag", "target", "target_tag", "seq", "way", "code", "offer", "stay", "goal"]) (self := "self") F_Letter___init [("code", (V.non)), ("offer", (V.non)), ("stay", (V.non)), ("goal", (V.non))] (fun {α : Type} (us mz zs : List α) => us ++ ((((zs.drop 0).take 8) ++ ((mz.drop 0).take 4)))) (by intro z; cases z) (fun rv rm rz => rv.append (((rz.drop 0).take 8).append ((rm.drop 0).take 4))) (by kernel_rfl) (by kernel_rfl) (by kernel_rfl) (by kernel_rfl) (by kernel_rfl) (by decide +kernel) (by decide +kernel) (by intro q hq; simp only [List.mem_cons, List.not_mem_nil, or_false] at hq; rcases hq with rfl | rfl | rfl | rfl; exact List.mem_cons_self ..; exact List.mem_cons_of_mem _ (List.mem_cons_self ..); exact List.mem_cons_of_mem _ (List.mem_cons_of_mem _ (List.mem_cons_self ..)); exact List.mem_cons_of_mem _ (List.mem_cons_of_mem _ (List.mem_cons_of_mem _ (List.mem_cons_self ..)))) (by decide +kernel) (fun u mv ws h1 h2 => match mv, ws, h1, h2 with | [m0, m1, m2, m3], [k0, k1, k2, k3, k4, k5, k6, k7], _, _ => by kernel_rfl)
  have c_mk_Letter_a : MakK P w K mg base 1 "Letter" (He.ga K "Letter") (spLetInit K) 0 ["verb", "call", "origin", "origin_tag", "target", "target_tag", "seq", "way"] (fun vs zs => vs ++ ((((zs.drop 0).take 8) ++ ((([(V.non), (V.non), (V.non), (V.non)] : List V).drop 0).take 4)))) := ⟨_, _, ["self", "verb", "call", "origin", "origin_tag", "target", "target_tag", "seq", "way", "code", "offer", "stay", "goal"], _, (He.mkr_ok (c.fact 45 (f := .mkr "Letter") rfl)), ok_Letter___init T  F_Letter___init, He.glo_ok X G (c.fact 44 (f := .glo "Letter") rfl), kb_Letter_a⟩
  obtain ⟨mv_Letter_b, kb_Letter_b⟩ := TK.kbn_of (ps := ["self", "verb", "call", "origin", "origin_tag", "target", "target_tag", "seq", "way", "code", "offer", "stay", "goal"]) (ks := ["verb", "code", "call", "origin", "origin_tag", "target", "target_tag", "seq", "way", "offer", "stay"]) (L := ["verb", "call", "origin", "origin_tag", "target", "target_tag", "seq", "way", "code", "offer", "stay", "goal"]) (self := "self") F_Letter___init [("goal", (V.non))] (fun {α : Type} (us mz zs : List α) => us ++ ((((zs.drop 0).take 1) ++ (((zs.drop 2).take 7) ++ (((zs.drop 1).take 1) ++ (((zs.drop 9).take 2) ++ ((mz.drop 0).take 1))))))) (by intro z; cases z) (fun rv rm rz => rv.append (((rz.drop 0).take 1).append (((rz.drop 2).take 7).append (((rz.drop 1).take 1).append (((rz.drop 9).take 2).append ((rm.drop 0).take 1)))))) (by kernel_rfl) (by kernel_rfl) (by kernel_rfl) (by kernel_rfl) (by kernel_rfl) (by decide +kernel) (by decide +kernel) (by intro q hq; simp only [List.mem_cons, List.not_mem_nil, or_false] at hq; rcases hq with rfl; exact List.mem_cons_of_mem _ (List.mem_cons_of_mem _ (List.mem_cons_of_mem _ (List.mem_cons_self ..)))) (by decide +kernel) (fun u mv ws h1 h2 => match mv, ws, h1, h2 with | [m0], [k0, k1, k2, k3, k4, k5, k6, k7, k8, k9, k10], _, _ => by kernel_rfl)
  have c_mk_Letter_b : MakK P w K mg base 1 "Letter" (He.ga K "Letter") (spLetInit K) 0 ["verb", "code", "call", "origin", "origin_tag", "target", "target_tag", "seq", "way", "offer", "stay"] (fun vs zs => vs ++ ((((zs.drop 0).take 1) ++ (((zs.drop 2).take 7) ++ (((zs.drop 1).take 1) ++ (((zs.drop 9).take 2) ++ ((([(V.non)] : List V).drop 0).take 1))))))) := ⟨_, _, ["self", "verb", "call", "origin", "origin_tag", "target", "target_tag", "seq", "way", "code", "offer", "stay", "goal"], _, (He.mkr_ok (c.fact 45 (f := .mkr "Letter") rfl)), ok_Letter___init T  F_Letter___init, He.glo_ok X G (c.fact 44 (f := .glo "Letter") rfl), kb_Letter_b⟩
  have c_mk_Letter_ss : TK.MakS P w K mg base 1 "Letter" (He.ga K "Letter") (spLetInit K) (TK.SsOk "self" ["verb", "call", "origin", "origin_tag", "target", "target_tag", "seq", "way", "code", "offer", "stay", "goal"] ["verb", "call", "origin", "origin_tag", "target", "target_tag", "seq", "way"]) := ⟨_, _, ["self", "verb", "call", "origin", "origin_tag", "target", "target_tag", "seq", "way", "code", "offer", "stay", "goal"], (He.mkr_ok (c.fact 45 (f := .mkr "Letter") rfl)), ok_Letter___init T  F_Letter___init, He.glo_ok X G (c.fact 44 (f := .glo "Letter") rfl), TK.kbn_ss F_Letter___init (by intro z; cases z) (by show ∀ q ∈ ([("code", (V.non)), ("offer", (V.non)), ("stay", (V.non)), ("goal", (V.non))] : List (Str × V)), q.2 = V.non; intro q hq; simp only [List.mem_cons, List.not_mem_nil, or_false] at hq; rcases hq with rfl | rfl | rfl | rfl <;> rfl) (by kernel_rfl) (by kernel_rfl) (by kernel_rfl) (by kernel_rfl) (by kernel_rfl) (by decide +kernel) (by show ∀ n ∈ (["verb", "call", "origin", "origin_tag", "target", "target_tag", "seq", "way", "code", "offer", "stay", "goal"] : List Str), n ∈ (["verb", "call", "origin", "origin_tag", "target", "target_tag", "seq", "way"] : List Str) ∨ n ∈ (["code", "offer", "stay", "goal"] : List Str); decide +kernel)⟩
  have c_Letter_parts := met_of (P := P) (w := w) (base := base) T.cl_Letter (He.meth_ok (c.fact 71 (f := .meth "Letter" "parts") rfl)) F_Letter_parts (ok_Letter_parts T  F_Letter_parts) fun _ _ _ _ _ _ us hl => match us, hl with | [_], _ => rfl
  have c_Letter_reply := metD_of (P := P) (w := w) (base := base) T.cl_Letter (He.meth_ok (c.fact 72 (f := .meth "Letter" "reply") rfl)) F_Letter_reply (ok_Letter_reply T c_mk_Letter_b F_Letter_reply) (by intro z; cases z) (by show 2 ≤ 5; decide) fun _ _ _ _ _ _ _ us its h1 h2 => match us, its, h1, h2 with | [_, _, _], [_, _], _, _ => ⟨_, rfl, rfl⟩
  have c_write_head := cal_of (P := P) (w := w) (base := base) F_write_head (ok_write_head T  F_write_head) (He.glo_ok X G (c.fact 76 (f := .glo "_write_head") rfl)) fun _ _ _ _ _ _ us hl => match us, hl with | [_], _ => rfl
  have c_write := cal_of (P := P) (w := w) (base := base) F_write (ok_write T c_write_head c_write_offer F_write) (He.glo_ok X G (c.fact 74 (f := .glo "write") rfl)) fun _ _ _ _ _ _ us hl => match us, hl with | [_], _ => rfl
  have c_read_head := cal_of (P := P) (w := w) (base := base) F_read_head (ok_read_head T c_read_number F_read_head) (He.glo_ok X G (c.fact 77 (f := .glo "_read_head") rfl)) fun _ _ _ _ _ _ us hl => match us, hl with | [_], _ => rfl
  have c_read_origin := cal_of (P := P) (w := w) (base := base) F_read_origin (ok_read_origin T c_is_address c_is_tag F_read_origin) (He.glo_ok X G (c.fact 79 (f := .glo "_read_origin") rfl)) fun _ _ _ _ _ _ us hl => match us, hl with | [_], _ => rfl
  have c_read_target := cal_of (P := P) (w := w) (base := base) F_read_target (ok_read_target T c_is_address c_is_tag F_read_target) (He.glo_ok X G (c.fact 80 (f := .glo "_read_target") rfl)) fun _ _ _ _ _ _ us hl => match us, hl with | [_], _ => rfl
  have c_read_single := cal_of (P := P) (w := w) (base := base) F_read_single (ok_read_single T c_is_address c_is_tag c_read_number F_read_single) (He.glo_ok X G (c.fact 81 (f := .glo "_read_single") rfl)) fun _ _ _ _ _ _ us hl => match us, hl with | [_, _], _ => rfl
  have c_read_line := cal_of (P := P) (w := w) (base := base) F_read_line (ok_read_line T c_read_origin c_read_target c_read_single c_read_offer F_read_line) (He.glo_ok X G (c.fact 78 (f := .glo "_read_line") rfl)) fun _ _ _ _ _ _ us hl => match us, hl with | [_, _], _ => rfl
  have c_read := cal_of (P := P) (w := w) (base := base) F_read (ok_read T c_read_head c_read_line c_mk_Letter_ss F_read) (He.glo_ok X G (c.fact 75 (f := .glo "read") rfl)) fun _ _ _ _ _ _ us hl => match us, hl with | [_], _ => rfl
  have c_mk_Wait := mak_of (P := P) (w := w) (base := base) (He.mkr_ok (c.fact 52 (f := .mkr "Wait") rfl)) (He.glo_ok X G (c.fact 51 (f := .glo "Wait") rfl)) F_Wait___init (ok_Wait___init T  F_Wait___init) fun _ _ _ _ _ _ us hl => match us, hl with | [_, _, _], _ => rfl
  have c_Wait_repeats := met_of (P := P) (w := w) (base := base) T.cl_Wait (He.meth_ok (c.fact 82 (f := .meth "Wait" "repeats") rfl)) F_Wait_repeats (ok_Wait_repeats T  F_Wait_repeats) fun _ _ _ _ _ _ us hl => match us, hl with | [_, _], _ => rfl
  have c_Wait_is_up := met_of (P := P) (w := w) (base := base) T.cl_Wait (He.meth_ok (c.fact 83 (f := .meth "Wait" "is_up") rfl)) F_Wait_is_up (ok_Wait_is_up T  F_Wait_is_up) fun _ _ _ _ _ _ us hl => match us, hl with | [_, _], _ => rfl
  have c_is_final := cal_of (P := P) (w := w) (base := base) F_is_final (ok_is_final T  F_is_final) (He.glo_ok X G (c.fact 73 (f := .glo "is_final") rfl)) fun _ _ _ _ _ _ us hl => match us, hl with | [_], _ => rfl
  have c_mk_Client := mak_of (P := P) (w := w) (base := base) (He.mkr_ok (c.fact 61 (f := .mkr "Client") rfl)) (He.glo_ok X G (c.fact 60 (f := .glo "Client") rfl)) F_Client___init (ok_Client___init T c_mk_Wait F_Client___init) fun _ _ _ _ _ _ us hl => match us, hl with | [_, _, _, _, _], _ => rfl
  have c_Client_sending := met_of (P := P) (w := w) (base := base) T.cl_Client (He.meth_ok (c.fact 84 (f := .meth "Client" "sending") rfl)) F_Client_sending (ok_Client_sending T c_write F_Client_sending) fun _ _ _ _ _ _ us hl => match us, hl with | [_], _ => rfl
  have c_Client_is_over := met_of (P := P) (w := w) (base := base) T.cl_Client (He.meth_ok (c.fact 88 (f := .meth "Client" "is_over") rfl)) F_Client_is_over (ok_Client_is_over T  F_Client_is_over) fun _ _ _ _ _ _ us hl => match us, hl with | [_], _ => rfl
  have c_Client_stop := met_of (P := P) (w := w) (base := base) T.cl_Client (He.meth_ok (c.fact 86 (f := .meth "Client" "stop") rfl)) F_Client_stop (ok_Client_stop T c_mk_Wait F_Client_stop) fun _ _ _ _ _ _ us hl => match us, hl with | [_, _], _ => rfl
  have c_Client__take_provisional := met_of (P := P) (w := w) (base := base) T.cl_Client (He.meth_ok (c.fact 89 (f := .meth "Client" "_take_provisional") rfl)) F_Client__take_provisional (ok_Client__take_provisional T  F_Client__take_provisional) fun _ _ _ _ _ _ us hl => match us, hl with | [_, _], _ => rfl
  have c_Client__keep_for := met_of (P := P) (w := w) (base := base) T.cl_Client (He.meth_ok (c.fact 90 (f := .meth "Client" "_keep_for") rfl)) F_Client__keep_for (ok_Client__keep_for T c_mk_Letter_a F_Client__keep_for) fun _ _ _ _ _ _ us hl => match us, hl with | [_, _], _ => rfl
  have c_Client_take := met_of (P := P) (w := w) (base := base) T.cl_Client (He.meth_ok (c.fact 85 (f := .meth "Client" "take") rfl)) F_Client_take (ok_Client_take T c_is_final c_Client__take_provisional c_mk_Wait c_Client__keep_for c_write F_Client_take) fun _ _ _ _ _ _ us hl => match us, hl with | [_, _, _], _ => rfl
  have c_Client_tick := met_of (P := P) (w := w) (base := base) T.cl_Client (He.meth_ok (c.fact 87 (f := .meth "Client" "tick") rfl)) F_Client_tick (ok_Client_tick T c_Wait_is_up c_Wait_repeats c_Client_sending F_Client_tick) fun _ _ _ _ _ _ us hl => match us, hl with | [_, _], _ => rfl
  have c_law_state := cal_of (P := P) (w := w) (base := base) F_law_state (ok_law_state T  F_law_state) (He.glo_ok X G (c.fact 91 (f := .glo "_law_state") rfl)) fun _ _ _ _ _ _ us hl => match us, hl with | [_], _ => rfl
  have c_law_draw := cal_of (P := P) (w := w) (base := base) F_law_draw (ok_law_draw T  F_law_draw) (He.glo_ok X G (c.fact 92 (f := .glo "_law_draw") rfl)) fun _ _ _ _ _ _ us hl => match us, hl with | [_, _], _ => rfl
  have c_law_pick := cal_of (P := P) (w := w) (base := base) F_law_pick (ok_law_pick T c_law_draw F_law_pick) (He.glo_ok X G (c.fact 93 (f := .glo "_law_pick") rfl)) fun _ _ _ _ _ _ us hl => match us, hl with | [_, _], _ => rfl
  have c_law_sends_at := cal_of (P := P) (w := w) (base := base) F_law_sends_at (ok_law_sends_at T  F_law_sends_at) (He.glo_ok X G (c.fact 94 (f := .glo "_law_sends_at") rfl)) fun _ _ _ _ _ _ us hl => match us, hl with | [_], _ => rfl
  have c_law_letter := cal_of (P := P) (w := w) (base := base) F_law_letter (ok_law_letter T c_mk_Letter_a F_law_letter) (He.glo_ok X G (c.fact 95 (f := .glo "_law_letter") rfl)) fun _ _ _ _ _ _ us hl => match us, hl with | [_], _ => rfl
  have c_law_keep_right := cal_of (P := P) (w := w) (base := base) F_law_keep_right (ok_law_keep_right T c_read c_Letter_parts F_law_keep_right) (He.glo_ok X G (c.fact 96 (f := .glo "_law_keep_right") rfl)) fun _ _ _ _ _ _ us hl => match us, hl with | [_, _], _ => rfl
  have c_law_tick := cal_of (P := P) (w := w) (base := base) F_law_tick (ok_law_tick T c_Client_tick c_law_sends_at F_law_tick) (He.glo_ok X G (c.fact 97 (f := .glo "_law_tick") rfl)) fun _ _ _ _ _ _ us hl => match us, hl with | [_, _, _, _], _ => rfl
  have c_law_reply := cal_of (P := P) (w := w) (base := base) F_law_reply (ok_law_reply T c_Letter_reply c_Client_take c_law_keep_right F_law_reply) (He.glo_ok X G (c.fact 98 (f := .glo "_law_reply") rfl)) fun _ _ _ _ _ _ us hl => match us, hl with | [_, _, _, _, _, _], _ => rfl
  exact ok_law T c_law_state c_law_pick c_law_draw c_law_letter c_write c_mk_Client c_Client_sending c_law_tick c_law_reply c_Client_stop c_Client_is_over c_Letter_parts F_law
end K5
open PySem PySem.W PySem.Calls PyProof.Rows
theorem PySem.Challenge.cw_trunkland_k05_clients_holds : PySem.Challenge.rw_trunkland_k05_clients.Holds := by
  w_on; o_law
  refine HandSHeadRun.head_any (r := OpenLaw.row PySem.Challenge.rw_trunkland_k05_clients) (q := view (OpenLaw.row PySem.Challenge.rw_trunkland_k05_clients).prog [57]) (H := K5.hk) (ob := K5.ob) (M := 4000) (loose := K5.loose0 ++ K5.loose1) (d := HandSHeadRun.topDef (OpenLaw.row PySem.Challenge.rw_trunkland_k05_clients).prog 57) (kwd := []) K5.ob_eq
    (by kernel_rfl) (fun s => by kernel_rfl) K5.run (by kernel_rfl) (by kernel_rfl) (by kernel_rfl) (by rfl) (by first | assumption | decide +kernel) (by decide +kernel) ⟨rfl, rfl, rfl, rfl, rfl, by decide +kernel⟩ ?hw ?hc
  case hw => w_witness2
  case hc =>
    refine L2.walk_ofE (l := PySem.Challenge.rw_trunkland_k05_clients) (n := 63) (k := 10) (x := "script") (CX := L2.CX0) rfl (by decide) (by kernel_rfl) ⟨rfl, by decide, by decide⟩ ?F (fun _ _ _ _ z => z)
    intro w mg fa h Y G hmg0
    obtain ⟨K, KX, c, cx⟩ := Y
    have hmg : mg ("law" : PySem.Str) = some (.ref fa) := by
      have e : (HandSHeadRun.topDef (OpenLaw.row PySem.Challenge.rw_trunkland_k05_clients).prog 57).name = ("law" : PySem.Str) := by kernel_rfl
      rw [← e]
      exact hmg0
    obtain ⟨fd, hb, hF⟩ := K5.facts (P := (PySem.Challenge.rw_trunkland_k05_clients).prog) (w := w) KX G hmg c cx
    exact ⟨K, fd, K5.spLaw K, KX, hb, fun H a ns hl _ hS => ⟨a, ns, rfl, hS, hl, fun _ => rfl⟩, hF⟩
