import PyProof.Rows.All
import Wide.All
import OpenK.AllK
import Wide.FinOn
import HandS.ForMost
import HandS.Defaults
import HandS.Codes
import HandS.IsInst
import HandS.NoneIn
import HandS.Replace
import HandS.Walk
import HandS.Head0
import HandS.Head1
import HandS.Head2
import HandS.HeadEnd
import HandS.HeadHook1
import HandS.HeadHook2
import HandS.MakeKw
import HandS.MakeKwOnly
import HandS.FStr
import HandS.Deep
import HandS.StrMore
import HandS.Steps
import PyProof.MeetsStr3
import PyProof.Rows.StrNews2
import PyProof.Rows.StrLast
import PyProof.Rows.StrCountLaw
import HandS.SetKeys
import HandS.Strs
import HandS.ExcInit
import HandS.ExcIs
import HandS.ExcField
import HandS.ExcCtx
import HandS.ClsMeth
import HandS.Nested
import KE.KExcSuper
import KE.KExcIs
import KE.KIsAll
import HandS.WordsExc
import PySem.Challenge.RW_trunkland_k19_requests_in_turn
set_option Elab.async false
set_option linter.all false
set_option maxRecDepth 100000
set_option maxHeartbeats 4000000
/-! Helpers of mine over the hand layer, the same for every law of this program. -/
namespace TK
open PySem PySem.Spec PyProof.Rows L2 C8 SX
section
variable {X : Cx} {x : Str} {pos p : Pos} {k j : Nat} {sp : Sp} {dvs : List V}
theorem pgI {i : Int} (h : ∃ t, X.mg x = some (.int i t)) (hg : Gl X x := by rfl) (hd : (x == ("__debug__" : Str)) = false := by decide) : PE X (.Name x pos) (tC (.int i)) := by
  obtain ⟨t, e⟩ := h
  exact pe_glob hg e ⟨t, rfl⟩ hd
theorem pgS {z : Str} (h : ∃ t, X.mg x = some (.str z t)) (hg : Gl X x := by rfl) (hd : (x == ("__debug__" : Str)) = false := by decide) : PE X (.Name x pos) (tC (.str z)) := by
  obtain ⟨t, e⟩ := h
  exact pe_glob hg e ⟨t, rfl⟩ hd
theorem pgR {a : Addr} (h : X.mg x = some (.ref a)) (hg : Gl X x := by rfl) (hd : (x == ("__debug__" : Str)) = false := by decide) : PE X (.Name x pos) (tC (.ref a)) := pe_glob hg h rfl hd
theorem pe_c0 (c : Cal X.prog X.w X.K X.mg X.base k x sp dvs) (hr : Room j X.A) (hk : k ≤ j) (hg : Gl X x) (hdb : (x == ("__debug__" : Str)) = false := by decide) :
    PE X (.Call (.Name x p) [] [] pos) (tCall sp dvs L2.E0 tNil) := by
  obtain ⟨f, fd, ps, ds, F, hm, kp, b, d⟩ := c.ex
  exact pe_call0 F (hr.mono hk) hg hm kp b d L2.pass0 hdb
end
section
variable {P : Program} {w : World} {K : PySem.W.Frag} {mg : Str → Option Value} {base : Heap}
/-- a def without defaults, as callers want it -/
theorem cal_of {x qual : Str} {params : Arguments} {body : List Stmt} {scope : Scope} {f : Addr} {fd : FuncData} {ps : List Str} {k : Nat} {sp : Sp} (F : FunD K x qual params body scope [] [] f fd) (G : FnOk P w K mg base L2.CX0 k f fd ps sp) (hm : mg x = some (.ref f))
    (h : ∀ (kV doc pm : Value) (an : Option Addr) (cdv ct : Value) (us : List Value), us.length = ps.length → bindArgs (PySem.W.fnOf x qual params body scope .none kV doc pm an cdv ct) ⟨us, []⟩ = pure (ps.zip us)) : Cal P w K mg base k x sp [] :=
  ⟨f, fd, ps, [], G, hm, F.kp, F.bindsN h, .nil⟩
end
/-! ### heaps -/
/-- all that was tracked is as it was, but what stands at two places -/
def Keep (H H' : Hp) (a c : Addr) : Prop := ∀ b o, H b = some o → b ≠ a → b ≠ c → H' b = some o
theorem Keep.refl (H : Hp) (a c : Addr) : Keep H H a c := fun _ _ h _ _ => h
theorem Keep.trans {H H1 H2 : Hp} {a c : Addr} (h : Keep H H1 a c) (k : Keep H1 H2 a c) : Keep H H2 a c := fun b o e h1 h2 => k b o (h b o e h1 h2) h1 h2
theorem Keep.of_same {H H' : Hp} {a c : Addr} (h : Same H H') : Keep H H' a c := fun b o e _ _ => h b o e
theorem same_upd {H : Hp} {p : Addr} {o : HO} (h : H p = none) : Same H (upd H p o) := fun b u e => by
  rw [upd_ne (ne_of_none e h)]
  exact e
/-- the law's source of draws: a list of a list of cells and a seed -/
structure StAt (H : Hp) (s c : Addr) : Prop where
  ne : s ≠ c
  at_ : ∃ n : Int, H s = some (.lst [.ref c, .int n])
  cells : ∃ ns : List Int, H c = some (.lst (ns.map V.int)) ∧ ns.length ≤ 63
theorem StAt.same {H H' : Hp} {s c : Addr} (h : StAt H s c) (e : Same H H') : StAt H' s c := by
  obtain ⟨ne, ⟨n, h1⟩, ns, h2, h3⟩ := h
  exact ⟨ne, ⟨n, e _ _ h1⟩, ns, e _ _ h2, h3⟩
end TK
namespace TK
open PySem PySem.Spec PyProof.Rows L2 C8 SX
/-! ### comprehensions whose elements leave the heap alone -/
theorem lc_pure {J : It} {n : Nat} {G : Hp → Prop} {Y : Nat → Hp → V → Hp → Prop} (w : Walk J n G Y) (f : Nat → V) {g : TG} {tt : TT} {te : TE} {vs : List Nat} {σ : L2.St} {H1 : Hp} {D : Addr} {Qd : Hp → Prop} (hn : n ≤ sizeLine)
    (hG : ∀ i, i ≤ n → G (upd H1 D (.lst ((List.range i).map f))))
    (hs : ∀ (i : Nat) (x : V) (H' : Hp) (k : V → Hp → Prop), i < n → Y i (upd H1 D (.lst ((List.range i).map f))) x H' → k (f i) (upd H1 D (.lst ((List.range i).map f))) →
      g x (wipe σ vs) H' fun σ2 H2 => wipe σ2 vs = wipe σ vs ∧ tt σ2 H2 fun b H3 => b = true ∧ te σ2 H3 k)
    (ht : ∀ σ H Q Q', (∀ b H', Q b H' → Q' b H') → tt σ H Q → tt σ H Q') (hg : ∀ x σ H Q Q', (∀ σ' H', Q σ' H' → Q' σ' H') → g x σ H Q → g x σ H Q')
    (hd : Qd (upd H1 D (.lst ((List.range n).map f)))) :
    ∃ W : Nat → Nat → Hp → Prop, (∃ m, W 0 m (upd H1 D (.lst []))) ∧ ∀ i m H, W i m H →
      (J.stop i H ∧ Qd H) ∨ (J.go i H ∧ ∃ Nx : Hp → Prop, (∀ H', Nx H' → ∃ m', m' < m ∧ W (i + 1) m' H') ∧ ∀ x H', J.yld i H x H' → g x (wipe σ vs) H' fun σ2 H2 => wipe σ2 vs = wipe σ vs ∧ tt σ2 H2 fun b H3 =>
        if b = true then te σ2 H3 fun y H4 => ∃ acc, H4 D = some (.lst acc) ∧ acc.length < sizeLine ∧ Nx (upd H4 D (.lst (acc ++ [y]))) else Nx H3) := by
  refine lc_it w (fun i H => H = upd H1 D (.lst ((List.range i).map f))) rfl (fun i H hi e => e ▸ hG i hi) (fun i x H H' hi e y => ?_) (fun H e => e ▸ hd)
  subst e
  refine hg _ _ _ _ _ (fun σ2 H2 q => ⟨q.1, ht _ _ _ _ (fun b H3 r => ?_) q.2⟩) (hs i x H' (fun y H4 => ∃ acc, H4 D = some (.lst acc) ∧ acc.length < sizeLine ∧ upd H4 D (.lst (acc ++ [y])) = upd H1 D (.lst ((List.range (i + 1)).map f))) hi y ⟨_, upd_same, ?_, ?_⟩)
  · rw [if_pos r.1]
    exact r.2
  · rw [List.length_map, List.length_range]
    omega
  · rw [upd_upd, List.range_succ, List.map_append]
    rfl
/-- the usual target and no test -/
theorem lc_pureN {J : It} {n : Nat} {G : Hp → Prop} {Y : Nat → Hp → V → Hp → Prop} (w : Walk J n G Y) (f : Nat → V) {j : Nat} {te : TE} {vs : List Nat} {σ : L2.St} {H1 : Hp} {D : Addr} {Qd : Hp → Prop} (hn : n ≤ sizeLine)
    (hG : ∀ i, i ≤ n → G (upd H1 D (.lst ((List.range i).map f))))
    (hs : ∀ (i : Nat) (x : V) (H' : Hp) (k : V → Hp → Prop), i < n → Y i (upd H1 D (.lst ((List.range i).map f))) x H' → k (f i) (upd H1 D (.lst ((List.range i).map f))) →
      wipe ((wipe σ vs).set j (some x)) vs = wipe σ vs ∧ te ((wipe σ vs).set j (some x)) H' k)
    (hd : Qd (upd H1 D (.lst ((List.range n).map f)))) :
    ∃ W : Nat → Nat → Hp → Prop, (∃ m, W 0 m (upd H1 D (.lst []))) ∧ ∀ i m H, W i m H →
      (J.stop i H ∧ Qd H) ∨ (J.go i H ∧ ∃ Nx : Hp → Prop, (∀ H', Nx H' → ∃ m', m' < m ∧ W (i + 1) m' H') ∧ ∀ x H', J.yld i H x H' → gName j x (wipe σ vs) H' fun σ2 H2 => wipe σ2 vs = wipe σ vs ∧ tYes σ2 H2 fun b H3 =>
        if b = true then te σ2 H3 fun y H4 => ∃ acc, H4 D = some (.lst acc) ∧ acc.length < sizeLine ∧ Nx (upd H4 D (.lst (acc ++ [y]))) else Nx H3) :=
  lc_pure w f hn hG (fun i x H' k hi y q => ⟨(hs i x H' k hi y q).1, rfl, (hs i x H' k hi y q).2⟩) (fun _ _ _ _ h q => h _ _ q) (fun _ _ _ _ _ h q => h _ _ q) hd
theorem size_tl (z : Str) : z.cps.size = (TL.tl z).length := by simp [TL.tl]
theorem len_eq (z : Str) : z.length = (TL.tl z).length := TL.len_tl z
theorem range_map_getD {α β : Type} (l : List α) (d : α) (f : α → β) : (List.range l.length).map (fun i => f (l.getD i d)) = l.map f := by
  apply List.ext_getElem
  · simp
  · intro i h1 h2
    simp at h1
    simp [h1]
end TK
namespace TK
open PySem PySem.Spec PyProof.Rows L2 SX
theorem ef {b : Bool} (h : ¬ b = true) : b = false := Bool.eq_false_iff.mpr h
/-! ### places in texts -/
theorem at0 {α : Type} {l : List α} (d : α) (h : 0 < l.length) : atI l 0 = some (l.getD 0 d) := by
  cases l with
  | nil => exact absurd h (Nat.lt_irrefl 0)
  | cons a r =>
    show ((if (0 : Int) ≤ 0 then (if (0 : Int) < ((a :: r).length : Nat) then some (0 : Int).toNat else none) else _) : Option Nat).bind _ = _
    rw [if_pos (Int.le_refl 0), if_pos (by rw [List.length_cons]; omega)]
    rfl
theorem atN {α : Type} {l : List α} {i : Int} (d : α) (h0 : 0 ≤ i) (h : i < l.length) : atI l i = some (l.getD i.toNat d) := by
  show ((if (0 : Int) ≤ i then (if i < (l.length : Nat) then some i.toNat else none) else _) : Option Nat).bind _ = _
  rw [if_pos h0, if_pos h]
  show l[i.toNat]? = _
  rw [List.getD_eq_getElem?_getD, List.getElem?_eq_getElem (by omega)]
  rfl
theorem atC {α : Type} (a : α) (r : List α) : atI (a :: r) 0 = some a := at0 a (by simp)
theorem ixP {n : Nat} {i : Int} (h0 : 0 ≤ i) (h : i < n) : ixN n i = some i.toNat := by
  unfold ixN
  rw [if_pos h0, if_pos h]
theorem sqP {n : Nat} {i : Int} (h0 : 0 ≤ i) (h : i < n) : seqIndex? i n = some i.toNat := (ixN_seq (ixP h0 h)).1
theorem ixC {α : Type} (a : α) (r : List α) : ixN (a :: r).length 0 = some 0 := ixP (by decide) (by rw [List.length_cons]; omega)
theorem sqC {α : Type} (a : α) (r : List α) : seqIndex? 0 (a :: r).length = some 0 := sqP (by decide) (by rw [List.length_cons]; omega)
/-- the first place of a sign -/
theorem occ_first1 {l : List Nat} {c : Nat} (h : c ∈ l) : ∃ rest, Builtin.Str.occurrences (S l) (S [c]) 0 (S l).length 1 = l.idxOf c :: rest := by
  have at_iff : ∀ i, StrLaws.At (S l) (S [c]) (S l).length i ↔ l[i]? = some c := by
    intro i
    have e := TL.at_iff (x := S l) (y := S [c]) (by show [c] ≠ []; simp) i
    refine e.trans ?_
    show (((l.drop i).take 1 == [c]) = true) ↔ _
    rw [beq_iff_eq]
    constructor
    · intro q
      cases e2 : l.drop i with
      | nil =>
        rw [e2] at q
        cases q
      | cons a r =>
        rw [e2] at q
        have e3 : a = c := by
          simpa using q
        rw [← e3]
        have e4 : (l.drop i)[0]? = some a := by rw [e2]; rfl
        rw [List.getElem?_drop] at e4
        exact e4
    · intro q
      have hi : i < l.length := (List.getElem?_eq_some_iff.mp q).1
      rw [List.drop_eq_getElem_cons hi]
      have e3 : l[i] = c := (List.getElem?_eq_some_iff.mp q).2
      rw [e3]
      rfl
  rcases StrLaws.occ_head (S l) (S [c]) 1 (Nat.le_refl 1) with ⟨_, hn⟩ | ⟨i, r, e, ha, hn⟩
  · obtain ⟨i, hi, e⟩ := List.mem_iff_getElem.mp h
    exact absurd ((at_iff i).mpr (by rw [List.getElem?_eq_getElem hi, e])) (hn i)
  · refine ⟨r, ?_⟩
    rw [e]
    congr 1
    have h1 := (at_iff i).mp ha
    have hi : i < l.length := (List.getElem?_eq_some_iff.mp h1).1
    have e1 : l[i] = c := (List.getElem?_eq_some_iff.mp h1).2
    have hj : l.idxOf c < l.length := List.idxOf_lt_length_iff.mpr h
    have e2 : l[l.idxOf c] = c := List.getElem_idxOf hj
    rcases Nat.lt_trichotomy i (l.idxOf c) with z | z | z
    · exfalso
      have := List.not_of_lt_findIdx (p := (· == c)) (xs := l) (i := i) z
      simp [e1] at this
    · exact z
    · exfalso
      exact hn _ z ((at_iff _).mpr (by rw [List.getElem?_eq_getElem hj, e2]))
/-- a list cut at the first sign c -/
theorem cut_first {l : List Nat} {c : Nat} (h : c ∈ l) : l = l.take (l.idxOf c) ++ c :: l.drop (l.idxOf c + 1) ∧ c ∉ l.take (l.idxOf c) := by
  have hj : l.idxOf c < l.length := List.idxOf_lt_length_iff.mpr h
  refine ⟨?_, ?_⟩
  · have e2 : l[l.idxOf c] = c := List.getElem_idxOf hj
    have e3 := List.drop_eq_getElem_cons hj
    rw [e2] at e3
    rw [← e3, List.take_append_drop]
  · intro hm
    obtain ⟨i, hi, e⟩ := List.mem_iff_getElem.mp hm
    rw [List.length_take] at hi
    have hi1 : i < l.idxOf c := by omega
    have := List.not_of_lt_findIdx (p := (· == c)) (xs := l) (i := i) hi1
    rw [List.getElem_take] at e
    simp [e] at this
theorem cut_unique {a b a' b' : List Nat} {c : Nat} (h : a ++ c :: b = a' ++ c :: b') (ha : c ∉ a) (ha' : c ∉ a') : a = a' ∧ b = b' := by
  induction a generalizing a' with
  | nil =>
    cases a' with
    | nil => exact ⟨rfl, by simpa using h⟩
    | cons d r =>
      have e : c = d := by simpa using (List.cons.inj h).1
      exact absurd (List.mem_cons.mpr (.inl e)) ha'
  | cons d r ih =>
    cases a' with
    | nil =>
      have e : d = c := by simpa using (List.cons.inj h).1
      exact absurd (List.mem_cons.mpr (.inl e.symm)) ha
    | cons d' r' =>
      obtain ⟨e1, e2⟩ := List.cons.inj h
      obtain ⟨e3, e4⟩ := ih e2 (fun z => ha (List.mem_cons_of_mem _ z)) (fun z => ha' (List.mem_cons_of_mem _ z))
      exact ⟨by rw [e1, e3], e4⟩
end TK
namespace TK
open PySem PySem.Spec PyProof.Rows L2 SX
theorem Keep.upd {H H' : Hp} {s c D : Addr} {o : HO} (k : Keep H H' s c) (hD : H D = none) : Keep H (upd H' D o) s c := fun b u e h1 h2 => by
  rw [upd_ne (ne_of_none e hD)]
  exact k b u e h1 h2
theorem StAt.upd {H : Hp} {s c D : Addr} {o : HO} (h : StAt H s c) (h1 : D ≠ s) (h2 : D ≠ c) : StAt (upd H D o) s c := by
  obtain ⟨ne, ⟨n, a⟩, ns, b, l⟩ := h
  exact ⟨ne, ⟨n, by rw [upd_ne h1.symm]; exact a⟩, ns, by rw [upd_ne h2.symm]; exact b, l⟩
theorem StAt.tracked {H : Hp} {s c D : Addr} (h : StAt H s c) (hD : H D = none) : D ≠ s ∧ D ≠ c := by
  obtain ⟨ne, ⟨n, a⟩, ns, b, l⟩ := h
  exact ⟨fun e => (by rw [e, a] at hD; cases hD), fun e => (by rw [e, b] at hD; cases hD)⟩
theorem Keep.none {H H' : Hp} {s c b : Addr} (k : Keep H H' s c) (h : H' b = Option.none) (h1 : b ≠ s) (h2 : b ≠ c) : H b = Option.none := by
  cases e : H b with
  | none => rfl
  | some o =>
    rw [k b o e h1 h2] at h
    cases h
theorem joinL_nil : ∀ l : List (List Nat), TL.joinL [] l = l.flatten
  | [] => rfl
  | [p] => by simp [TL.joinL]
  | p :: q :: r => by
    show p ++ ([] ++ TL.joinL [] (q :: r)) = _
    rw [joinL_nil (q :: r)]
    rfl
/-- texts of one sign, joined -/
theorem join_ones {ys : List Str} (h : ∀ z ∈ ys, z.length = 1) : (Txt.join "" ys).length = ys.length := by
  have e : (Txt.join ("" : Str) ys) = Str.join "" ys := TL.join_eq "" ys
  rw [e, len_eq, TL.tl_join, show TL.tl ("" : Str) = [] by decide +kernel, joinL_nil]
  induction ys with
  | nil => rfl
  | cons a r ih =>
    have h1 := h a (List.mem_cons_self ..)
    rw [len_eq] at h1
    rw [List.map_cons, List.flatten_cons, List.length_append, ih (fun z hz => h z (List.mem_cons_of_mem _ hz)) (TL.join_eq "" r), List.length_cons, h1]
    omega
theorem sum_ones {ys : List Str} (h : ∀ z ∈ ys, z.length = 1) : (ys.map (·.length)).sum = ys.length := by
  induction ys with
  | nil => rfl
  | cons a r ih =>
    rw [List.map_cons, List.sum_cons, ih (fun z hz => h z (List.mem_cons_of_mem _ hz)), h a (List.mem_cons_self ..), List.length_cons]
    omega
theorem cat_len (a b : Str) : (a ++ b).length = a.length + b.length := by
  rw [len_eq, TL.tl_append, List.length_append, ← len_eq, ← len_eq]
end TK
namespace TK
open PySem PySem.Spec PyProof.Rows L2 SX
/-- lc_it with a plain name as target and no test -/
theorem lc_itN {J : It} {n : Nat} {G : Hp → Prop} {Y : Nat → Hp → V → Hp → Prop} (w : Walk J n G Y) {j : Nat} {te : TE} {vs : List Nat} {σ : L2.St} {H1 : Hp} {D : Addr} {Qd : Hp → Prop} (Pv : Nat → Hp → Prop) (h0 : Pv 0 (upd H1 D (.lst []))) (hG : ∀ i H, i ≤ n → Pv i H → G H)
    (hs : ∀ i x H H', i < n → Pv i H → Y i H x H' → wipe ((wipe σ vs).set j (some x)) vs = wipe σ vs ∧ te ((wipe σ vs).set j (some x)) H' fun y H4 => ∃ acc, H4 D = some (.lst acc) ∧ acc.length < sizeLine ∧ Pv (i + 1) (upd H4 D (.lst (acc ++ [y])))) (hd : ∀ H, Pv n H → Qd H) :
    ∃ W : Nat → Nat → Hp → Prop, (∃ m, W 0 m (upd H1 D (.lst []))) ∧ ∀ i m H, W i m H →
      (J.stop i H ∧ Qd H) ∨ (J.go i H ∧ ∃ Nx : Hp → Prop, (∀ H', Nx H' → ∃ m', m' < m ∧ W (i + 1) m' H') ∧ ∀ x H', J.yld i H x H' → gName j x (wipe σ vs) H' fun σ2 H2 => wipe σ2 vs = wipe σ vs ∧ tYes σ2 H2 fun b H3 =>
        if b = true then te σ2 H3 fun y H4 => ∃ acc, H4 D = some (.lst acc) ∧ acc.length < sizeLine ∧ Nx (upd H4 D (.lst (acc ++ [y]))) else Nx H3) :=
  lc_it w Pv h0 hG (fun i x H H' hi p y => ⟨(hs i x H H' hi p y).1, (hs i x H H' hi p y).2⟩) hd
end TK
namespace TK
open PySem PySem.Spec PyProof.Rows L2 SX
theorem slTo (z : Str) {i : Int} (h : 0 ≤ i) : Txt.slice z none (some i) = S ((TL.tl z).take i.toNat) := slice_to (a := TL.tl z) h
theorem slFrom (z : Str) {i : Int} (h : 0 ≤ i) : Txt.slice z (some i) none = S ((TL.tl z).drop i.toNat) := slice_from (a := TL.tl z) h
theorem log_small {i : Int} (h : i.natAbs < 2 ^ 1900) : i.natAbs.log2 < 1920 := by
  by_cases h0 : i.natAbs = 0
  · rw [h0]
    decide
  · exact (Nat.log2_lt h0).mpr (Nat.lt_of_lt_of_le h (Nat.pow_le_pow_right (by decide) (by decide)))
end TK
namespace TK
open PySem PySem.Spec PyProof.Rows L2 SX
/-! ### comprehensions with a test, the heap left alone -/
theorem lc_filt {J : It} {n : Nat} {G : Hp → Prop} {Y : Nat → Hp → V → Hp → Prop} (w : Walk J n G Y) (f : Nat → V) (b : Nat → Bool) {j : Nat} {tt : TT} {te : TE} {vs : List Nat} {σ : L2.St} {H1 : Hp} {D : Addr} {Qd : Hp → Prop} (hn : n ≤ sizeLine)
    (hG : ∀ i, i ≤ n → G (upd H1 D (.lst (((List.range i).filter b).map f))))
    (ht : ∀ (i : Nat) (x : V) (H' : Hp) (k : Bool → Hp → Prop), i < n → Y i (upd H1 D (.lst (((List.range i).filter b).map f))) x H' → k (b i) (upd H1 D (.lst (((List.range i).filter b).map f))) →
      wipe ((wipe σ vs).set j (some x)) vs = wipe σ vs ∧ tt ((wipe σ vs).set j (some x)) H' k)
    (he : ∀ (i : Nat) (x : V) (H' : Hp) (k : V → Hp → Prop), i < n → b i = true → Y i (upd H1 D (.lst (((List.range i).filter b).map f))) x H' → k (f i) (upd H1 D (.lst (((List.range i).filter b).map f))) →
      te ((wipe σ vs).set j (some x)) (upd H1 D (.lst (((List.range i).filter b).map f))) k)
    (hd : Qd (upd H1 D (.lst (((List.range n).filter b).map f)))) :
    ∃ W : Nat → Nat → Hp → Prop, (∃ m, W 0 m (upd H1 D (.lst []))) ∧ ∀ i m H, W i m H →
      (J.stop i H ∧ Qd H) ∨ (J.go i H ∧ ∃ Nx : Hp → Prop, (∀ H', Nx H' → ∃ m', m' < m ∧ W (i + 1) m' H') ∧ ∀ x H', J.yld i H x H' → gName j x (wipe σ vs) H' fun σ2 H2 => wipe σ2 vs = wipe σ vs ∧ tt σ2 H2 fun b H3 =>
        if b = true then te σ2 H3 fun y H4 => ∃ acc, H4 D = some (.lst acc) ∧ acc.length < sizeLine ∧ Nx (upd H4 D (.lst (acc ++ [y]))) else Nx H3) := by
  refine lc_it w (fun i H => H = upd H1 D (.lst (((List.range i).filter b).map f))) rfl (fun i H hi e => e ▸ hG i hi) (fun i x H H' hi e y => ?_) (fun H e => e ▸ hd)
  subst e
  refine ht i x H' _ hi y ?_
  cases hb : b i with
  | true =>
    refine iteT (he i x H' _ hi hb y ⟨_, upd_same, ?_, ?_⟩)
    · rw [List.length_map]
      exact Nat.lt_of_le_of_lt (List.length_filter_le _ _) (by rw [List.length_range]; omega)
    · rw [upd_upd, List.range_succ, List.filter_append, List.map_append, List.filter_cons_of_pos hb]
      rfl
  | false =>
    refine iteF ?_
    rw [List.range_succ, List.filter_append, List.filter_cons_of_neg (by rw [hb]; exact Bool.false_ne_true), List.filter_nil, List.append_nil]
theorem range_filter_getD {α β : Type} (l : List α) (d : α) (p : α → Bool) (f : α → β) : ((List.range l.length).filter (fun i => p (l.getD i d))).map (fun i => f (l.getD i d)) = (l.filter p).map f := by
  have e := range_map_getD l d (fun x => x)
  rw [List.map_id'] at e
  have h : (l.filter p).map f = (((List.range l.length).map (fun i => l.getD i d)).filter p).map f := by rw [e]
  rw [h, List.filter_map, List.map_map]
  rfl
theorem getD_at {α : Type} {l : List α} {i : Nat} {x : α} (d : α) (h : l[i]? = some x) : l.getD i d = x := by
  rw [List.getD_eq_getElem?_getD, h]
  rfl
/-! ### heads with tables -/
def obsX (n : Nat) (fa : List He.Fa) (fn : List He.DefD) (ex : PySem.W.Frag → List Bool) (g : Addr → Option Obj) : He.AlD :=
  ((He.obsD fa fn (He.frG g (He.asD g n))).1 && (ex (He.frG g (He.asD g n))).all id, (He.obsD fa fn (He.frG g (He.asD g n))).2)
def hookX (n : Nat) (fa : List He.Fa) (fn : List He.DefD) (ex : PySem.W.Frag → List Bool) : PySem.W.Hook where
  α := He.AlD
  obs s := obsX n fa fn ex s.heap.get?
  val _ := He.valD fn
  says _ h := ∃ K : PySem.W.Frag, K.In h ∧ He.SaysD fa fn K ∧ (ex K).all id = true
  of _ _ e := by
    have e1 := congrArg (fun z : He.AlD => z.1) e
    have e2 := congrArg (fun z : He.AlD => z.2) e
    obtain ⟨a, b⟩ := Bool.and_eq_true_iff.mp e1
    exact ⟨_, He.frG_in, Prod.ext a e2, b⟩
  keeps _ _ _ c k := let ⟨K, hK, c1, c2⟩ := c; ⟨K, PySem.W.Frag.In.keeps hK k, c1, c2⟩
theorem obsX_eq {n : Nat} {fa : List He.Fa} {fn : List He.DefD} {ex : PySem.W.Frag → List Bool} {g : Addr → Option Obj} {s : Shared} (h : ∀ a, g a = s.heap.get? a) : obsX n fa fn ex g = (hookX n fa fn ex).obs s := by
  obtain rfl : g = s.heap.get? := funext h
  rfl
theorem exAt {l : List Bool} (h : l.all id = true) (i : Nat) {b : Bool} (e : l[i]? = some b) : b = true := List.all_eq_true.mp h b (List.mem_of_getElem? e)
end TK
namespace TK
open PySem PySem.Spec PyProof.Rows L2 SX
/-! ### rules that name the written part, for use within a comprehension -/
section
variable {X : Cx}
theorem inSeqK (K : PySem.W.Frag) (e : X.K = K) : OpR X (compareOp .In) (rIn K false) := by
  subst e
  exact op_in_seq
theorem notInSeqK (K : PySem.W.Frag) (e : X.K = K) : OpR X (compareOp .NotIn) (rIn K true) := by
  subst e
  exact op_notIn_seq
theorem ixListK (K : PySem.W.Frag) (e : X.K = K) : IxR X (rIxL K) := by
  subst e
  exact ix_list
theorem ixTupK (K : PySem.W.Frag) (e : X.K = K) : IxR X (rIxT K) := by
  subst e
  exact ix_tup
theorem isiK (K : PySem.W.Frag) (e : X.K = K) : CallR X (.builtin "isinstance") (rIsi K) := by
  subst e
  exact call_isi
end
end TK
set_option maxHeartbeats 4000000
namespace TK
open PySem PySem.Spec PyProof.Rows L2 SX
theorem same_upd2 {H H' : Hp} {D : Addr} {o : HO} (s : Same H H') (hD : H D = none) : Same H (upd H' D o) := fun b u e => by
  rw [upd_ne (ne_of_none e hD)]
  exact s b u e
theorem joinL_len (y : List Nat) : ∀ l : List (List Nat), (TL.joinL y l).length ≤ (l.map (·.length)).sum + l.length * y.length
  | [] => by simp [TL.joinL]
  | [p] => by simp [TL.joinL]
  | p :: q :: r => by
    have ih := joinL_len y (q :: r)
    show (p ++ (y ++ TL.joinL y (q :: r))).length ≤ _
    rw [List.length_append, List.length_append, List.map_cons, List.sum_cons, List.length_cons (a := p), Nat.succ_mul]
    omega
theorem join_len (y : Str) (ys : List Str) : (Txt.join y ys).length ≤ (ys.map (·.length)).sum + ys.length * y.length := by
  rw [show Txt.join y ys = Str.join y ys from TL.join_eq y ys, len_eq, TL.tl_join]
  have q := joinL_len (TL.tl y) (ys.map TL.tl)
  rw [List.length_map, List.map_map] at q
  have e : (ys.map (fun x : Str => x.length)) = ys.map ((fun x : List Nat => x.length) ∘ TL.tl) := List.map_congr_left fun x _ => len_eq x
  rw [e, len_eq y]
  exact q
theorem sum_le {m : Nat} : ∀ {ys : List Str}, (∀ z ∈ ys, z.length ≤ m) → (ys.map (·.length)).sum ≤ ys.length * m
  | [], _ => Nat.zero_le _
  | a :: r, h => by
    have ih := sum_le (ys := r) fun z hz => h z (List.mem_cons_of_mem _ hz)
    have h1 := h a (List.mem_cons_self ..)
    rw [List.map_cons, List.sum_cons, List.length_cons, Nat.succ_mul]
    omega
theorem nodup_inr : ∀ ys : List Str, (ys.map (Sum.inr : Str → Key)).Nodup ↔ ys.Nodup
  | [] => by simp
  | a :: r => by
    rw [List.map_cons, List.nodup_cons, List.nodup_cons, nodup_inr r, List.mem_map]
    constructor
    · intro q
      exact ⟨fun m => q.1 ⟨a, m, rfl⟩, q.2⟩
    · intro q
      exact ⟨fun ⟨b, m, e⟩ => q.1 (Sum.inr.inj e ▸ m), q.2⟩
theorem key_strs (ys : List Str) : (ys.map (Sum.inr : Str → Key)).map kV = ys.map V.str := by
  rw [List.map_map]
  rfl
/-- the parts of a text are no longer than the text -/
theorem part_len {z y p : Str} (h : p ∈ Txt.split z y) : p.length ≤ z.length := by
  have j := StrLaws.join_split z y
  have sub : ∀ (l : List (List Nat)) (s : List Nat), ∀ x ∈ l, x.length ≤ (TL.joinL s l).length := by
    intro l s
    induction l with
    | nil => exact fun x hx => nomatch hx
    | cons a r ih =>
      intro x hx
      cases r with
      | nil =>
        rw [List.mem_singleton.mp hx]
        exact Nat.le_refl _
      | cons b r =>
        show x.length ≤ (a ++ (s ++ TL.joinL s (b :: r))).length
        rw [List.length_append, List.length_append]
        rcases List.mem_cons.mp hx with q | q
        · rw [q]
          omega
        · have := ih x q
          omega
  have q := sub ((Txt.split z y).map TL.tl) (TL.tl y) (TL.tl p) (List.mem_map.mpr ⟨p, h, rfl⟩)
  rw [← TL.tl_join, j] at q
  rw [len_eq, len_eq]
  exact q
end TK
namespace TK
open PySem PySem.Spec PyProof.Rows L2 SX
/-! ### a word between an expression and what follows -/
def tCutE (t : TE) : TE := fun σ H Q => ∃ Mid : VK, t σ H Mid ∧ ∀ v H', Mid v H' → Q v H'
def tCutT (t : TT) : TT := fun σ H Q => ∃ Mid : Bool → Hp → Prop, t σ H Mid ∧ ∀ b H', Mid b H' → Q b H'
section
variable {X : Cx} {e : Expr}
theorem pe_cut {t : TE} (h : PE X e t) : PE X e (tCutE t) := ⟨fun pins s σ H _ I ⟨Mid, hm, hq⟩ => thn (h.run pins s σ H Mid I hm) fun _ _ ⟨v, H', I', r, q⟩ => ⟨v, H', I', r, hq v H' q⟩⟩
theorem pt_cut {t : TT} (h : PT X e t) : PT X e (tCutT t) := ⟨fun pins s σ H _ I ⟨Mid, hm, hq⟩ => thn (h.run pins s σ H Mid I hm) fun b _ ⟨H', I', q⟩ => ⟨H', I', hq b H' q⟩⟩
end
end TK
set_option maxHeartbeats 4000000
/-! Own classes: rules that name the class, makers and methods by their promises. -/
namespace TK
open PySem PySem.Spec PyProof.Rows L2 SX
def tFldC (C : Addr) (ta : TE) (f : Str) : TE := fun σ H Q => ta σ H fun x H1 => ∃ a dx fs v, x = .ref a ∧ H1 a = some (.ins C dx fs) ∧ fs.lookup f = some v ∧ Q v H1
def sFldC (C : Addr) (ta tv : TE) (f : Str) : TS := fun D σ H => tv σ H fun y H1 => ta σ H1 fun x H2 => ∃ a dx fs, x = .ref a ∧ H2 a = some (.ins C dx fs) ∧ fs.length < 1000 ∧ D.nx σ (upd H2 a (.ins C dx (putF f y fs)))
section
variable {X : Cx} {K : PySem.W.Frag} {C : Addr} {e o value : Expr} {f : Str} {pos pos' : Pos} {ta tv : TE}
theorem pe_fldC (eK : X.K = K) (c : Cls K C) (n : NoAttr K C f) (he : PE X e ta) (hb : attributeBase e f X.env (eval e X.env) = eval e X.env) : PE X (.Attribute e f pos) (tFldC C ta f) := by
  subst eK
  exact ⟨fun pins s σ H Q I h => (pe_fld (pe_cut he) hb).run pins s σ H Q I ⟨_, h, fun v H' ⟨a, dx, fs, w, e1, e2, e3, q⟩ => ⟨a, C, dx, fs, w, e1, e2, c, n, e3, q⟩⟩⟩
theorem ps_fldC (eK : X.K = K) (c : Cls K C) (n : NoAttr K C f) (ha : PE X o ta) (hv : PE X value tv) (hs : swapsWith value (some (.Attribute o f pos')) pos.line X.env = pure false) : PS X (.Assign [.Attribute o f pos'] value pos) (sFldC C ta tv f) := by
  subst eK
  exact ⟨fun pins s σ H D I h => (ps_fld (pe_cut ha) (pe_cut hv) hs).run pins s σ H D I ⟨_, h, fun v H' h2 => ⟨_, h2, fun x H2 ⟨a, dx, fs, e1, e2, e3, q⟩ => ⟨a, C, dx, fs, e1, e2, c, n, e3, q⟩⟩⟩⟩
end
/-! ### few attributes -/
class SmallF (fs : List (Str × V)) (n : outParam Nat) : Prop where
  le : fs.length ≤ n
instance : SmallF [] 0 := ⟨Nat.le_refl _⟩
instance {x : Str × V} {l : List (Str × V)} {n : Nat} [h : SmallF l n] : SmallF (x :: l) (n + 1) := ⟨Nat.succ_le_succ h.le⟩
theorem putF_len {f : Str} {v : V} : ∀ fs : List (Str × V), (putF f v fs).length ≤ fs.length + 1
  | [] => Nat.le_refl _
  | (g, x) :: r => by
    show (if g = f then (g, v) :: r else (g, x) :: putF f v r).length ≤ _
    by_cases h : g = f
    · rw [if_pos h]
      exact Nat.le_succ _
    · rw [if_neg h]
      exact Nat.succ_le_succ (putF_len r)
instance {f : Str} {v : V} {l : List (Str × V)} {n : Nat} [h : SmallF l n] : SmallF (putF f v l) (n + 1) := ⟨Nat.le_trans (putF_len l) (Nat.succ_le_succ h.le)⟩
theorem sm {fs : List (Str × V)} {n : Nat} [h : SmallF fs n] (hn : n < 1000 := by decide) : fs.length < 1000 := Nat.lt_of_le_of_lt h.le hn
/-! ### makers -/
section
variable {P : Program} {w : World} {K : PySem.W.Frag} {mg : Str → Option Value} {base : Heap}
structure MakK (P : Program) (w : World) (K : PySem.W.Frag) (mg : Str → Option Value) (base : Heap) (k : Nat) (x : Str) (C : Addr) (sp : Sp) (n : Nat) (ks : List Str) (gV : List V → List V → List V) : Prop where
  ex : ∃ (f : Addr) (fd : FuncData) (ps : List Str) (g : List Value → List Value → List Value), Mk K C f ∧ FnOk P w K mg base L2.CX0 k f fd ps sp ∧ mg x = some (.ref C) ∧ KBn K fd ps (n + 1) ks g gV
theorem mak_of {C : Addr} {x n qual : Str} {params : Arguments} {body : List Stmt} {scope : Scope} {f : Addr} {fd : FuncData} {ps : List Str} {k : Nat} {sp : Sp} (M : Mk K C f) (hm : mg x = some (.ref C)) (F : FunD K n qual params body scope [] [] f fd) (G : FnOk P w K mg base L2.CX0 k f fd ps sp)
    (h : ∀ (kV doc pm : Value) (an : Option Addr) (cdv ct : Value) (us : List Value), us.length = ps.length → bindArgs (PySem.W.fnOf n qual params body scope .none kV doc pm an cdv ct) ⟨us, []⟩ = pure (ps.zip us)) : C8.Mak P w K mg base k x C sp [] :=
  ⟨f, fd, ps, [], M, G, hm, F.bindsN h, .nil⟩
theorem met_of {C : Addr} {n qual : Str} {params : Arguments} {body : List Stmt} {scope : Scope} {f : Addr} {fd : FuncData} {ps : List Str} {k : Nat} {sp : Sp} (c : Cls K C) (m : Meth K C n f) (F : FunD K n qual params body scope [] [] f fd) (G : FnOk P w K mg base L2.CX0 k f fd ps sp)
    (h : ∀ (kV doc pm : Value) (an : Option Addr) (cdv ct : Value) (us : List Value), us.length = ps.length → bindArgs (PySem.W.fnOf n qual params body scope .none kV doc pm an cdv ct) ⟨us, []⟩ = pure (ps.zip us)) : C8.Met P w K mg base k C n sp [] :=
  ⟨f, fd, ps, [], c, m, G, F.bindsN h, .nil⟩
theorem metD_of {C : Addr} {n qual : Str} {params : Arguments} {body : List Stmt} {scope : Scope} {dvs : List V} {f : Addr} {fd : FuncData} {ps : List Str} {k : Nat} {sp : Sp} (c : Cls K C) (m : Meth K C n f) (F : FunD K n qual params body scope dvs [] f fd) (G : FnOk P w K mg base L2.CX0 k f fd ps sp) (hd : dvs ≠ []) (hn : dvs.length ≤ ps.length)
    (h : ∀ (T : Addr) (kV doc pm : Value) (an : Option Addr) (cdv ct : Value) (us its : List Value), us.length = ps.length - dvs.length → its.length = dvs.length →
      ∃ k, bindArgs (PySem.W.fnOf n qual params body scope (.ref T) kV doc pm an cdv ct) ⟨us, []⟩ = seqItems? (.ref T) >>= k ∧ k (some its.toArray) = pure (ps.zip (us ++ its.drop 0))) : C8.Met P w K mg base k C n sp dvs := by
  obtain ⟨ds, h1, h2⟩ := F.binds1 (ps := ps) (ps.length - dvs.length) 0 hd (by omega) h
  exact ⟨f, fd, ps, ds, c, m, G, h2, by simpa using h1⟩
end
section
variable {X : Cx} {k j n : Nat} {C : Addr} {x : Str} {sp : Sp} {p pos : Pos} {e : Expr} {es : List Expr} {kws : List Keyword} {ks : List Str} {t tk : TA} {gV : List V → List V → List V}
theorem pe_mk0 {dvs : List V} (c : C8.Mak X.prog X.w X.K X.mg X.base k x C sp dvs) (hr : Room j X.A) (hk : k + 1 ≤ j) (hg : Gl X x) (hdb : (x == ("__debug__" : Str)) = false := by decide) : PE X (.Call (.Name x p) [] [] pos) (tMake C sp dvs L2.E0 tNil) := by
  obtain ⟨f, fd, ps, ds, M, F, hm, b, d⟩ := c.ex
  exact pe_make0 M F (hr.mono hk) hg hm b d L2.pass0 hdb
theorem pe_mkK0 (c : MakK X.prog X.w X.K X.mg X.base k x C sp 0 ks gV) (hr : Room j X.A) (hk : k + 1 ≤ j) (hg : Gl X x) (hkw : PK X kws tk)
    (hall : (backToKw pos (keywordEach kws X.env)).all (·.1.isSome) = true := by rfl) (hks : (backToKw pos (keywordEach kws X.env)).filterMap (·.1) = ks := by rfl) (hdb : (x == ("__debug__" : Str)) = false := by decide)
    (hpl : ((backTo pos (starEach [] X.env)).any (·.1) || (backToKw pos (keywordEach kws X.env)).any (·.1.isNone)) = false := by rfl) :
    PE X (.Call (.Name x p) [] kws pos) (tMakeK C 0 ks.length sp gV L2.E0 tNil tk) := by
  obtain ⟨f, fd, ps, g, M, F, hm, b⟩ := c.ex
  exact pe_makeK0 M F (hr.mono hk) hg hm b L2.pass0 hkw hall hks hdb hpl
end
/-! ### new objects -/
theorem same_own {H : Hp} {x dx C : Addr} {fs : List (Str × V)} (hx : H x = none) (hd : H dx = none) : Same H (upd (upd H dx (.own x)) x (.ins C dx fs)) := fun b o e => by
  rw [upd_ne (ne_of_none e hx), upd_ne (ne_of_none e hd)]
  exact e
theorem Same.upd_of {H H' : Hp} {a : Addr} {o : HO} (s : Same H H') (h : H a = none) : Same H (upd H' a o) := fun b u e => by
  rw [upd_ne (ne_of_none e h)]
  exact s b u e
/-! ### texts that can be laid -/
theorem ok_iff {z : Str} : PyData.strOk z = true ↔ ∀ c ∈ TL.tl z, c < 0x110000 := by
  unfold PyData.strOk TL.tl
  rw [Array.all_eq_true']
  constructor
  · intro h c hc
    simpa using h c (by simpa using hc)
  · intro h c hc
    simpa using h c (by simpa using hc)
theorem ok_cat {a b : Str} (ha : PyData.strOk a = true) (hb : PyData.strOk b = true) : PyData.strOk (a ++ b) = true := by
  rw [ok_iff] at *
  intro c hc
  rw [TL.tl_append, List.mem_append] at hc
  exact hc.elim (ha c) (hb c)
theorem joinL_mem {s : List Nat} {c : Nat} : ∀ l : List (List Nat), c ∈ TL.joinL s l → c ∈ s ∨ ∃ p ∈ l, c ∈ p
  | [], h => by simp [TL.joinL] at h
  | [p], h => .inr ⟨p, List.mem_singleton.mpr rfl, by simpa [TL.joinL] using h⟩
  | p :: q :: r, h => by
    have h2 : c ∈ p ++ (s ++ TL.joinL s (q :: r)) := h
    rw [List.mem_append, List.mem_append] at h2
    rcases h2 with h2 | h2 | h2
    · exact .inr ⟨p, List.mem_cons_self .., h2⟩
    · exact .inl h2
    · rcases joinL_mem (q :: r) h2 with h3 | ⟨x, h3, h4⟩
      · exact .inl h3
      · exact .inr ⟨x, List.mem_cons_of_mem _ h3, h4⟩
theorem ok_join {y : Str} {l : List Str} (hy : PyData.strOk y = true) (hl : ∀ z ∈ l, PyData.strOk z = true) : PyData.strOk (Txt.join y l) = true := by
  rw [TL.join_eq, ok_iff]
  intro c hc
  rw [TL.tl_join] at hc
  rcases joinL_mem _ hc with h | ⟨p, hp, h⟩
  · exact ok_iff.mp hy c h
  · obtain ⟨z, hz, rfl⟩ := List.mem_map.mp hp
    exact ok_iff.mp (hl z hz) c h
def numS (i : Int) : Str := Str.ofString (toString i)
theorem numS_tl {i : Int} (h : 0 ≤ i) : TL.tl (numS i) = TL.numL i.toNat := by
  have e : i = ((i.toNat : Nat) : Int) := (Int.toNat_of_nonneg h).symm
  rw [e]
  exact TL.tl_num _
theorem ok_num {i : Int} (h : 0 ≤ i) : PyData.strOk (numS i) = true := by
  rw [ok_iff, numS_tl h]
  intro c hc
  exact Nat.lt_of_not_le fun q => TL.numL_free (n := i.toNat) (s := c) (.inr (by omega)) hc
theorem numS_len {i : Int} (h : i.natAbs < 1000000000) : (numS i).length ≤ 10 := by
  have e := int_text_length_le10 (a := i) (k := 9) (by decide) (by omega)
  show (Str.ofString (toString i)).length ≤ 10
  rw [PySem.ofString_length]
  omega
theorem numS_log {i : Int} (h : i.natAbs < 1000000000) : i.natAbs.log2 < 1920 := log_small (Nat.lt_of_lt_of_le h (by decide))
theorem szl {z : Str} (h : z.length ≤ 100000) : z.length ≤ sizeLine := Nat.le_trans h (by decide)
theorem ne_ins {H : Hp} {a b C C' dx dx' : Addr} {fs fs' : List (Str × V)} (h : H a = some (.ins C dx fs)) (h' : H b = some (.ins C' dx' fs')) (n : fs.length ≠ fs'.length) : a ≠ b :=
  ne_of h h' fun e => by
    injection e with _ _ e2
    exact n (congrArg List.length e2)
/-- only what stands at A has changed -/
def Fr (A : List Addr) (H H' : Hp) : Prop := ∀ b o, H b = some o → b ∉ A → H' b = some o
theorem Fr.of_same {A : List Addr} {H H' : Hp} (s : Same H H') : Fr A H H' := fun b o e _ => s b o e
theorem Fr.refl (A : List Addr) (H : Hp) : Fr A H H := fun _ _ e _ => e
theorem Fr.trans {A : List Addr} {H H1 H2 : Hp} (s : Fr A H H1) (t : Fr A H1 H2) : Fr A H H2 := fun b o e n => t b o (s b o e n) n
theorem Fr.trans_new {A A' : List Addr} {H H1 H2 : Hp} (s : Fr A H H1) (t : Fr A' H1 H2) (n : ∀ b ∈ A', b ∈ A ∨ H b = none) : Fr A H H2 := fun b o e hn => t b o (s b o e hn) fun m => (n b m).elim hn fun z => by rw [e] at z; cases z
end TK
set_option maxHeartbeats 1000000
/-! Calls with keywords of defs with many keyword-only parameters: the binding by names, without unfolding it at each name. -/
namespace TK
open PySem PySem.Spec PyProof.Rows L2
open PySem.W (Looks)
theorem forIn_looks {M : Model} {h : Heap} {α β : Type} {f : α → β → Sem (ForInStep β)} {g : β → α → β} : ∀ (l : List α) (b : β), (∀ pre a post, l = pre ++ a :: post → Looks M h (f a (pre.foldl g b)) (.yield (g (pre.foldl g b) a))) → Looks M h (forIn l b f) (l.foldl g b)
  | [], b, _ => by rw [List.forIn_nil]; exact Looks.of_pure rfl
  | a :: r, b, H => by
    rw [List.forIn_cons]
    exact Looks.andThen (H [] a r rfl) (forIn_looks r (g b a) fun pre c post e => H (a :: pre) c post (by rw [e]; rfl))
abbrev Sl : Type := List (Str × Value)
def g1 (s : Sl × Sl) (p : Str × Value) : Sl × Sl := (s.1 ++ [(p.1, p.2)], s.2)
theorem fold1 : ∀ (l : Sl) (s : Sl × Sl), l.foldl g1 s = (s.1 ++ l, s.2)
  | [], s => by rw [List.foldl_nil, List.append_nil]
  | p :: r, s => by
    rw [List.foldl_cons, fold1 r]
    unfold g1
    rw [List.append_assoc]
    rfl
theorem lookup_none {k : Str} : ∀ {l : Sl}, k ∉ l.map (·.1) → l.lookup k = none
  | [], _ => rfl
  | (a, b) :: r, h => by
    rw [List.map_cons, List.mem_cons, not_or] at h
    rw [List.lookup_cons, show (k == a) = false from beq_eq_false_iff_ne.mpr h.1]
    exact lookup_none h.2
theorem lookup_some {k : Str} : ∀ {l : Sl}, k ∈ l.map (·.1) → ∃ v, l.lookup k = some v
  | [], h => by cases h
  | (a, b) :: r, h => by
    rw [List.lookup_cons]
    by_cases e : (k == a) = true
    · rw [e]
      exact ⟨b, rfl⟩
    · rw [show (k == a) = false by simpa using e]
      rw [List.map_cons, List.mem_cons] at h
      exact lookup_some (h.resolve_left fun z => e (by rw [z]; exact beq_self_eq_true a))
def g2 (dv : Str → Value) (s : Sl × List Str) (n : Str) : Sl × List Str := if (s.1.lookup n).isNone = true then (s.1 ++ [(n, dv n)], s.2) else (s.1, s.2)
theorem fold2 {dv : Str → Value} : ∀ (l : List Str) (s : Sl × List Str), ∃ t, l.foldl (g2 dv) s = (s.1 ++ t, s.2)
  | [], s => ⟨[], by rw [List.foldl_nil, List.append_nil]⟩
  | n :: r, s => by
    rw [List.foldl_cons]
    obtain ⟨t, e⟩ := fold2 r (g2 dv s n)
    rw [e]
    unfold g2
    by_cases h : (s.1.lookup n).isNone = true
    · rw [if_pos h]
      exact ⟨(n, dv n) :: t, by rw [List.append_assoc]; rfl⟩
    · rw [if_neg h]
      exact ⟨t, rfl⟩
def bindR (self : Str) (L : List Str) (u : Value) (kw : Sl) (dv : Str → Value) : Sl :=
  ([self] ++ L).filterMap fun n => ((L.foldl (g2 dv) ((self, u) :: kw, [])).1.lookup n).map fun x => (n, x)
theorem bind_kw {K : PySem.W.Frag} {M : Model} {h : Heap} {x qual : Str} {params : Arguments} {body : List Stmt} {scope : Scope} {D : Addr} {doc pm : Value} {an : Option Addr} {cdv ct : Value} {u : Value} {kw : Sl} {L ks : List Str} {self : Str}
    (X : K.In h) (h1 : params.posonlyargs.map (·.arg) = []) (h2 : params.args.map (·.arg) = [self]) (h3 : params.kwonlyargs.map (·.arg) = L) (h4 : params.vararg = none) (h5 : params.kwarg = none) (hk : kw.map (·.1) = ks) (nd : (self :: ks).Nodup) (hin : ∀ k ∈ ks, k ∈ L)
    (dv : Str → Value) (hd : ∀ n ∈ L, n ∉ ks → PySem.W.nsIn K D n = some (some (dv n))) :
    Looks M h (bindArgs (PySem.W.fnOf x qual params body scope .none (.ref D) doc pm an cdv ct) ⟨[u], kw⟩) (bindR self L u kw dv) := by
  unfold bindArgs
  simp only [PySem.W.fnOf, h1, h2, h3, h4, h5]
  have e1 : ∀ pre, pre.foldl g1 ((([] : List Str) ++ [self]).zip [u], []) = ((self, u) :: pre, []) := fun pre => fold1 pre _
  refine Looks.andThen (a := ((self, u) :: kw, [])) ?_ ?_
  · rw [← e1 kw]
    refine forIn_looks kw _ fun pre p post e => ?_
    rw [e1 pre]
    have mk : p.1 ∈ ks := by rw [← hk, e, List.map_append, List.map_cons]; exact List.mem_append_right _ (List.mem_cons_self ..)
    have c1 : ([self].contains p.1 || L.contains p.1) = true := by rw [show L.contains p.1 = true by simpa using hin _ mk, Bool.or_true]
    have nk : p.1 ∉ ((self, u) :: pre).map (·.1) := by
      rw [← hk, e, List.map_append, List.map_cons] at nd
      obtain ⟨n1, n2⟩ := List.nodup_cons.mp nd
      rw [List.map_cons, List.mem_cons, not_or]
      refine ⟨fun z => n1 (by have z2 : p.1 = self := z; rw [← z2]; exact List.mem_append_right _ (List.mem_cons_self ..)), fun z => ?_⟩
      exact (List.nodup_append.mp n2).2.2 _ z _ (List.mem_cons_self ..) rfl
    rw [if_pos c1, if_neg (by rw [lookup_none nk]; exact Bool.false_ne_true)]
    exact Looks.of_pure rfl
  · refine Looks.andThen (a := none) (Looks.of_pure rfl) ?_
    have el : ((self, u) :: kw).lookup self = some u := by rw [List.lookup_cons, beq_self_eq_true]
    rw [if_neg (by show ¬ (decide (1 > 1) && _) = true; simp)]
    have em : List.filter (fun n => (List.lookup n (((self, u) :: kw, ([] : Sl)) : Sl × Sl).fst).isNone) [self] = [] := by
      rw [List.filter_cons, if_neg (by show ¬ (List.lookup self ((self, u) :: kw)).isNone = true; rw [el]; exact Bool.false_ne_true)]
      rfl
    refine (fun z => ?_) em
    rw [if_neg (by show ¬ (!(List.filter (fun n => (List.lookup n (((self, u) :: kw, ([] : Sl)) : Sl × Sl).fst).isNone) [self]).isEmpty) = true; rw [em]; exact Bool.false_ne_true)]
    refine Looks.andThen (a := (self, u) :: kw) (Looks.of_pure rfl) ?_
    refine Looks.andThen (a := L.foldl (g2 dv) ((self, u) :: kw, [])) (forIn_looks L _ fun pre n post e => ?_) ?_
    · obtain ⟨t, et⟩ := fold2 (dv := dv) pre ((self, u) :: kw, [])
      rw [show List.foldl (g2 dv) ((self, u) :: kw, []) pre = (((self, u) :: kw) ++ t, []) from et]
      unfold g2
      by_cases hl : (List.lookup n (((self, u) :: kw) ++ t)).isNone = true
      · rw [if_pos hl, if_pos hl]
        have nks : n ∉ ks := fun m => by
          have m2 : n ∈ (((self, u) :: kw) ++ t).map (·.1) := by
            rw [List.map_append, List.map_cons, hk]
            exact List.mem_append_left _ (List.mem_cons_of_mem _ m)
          obtain ⟨v, ev⟩ := lookup_some m2
          rw [ev] at hl
          cases hl
        refine Looks.andThen (a := some (dv n)) (PySem.W.looks_nsIn X (hd n (by rw [e]; exact List.mem_append_right _ (List.mem_cons_self ..)) nks)) (Looks.of_pure rfl)
      · rw [if_neg hl, if_neg hl]
        exact Looks.of_pure rfl
    · obtain ⟨t, et⟩ := fold2 (dv := dv) L ((self, u) :: kw, [])
      rw [if_neg (by rw [et]; exact Bool.false_ne_true)]
      exact Looks.of_pure rfl
theorem kbn_of {K : PySem.W.Frag} {x qual : Str} {params : Arguments} {body : List Stmt} {scope : Scope} {kws : List (Str × V)} {f : Addr} {fd : FuncData} {ps ks L : List Str} {self : Str} (F : FunD K x qual params body scope [] kws f fd) (ms : List (Str × V)) (g : {α : Type} → List α → List α → List α → List α) (hkws : kws ≠ [])
    (hrel : ∀ {vs mz zs : List V} {us mv ws : List Value}, Vals vs us → Vals mz mv → Vals zs ws → Vals (g vs mz zs) (g us mv ws))
    (h1 : params.posonlyargs.map (·.arg) = []) (h2 : params.args.map (·.arg) = [self]) (h3 : params.kwonlyargs.map (·.arg) = L) (h4 : params.vararg = none) (h5 : params.kwarg = none) (nd : (self :: ks).Nodup) (hin : ∀ k ∈ ks, k ∈ L) (hms : ∀ q ∈ ms, q ∈ kws) (hcov : ∀ n ∈ L, n ∉ ks → n ∈ ms.map (·.1))
    (heq : ∀ (u : Value) (mv ws : List Value), mv.length = ms.length → ws.length = ks.length → bindR self L u (ks.zip ws) (fun n => (((ms.map (·.1)).zip mv).lookup n).getD .none) = ps.zip (g [u] mv ws)) :
    ∃ mv : List Value, KBn K fd ps 1 ks (fun us ws => g us mv ws) (fun vs zs => g vs (ms.map (·.2)) zs) := by
  obtain ⟨oc, od, dV, kV, doc, pm, an, cdv, ct, osl, rfl, lk, hcd, hD, hK⟩ := F.ex
  have edV : dV = .none := by
    rcases hD with ⟨_, e⟩ | ⟨e, _⟩
    · exact e
    · exact absurd rfl e
  subst edV
  rcases hK with e | ⟨D, rfl, hq⟩
  · exact absurd e hkws
  obtain ⟨mv, hl, rk, hks⟩ := kwd_vals (ms := ms) fun q hm => hq q (hms q hm)
  refine ⟨mv, ⟨fun s us ws X l1 l2 => ?_, fun r1 r2 => hrel r1 rk r2⟩⟩
  obtain ⟨u, rfl⟩ : ∃ u, us = [u] := by
    cases us with
    | nil => cases l1
    | cons a r =>
      cases r with
      | nil => exact ⟨a, rfl⟩
      | cons b r => cases l1
  refine BindsTo.of_looks fun M => ?_
  show Looks M s.heap _ (ps.zip (g [u] mv ws))
  rw [← heq u mv ws hl l2]
  refine bind_kw X h1 h2 h3 h4 h5 (List.map_fst_zip (by omega)) nd hin _ fun n hn nk => ?_
  have lm : ((ms.map (·.1)).zip mv).map (·.1) = ms.map (·.1) := List.map_fst_zip (by rw [List.length_map]; omega)
  obtain ⟨v, ev⟩ := lookup_some (k := n) (l := (ms.map (·.1)).zip mv) (by rw [lm]; exact hcov n hn nk)
  rw [ev]
  have mem : ∀ {l : Sl}, l.lookup n = some v → (n, v) ∈ l := by
    intro l
    induction l with
    | nil => intro h; cases h
    | cons a r ih =>
      obtain ⟨a1, a2⟩ := a
      intro h
      rw [List.lookup_cons] at h
      by_cases e : (n == a1) = true
      · rw [e] at h
        rw [Option.some.inj h, beq_iff_eq.mp e]
        exact List.mem_cons_self ..
      · rw [show (n == a1) = false by simpa using e] at h
        exact List.mem_cons_of_mem _ (ih h)
  exact hks _ (mem ev)
end TK
set_option maxHeartbeats 1000000
namespace TK
open PySem PySem.Spec PyProof.Rows L2 SX
def rRpart : V → List V → Hp → VK → Prop := fun x xs H Q => ∃ z y, x = .str z ∧ xs = [.str y] ∧ (y.length == 0) = false ∧ z.length ≤ sizeLine ∧ ∀ p, H p = none → Q (.ref p) (upd H p (.tup [.str (Txt.rpartition z y).1, .str (Txt.rpartition z y).2.1, .str (Txt.rpartition z y).2.2]))
section
variable {X : Cx} {e o : Expr} {te to : TE}
theorem mt_rpart : MtR X "str.rpartition" rRpart := by
  intro pins s σ H x xs v us Q I rx rs ⟨z, y, ex, exs, hy, hz, h⟩
  subst ex exs
  obtain ⟨tz, rfl⟩ := rx
  match us, rs with
  | [w], .cons r1 .nil =>
    obtain ⟨ty, rfl⟩ := r1
    refine call_meets PySem.F.slot_str_rpartition (typeIs_str _ _ _) PySem.F.entry_str_rpartition (PySem.F.args_str_rpartition_2 _ _) (meets_str_rpartition z y tz ty hy hz) ?_
    have h2 := h
    unfold Txt.rpartition at h2
    revert h2
    cases Builtin.Str.lastOccurrence z y 0 z.length with
    | none => exact fun h2 => laid_parts I h2
    | some i => exact fun h2 => laid_parts I h2
theorem pe_rpartition {apos pos : Pos} (ho : PE X o to) (he : PE X e te) (hs : starEach [e] X.env = [(false, eval e X.env)] := by rfl) (hb : attributeBase o "rpartition" X.env (eval o X.env) = eval o X.env := by rfl) (hl : (apos.endLine == pos.line) = true := by rfl) :
    PE X (.Call (.Attribute o "rpartition" apos) [e] [] pos) (tM1 rRpart to te) := pe_m1 PySem.F.slot_str_rpartition PySem.F.type_str_rpartition mt_rpart ho he hs hb hl
end
/-- what a new object at t, then one at l leaves -/
theorem new2 {H : Hp} {t l : Addr} {o u : HO} (ht : H t = none) (hl : upd H t o l = none) : t ≠ l ∧ H l = none ∧ Same H (upd (upd H t o) l u) ∧ (upd (upd H t o) l u) t = some o ∧ (upd (upd H t o) l u) l = some u := by
  have n : t ≠ l := fun e => by rw [← e, upd_same] at hl; cases hl
  exact ⟨n, by rw [upd_ne n.symm] at hl; exact hl, (same_upd ht).trans (same_upd hl), (upd_ne n).trans upd_same, upd_same⟩
theorem cutV_to (xs : List V) (k : Nat) : cutV xs none (some (k : Int)) = xs.take k := by
  unfold cutV
  have a : HT.sIx xs.length 0 none = 0 := by rfl
  have b : HT.sIx xs.length xs.length (some (k : Int)) = min k xs.length := by
    unfold HT.sIx
    simp
    try omega
  rw [a, b, List.drop_zero, Nat.sub_zero]
  by_cases h : k ≤ xs.length
  · rw [Nat.min_eq_left h]
  · rw [Nat.min_eq_right (by omega), List.take_length, List.take_of_length_le (by omega)]
theorem pi_listK {X : Cx} {tg l : Expr} {tl : TE} (K : PySem.W.Frag) (e : X.K = K) (hl : PE X l tl) : PI X tg l (iList K tl) := by
  subst e
  exact pi_list hl
end TK
set_option maxHeartbeats 4000000
/-! set(xs) of a list of ints and texts, of any length below the model's bound: mine. -/
namespace TKS
open PySem PySem.Spec PyProof.Rows L2 SX TK
def inK (l : List Key) (x : Key) : Bool := l.any fun y => decide (y = x)
def addK (l : List Key) (x : Key) : List Key := if inK l x = true then l else l ++ [x]
/-- the keys met so far, each once -/
def metK (kk : Nat → Key) : Nat → List Key
  | 0 => []
  | i + 1 => addK (metK kk i) (kk i)
theorem inK_iff {l : List Key} {x : Key} : inK l x = true ↔ x ∈ l := by
  unfold inK
  rw [List.any_eq_true]
  exact ⟨fun ⟨y, h, e⟩ => of_decide_eq_true e ▸ h, fun h => ⟨x, h, decide_eq_true rfl⟩⟩
theorem addK_len (l : List Key) (x : Key) : (addK l x).length = if inK l x = true then l.length else l.length + 1 := by
  unfold addK
  split
  · rfl
  · rw [List.length_append, List.length_singleton]
theorem metK_len (kk : Nat → Key) : ∀ i, (metK kk i).length ≤ i
  | 0 => Nat.le_refl 0
  | i + 1 => by
    have ih := metK_len kk i
    show (addK (metK kk i) (kk i)).length ≤ i + 1
    rw [addK_len]
    split <;> omega
theorem addK_in (l : List Key) (x y : Key) : inK (addK l x) y = (inK l y || decide (y = x)) := by
  unfold addK
  by_cases h : inK l x = true
  · rw [if_pos h]
    by_cases e : y = x
    · rw [e, h]
      rfl
    · rw [decide_eq_false e, Bool.or_false]
  · rw [if_neg h]
    show (l ++ [x]).any (fun z => decide (z = y)) = _
    rw [List.any_append]
    have e2 : [x].any (fun z => decide (z = y)) = decide (y = x) := by
      by_cases e : y = x
      · rw [e]
        simp
      · rw [decide_eq_false e]
        simp
        exact fun z => e z.symm
    rw [e2]
    rfl
theorem setOf_as {P : Program} {w : World} {h : Heap} {a : Addr} {S S' : Key → Bool} {n n' : Nat} (q : h.SetOf (mixKind P w) a S n) (e : ∀ k, S k = S' k) (en : n = n') : h.SetOf (mixKind P w) a S' n' := by
  obtain rfl : S = S' := funext e
  exact en ▸ q
section
variable {P : Program} {w : World} {A : Around} {R : Result → Shared → Prop} {it : Addr} {fp wr : List Addr} {G : Array GenState → Array GenState → Prop} {n : Nat} {Y : Nat → Value → Prop} {Z : Nat → Shared → Prop}
theorem set_loop (W : WalksS P w A.in1 it fp wr G n Y Z) (D : Addr) (nf : D ∉ fp) (kk : Nat → Key) (hv : ∀ i v, Y i v → RelV (kV (kk i)) v) (room : n + 1 < scanBound) : ∀ (m i : Nat) (s : Shared), n - i = m → i ≤ n → Z i s → s.heap.SetOf (mixKind P w) D (inK (metK kk i)) (metK kk i).length →
    (∀ s2, Moved (D :: wr) G s s2 → s2.heap.SetOf (mixKind P w) D (inK (metK kk n)) (metK kk n).length → R (.ok (.ret .none)) s2) → codeAny (model P w) A (.builtin "set.update.loop" ⟨[.ref D, .ref it], []⟩) R s := by
  have nw : D ∉ wr := fun q => nf (W.sub _ q)
  have more : ∀ b ∈ wr, b ∈ D :: wr := fun _ q => .tail _ q
  have stays : ∀ {s1 s2 : Shared} {S : Key → Bool} {c : Nat}, Moved wr G s1 s2 → s1.heap.SetOf (mixKind P w) D S c → s2.heap.SetOf (mixKind P w) D S c := fun mv q => setOf_at q fun o e => mv.heap D o nw e
  intro m
  induction m with
  | zero =>
    intro i s em hi z q k
    obtain rfl : i = n := by omega
    refine codeAny_builtin PyProof.Rows.F.entry_set_update_loop (?_ : wpAny _ _ _ _ _ _)
    rw [Around.under_plainId PyProof.Rows.F.plain_set_update_loop _] <;> exact wpAny_bind (W.done s _ _ z fun s2 mv => wpAny_pure (k s2 (mv.mono more) (stays mv q)))
  | succ m ih =>
    intro i s em hi z q k
    have lt : i < n := by omega
    refine codeAny_builtin PyProof.Rows.F.entry_set_update_loop (?_ : wpAny _ _ _ _ _ _)
    rw [Around.under_plainId PyProof.Rows.F.plain_set_update_loop _]
    refine wpAny_bind (W.item i s _ _ lt z fun v s2 y z2 mv => (?_ : wpAny _ A.in1 (holding [v] (setAdd D v) >>= _) _ _ s2))
    have rv := hv i v y
    have q2 := stays mv q
    have small := metK_len kk i
    refine wpAny_bind (wpAny_holding (?_ : wpAny _ A.in1 (setAdd D v) _ _ s2))
    unfold setAdd
    refine wpAny_holding (wpAny_bind ((mixKind P w).pyHash (k := kk i) (kV_is rv) (wpAny_setAddHashed_of (knd := mixKind P w) (s := { s2 with toks := s2.toks + 1 }) (kV_is rv) (key_scan rv) q2 (by omega) fun h3 but q3 => ?_)))
    have q4 : h3.SetOf (mixKind P w) D (inK (metK kk (i + 1))) (metK kk (i + 1)).length := setOf_as q3 (fun x => (addK_in (metK kk i) (kk i) x).symm) (addK_len (metK kk i) (kk i)).symm
    refine wpAny_pure ⟨plainId_quiet PyProof.Rows.F.plain_set_update_loop _, ih (i + 1) _ (by omega) lt (W.frame _ s2 _ _ z2 (Nat.le_succ _) fun b hb o e => (but.2 b fun z => nf (z ▸ hb)).trans e) q4 fun s5 mv5 q5 => k s5 ?_ q5⟩
    exact Moved.trans W.gtrans ((mv.mono more).then_heap (Nat.le_succ _) fun b o hb e => (but.2 b fun z => hb (z ▸ .head _)).trans e) mv5
/-- an empty set as the boot lays it -/
abbrev bare (b : Bool) : Obj := ⟨.type "set", none, .set #[] 0 (.fresh 0 0 b), #[]⟩
abbrev walker (l : Addr) : Obj := ⟨.type "list_iterator", none, .fields #[.ref l, .int 0 0], #[]⟩
theorem bare_of {h : Heap} {a : Addr} {b : Bool} (e : h.get? a = some (bare b)) : h.SetOf (mixKind P w) a (inK (metK (fun _ => .inl 0) 0)) 0 := by
  refine ⟨_, #[], 0, _, e, ⟨rfl, rfl, rfl⟩, rfl, ?_, ?_, ?_, ?_, ?_⟩
  · exact fun x hx => nomatch (show x ∈ ([] : List _) by simpa using hx)
  · exact fun k => ⟨fun q => (nomatch q), fun ⟨x, hx, _⟩ => nomatch (show x ∈ ([] : List _) by simpa using hx)⟩
  · decide
  · rfl
  · rfl
variable {E : Value → Shared → Prop} {s : Shared}
theorem vals_key {ks : List Key} : ∀ {us : List Value}, Vals (ks.map kV) us → ∀ (i : Nat) (v : Value), us[i]? = some v → RelV (kV (ks.getD i (.inl 0))) v := by
  induction ks with
  | nil =>
    intro us r i v h
    cases r
    cases h
  | cons k ks ih =>
    intro us r i v h
    cases r with
    | cons r1 r2 =>
      cases i with
      | zero =>
        cases h
        exact r1
      | succ i => exact ih r2 i v h
/-- set(xs) -/
theorem call_set_keys {l : Addr} {items : Array Value} {ks : List Key} {Q : Value → Shared → Prop} (calm : A.handled = none) (hl : s.heap.IsList l items) (rv : Vals (ks.map kV) items.toList) (room : items.size + 1 < scanBound)
    (k : ∀ (h2 : Heap) (tk : Nat), h2.SetOf (mixKind P w) s.heap.objs.size (inK (metK (fun i => ks.getD i (.inl 0)) items.size)) (metK (fun i => ks.getD i (.inl 0)) items.size).length → (∀ c o, c < s.heap.objs.size → s.heap.get? c = some o → h2.get? c = some o) → Q (.ref s.heap.objs.size) { s with heap := h2, toks := tk }) :
    wpAny (model P w) A (call (.type "set") [.ref l]) Q E s := by
  have cs := PySem.F.called_set
  obtain ⟨c, tl, y1⟩ := cs.mro
  have y2 := cs.made
  have y3 := cs.sub
  have y4 := cs.notType
  have y5 := cs.canCreate
  have y6 := PySem.F.typeCall_set_1 (.ref l)
  refine wpAny_call (codeAny_of_tree (?_ : wpAny _ _ (callAny (.type "set") _) _ _ _))
  refine wpAny_pure ⟨Code.quiet_builtin _ (by decide +kernel), codeAny_builtin PySem.F.entry_type_call ?_⟩
  rw [Around.under_plain (weight_type_call_type "set" [.ref l] []) rfl]
  repeat (any_goals (first | assumption | wp_step))
  refine codeAny_mono (code_set_new_1 (.ref l) (E := E) (Q₁ := fun v t => ∃ b : Bool, v = .ref s.heap.objs.size ∧ t = { s with heap := s.heap.push (bare b) }) fun b => ⟨b, rfl, rfl⟩) fun r t hr => ?_
  match r, hr with
  | .error e, hr => exact hr
  | .ok (.ret obj), hr =>
    obtain ⟨b, rfl, rfl⟩ := hr
    have g1 : (s.heap.push (bare b)).get? s.heap.objs.size = some (bare b) := Heap.get?_push_size _ rfl
    have g2 : Shared.TypeIs { s with heap := s.heap.push (bare b) } (.ref s.heap.objs.size) "set" := ⟨_, g1, rfl⟩
    have g3 := cs.init.lookup
    have g4 := cs.init.bind (.ref s.heap.objs.size)
    repeat (any_goals (first | assumption | wp_step))
    refine codeAny_mono (codeAny_call_builtin (R := wants (fun v t => v = .none ∧ ∃ h2 tk, t = { s with heap := h2, toks := tk } ∧ h2.SetOf (mixKind P w) s.heap.objs.size (inK (metK (fun i => ks.getD i (.inl 0)) items.size)) (metK (fun i => ks.getD i (.inl 0)) items.size).length ∧
      ∀ c o, c < s.heap.objs.size → s.heap.get? c = some o → h2.get? c = some o) E) cs.init.plain PySem.F.entry_set_init (check_set_init_1 g2 ?_)) fun r2 t2 hr2 => ?_
    · have hl1 : (s.heap.push (bare b)).IsList l items := hl.push _
      obtain ⟨ob, lo, lc, ln, ld⟩ := id hl
      have lt : l < s.heap.objs.size := Heap.lt_size lo
      have n1 : l ≠ (s.heap.push (bare b)).objs.size := by
        rw [Heap.size_push]
        exact Nat.ne_of_lt (.step lt)
      have n2 : s.heap.objs.size ∉ [(s.heap.push (bare b)).objs.size, l] := by
        rw [Heap.size_push]
        intro q
        rcases List.mem_cons.mp q with q | q
        · exact absurd q (Nat.ne_of_lt (Nat.lt_succ_self _))
        · rw [List.mem_singleton.mp q] at lt
          exact Nat.lt_irrefl _ lt
      obtain ⟨q1, q2, q3, q4⟩ := ob
      obtain rfl : q1 = .type "list" := lc
      obtain rfl : q3 = .seq items ln := ld
      have lo1 : (s.heap.push (bare b)).get? l = some ⟨.type "list", q2, .seq items ln, q4⟩ := Heap.get?_push_of_some _ lo
      have z1 := PySem.F.sub_list_set
      have z2 := PySem.F.sub_list_frozenset
      have z3 : (Value.type "list" == Value.type "dict") = false := by decide
      unfold Builtin.«set.__init__» noKeywords Builtin.Frozenset.updateFrom
      generalize hI : pyIter = I
      wp_walk
      subst hI
      refine wpAny_pyIter_list hl1 (wpAny_bind (wpAny_runValue ?_))
      have calm3 : A.in1.in1.in1.handled = none := by simp [calm]
      refine set_loop ((Walks.list calm3 _ l n1 items).toS) s.heap.objs.size n2 (fun i => ks.getD i (.inl 0)) (fun i v e => vals_key rv i v (by rw [Array.getElem?_toList]; exact e)) room items.size 0 _ (Nat.sub_zero _) (Nat.zero_le _) ⟨⟨_, Heap.get?_push_size _ rfl, rfl, rfl⟩, hl1.push _⟩ (bare_of (b := b) (Heap.get?_push_of_some _ g1)) fun t mv q => ?_
      obtain ⟨h2, t2, t3, tk, t5⟩ := t
      obtain rfl : t2 = s.gens := mv.gens
      obtain rfl : t3 = s.drawn := mv.drawn
      obtain rfl : t5 = s.os := mv.os
      refine wpAny_pure (wpAny_pure ⟨rfl, h2, tk, rfl, q, fun c o lc e => ?_⟩)
      refine mv.heap c o (fun m => ?_) (Heap.get?_push_of_some _ (Heap.get?_push_of_some _ e))
      rcases List.mem_cons.mp m with m | m
      · exact Nat.lt_irrefl _ (m ▸ lc)
      · have m2 := List.mem_singleton.mp m
        rw [Heap.size_push] at m2
        exact Nat.lt_irrefl _ (Nat.lt_trans (m2 ▸ lc) (Nat.lt_succ_self _))
    · match r2, hr2 with
      | .error e, hr2 => exact hr2
      | .ok (.ret v), hr2 =>
        obtain ⟨rfl, h2, tk, rfl, q1, q2⟩ := hr2
        repeat (any_goals (first | assumption | wp_step))
        exact k _ _ q1 q2
      | .ok .next, hr2 => exact hr2.elim
      | .ok .brk, hr2 => exact hr2.elim
      | .ok .cont, hr2 => exact hr2.elim
  | .ok .next, hr => exact hr.elim
  | .ok .brk, hr => exact hr.elim
  | .ok .cont, hr => exact hr.elim
end
/-! ### len(set(xs)) -/
section
variable {X : Cx} {p p2 q pos : Pos}
def tLenSetK (K : PySem.W.Frag) (ta : TE) : TE := fun σ H Q => ta σ H fun x H1 => ∃ (l : Addr) (ks : List Key), x = .ref l ∧ SqL K H1 l (ks.map kV) ∧ ks.length ≤ 4000 ∧ Q (.int ((metK (fun i => ks.getD i (.inl 0)) ks.length).length : Nat)) H1
theorem pe_lenSetK {a : Expr} {ta : TE} (ha : PE X a ta) (hm : X.mg "len" = none) (hm2 : X.mg "set" = none) (hg : Gl X "len" := by rfl) (hg2 : Gl X "set" := by rfl) (hc : X.calm = true := by rfl)
    (na : starEach [a] X.env = (false, eval a X.env) :: starEach [] X.env := by rfl) : PE X (.Call (.Name "len" p) [.Call (.Name "set" p2) [a] [] q] [] pos) (tLenSetK X.K ta) := by
  refine ⟨fun pins s σ H Q I h => Call_ (ld_blt I hg hm boot_len (PyProof.Rows.callWith_builtin1 (PyProof.Rows.args_cons (Call_ (ld_blt I hg2 hm2 boot_set ?_)) rfl) rfl rfl))⟩
  refine PyProof.Rows.callWith_type1 (PyProof.Rows.args_cons (thn (ha.run pins s σ H _ I h) fun v t ⟨x, H1, I1, rx, l, ks, ex, sq, small, z⟩ => PyProof.Rows.args_nil ?_) na) na rfl
  subst ex
  cases rx
  obtain ⟨its, r, pl, _⟩ := I1.list sq
  have n : its.toArray.size = ks.length := by
    rw [List.size_toArray, ← r.length, List.length_map]
  have lim : (4000 : Nat) + 1 < scanBound := by decide
  refine call_set_keys (ks := ks) (I1.ok.hd hc) pl.isList (by simpa using r) (by omega) fun h2 tk so kp => PyProof.Rows.args_nil ?_
  rw [n] at so
  have le := metK_len (fun i => ks.getD i (.inl 0)) ks.length
  have I2 : Inv X pins σ H1 { t with heap := h2, toks := tk } := I1.kept fun b o e => kp b o (Heap.lt_size e) e
  obtain ⟨o, es, ep, tb, ho, ex, hd, _, _, _, hf, hn⟩ := so
  exact call_len_set ho ex hd hf (by rw [hn]; omega) ⟨.int (metK (fun i => ks.getD i (.inl 0)) ks.length).length, H1, I2.tok _, ⟨_, by rw [hn]⟩, z⟩
end
/-- as many as there are, just if none is there twice -/
theorem met_nodup (ks : List Key) : ∀ i, i ≤ ks.length → (∀ x, x ∈ metK (fun i => ks.getD i (.inl 0)) i ↔ x ∈ ks.take i) ∧ ((metK (fun i => ks.getD i (.inl 0)) i).length = i ↔ (ks.take i).Nodup)
  | 0, _ => ⟨fun x => by simp [metK], by simp [metK]⟩
  | i + 1, hi => by
    obtain ⟨a, b⟩ := met_nodup ks i (by omega)
    have e : ks.getD i (.inl 0) = ks[i] := by
      rw [List.getD_eq_getElem?_getD, List.getElem?_eq_getElem (by omega)]
      rfl
    have t : ks.take (i + 1) = ks.take i ++ [ks[i]] := by
      rw [List.take_add_one, List.getElem?_eq_getElem (by omega)]
      rfl
    have le := metK_len (fun i => ks.getD i (.inl 0)) i
    show (∀ x, x ∈ addK _ (ks.getD i (.inl 0)) ↔ _) ∧ ((addK _ (ks.getD i (.inl 0))).length = i + 1 ↔ _)
    rw [e, t]
    refine ⟨fun x => ?_, ?_⟩
    · rw [← inK_iff, addK_in, Bool.or_eq_true, inK_iff, decide_eq_true_eq, a, List.mem_append, List.mem_singleton]
    · rw [addK_len, List.nodup_append]
      by_cases h : inK (metK (fun i => ks.getD i (.inl 0)) i) ks[i] = true
      · rw [if_pos h]
        rw [inK_iff, a] at h
        constructor
        · intro q
          omega
        · intro q
          exact absurd rfl (q.2.2 _ h _ (List.mem_singleton.mpr rfl))
      · rw [if_neg h]
        rw [inK_iff, a] at h
        constructor
        · intro q
          refine ⟨b.mp (by omega), by simp, fun x hx y hy => ?_⟩
          rw [List.mem_singleton.mp hy]
          exact fun z => h (z ▸ hx)
        · intro q
          rw [b.mpr q.1]
theorem met_all (ks : List Key) : (metK (fun i => ks.getD i (.inl 0)) ks.length).length = ks.length ↔ ks.Nodup := by
  have q := (met_nodup ks ks.length (Nat.le_refl _)).2
  rw [List.take_length] at q
  exact q
end TKS
set_option maxHeartbeats 4000000
/-! Calls with ** of a dict whose keys are texts. -/
namespace TK
open PySem PySem.Spec PyProof.Rows L2
section
variable {prog : Program} {w : World} {K : Type} [DecidableEq K] {knd : KeyKind prog w K} {A : Around} {E : Value → Shared → Prop} {s : Shared}
theorem put_new {d : Addr} {kvs : List (K × Value)} {k : K} {key v : Value} {Q : Unit → Shared → Prop} (hkey : knd.is k key = true) (hm : s.heap.DictOf knd d kvs) (hno : k ∉ kvs.map (·.1))
    (hQ : ∀ h', h'.DictOf knd d (kvs ++ [(k, v)]) → Heap.SameBut d s.heap h' → Q () { s with heap := h' }) (hsz : kvs.length ≤ sizeLine) :
    wpAny (model prog w) A (dictPut d (knd.hash k) key v) Q E s := by
  obtain ⟨o, es, ep, ho, hc, hd, hk, hp, hn⟩ := hm
  have hes : es.size ≤ sizeLine := by
    have e1 := hp.length
    have e2 : es.toList.length = es.size := by simp
    omega
  unfold dictPut
  refine wpAny_bind (wpAny_dictFind_of hkey ho hd hk ?_)
  have hidx : (es.findIdx? fun e => knd.is k e.key) = none := by
    have h1 : (es.findIdx? fun e => knd.is k e.key) = kvs.findIdx? fun kv => decide (kv.1 = k) := by
      rw [← hp.findIdx k]; obtain ⟨l⟩ := es; simp
    rw [h1, List.findIdx?_eq_none_iff]
    intro x hx
    exact decide_eq_false fun e => hno (List.mem_map.mpr ⟨x, hx, e⟩)
  rw [hidx]
  refine wpAny_updateDictKeys (hz := hes) ho hd (hQ _ ⟨_, _, ep + 1, Heap.get?_update_self _ ho (Obj.isFreed_of_dict (Obj.data_mapDictKeys hd _)), hc.mapDictKeys _, Obj.data_mapDictKeys hd _, hk.push hkey _, ?_, ?_⟩ (Heap.SameBut.update ..))
  · have := hp.append hkey (knd.hash k) v
    obtain ⟨l⟩ := es
    simpa using this
  · rw [List.map_append, List.nodup_append]
    refine ⟨hn, by simp, ?_⟩
    intro a ha b hb
    simp only [List.map_cons, List.map_nil, List.mem_singleton] at hb
    subst hb
    exact fun e => hno (e ▸ ha)
theorem find_new {d : Addr} {kvs : List (K × Value)} {k : K} {key : Value} {Q : Option Nat → Shared → Prop} (hkey : knd.is k key = true) (hm : s.heap.DictOf knd d kvs) (hno : k ∉ kvs.map (·.1))
    (hQ : Q none s) : wpAny (model prog w) A (dictFind d key (knd.hash k)) Q E s := by
  obtain ⟨o, es, ep, ho, hc, hd, hk, hp, hn⟩ := hm
  refine wpAny_dictFind_of hkey ho hd hk ?_
  have hidx : (es.findIdx? fun e => knd.is k e.key) = none := by
    have h1 : (es.findIdx? fun e => knd.is k e.key) = kvs.findIdx? fun kv => decide (kv.1 = k) := by
      rw [← hp.findIdx k]; obtain ⟨l⟩ := es; simp
    rw [h1, List.findIdx?_eq_none_iff]
    intro x hx
    exact decide_eq_false fun e => hno (List.mem_map.mpr ⟨x, hx, e⟩)
  rw [hidx]
  exact hQ
theorem merge_new {d o : Addr} {more : List (K × Value)} {Q : Unit → Shared → Prop} (hdo : d ≠ o) (hoS : (o == sysModules) = false)
    (hd : s.heap.DictOf knd d []) (ho : s.heap.DictOf knd o more)
    (hQ : ∀ h', h'.DictOf knd d more → h'.DictOf knd o more → Heap.SameBut d s.heap h' → Q () { s with heap := h' }) (hsz : more.length ≤ sizeLine) :
    wpAny (model prog w) A (mergeMapping d (.ref o) true) Q E s := by
  obtain ⟨od, esd, epd, hod, hcd, hdd, hkd, hpd, hnd⟩ := id hd
  obtain ⟨oo, eso, epo, hoo, hco, hdo', hko, hpo, hno⟩ := id ho
  have hlen : more.length = eso.size := by rw [← hpo.length]; simp
  unfold mergeMapping
  refine wpAny_bind (wpAny_isInstance ho.typeIs isSubtype_dict_dict ?_)
  simp only [if_true]
  refine wpAny_bind (wpAny_specialOf ho.typeIs F.slot_dict_iter.lookup ?_)
  refine wpAny_bind (wpAny_pure ?_)
  simp only [beq_self_eq_true]
  rw [if_neg (by rw [hoS]; exact Bool.false_ne_true)]
  refine wpAny_bind (wpAny_dictEntries hod hdd ?_)
  have h0 : esd.isEmpty = true := by
    have := hpd.length
    rw [Array.isEmpty_iff, ← Array.size_eq_zero_iff]
    simpa using this
  rw [if_pos h0]
  refine wpAny_bind (wpAny_dictEntries hoo hdo' ?_)
  have hloop : (forIn eso PUnit.unit fun e (_ : PUnit) => (match e.key with
      | Value.ref a => do
        let q ← specialOf e.key (Str.ofString "__eq__")
        if (q != some (Value.builtin "object.__eq__")) = true then
            if (Array.filter (fun x => x.hash == e.hash) eso).size > 1 then do
              let _ ← (unsupported "dict.merge-into-an-empty-dict:keys-of-equal-hash" : Sem PUnit)
              pure (ForInStep.yield PUnit.unit)
            else pure (ForInStep.yield PUnit.unit)
          else pure (ForInStep.yield PUnit.unit)
      | x => pure (ForInStep.yield PUnit.unit) : Sem (ForInStep PUnit))) = pure PUnit.unit := by
    rw [← Array.forIn_toList]
    refine forIn_yield_id _ fun e he c => ?_
    obtain ⟨k, hkey, _⟩ := hko e (Array.mem_toList_iff.mp he)
    have hb := knd.byValue k _ hkey
    split
    · rename_i a ea
      rw [ea] at hb
      exact nomatch hb
    · rfl
  refine wpAny_bind (wpAny_of_eq hloop ?_)
  refine wpAny_bind (wpAny_dictEntries hoo hdo' ?_)
  refine wpAny_bind (wpAny_dictEpoch hoo hdo' ?_)
  refine wpAny_bind ?_
  rw [List.range_eq_range']
  refine wpAny_forIn_list _
      (fun rest _ s' => ∃ h' i, s' = { s with heap := h' } ∧ rest = List.range' i (eso.size - i) ∧ i ≤ eso.size ∧ h'.DictOf knd d (more.take i) ∧ h'.get? o = some oo ∧ Heap.SameBut d s.heap h')
      _ ?_ ?_ _ _ ⟨s.heap, 0, rfl, by simp, Nat.zero_le _, by simpa using hd, hoo, Heap.SameBut.refl _ _⟩
  · rintro x rest b s' ⟨h', i, rfl, hr, hi, hd', hoo', hs'⟩
    have hlt : i < eso.size := by
      rcases Nat.lt_or_ge i eso.size with h | h
      · exact h
      · rw [Nat.sub_eq_zero_of_le h] at hr; simp at hr
    obtain ⟨rfl, hrest⟩ : x = i ∧ rest = List.range' (i + 1) (eso.size - (i + 1)) := by
      have e : eso.size - i = (eso.size - (i + 1)) + 1 := by omega
      rw [e, List.range'_succ] at hr
      injection hr with h1 h2
      exact ⟨h1, h2⟩
    refine wpAny_bind (wpAny_dictEntries hoo' hdo' ?_)
    rw [Array.getElem?_eq_getElem hlt]
    have hl2 : x < more.length := by rw [hlen]; exact hlt
    obtain ⟨kv, hkv⟩ : ∃ kv, more[x]? = some kv := ⟨more[x]'hl2, List.getElem?_eq_getElem _⟩
    have hnk : kv.1 ∉ (more.take x).map (·.1) := by
      intro hm
      have e2 : more = more.take x ++ kv :: more.drop (x + 1) := by
        rw [List.getElem?_eq_getElem hl2] at hkv
        injection hkv with e3
        rw [← e3, List.getElem_cons_drop, List.take_append_drop]
      rw [e2, List.map_append, List.nodup_append] at hno
      exact hno.2.2 _ hm _ (List.mem_map.mpr ⟨kv, List.mem_cons_self .., rfl⟩) rfl
    obtain ⟨k, v⟩ := kv
    obtain ⟨hkey, hval⟩ := hpo.get? (e := eso[x]) (by simp [hlt]) hkv
    obtain ⟨k', hkey', hhash⟩ := hko eso[x] (Array.getElem_mem hlt)
    obtain rfl : k' = k := knd.inj _ _ _ hkey' hkey
    dsimp only
    rw [hhash, hval]
    refine wpAny_bind (wpAny_holding (wpAny_bind (find_new hkey hd' hnk ?_)))
    simp only [Option.isSome_none, Bool.false_eq_true, if_false]
    refine put_new hkey hd' hnk (fun h'' hd'' hs'' => ?_) (by rw [List.length_take]; omega)
    have hoo'' : h''.get? o = some oo := (hs''.2 o (Ne.symm hdo)).trans hoo'
    refine wpAny_bind (wpAny_dictEpoch hoo'' hdo' ?_)
    rw [if_neg (by simp)]
    refine wpAny_pure ⟨h'', x + 1, rfl, hrest, hlt, ?_, hoo'', hs'.trans hs''⟩
    rw [List.take_add_one, hkv]
    exact hd''
  · rintro b s' ⟨h', i, rfl, hr, hi, hd', hoo', hs'⟩
    have hin : i = eso.size := by
      rcases Nat.lt_or_ge i eso.size with h | h
      · have e : eso.size - i = (eso.size - (i + 1)) + 1 := by omega
        rw [e, List.range'_succ] at hr; exact nomatch hr
      · exact Nat.le_antisymm hi h
    refine wpAny_pure (hQ h' ?_ ⟨oo, eso, epo, hoo', hco, hdo', hko, hpo, hno⟩ hs')
    rw [hin, ← hlen, List.take_length] at hd'
    exact hd'
end

section
variable {prog : Program} {w : World} {A : Around} {E : Value → Shared → Prop} {s : Shared}
theorem merged_kw {f : Value} {x : Sem Value} {Q : Addr → Shared → Prop}
    (h : wpAny (model prog w) A x (fun v s1 => ∃ (o : Addr) (more : List (Key × Value)), v = .ref o ∧ s.heap.objs.size ≠ o ∧ (o == sysModules) = false ∧ s1.heap.DictOf (mixKind prog w) s.heap.objs.size [] ∧
      s1.heap.DictOf (mixKind prog w) o more ∧ more.length ≤ sizeLine ∧ ∀ h', h'.DictOf (mixKind prog w) s.heap.objs.size more → Heap.SameBut s.heap.objs.size s1.heap h' → Q s.heap.objs.size { s1 with heap := h' })
      E { s with heap := s.heap.push { cls := .type "dict", data := .dict #[] } }) :
    wpAny (model prog w) A (mergedKeywords f [(none, x)]) Q E s := by
  unfold mergedKeywords
  refine wpAny_bind (wpAny_alloc' ?_)
  refine wpAny_bind (wpAny_holding ?_)
  refine wpAny_bind ?_
  rw [List.forIn_cons]
  refine wpAny_bind ?_
  refine wpAny_bind ?_
  refine wpAny_pure (a := ()) ?_
  refine wpAny_bind (wpAny_mono h (fun v s1 h1 => ?_) fun _ _ q => q)
  obtain ⟨o, more, rfl, hne, hS, h0, hm, hz, q⟩ := h1
  refine wpAny_bind (wpAny_onRaise ?_)
  refine wpAny_holding ?_
  refine wpAny_tryCatch ?_
  refine wpAny_onRaise ?_
  refine merge_new hne hS h0 hm (fun h' hd' ho' hs' => ?_) hz
  refine wpAny_pure (a := ForInStep.yield []) ?_
  show wpAny _ _ (forIn ([] : List (Option Str × Sem Value)) _ _) _ _ _
  rw [List.forIn_nil]
  refine wpAny_pure ?_
  refine wpAny_pure (a := ()) ?_
  exact wpAny_pure (q h' hd' hs')
theorem kw_in {f : Value} {d : Addr} {ps : List (Str × Value)} {Q : List (Str × Value) → Shared → Prop} (hd : s.heap.DictOf (mixKind prog w) d (ps.map fun p => (Sum.inr p.1, p.2))) (h : Q ps s) :
    wpAny (model prog w) A (keywordsIn f d) Q E s := by
  obtain ⟨o, es, ep, ho, hc, hdat, hk, hp, hn⟩ := id hd
  unfold keywordsIn
  refine wpAny_bind (wpAny_dictEntries ho hdat ?_)
  refine wpAny_bind ?_
  rw [← Array.forIn_toList]
  refine wpAny_forIn_list _ (fun rest b s' => s' = s ∧ ∃ qs, Pairs (mixKind prog w) rest (qs.map fun p => (Sum.inr p.1, p.2)) ∧ b ++ qs = ps) _ ?_ ?_ _ _ ⟨rfl, ps, hp, rfl⟩
  · rintro e rest b s' ⟨rfl, qs, hq, rfl⟩
    cases qs with
    | nil => exact nomatch hq
    | cons p qs =>
      rw [List.map_cons] at hq
      cases hq with
      | cons h1 h2 h3 =>
        have h1' : keyIs (Sum.inr p.1) e.key = true := h1
        rcases keyIs_shape h1' with ⟨i, t, q, _⟩ | ⟨z, t, q, e1⟩
        · exact nomatch q
        · injection q with q1
          rw [e1]
          refine wpAny_pure ⟨rfl, qs, h3, ?_⟩
          rw [← q1, h2]
          simp
  · rintro b s' ⟨rfl, qs, hq, e⟩
    cases qs with
    | nil =>
      rw [List.append_nil] at e
      rw [e]
      exact wpAny_pure h
    | cons p qs => exact nomatch hq
end
/-! ### the call -/
section
variable {M : Model} {A : Around} {E : Value → Shared → Prop} {s : Shared}
theorem callWith_star {P : Heap → Prop} {args : List (Bool × Sem Value)} {pos : Pos} {f : Value} {first : List Value} {Q : Value → Shared → Prop} {keywords : List (Option Str × Sem Value)} (hst : (args.any (·.1) || keywords.any (·.1.isNone)) = true)
    (hk : ∀ h, P h → ∃ k, (k = Keeper.frame ∨ k = Keeper.machine ∨ k = Keeper.boundFrame) ∧ PySem.W.Looks M h (keeperOf f) k)
    (h : wpAny M A (evalArgs f true args keywords) (fun a s₁ => P s₁.heap ∧ wpAny M A (call f (first ++ a.pos) a.kw) Q E s₁) E s) : wpAny M A (callWith pos f first args keywords) Q E s := by
  unfold callWith
  refine wpAny_bind (wpAny_holding (wpAny_mono h (fun a s₁ h₁ => wpAny_bind (wpAny_standAt ?_)) fun _ _ x => x))
  obtain ⟨k, hk', L⟩ := hk _ h₁.1
  simp only [hst]
  refine wpAny_bind (L.here ?_)
  have tail : ∀ {t : Sem Value}, wpAny M A t Q E s₁ → wpAny M A (t >>= fun r => holding [r] point >>= fun _ => pure r) Q E s₁ :=
    fun ht => wpAny_bind (wpAny_mono ht (fun r s₂ hr => wpAny_bind (wpAny_holding (wpAny_point (wpAny_pure hr)))) fun _ _ x => x)
  have marked (mk : Value) : wpAny M A (callMarked mk f (first ++ a.pos) a.kw) Q E s₁ := by unfold callMarked; exact Calls.wpAny_keep h₁.2
  rcases hk' with rfl | rfl | rfl <;> dsimp only <;> first | exact tail (marked _) | exact tail (wpAny_operateT h₁.2)
theorem args_ss {f : Value} {x : Sem Value} {Q : Args → Shared → Prop}
    (h : wpAny M A (mergedKeywords f [(none, x)]) (fun d s1 => wpAny M A (keywordsIn f d) (fun kw s2 => Q ⟨[], kw⟩ s2) E s1) E s) : wpAny M A (evalArgs f true [] [(none, x)]) Q E s := by
  unfold evalArgs
  show wpAny M A (spliced [] >>= _) Q E s
  refine wpAny_bind (Calls.spliced_nil ?_)
  refine wpAny_bind (wpAny_pure ?_)
  refine wpAny_holding ?_
  rw [if_neg (by simp)]
  refine wpAny_bind (wpAny_mono h (fun d s1 h1 => ?_) fun _ _ q => q)
  refine wpAny_bind (wpAny_pure ?_)
  exact wpAny_bind (wpAny_holding (wpAny_mono h1 (fun kw s2 h2 => wpAny_pure h2) fun _ _ q => q))
end
/-- the dict that stands for the keywords ks with the values zs -/
def dkOf (ks : List Str) (zs : List V) : List (Key × V) := (ks.zip zs).map fun p => (Sum.inr p.1, p.2)
theorem kv_zip : ∀ {ks : List Str} {zs : List V} {vs : List (Key × Value)}, ks.length = zs.length → KV (dkOf ks zs) vs → ∃ ws, Vals zs ws ∧ vs = (ks.zip ws).map fun p => (Sum.inr p.1, p.2)
  | [], [], vs, _, r => by
    cases r
    exact ⟨[], .nil, rfl⟩
  | [], _ :: _, _, h, _ => nomatch h
  | _ :: _, [], _, h, _ => nomatch h
  | k :: ks, z :: zs, vs, h, r => by
    cases r with
    | @cons a b as bs q t =>
      obtain ⟨ws, rw', e⟩ := kv_zip (Nat.succ.inj h) t
      obtain ⟨b1, b2⟩ := b
      have q1 : (Sum.inr k : Key) = b1 := q.1
      subst q1
      exact ⟨b2 :: ws, .cons q.2 rw', by rw [e]; rfl⟩
/-- C(**d): d's keys are the names; a new dict is laid first, then the instance -/
def tMakeSS (C : Addr) (P : List Str → (List V → List V → List V) → Prop) (sp : Sp) (E : XK) (t : TE) : TE := fun σ H Q => ∀ p, H p = none → t σ (upd H p (.dK [])) fun y H1 => H1 p = some (.dK []) ∧ ∃ a ks zs gV, y = .ref a ∧ p ≠ a ∧ Rd H1 a (.dK (dkOf ks zs)) ∧ ks.length = zs.length ∧ P ks gV ∧
  ∀ x dx, upd H1 p (.dK (dkOf ks zs)) x = none → upd H1 p (.dK (dkOf ks zs)) dx = none → dx ≠ x →
    sp (gV [.ref x] zs) (upd (upd (upd H1 p (.dK (dkOf ks zs))) dx (.own x)) x (.ins C dx [])) (fun v H3 => v = .non ∧ Q (.ref x) H3) E
section
variable {X : Cx} {CX : CXT} {k : Nat} {f C : Addr} {fd : FuncData} {ps : List Str} {sp : Sp} {E : XK} {x : Str} {p pos kp : Pos} {e : Expr} {t : TE} {P : List Str → (List V → List V → List V) → Prop}
theorem pe_makeSS (M : Mk X.K C f) (F : FnOk X.prog X.w X.K X.mg X.base CX k f fd ps sp) (hr : Room (k + 1) X.A) (hg : Gl X x) (hm : X.mg x = some (.ref C)) (hb : ∀ ks gV, P ks gV → ∃ g, KBn X.K fd ps 1 ks g gV) (hx : Passes CX X E) (he : PE X e t)
    (hdb : (x == ("__debug__" : Str)) = false := by decide) : PE X (.Call (.Name x p) [] [⟨none, e, kp⟩] pos) (tMakeSS C P sp E t) := by
  refine ⟨fun pins s σ H Q I h => ?_⟩
  refine wpAny_Call_Name_kw (ld_glob I hg hm ?_ hdb)
  refine callWith_star (P := X.K.In) rfl (PySem.W.keeps_K M.kp) ?_
  have hn := I.hok.fresh (Nat.le_refl s.heap.objs.size)
  have I1 := I.laid (a := s.heap.objs.size) (o := .dK []) (h' := s.heap.push { cls := .type "dict", data := .dict #[] }) (t' := s.toks) (fun _ _ q => Heap.get?_push_of_some _ q) (Nat.le_refl _) (dk_empty s.heap I.big)
  refine args_ss (merged_kw ?_)
  show wpAny _ _ (eval e X.env >>= fun v => standAt pos >>= fun _ => pure v) _ _ _
  refine wpAny_bind (thn (he.run pins _ σ _ _ I1 (h _ hn)) fun u s2 ⟨y, H2, I2, ry, e0, a, ks, zs, gV, ey, hpa, ha, hl, hP, q⟩ => ?_)
  refine wpAny_bind (wpAny_standAt (wpAny_pure ?_))
  subst ey
  cases ry
  obtain ⟨z, hd, vs, rel, dd⟩ := dk_rd I2.hok ha
  obtain ⟨ws, rz, ev⟩ := kv_zip hl rel
  subst ev
  obtain ⟨z0, hd0, vs0, r0, dd0⟩ := dk_of I2.hok e0
  cases r0
  refine ⟨a, _, rfl, hpa, hd, dd0, dd, by rw [← rel.length]; exact z, fun h' dd' hs' => ?_⟩
  have he : ∃ q, h'.get? s.heap.objs.size = some q := let ⟨q, _, _, hq, _⟩ := dd'; ⟨q, hq⟩
  have I3 := d_write (t' := s2.toks) I2 (by rw [e0]; exact True.intro) hs' he (dk_new z hd0 rel dd')
  refine kw_in dd' ⟨I3.kIn, ?_⟩
  obtain ⟨g, hbn⟩ := hb ks gV hP
  exact run_makeK (us := []) (vs := []) M F hr hbn hx I3 .nil rz rfl hl.symm q
end

/-! ### d.update(e) -/
/-- d.update(e): both with keys ints and texts -/
def tDUpd (td te : TE) : TE := fun σ H Q => td σ H fun x H1 => ∃ a, x = .ref a ∧ IsD H1 a ∧ te σ H1 fun y H2 => ∃ b kvs more, y = .ref b ∧ a ≠ b ∧ H2 a = some (.dK kvs) ∧ Rd H2 b (.dK more) ∧ kvs.length + more.length ≤ sizeLine ∧
  Q .non (upd H2 a (.dK (mergeK kvs more)))
section
variable {X : Cx} {o e : Expr} {apos cpos : Pos} {td te : TE}
theorem pe_dupd (ho : PE X o td) (he : PE X e te) (m : M1 X o "update" apos e cpos) : PE X (.Call (.Attribute o "update" apos) [e] [] cpos) (tDUpd td te) := by
  refine ⟨fun pins s σ H Q I h => ?_⟩
  refine wpAny_Call_method m.base m.few m.line PySem.F.plainAttrs_dict PySem.F.slot_dict_update PySem.F.type_dict_update (thn (ho.run pins s σ H _ I h) fun u s1 ⟨x, H1, I1, rx, a, ex, d, q1⟩ => ?_)
  subst ex
  obtain rfl : u = Value.ref a := rx
  obtain ⟨t1, t2, _⟩ := isD_at I1 d
  refine ⟨t1, t2, ?_⟩
  rw [m.trees]
  refine Calls.callWith_builtin rfl (Calls.evalArgs_plain (Calls.spliced_cons (thn (he.run pins s1 σ H1 _ I1 q1) fun iv s2 ⟨y, H2, I2, ry, b, kvs, more, ey, hab, ea, eb, hz, q2⟩ => Calls.spliced_nil ?_)))
  subst ey
  obtain rfl : iv = Value.ref b := ry
  obtain ⟨z, hd, vs, rel, dd⟩ := dk_of I2.hok ea
  obtain ⟨zb, hb, ws, relb, db⟩ := dk_rd I2.hok eb
  show wpAny (model X.prog X.w) _ (call (.builtin "dict.update") [.ref a, .ref b]) _ _ _
  refine call_meetsIn PySem.F.slot_dict_update dd.typeIs PySem.F.entry_dict_update (PySem.F.args_dict_update_2 _ _) (meets_dict_update (mixKind X.prog X.w) a b hab hb) ⟨vs, ws, dd, db, by rw [← rel.length, ← relb.length]; exact hz, fun h' dd' _ hs => ?_⟩
  have he : ∃ q, h'.get? a = some q := let ⟨q, _, _, hq, _⟩ := dd'; ⟨q, hq⟩
  exact ⟨.non, _, d_write (t' := s2.toks) I2 (by rw [ea]; exact True.intro) hs he (dk_new (Nat.le_trans (length_mergeK more kvs) hz) hd (relb.merge rel) dd'), rfl, q2⟩
end
end TK
set_option maxHeartbeats 4000000
/-! The binding of C(**d) where all defaults are None: by names, whatever d's keys are. -/
namespace TK
open PySem PySem.Spec PyProof.Rows L2
open PySem.W (Looks)
theorem lookup_app {n : Str} {t : Sl} {v : Value} : ∀ {l : Sl}, l.lookup n = some v → (l ++ t).lookup n = some v
  | [], h => by cases h
  | (a, b) :: r, h => by
    rw [List.cons_append, List.lookup_cons]
    rw [List.lookup_cons] at h
    by_cases e : (n == a) = true
    · rw [e] at h ⊢
      exact h
    · rw [show (n == a) = false by simpa using e] at h ⊢
      exact lookup_app h
theorem lookup_snoc {n : Str} {v : Value} : ∀ {l : Sl}, l.lookup n = none → (l ++ [(n, v)]).lookup n = some v
  | [], _ => by rw [List.nil_append, List.lookup_cons, beq_self_eq_true]
  | (a, b) :: r, h => by
    rw [List.cons_append, List.lookup_cons]
    rw [List.lookup_cons] at h
    by_cases e : (n == a) = true
    · rw [e] at h
      cases h
    · rw [show (n == a) = false by simpa using e] at h ⊢
      exact lookup_snoc h
theorem lookup_snoc_ne {n m : Str} {v : Value} (hne : n ≠ m) : ∀ {l : Sl}, (l ++ [(m, v)]).lookup n = l.lookup n
  | [] => by
    rw [List.nil_append, List.lookup_cons, show (n == m) = false by simpa using hne]
  | (a, b) :: r => by
    rw [List.cons_append, List.lookup_cons, List.lookup_cons, lookup_snoc_ne hne]
theorem fold_look {dv : Str → Value} {n : Str} : ∀ (L : List Str) (s : Sl × List Str), (L.foldl (g2 dv) s).1.lookup n = match s.1.lookup n with
    | some v => some v
    | none => if n ∈ L then some (dv n) else none
  | [], s => by
    rw [List.foldl_nil]
    cases s.1.lookup n <;> rfl
  | m :: L, s => by
    rw [List.foldl_cons, fold_look L]
    unfold g2
    by_cases hm : (s.1.lookup m).isNone = true
    · rw [if_pos hm]
      by_cases e : n = m
      · subst e
        rw [Option.isNone_iff_eq_none] at hm
        rw [hm]
        show (match (s.1 ++ [(n, dv n)]).lookup n with | some v => some v | none => _) = _
        rw [lookup_snoc hm]
        simp
      · show (match (s.1 ++ [(m, dv m)]).lookup n with | some v => some v | none => _) = _
        rw [lookup_snoc_ne e]
        cases s.1.lookup n with
        | some v => rfl
        | none => simp [e]
    · rw [if_neg hm]
      show (match s.1.lookup n with | some v => some v | none => _) = _
      cases q : s.1.lookup n with
      | some v => rfl
      | none =>
        have e : n ≠ m := fun e => by rw [← e, q] at hm; exact hm rfl
        simp [e]
def byName (L ks : List Str) (ws : List Value) : List Value := L.map fun n => ((ks.zip ws).lookup n).getD .none
def byNameV (L ks : List Str) (zs : List V) : List V := L.map fun n => ((ks.zip zs).lookup n).getD .non
theorem bindR_eq {self : Str} {L : List Str} {u : Value} {kw : Sl} (hs : self ∉ L) :
    bindR self L u kw (fun _ => .none) = (self :: L).zip (u :: L.map fun n => (kw.lookup n).getD .none) := by
  have e0 : ∀ n, ((L.foldl (g2 fun _ => Value.none) ((self, u) :: kw, [])).1.lookup n) = match ((self, u) :: kw).lookup n with
    | some v => some v
    | none => if n ∈ L then some .none else none := fun n => fold_look L _
  unfold bindR
  rw [List.singleton_append, List.filterMap_cons, List.zip_cons_cons]
  have e1 : ((L.foldl (g2 fun _ => Value.none) ((self, u) :: kw, [])).1.lookup self) = some u := by
    rw [e0, List.lookup_cons, beq_self_eq_true]
  rw [e1]
  show (self, u) :: _ = _
  congr 1
  have e2 : ∀ M : List Str, (∀ n ∈ M, n ∈ L) → M.filterMap (fun n => ((L.foldl (g2 fun _ => Value.none) ((self, u) :: kw, [])).1.lookup n).map fun x => (n, x)) = M.zip (M.map fun n => (kw.lookup n).getD .none) := by
    intro M
    induction M with
    | nil => intro _; rfl
    | cons n M ih =>
      intro h
      have hn := h n (List.mem_cons_self ..)
      have hne : (n == self) = false := by
        rw [beq_eq_false_iff_ne]
        intro e
        exact hs (e ▸ hn)
      have e3 : ((L.foldl (g2 fun _ => Value.none) ((self, u) :: kw, [])).1.lookup n) = some ((kw.lookup n).getD .none) := by
        rw [e0, List.lookup_cons, hne]
        cases kw.lookup n with
        | some v => rfl
        | none => rw [if_pos hn]; rfl
      rw [List.filterMap_cons, e3, List.map_cons, List.zip_cons_cons, ih fun m hm => h m (List.mem_cons_of_mem _ hm)]
      rfl
  exact e2 L fun _ h => h
theorem rel_look {n : Str} : ∀ {ks : List Str} {zs : List V} {ws : List Value}, Vals zs ws → RelV (((ks.zip zs).lookup n).getD .non) (((ks.zip ws).lookup n).getD .none)
  | [], _, _, _ => rfl
  | _ :: _, _, _, .nil => rfl
  | k :: ks, _, _, .cons h t => by
    rw [List.zip_cons_cons, List.zip_cons_cons, List.lookup_cons, List.lookup_cons]
    by_cases e : (n == k) = true
    · rw [e]
      exact h
    · rw [show (n == k) = false by simpa using e]
      exact rel_look t
theorem rel_byName {ks : List Str} {zs : List V} {ws : List Value} (r : Vals zs ws) : ∀ L : List Str, Vals (byNameV L ks zs) (byName L ks ws)
  | [] => .nil
  | _ :: L => .cons (rel_look r) (rel_byName r L)
/-- the keys that C(**d) may have, and what comes to the parameters -/
def SsOk (self : Str) (L need : List Str) (ks : List Str) (gV : List V → List V → List V) : Prop := (self :: ks).Nodup ∧ (∀ k ∈ ks, k ∈ L) ∧ (∀ k ∈ need, k ∈ ks) ∧ gV = fun vs zs => vs ++ byNameV L ks zs
theorem kbn_ss {K : PySem.W.Frag} {x qual : Str} {params : Arguments} {body : List Stmt} {scope : Scope} {kws : List (Str × V)} {f : Addr} {fd : FuncData} {L need : List Str} {self : Str} (F : FunD K x qual params body scope [] kws f fd) (hkws : kws ≠ [])
    (hnon : ∀ q ∈ kws, q.2 = .non) (h1 : params.posonlyargs.map (·.arg) = []) (h2 : params.args.map (·.arg) = [self]) (h3 : params.kwonlyargs.map (·.arg) = L) (h4 : params.vararg = none) (h5 : params.kwarg = none) (hs : self ∉ L)
    (hcov : ∀ n ∈ L, n ∈ need ∨ n ∈ kws.map (·.1)) : ∀ ks gV, SsOk self L need ks gV → ∃ g, KBn K fd (self :: L) 1 ks g gV := by
  rintro ks gV ⟨nd, hin, hnd, rfl⟩
  obtain ⟨oc, od, dV, kV, doc, pm, an, cdv, ct, osl, rfl, lk, hcd, hD, hK⟩ := F.ex
  have edV : dV = .none := by
    rcases hD with ⟨_, e⟩ | ⟨e, _⟩
    · exact e
    · exact absurd rfl e
  subst edV
  rcases hK with e | ⟨D, rfl, hq⟩
  · exact absurd e hkws
  refine ⟨fun us ws => us ++ byName L ks ws, ⟨fun s us ws X l1 l2 => ?_, fun r1 r2 => r1.append (rel_byName r2 L)⟩⟩
  obtain ⟨u, rfl⟩ : ∃ u, us = [u] := by
    cases us with
    | nil => cases l1
    | cons a r =>
      cases r with
      | nil => exact ⟨a, rfl⟩
      | cons b r => cases l1
  refine BindsTo.of_looks fun M => ?_
  show Looks M s.heap _ ((self :: L).zip (u :: byName L ks ws))
  unfold byName
  rw [← bindR_eq hs]
  refine bind_kw X h1 h2 h3 h4 h5 (List.map_fst_zip (by omega)) nd hin _ fun n hn nk => ?_
  rcases hcov n hn with h | h
  · exact absurd (hnd n h) nk
  · obtain ⟨q, hq1, rfl⟩ := List.mem_map.mp h
    obtain ⟨v, e1, e2⟩ := hq q hq1
    rw [hnon q hq1] at e2
    cases (show v = Value.none from e2)
    exact e1
/-- a class that is made by C(**d) -/
structure MakS (P : Program) (w : World) (K : PySem.W.Frag) (mg : Str → Option Value) (base : Heap) (k : Nat) (x : Str) (C : Addr) (sp : Sp) (S : List Str → (List V → List V → List V) → Prop) : Prop where
  ex : ∃ (f : Addr) (fd : FuncData) (ps : List Str), Mk K C f ∧ FnOk P w K mg base L2.CX0 k f fd ps sp ∧ mg x = some (.ref C) ∧ ∀ ks gV, S ks gV → ∃ g, KBn K fd ps 1 ks g gV
section
variable {X : Cx} {k j : Nat} {C : Addr} {sp : Sp} {x : Str} {p pos kp : Pos} {e : Expr} {t : TE} {S : List Str → (List V → List V → List V) → Prop}
theorem pe_mkSS (c : MakS X.prog X.w X.K X.mg X.base k x C sp S) (hr : Room j X.A) (hk : k + 1 ≤ j) (hg : Gl X x) (he : PE X e t) (hdb : (x == ("__debug__" : Str)) = false := by decide) : PE X (.Call (.Name x p) [] [⟨none, e, kp⟩] pos) (tMakeSS C S sp L2.E0 t) := by
  obtain ⟨f, fd, ps, M, F, hm, b⟩ := c.ex
  exact pe_makeSS M F (hr.mono hk) hg hm b L2.pass0 he hdb
end
end TK
set_option maxHeartbeats 2000000
/-! Methods called with keywords. -/
namespace TK
open PySem PySem.Spec PyProof.Rows L2
structure MetK (P : Program) (w : World) (K : PySem.W.Frag) (mg : Str → Option Value) (base : Heap) (k : Nat) (C : Addr) (m : Str) (sp : Sp) (n : Nat) (ks : List Str) (gV : List V → List V → List V) : Prop where
  ex : ∃ (f : Addr) (fd : FuncData) (ps : List Str) (g : List Value → List Value → List Value), Cls K C ∧ Meth K C m f ∧ FnOk P w K mg base L2.CX0 k f fd ps sp ∧ KBn K fd ps (n + 1) ks g gV
def tMethK (C : Addr) (m : Str) (sp : Sp) (n l : Nat) (gV : List V → List V → List V) (ta : TE) (t tk : TA) : TE := fun σ H Q => ta σ H fun x H1 => ∃ a dx fs, x = .ref a ∧ H1 a = some (.ins C dx fs) ∧ fs.lookup m = none ∧
  t σ H1 fun vs H2 => tk σ H2 fun zs H3 => vs.length = n ∧ zs.length = l ∧ sp (gV (x :: vs) zs) H3 Q L2.E0
section
variable {X : Cx} {k j n : Nat} {C : Addr} {m : Str} {sp : Sp} {pos apos : Pos} {o e : Expr} {es : List Expr} {kws : List Keyword} {ks : List Str} {ta : TE} {t tk : TA} {gV : List V → List V → List V}
theorem run_fnK {k : Nat} {f : Addr} {fd : FuncData} {ps ks : List Str} {g : List Value → List Value → List Value} {pins : List (Addr × Obj)} {σ : L2.St} {H : Hp} {s : Shared} {Q : VK} {us ws : List Value} {vs zs : List V} (F : FnOk X.prog X.w X.K X.mg X.base L2.CX0 k f fd ps sp) (hr : Room k X.A) (hb : KBn X.K fd ps n ks g gV)
    (I : Inv X pins σ H s) (r : Vals vs us) (rz : Vals zs ws) (l1 : vs.length = n) (l2 : zs.length = ks.length) (h : sp (gV vs zs) H Q L2.E0) : wpAny (model X.prog X.w) X.A (call (.ref f) us (ks.zip ws)) (EP X pins σ Q) X.xe s := by
  have r2 := hb.rel r rz
  refine wpAny_call (codeAny_mono (F.run X.A X.stack s H ⟨us, ks.zip ws⟩ (g us ws) (gV vs zs) Q L2.E0 hr I.env0 (hb.to s us ws I.kIn (r.length.symm.trans l1) (rz.length.symm.trans l2)) r2 h) fun r s' hq => ?_)
  cases r with
  | error e => exact L2.pass0 pins σ H s e s' I hq
  | ok fl =>
    cases fl with
    | ret u => exact I.after hq
    | next => exact False.elim hq
    | brk => exact False.elim hq
    | cont => exact False.elim hq
theorem pe_mtK {pl : Sem Bool} (c : MetK X.prog X.w X.K X.mg X.base k C m sp n ks gV) (hr : Room j X.A) (hk : k ≤ j) (he : PE X o ta) (ha : PA X (e :: es) t) (hkw : PK X kws tk)
    (hall : (backToKw pos (keywordEach kws X.env)).all (·.1.isSome) = true := by rfl) (hks : (backToKw pos (keywordEach kws X.env)).filterMap (·.1) = ks := by rfl)
    (hst : starEach (e :: es) X.env = (false, eval e X.env) :: starEach es X.env := by rfl) (hpl : ((backTo pos (starEach (e :: es) X.env)).any (·.1) || (backToKw pos (keywordEach kws X.env)).any (·.1.isNone)) = false := by rfl)
    (ht : eval (.Call (.Attribute o m apos) (e :: es) kws pos) X.env = (do
      let ov ← eval o X.env
      standAt apos.atName
      let (f, first) ← holding [ov] (getMethod ov m pl)
      callWith pos f first (backTo pos (starEach (e :: es) X.env)) (backToKw pos (keywordEach kws X.env))) := by rfl) :
    PE X (.Call (.Attribute o m apos) (e :: es) kws pos) (tMethK C m sp n ks.length gV ta t tk) := by
  obtain ⟨f, fd, ps, g, hc, hm, F, b⟩ := c.ex
  refine ⟨fun pins s σ H Q I h => ?_⟩
  refine PySem.W.methodCall_KW (pl := pl) (thn (he.run pins s σ H _ I h) fun u s1 ⟨x, H1, I1, rx, a, dx, fs, ex, ea, l, q⟩ => ?_) ht
  subst ex
  obtain rfl : u = Value.ref a := rx
  refine getmeth_ok I1 ea hc hm l ?_
  refine PySem.W.callWith_KW (first := [.ref a]) (h₀ := X.base) I.ok.mod.kin hm.kp hall (thn (ha.run pos pins s1 σ H1 _ I1 q) fun us s2 ⟨vs, H2, I2, r, q2⟩ => ?_) hpl hst
  refine thn (hkw.run pos pins s2 σ H2 _ I2 q2) fun ws s3 ⟨zs, H3, I3, rz, l1, l2, q3⟩ => ⟨I3.kIn, ?_⟩
  rw [hks]
  exact run_fnK (us := .ref a :: us) (vs := .ref a :: vs) F (hr.mono hk) b I3 (.cons rfl r) rz (congrArg Nat.succ l1) l2 q3
end
section
variable {P : Program} {w : World} {K : PySem.W.Frag} {mg : Str → Option Value} {base : Heap}
/-- a method with positional defaults, all of them given by keywords in their order -/
theorem metK_of {C : Addr} {n qual : Str} {params : Arguments} {body : List Stmt} {scope : Scope} {dvs : List V} {f : Addr} {fd : FuncData} {ps ks : List Str} {k m : Nat} {sp : Sp} (c : Cls K C) (me : Meth K C n f) (F : FunD K n qual params body scope dvs [] f fd) (G : FnOk P w K mg base L2.CX0 k f fd ps sp) (hd : dvs ≠ [])
    (h : ∀ (T : Addr) (kV doc pm : Value) (an : Option Addr) (cdv ct : Value) (us its ws : List Value), us.length = m + 1 → its.length = dvs.length → ws.length = ks.length →
      ∃ k, bindArgs (PySem.W.fnOf n qual params body scope (.ref T) kV doc pm an cdv ct) ⟨us, ks.zip ws⟩ = seqItems? (.ref T) >>= k ∧ k (some its.toArray) = pure (ps.zip (us ++ ws))) : MetK P w K mg base k C n sp m ks (fun vs zs => vs ++ zs) := by
  obtain ⟨its, b⟩ := F.kbindsD (m + 1) ks (fun us _ ws => us ++ ws) hd (fun r1 _ r3 => r1.append r3) h
  exact ⟨f, fd, ps, _, c, me, G, b⟩
end
end TK
set_option maxHeartbeats 2000000
/-! Own exceptions over own classes over ValueError, whose __init__ says super().__init__(text) and keeps one field. -/
namespace TKE
open PySem PySem.Spec PyProof.Rows L2
structure SupTxt (K : PySem.W.Frag) (P : Program) (C fI cda cc : Addr) : Prop where
  oex : OexC K C
  iC : PySem.W.findIn K (.ref C) "__init__" = some (some (.ref fI))
  tI : PySem.W.typeIn K (.ref fI) = some (.type "function")
  sup : PySem.W.ks_superIn K C C "__init__" = some (some (.builtin "ValueError.__init__"))
  subVE : PySem.W.subIn K (.ref C) (.type "ValueError") = some true
  mroC : PySem.W.mroIn K C (.ref C) = some true
  hop : PySem.W.nsIn K cStatics "thirdparty.any" = some none
  code : ∃ ccl cdd vs ccs file tf, K.lookup cda = some ⟨ccl, cdd, .fields vs, ccs⟩ ∧ vs[2]? = some (.str file tf) ∧ ((P.main.file : Str) == file) = true
  cell : ∃ cl cld csl, K.lookup cc = some ⟨cl, cld, .cell (some (.ref C)), csl⟩
section
variable {prog : Program} {w : World} {A : Around} {E : Value → Shared → Prop} {h : Heap} {g : Array GenState} {d : Drawn} {t : Nat} {os : OsState}
/-- the bound ValueError.__init__, called -/
theorem mw_call {nm q : Str} {C N u a t0 : Addr} {bs bm : List Value} {hdct : Bool} {sn : List Str} {sub : List Value} {ab : Bool} {col : Option Bool} {dd : Option Addr} {k0 k1 k2 k3 k5 : Option Value} {rest : List Value} {Q : Value → Shared → Prop}
    (hC : h.get? C = some (excClassObj nm q C N bs bm hdct sn sub ab col dd k0 k1 k2 k3 k5 "ValueError.__new__"))
    (he : h.get? a = some ({ cls := .ref C, dict := none, data := .fields #[.ref t0, .none, .none, .none, .bool false, .none] } : Obj)) (hu : h.get? u = some (PySem.W.kxs_mw "ValueError.__init__" a)) (hz : rest.length ≤ sizeLine)
    (hq : ∀ h' t', (∀ b o, b ≠ a → h.get? b = some o → h'.get? b = some o) → h'.get? a = some ({ cls := .ref C, dict := none, data := .fields #[.ref t', .none, .none, .none, .bool false, .none] } : Obj) → Q .none ⟨h', g, d, t, os⟩) :
    wpAny (model prog w) A (call (.ref u) rest) Q E ⟨h, g, d, t, os⟩ := by
  have FB := F.excBase_ValueError
  refine wpAny_call (codeAny_of_tree ?_)
  change wpAny _ A.in1 (callAny (.ref u) ⟨rest, []⟩) _ _ _
  simp only [callAny]
  refine wpAny_bind (wpAny_load hu ?_)
  have em : (Value.type "method-wrapper" == Value.type "method" || Value.type "method-wrapper" == Value.type "builtin_function_or_method" || Value.type "method-wrapper" == Value.type "method-wrapper") = true := by decide
  simp only [PySem.W.kxs_mw, em, if_true]
  refine PySem.W.KFB.if_so (by decide) ?_
  refine wpAny_bind (PySem.W.check_bound_init FB.toExcCallFacts hC he rfl (wpAny_bind (wpAny_pure (wpAny_pure ?_))))
  refine ⟨plainId_quiet FB.init.plain _, codeAny_builtin FB.initEntry (PySem.W.exc_init_tree (t0 := t0) (cls := .ref C) (dv := none) (c2 := .none) (c3 := .none) (b4 := .bool false) he hz fun h' k e' _ => hq h' _ k e')⟩
end
theorem boot_super : bootBuiltins "super" = some (.type "super") := by first | boot_by_name | rfl | kernel_rfl
section
variable {X : Cx} {pins : List (Addr × Obj)} {σ : L2.St} {H : Hp} {s : Shared} {C fI cda cc a : Addr} {body : List Stmt} {p0 p1 apos pos pos' : Pos} {e : Expr} {te : TE} {pl : Sem Bool} {fd : FuncData} {ar : Arg} {Q' : Hp → Prop} {oc : Value} {od : Option Addr} {osl : Array (Option Value)}
theorem sup_stmt (T : SupTxt X.K X.prog C fI cda cc) (hfu : X.env.func = some fI) (hf : X.K.lookup fI = some ⟨oc, od, .func fd, osl⟩) (hp : (fd.params.posonlyargs ++ fd.params.args).head? = some ar) (hco : X.env.code = .ref cda)
    (hks : X.env.kindOf "super" = some .globalImplicit) (hkc : X.env.kindOf "__class__" = some .free) (hcl : X.env.cells.lookup ("__class__" : Str) = some cc) (hka : X.env.kindOf ar.arg = some .local) (hN : X.N[0]? = some ar.arg)
    (hm : X.mg "super" = none) (htop : (X.prog.main.scope.names.lookup ("super" : Str)).isSome = false)
    (I : Inv X pins σ H s) (hσ : σ[0]? = some (some (.ref a))) (ha : H a = some (exo a C none)) (he : PE X e te) (h : te σ H fun v H1 => H1 a = some (exo a C none) ∧ Q' H1 ∧ [v].length = 1)
    (hev : eval (.Call (.Attribute (.Call (.Name "super" p0) [] [] p1) "__init__" apos) [e] [] pos) X.env = (do
      let ov ← attributeBase (.Call (.Name "super" p0) [] [] p1) "__init__" X.env (eval (.Call (.Name "super" p0) [] [] p1) X.env)
      standAt apos.atName
      let (f, first) ← holding [ov] (getMethod ov "__init__" pl)
      callWith pos f first (backTo pos (starEach [e] X.env)) []))
    (hi : interactive X.env = false) (hsw : swapsWith (.Call (.Attribute (.Call (.Name "super" p0) [] [] p1) "__init__" apos) [e] [] pos) none pos'.line X.env = pure false)
    (hst : starEach [e] X.env = (false, eval e X.env) :: starEach [] X.env) :
    _root_.PySem.wpAt (model X.prog X.w) X.A (.func body X.env) (exec (.Expr (.Call (.Attribute (.Call (.Name "super" p0) [] [] p1) "__init__" apos) [e] [] pos) pos') X.env) (fun fl s' => fl = .next ∧ ∃ H1, Inv X pins σ H1 s' ∧ Q' H1) X.xe s := by
  have KX := I.kIn
  refine ks_wpAt_Expr_any (ks_wpAt_MethodCall (pl := pl) ?_ hev) hi hsw
  obtain ⟨ccl, cdd, vs, ccs, file, tf, hcd, hvs, hfile⟩ := T.code
  obtain ⟨cl, cld, csl, hcc⟩ := T.cell
  refine ks_wpAt_super_base hks hkc (by decide) hfu (KX _ _ hf) rfl hp hco (KX _ _ hcd) rfl hvs hfile htop ?_
  obtain ⟨mb, hb1, hb2⟩ := I.mod.blt
  refine PySem.W.ks_loadName_global I.ok.kind hks (Calls.loadGlobal_builtin (by rw [I.ok.glob]; exact I.mod.glob.keeps I.bk) hm (by rw [I.ok.blt]; exact hb1.keeps I.bk) ((hb2 _ (by decide)).trans boot_super) ⟨rfl, ?_⟩)
  refine wpAny_loadName_free I.ok.kind hkc hcl ⟨_, KX _ _ hcc, rfl⟩ ?_
  obtain ⟨m, hns, hloc⟩ := I.loc
  obtain ⟨u, ru, hlk⟩ := hloc 0 ar.arg (.ref a) hN hσ (.inl hka)
  obtain rfl : u = Value.ref a := ru
  have hv : m ar.arg = some (.ref a) := by
    rcases hlk with ⟨_, z⟩ | ⟨z, _⟩
    · exact z
    · rw [hka] at z
      rcases z with z | z <;> cases z
  refine wpAny_loadName_local I.ok.kind hka hns hv ?_
  obtain ⟨nm, q, N, bs, bm, sn, sub, ab, col, dd, k0, k1, k2, k3, k5, hC, hbm⟩ := T.oex.cls
  obtain ⟨t1, ho⟩ := exo_at I.hok ha
  have hkC := KX _ _ hC
  obtain ⟨hp0, g, d, t, os⟩ := s
  refine ks_wpAny_isType_cls hkC rfl ⟨rfl, ?_⟩
  refine ks_wpAny_call_super hkC rfl ho rfl (fun c z => nomatch z) (PySem.W.looks_mroIn KX T.mroC) (fun h1 e1 kk => ?_)
  have I1 : Inv X pins σ H ⟨h1, g, d, t, os⟩ := I.kept (t' := t) kk
  have ho1 := kk _ _ ho
  have aC : a ≠ C := fun z => by
    rw [z] at ho
    have := ho.symm.trans hkC
    cases this
  have hcls : PySem.W.clsIn X.K C = some { name := nm, bases := bs, mro := .ref C :: bm, ns := N, qualname := q, hasDict := true, slotNames := sn, subclasses := sub, abstract := ab, collection := col, hasDel := false } := by unfold PySem.W.clsIn; rw [hC] <;> rfl
  have hsup := T.sup
  unfold PySem.W.ks_superIn at hsup
  rw [hcls] at hsup
  have II : PySem.W.InstAt h1 a ({ cls := .ref C, dict := none, data := .fields #[.ref t1, .none, .none, .none, .bool false, .none] } : Obj) C none := ⟨ho1, rfl, rfl, trivial⟩
  refine PySem.W.kxs_getMethod PySem.W.kxs_ValueError e1 (PySem.W.looks_opaque I1.kIn T.hop) (fun A Q E s k q => wpAny_bind ((PySem.W.looks_clsIn I1.kIn hcls) A _ E s k (wpAny_pure q))) rfl I1.kIn hsup (II.type.andThen (PySem.W.looks_subIn I1.kIn T.subVE)) aC (by decide) ?_
  have I2 : Inv X ((h1.objs.size, PySem.W.kxs_mw "ValueError.__init__" a) :: pins) σ H ⟨h1.push (PySem.W.kxs_mw "ValueError.__init__" a), g, d, t + 1, os⟩ :=
    ClX.pin_new I1 (fun b o z => Heap.get?_push_of_some _ z) (Nat.le_refl _) (Heap.get?_push_at rfl rfl) (fun v z => nomatch z)
  refine PySem.W.kxs_callWith (i := "ValueError.__init__") (x := a) (by rw [hst]; rfl) ?_
  rw [hst]
  refine Calls.evalArgs_plain ?_
  have hpa := (pa_cons he pa_nil hst).run pos _ _ σ H (fun vs H1 => H1 a = some (exo a C none) ∧ Q' H1 ∧ vs.length = 1) I2 h
  rw [hst] at hpa
  refine thn hpa fun us s2 ⟨vs2, H2, I3, r, q1, q2, q3⟩ => ?_
  obtain ⟨t2, ho2⟩ := exo_at I3.hok q1
  refine ⟨ClX.pin_at I3, ?_⟩
  obtain ⟨hp2, g2, d2, t2', os2⟩ := s2
  refine mw_call (I3.kIn _ _ hC) ho2 (ClX.pin_at I3) (by show us.length ≤ sizeLine; rw [← r.length, q3]; decide) fun h' t' k' e' => ⟨rfl, H2, ?_, q2⟩
  have J := (ClX.unpin I3).write (t' := t2') (x := a) (e := a) (o := exo a C none) (by rw [q1]; exact True.intro) (.inl rfl) k' ⟨_, e'⟩ (exo_ok e')
  have eu : upd H2 a (exo a C none) = H2 := by
    funext b
    by_cases hb : b = a
    · rw [hb, upd_same, q1]
    · rw [upd_ne hb]
  rw [eu] at J
  exact J
end
end TKE
set_option maxHeartbeats 2000000
set_option pp.maxSteps 300
/-! The __init__ of such an exception as a def; raising it; makers that may raise; isinstance of a caught one. -/
namespace TKE
open PySem PySem.Spec PyProof.Rows L2 NdefX
section
variable {P : Program} {w : World} {K : PySem.W.Frag} {mg : Str → Option Value} {base : Heap}
abbrev supN (x : Str) : List Str := ["self", x, "__class__"]
abbrev supF (qual : Str) (params : Arguments) (body : List Stmt) (scope : Scope) (cda cc : Addr) : NF := ⟨"__init__", qual, params, body, scope, [("__class__", cc)], cda⟩
theorem fnok_sup {C fI cda cc : Addr} {qual x : Str} {params : Arguments} {body : List Stmt} {scope : Scope} {doc pm ct : Value} {an : Option Addr} {oc : Value} {od : Option Addr} {osl : Array (Option Value)} {sp : Sp}
    {p0 p1 apos pos pos' : Pos} {e : Expr} {rest : List Stmt} {ar : Arg} {pl : Sem Bool}
    (T : SupTxt K P C fI cda cc)
    (hK : K.lookup fI = some ⟨oc, od, .func (PySem.W.fnX "__init__" qual params body scope [("__class__", cc)] .none .none doc pm an (.ref cda) ct), osl⟩) (hcd : PySem.W.codeIn K (.ref cda) qual = true)
    (S : NScope (supN x) ["self", x] ["__class__"] scope) (hsup : scope.names.lookup ("super" : Str) = some .globalImplicit) (hcls : scope.names.lookup ("__class__" : Str) = some .free)
    (hp : (params.posonlyargs ++ params.args).head? = some ar) (har : ar.arg = "self")
    (hbody : body = .Expr (.Call (.Attribute (.Call (.Name "super" p0) [] [] p1) "__init__" apos) [e] [] pos) pos' :: rest)
    (hm : mg "super" = none) (htop : (P.main.scope.names.lookup ("super" : Str)).isSome = false)
    (len : ∀ vs H Q E, sp vs H Q E → vs.length = 2)
    (hb : ∀ (A : Around) (outer : List Env) (s : Shared) (H : Hp) (vs : List V) (Q : VK) (E : XK), sp vs H Q E → ∃ (a : Addr) (y : V) (te : TE) (t2 : TS), vs = [.ref a, y] ∧ H a = some (exo a C none) ∧
      PE (ncx CX0 P w K mg base (supN x) (supF qual params body scope cda cc) fI A outer s H E) e te ∧ PSs (ncx CX0 P w K mg base (supN x) (supF qual params body scope cda cc) fI A outer s H E) rest t2 ∧
      te (startF (supN x) vs [none]) H fun v H1 => H1 a = some (exo a C none) ∧ t2 { nx := fun _ H' => Q .non H', rt := Q } (startF (supN x) vs [none]) H1 ∧ [v].length = 1)
    (hev : ∀ (A : Around) (outer : List Env) (s : Shared) (H : Hp) (E : XK), eval (.Call (.Attribute (.Call (.Name "super" p0) [] [] p1) "__init__" apos) [e] [] pos) (ncx CX0 P w K mg base (supN x) (supF qual params body scope cda cc) fI A outer s H E).env = (do
      let ov ← attributeBase (.Call (.Name "super" p0) [] [] p1) "__init__" (ncx CX0 P w K mg base (supN x) (supF qual params body scope cda cc) fI A outer s H E).env (eval (.Call (.Name "super" p0) [] [] p1) (ncx CX0 P w K mg base (supN x) (supF qual params body scope cda cc) fI A outer s H E).env)
      standAt apos.atName
      let (f, first) ← holding [ov] (getMethod ov "__init__" pl)
      callWith pos f first (backTo pos (starEach [e] (ncx CX0 P w K mg base (supN x) (supF qual params body scope cda cc) fI A outer s H E).env)) []))
    (hi : ∀ (A : Around) (outer : List Env) (s : Shared) (H : Hp) (E : XK), interactive (ncx CX0 P w K mg base (supN x) (supF qual params body scope cda cc) fI A outer s H E).env = false)
    (hsw : ∀ (A : Around) (outer : List Env) (s : Shared) (H : Hp) (E : XK), swapsWith (.Call (.Attribute (.Call (.Name "super" p0) [] [] p1) "__init__" apos) [e] [] pos) none pos'.line (ncx CX0 P w K mg base (supN x) (supF qual params body scope cda cc) fI A outer s H E).env = pure false)
    (hst : ∀ (A : Around) (outer : List Env) (s : Shared) (H : Hp) (E : XK), starEach [e] (ncx CX0 P w K mg base (supN x) (supF qual params body scope cda cc) fI A outer s H E).env = (false, eval e (ncx CX0 P w K mg base (supN x) (supF qual params body scope cda cc) fI A outer s H E).env) :: starEach [] (ncx CX0 P w K mg base (supN x) (supF qual params body scope cda cc) fI A outer s H E).env) :
    FnOk P w K mg base CX0 1 fI (PySem.W.fnX "__init__" qual params body scope [("__class__", cc)] .none .none doc pm an (.ref cda) ct) ["self", x] sp := by
  refine ⟨len, fun A outer s H args us vs Q E hr e0 hbi r hsp => ?_⟩
  have KX : K.In s.heap := e0.mod.kin.keeps fun b o z => (e0.bs b o z).1
  have lim : s.heap.NoLimit := e0.mod.nolimit.keeps fun b o z => (e0.bs b o z).1
  have hl : vs.length = (["self", x] : List Str).length := len _ _ _ _ hsp
  obtain ⟨cl, cld, csl, hcc⟩ := T.cell
  have cat : CellsAt [("__class__", cc)] ["__class__"] [none] s.heap H := by
    have hcell : s.heap.IsCell cc (some (.ref C)) := ⟨_, KX _ _ hcc, rfl⟩
    have hnone : H cc = none := (e0.bs cc _ (e0.mod.kin _ _ hcc)).2
    have key : ∀ (y : Str) (c : Addr), List.lookup y [(("__class__" : Str), cc)] = some c → c = cc ∧ y = "__class__" := by
      intro y c hy
      rw [List.lookup_cons] at hy
      by_cases q : (y == ("__class__" : Str)) = true
      · rw [q] at hy
        exact ⟨(Option.some.inj hy).symm, beq_iff_eq.mp q⟩
      · rw [show (y == ("__class__" : Str)) = false by simpa using q] at hy
        cases hy
    refine ⟨rfl, fun y c hy => ?_, fun y z c h1 h2 => ?_, fun i y hy => ?_⟩
    · obtain ⟨rfl, _⟩ := key y c hy
      exact ⟨hnone, _, hcell⟩
    · rw [(key y c h1).2, (key z c h2).2]
    · refine ⟨cc, ?_, fun v hv => ?_⟩
      · match i, hy with
        | 0, hy =>
          cases hy
          rfl
      · match i, hv with
        | 0, hv => cases hv
  obtain ⟨a, y, te, t2, ev, ha, he, h2, hq⟩ := hb A outer s H vs Q E hsp
  refine ks_codeAny_call_defAt (fd := PySem.W.fnX "__init__" qual params body scope [("__class__", cc)] .none .none doc pm an (.ref cda) ct) (body := body) (binds := (["self", x] : List Str).zip us) hr.depth (KX _ _ hK) rfl lim (PySem.W.codeRec_of KX hcd) rfl hbi S.nocell
    (fun ⟨n, _⟩ hy => S.par n (List.of_mem_zip hy).1) (fun h₁ hns kp => ?_) S.co S.gen S.kind
  have I : Inv (ncx CX0 P w K mg base (supN x) (supF qual params body scope cda cc) fI A outer s H E) [] (startF (supN x) vs [none]) H { s with heap := h₁, toks := s.toks + ((["self", x] : List Str).zip us).length } := inv_startN S hr.hd e0 hl r cat hns kp
  have hT : SupTxt (ncx CX0 P w K mg base (supN x) (supF qual params body scope cda cc) fI A outer s H E).K (ncx CX0 P w K mg base (supN x) (supF qual params body scope cda cc) fI A outer s H E).prog C fI cda cc := T
  have q1 := sup_stmt (body := body) (pl := pl) (ar := ar) hT rfl hK hp rfl hsup hcls rfl (by rw [har]; exact S.par _ (List.mem_cons_self ..)) (by rw [har]; rfl) hm htop I (by rw [ev]; rfl) ha he hq (hev A outer s H E) (hi A outer s H E) (hsw A outer s H E) (hst A outer s H E)
  have fin : ∀ {σ' : L2.St} {H' : Hp} {v : V} {u : Value} {s' : Shared}, Inv (ncx CX0 P w K mg base (supN x) (supF qual params body scope cda cc) fI A outer s H E) [] σ' H' s' → RelV v u → Q v H' → CE outer P w H s Q u s' := fun {σ' H' v u s'} J rv q => ⟨v, H', J.os, J.bare, J.base, J.hok, rv, q⟩
  rw [hbody] at q1 ⊢
  refine ks_wpAt_execs_cons (ks_wpAt_mono q1 (fun fl s' hfl => ?_) fun e s' z => z)
  obtain ⟨rfl, H1, I1, q⟩ := hfl
  refine wpAt_of_wpAny (wpAny_mono (h2.run [] _ _ H1 _ I1 q) (fun fl s' hs => ?_) fun e s' z => z)
  cases fl with
  | ret u =>
    obtain ⟨v, σ', H', J, rv, q⟩ := hs
    exact fin J rv q
  | next =>
    obtain ⟨σ', H', J, q⟩ := hs
    exact fin (v := V.non) (u := Value.none) J rfl q
  | brk =>
    obtain ⟨_, _, _, z⟩ := hs
    exact False.elim z
  | cont =>
    obtain ⟨_, _, _, z⟩ := hs
    exact False.elim z
end
end TKE
set_option maxHeartbeats 2000000
set_option pp.maxSteps 300
/-! Raising such an exception; makers that may raise; isinstance of a caught one. -/
namespace TKE
open PySem PySem.Spec PyProof.Rows L2 NdefX TK
/-- the promise of its __init__ -/
def spExc (C : Addr) (fld : Str) (ok : V → Prop) : Sp := fun vs H Q _ => ∃ (a : Addr) (y : V), vs = [.ref a, y] ∧ ok y ∧ H a = some (exo a C none) ∧ ∀ dx, H dx = none → dx ≠ a → Q .non (upd (upd H dx (exd dx [(fld, y)])) a (exo a C (some dx)))
section
variable {P : Program} {w : World} {K : PySem.W.Frag} {mg : Str → Option Value} {base : Heap}
structure ExcMk (P : Program) (w : World) (K : PySem.W.Frag) (mg : Str → Option Value) (base : Heap) (x : Str) (C : Addr) (fld : Str) (ok : V → Prop) : Prop where
  ex : ∃ (fI : Addr) (fd : FuncData) (ps : List Str), OexC K C ∧ PySem.W.findIn K (.ref C) "__init__" = some (some (.ref fI)) ∧ PySem.W.typeIn K (.ref fI) = some (.type "function") ∧ FnOk P w K mg base CX0 1 fI fd ps (spExc C fld ok) ∧ Binds K fd ps [] ∧ mg x = some (.ref C)
end
section
variable {X : Cx} {W : WX} {C : Addr} {x fld : Str} {ok : V → Prop} {p pos pos' : Pos} {e : Expr} {es : List Expr} {te : TE} {j : Nat}
theorem ps_raiseE (c : ExcMk X.prog X.w X.K X.mg X.base x C fld ok) (hc : X.calm = true) (tk : Takes X W) (hr : Room j X.A) (hk : 2 ≤ j) (hg : Gl X x) (he : PE X e te)
    (hdb : (x == ("__debug__" : Str)) = false := by decide) (hs : starEach (e :: es) X.env = (false, eval e X.env) :: starEach es X.env := by rfl) (hes : es = [] := by rfl) (hpl : (backTo pos (starEach es X.env)).any (·.1) = false := by rfl) :
    PS X (.Raise (some (.Call (.Name x p) (e :: es) [] pos)) none pos') (fun _ σ H => te σ H fun y H1 => ok y ∧ ∀ d, H1 d = none → W (.ref C) (some d) σ (upd H1 d (.xd [(fld, y)]))) := by
  subst hes
  obtain ⟨fI, fd, ps, T, iC, tI, F1, hb, hm⟩ := c.ex
  refine ⟨fun pins s σ H D I h => ?_⟩
  refine (ps_raise hc tk (pmk_oex T iC tI F1 (hr.mono hk) hb .nil (fun _ _ _ _ _ _ _ z => z.elim) hg hm (pa_cons (pe_cut he) pa_nil hs) hdb hs hpl)).run pins s σ H D I ?_
  refine ⟨_, h, fun y H1 hy => ⟨by show 1 ≤ 1000; decide, fun a ha => ⟨a, y, rfl, hy.1, upd_same, fun dx hdx hne => ⟨rfl, dx, [(fld, y)], upd_same, ?_, ?_, ?_⟩⟩⟩⟩
  · rw [upd_ne hne, upd_same]
  · rw [upd_ne hne] at hdx
    exact hdx
  · have hd1 : H1 dx = none := by
      rw [upd_ne hne] at hdx
      exact hdx
    have q := hy.2 dx hd1
    have eh : upd (L2.del (upd (upd (upd H1 a (exo a C none)) dx (exd dx [(fld, y)])) a (exo a C (some dx))) a) dx (.xd [(fld, y)]) = upd H1 dx (.xd [(fld, y)]) := by
      funext b
      by_cases h1 : b = dx
      · rw [h1, upd_same, upd_same]
      · rw [upd_ne h1, upd_ne h1]
        by_cases h2 : b = a
        · rw [h2, L2.del_same, ha]
        · rw [L2.del_ne h2, upd_ne h2, upd_ne h1, upd_ne h2]
    rw [eh]
    exact q
end
/-! ### makers that may raise -/
section
variable {P : Program} {w : World} {K : PySem.W.Frag} {mg : Str → Option Value} {base : Heap}
structure MakX (P : Program) (w : World) (K : PySem.W.Frag) (mg : Str → Option Value) (base : Heap) (k : Nat) (x : Str) (C : Addr) (sp : Sp) (n : Nat) (ks : List Str) (gV : List V → List V → List V) : Prop where
  ex : ∃ (f : Addr) (fd : FuncData) (ps : List Str) (g : List Value → List Value → List Value), Mk K C f ∧ FnOk P w K mg base (L2.CX P w) k f fd ps sp ∧ mg x = some (.ref C) ∧ KBn K fd ps (n + 1) ks g gV
/-- C(e, ..) as an expression: at σ, what it lets out is WE W σ -/
def tMakX (C : Addr) (n m : Nat) (sp : Sp) (gV : List V → List V → List V) (E : L2.St → XK) (t tk : TA) : TE := fun σ H Q => t σ H fun vs H1 => tk σ H1 fun zs H2 => vs.length = n ∧ zs.length = m ∧ ∀ x dx, H2 x = none → H2 dx = none → dx ≠ x →
  sp (gV (.ref x :: vs) zs) (upd (upd H2 dx (.own x)) x (.ins C dx [])) (fun v H3 => v = .non ∧ Q (.ref x) H3) (E σ)
end
section
variable {X : Cx} {W : WX} {k j n : Nat} {f C : Addr} {fd : FuncData} {ps ks : List Str} {sp : Sp} {x : Str} {p pos : Pos} {e : Expr} {es : List Expr} {kws : List Keyword} {t tk : TA} {g : List Value → List Value → List Value} {gV : List V → List V → List V}
theorem run_makX {pins : List (Addr × Obj)} {σ : L2.St} {H : Hp} {s : Shared} {Q : VK} {us ws : List Value} {vs zs : List V} {E : XK} (M : Mk X.K C f) (F : FnOk X.prog X.w X.K X.mg X.base (L2.CX X.prog X.w) k f fd ps sp) (hr : Room (k + 1) X.A) (hb : KBn X.K fd ps (n + 1) ks g gV) (hx : PassesAt (L2.CX X.prog X.w) X σ E)
    (I : Inv X pins σ H s) (r : Vals vs us) (rz : Vals zs ws) (l1 : vs.length = n) (l2 : zs.length = ks.length)
    (h : ∀ x dx, H x = none → H dx = none → dx ≠ x → sp (gV (.ref x :: vs) zs) (upd (upd H dx (.own x)) x (.ins C dx [])) (fun v H2 => v = .non ∧ Q (.ref x) H2) E) :
    wpAny (model X.prog X.w) X.A (call (.ref C) us (ks.zip ws)) (EP X pins σ Q) X.xe s := by
  let q := s.heap.objs.size
  have fr1 : H (q + 1) = none := I.hok.fresh (Nat.le_succ q)
  have fr2 : H q = none := I.hok.fresh (Nat.le_refl q)
  have told := h (q + 1) q fr1 fr2 (Nat.ne_of_lt (Nat.lt_succ_self q))
  have J := Inv.made (C := C) I
  have ra : Vals (V.ref (q + 1) :: vs) (Value.ref (q + 1) :: us) := .cons rfl r
  have na : (Value.ref (q + 1) :: us).length = n + 1 := by
    have := ra.length
    rw [← this, List.length_cons, l1]
  have run := F.run _ X.stack _ _ ⟨Value.ref (q + 1) :: us, ks.zip ws⟩ (g (Value.ref (q + 1) :: us) ws) _ _ E (hr.make C us (ks.zip ws)) (J.env0.make C us (ks.zip ws)) (hb.to _ (Value.ref (q + 1) :: us) ws J.kIn na (rz.length.symm.trans l2)) (hb.rel ra rz) told
  refine wpAny_call (make_map (f := f) I.kIn M.makes M.init (beq_iff_eq.mp M.fn) (codeAny_mono run fun o s' ho => ?_))
  match o, ho with
  | .error e, ho => exact hx pins _ _ e s' J ho
  | .ok (.ret u), ho =>
    obtain ⟨v, H', I3, rv, ev, q3⟩ := J.after ho
    subst ev
    exact ⟨rv, ⟨V.ref (q + 1), H', I3, rfl, q3⟩⟩
  | .ok .next, ho => exact False.elim ho
  | .ok .brk, ho => exact False.elim ho
  | .ok .cont, ho => exact False.elim ho
theorem pe_makX {E : L2.St → XK} (c : MakX X.prog X.w X.K X.mg X.base k x C sp n [] gV) (hr : Room j X.A) (hk : k + 1 ≤ j) (hx : ∀ σ, PassesAt (L2.CX X.prog X.w) X σ (E σ)) (hg : Gl X x) (ha : PA X (e :: es) t)
    (hdb : (x == ("__debug__" : Str)) = false := by decide) (he : starEach (e :: es) X.env = (false, eval e X.env) :: starEach es X.env := by rfl) (hpl : (backTo pos (starEach es X.env)).any (·.1) = false := by rfl) :
    PE X (.Call (.Name x p) (e :: es) [] pos) (tMakX C n 0 sp gV E t tNil) := by
  obtain ⟨f, fd, ps, g, M, F, hm, b⟩ := c.ex
  refine ⟨fun pins s σ H Q I h => ?_⟩
  refine wpAny_Call_Name_kw (ld_glob I hg hm ?_ hdb)
  refine PySem.W.callWith_K (h₀ := X.base) I.ok.mod.kin M.kp (thn (ha.run pos pins s σ H _ I h) fun us s1 ⟨vs, H1, I1, r, l1, l2, q⟩ => ⟨I1.kIn, ?_⟩) he hpl
  exact run_makX (zs := []) (ws := []) M F (hr.mono hk) b (hx σ) I1 r .nil l1 rfl q
theorem pe_makXK {E : L2.St → XK} (c : MakX X.prog X.w X.K X.mg X.base k x C sp 0 ks gV) (hr : Room j X.A) (hk : k + 1 ≤ j) (hx : ∀ σ, PassesAt (L2.CX X.prog X.w) X σ (E σ)) (hg : Gl X x) (hkw : PK X kws tk)
    (hall : (backToKw pos (keywordEach kws X.env)).all (·.1.isSome) = true := by rfl) (hks : (backToKw pos (keywordEach kws X.env)).filterMap (·.1) = ks := by rfl) (hdb : (x == ("__debug__" : Str)) = false := by decide)
    (hpl : ((backTo pos (starEach [] X.env)).any (·.1) || (backToKw pos (keywordEach kws X.env)).any (·.1.isNone)) = false := by rfl) :
    PE X (.Call (.Name x p) [] kws pos) (tMakX C 0 ks.length sp gV E tNil tk) := by
  obtain ⟨f, fd, ps, g, M, F, hm, b⟩ := c.ex
  refine ⟨fun pins s σ H Q I h => ?_⟩
  refine wpAny_Call_Name_kw (ld_glob I hg hm ?_ hdb)
  refine PySem.W.callWith_KW0 (h₀ := X.base) I.ok.mod.kin M.kp hall ?_ hpl
  refine thn (hkw.run pos pins s σ H _ I h) fun ws s2 ⟨zs, H2, I2, rz, l1, l2, q2⟩ => ⟨I2.kIn, ?_⟩
  rw [hks]
  exact run_makX (us := []) (vs := []) M F (hr.mono hk) b (hx σ) I2 .nil rz rfl l2 q2
/-- nothing is let out here -/
theorem none_out {X : Cx} : ∀ σ : L2.St, PassesAt (L2.CX X.prog X.w) X σ E0 := fun _ _ _ _ _ _ _ z => by
  obtain ⟨_, _, _, _, _, _, _, _, _, _, _, _, y⟩ := z
  exact y.elim
end
end TKE
set_option maxHeartbeats 2000000
set_option pp.maxSteps 300
/-! isinstance of a caught exception that has its dict; what is to be looked up of such a class; a hook with such defs. -/
namespace TKE
open PySem PySem.Spec PyProof.Rows L2 NdefX TK
def rIsD (K : PySem.W.Frag) (D a : Addr) (cls : Value) (d : Option Addr) : List V → Hp → VK → Prop := fun xs H Q => ∃ (c : V) (cv : Value) (b : Bool) (dd : Addr) (fs : List (Str × V)), xs = [.ref a, c] ∧ (∀ u, RelV c u → u = cv) ∧ PySem.W.kitOne K (.ref D) cv = some b ∧ cls = .ref D ∧ d = some dd ∧ H dd = some (.xd fs) ∧ Q (.bl b) H
theorem call_isD {X : Cx} {a D : Addr} {oe : Obj} {cls : Value} {d : Option Addr} {pn : List (Addr × Obj)} (C : ExcC X.K D) (hz : Zc cls d oe) (hf : ∃ vs, oe.data = .fields vs) : CallR (X.suite a ((a, oe) :: pn)) (.builtin "isinstance") (rIsD X.K D a cls d) := by
  intro pins s σ H xs us Q I r h
  obtain ⟨c, cv, b, dd, fs, rfl, hcv, e, rfl, rfl, ed, q⟩ := h
  obtain ⟨u1, u2, rfl, rx, rt⟩ : ∃ u1 u2, us = [u1, u2] ∧ RelV (.ref a) u1 ∧ RelV c u2 := by
    cases r with
    | cons h1 t1 =>
      cases t1 with
      | cons h2 t2 =>
        cases t2
        exact ⟨_, _, rfl, h1, h2⟩
  obtain rfl : u1 = Value.ref a := rx
  obtain rfl := hcv _ rt
  obtain ⟨hget, _⟩ := I.pin (a, oe) (List.mem_append.mpr (.inl List.mem_cons_self))
  obtain ⟨vs, hv⟩ := hf
  have ob : ObjOk X.prog X.w H s.heap dd (.xd fs) := I.hok dd _ ed
  obtain ⟨mA, ⟨od, es, ep, ho, hr2⟩, hr⟩ := ob
  have J : PySem.W.InstAt s.heap a oe D (some od) := ⟨hget, hz.1, by unfold PySem.W.notCls; rw [hv] <;> rfl, by rw [hz.2]; exact ho⟩
  have hcl : (PySem.W.clsIn X.K D).isSome = true := by
    obtain ⟨cd, hc, _⟩ := PySem.W.any_some C.hd
    rw [hc]
    rfl
  exact PySem.W.kia_one (PySem.W.kitx_exc hcl C.hg C.hk C.hs C.ha C.hn C.ht C.hm) I.kIn J e (fun z => nomatch z) fun tk => ⟨.bl b, H, I.kept (t' := tk) fun _ _ z => z, rfl, q⟩
end TKE
set_option maxHeartbeats 2000000
set_option pp.maxSteps 300
/-! What the heap behind the top says of such classes: a check, what it gives, a hook with their __init__. -/
namespace TKE
open PySem PySem.Spec PyProof.Rows L2 NdefX TK
open He (ga ma)
def clsB (K : PySem.W.Frag) (C : Addr) : Bool := match K.lookup C with
  | some ⟨.type "type", _, .cls cd, sl⟩ => (match cd.mro, sl.toList with
    | .ref C' :: bm, [_, _, _, _, some (.builtin n), _] => C' == C && (n == "ValueError.__new__" && (!cd.hasDel && (cd.hasDict && PySem.HandSPX.refsVE bm)))
    | _, _ => false)
  | _ => false
theorem clsB_ok {K : PySem.W.Frag} {C : Addr} (q : clsB K C = true) : ∃ nm q N bs bm sn sub ab col dd k0 k1 k2 k3 k5, K.lookup C = some (excClassObj nm q C N bs bm true sn sub ab col dd k0 k1 k2 k3 k5 "ValueError.__new__") ∧ PySem.HandSPX.refsVE bm = true := by
  unfold clsB at q
  split at q
  · rename_i dd cd sl ho
    split at q
    · rename_i C' bm k0 k1 k2 k3 n k5 hm hs
      simp only [Bool.and_eq_true, beq_iff_eq, Bool.not_eq_true'] at q
      obtain ⟨rfl, rfl, hdel, hd, ht⟩ := q
      obtain ⟨nm, bs, mro, ns, qn, hd', sn, sub, ab, col, del⟩ := cd
      dsimp only at hm hdel hd
      subst hm hdel hd
      have hsl : sl = #[k0, k1, k2, k3, some (.builtin "ValueError.__new__"), k5] := by
        obtain ⟨l⟩ := sl
        simp only at hs
        rw [hs]
      subst hsl
      exact ⟨nm, qn, ns, bs, bm, sn, sub, ab, col, dd, k0, k1, k2, k3, k5, ho, ht⟩
    · cases q
  · cases q
def cellB (K : PySem.W.Frag) (cc C : Addr) : Bool := match K.lookup cc with
  | some ⟨_, _, .cell (some (.ref C')), _⟩ => C' == C
  | _ => false
theorem cellB_ok {K : PySem.W.Frag} {cc C : Addr} (q : cellB K cc C = true) : ∃ cl cld csl, K.lookup cc = some ⟨cl, cld, .cell (some (.ref C)), csl⟩ := by
  unfold cellB at q
  split at q
  · rename_i cl cld C' csl ho
    obtain rfl := beq_iff_eq.mp q
    exact ⟨_, _, _, ho⟩
  · cases q
def fileB (K : PySem.W.Frag) (cda : Addr) (file : Str) : Bool := match K.lookup cda with
  | some ⟨_, _, .fields vs, _⟩ => (match (vs[2]? : Option Value) with
    | some (Value.str f _) => file == f
    | _ => false)
  | _ => false
theorem fileB_ok {K : PySem.W.Frag} {cda : Addr} {file : Str} (q : fileB K cda file = true) : ∃ ccl cdd vs ccs f tf, K.lookup cda = some ⟨ccl, cdd, .fields vs, ccs⟩ ∧ vs[2]? = some (.str f tf) ∧ (file == f) = true := by
  unfold fileB at q
  split at q
  · rename_i cl cld vs csl ho
    split at q
    · rename_i f tf hv
      exact ⟨_, _, _, _, _, _, ho, hv, q⟩
    · cases q
  · cases q
def fnB (K : PySem.W.Frag) (f C : Addr) (qual file : Str) : Bool := match K.lookup f with
  | some ⟨_, _, .func fd, _⟩ => (match fd.closure, fd.code, fd.defaults, fd.kwdefaults with
    | [(n, cc)], .ref cda, .none, .none => n == "__class__" && (PySem.W.codeIn K (.ref cda) qual && (cellB K cc C && fileB K cda file))
    | _, _, _, _ => false)
  | _ => false
def fnC (K : PySem.W.Frag) (p : Str × Option Str) : He.FnW := match K.lookup (He.fAd K p) with
  | some ⟨_, _, .func fd, _⟩ => some (fd.name, fd.qualname, fd.params, fd.body, fd.scope, fd.globals, [], fd.builtins)
  | _ => none
theorem fnB_ok {K : PySem.W.Frag} {p : Str × Option Str} {C : Addr} {nm qual file : Str} {params : Arguments} {body : List Stmt} {scope : Scope} (e : fnC K p = He.DefD.val ⟨p, nm, qual, params, body, scope, [], []⟩) (q : fnB K (He.fAd K p) C qual file = true) :
    ∃ cda cc oc od doc pm an ct osl, K.lookup (He.fAd K p) = some ⟨oc, od, .func (PySem.W.fnX nm qual params body scope [("__class__", cc)] .none .none doc pm an (.ref cda) ct), osl⟩ ∧ PySem.W.codeIn K (.ref cda) qual = true ∧ cellB K cc C = true ∧ fileB K cda file = true := by
  unfold fnB at q
  unfold fnC at e
  split at q
  · rename_i oc od fd osl ho
    rw [ho] at e
    split at q
    · rename_i n cc cda h1 h2 h3 h4
      simp only [Bool.and_eq_true, beq_iff_eq] at q
      obtain ⟨rfl, q1, q2, q3⟩ := q
      obtain ⟨n1, n2, n3, n4, n5, n6, n7, n8, n9, n10, n11, n12, n13, n14, n15⟩ := fd
      dsimp only at h1 h2 h3 h4
      subst h1 h2 h3 h4
      have e2 : (some (n1, n2, n3, n4, n5, n6, [], n15) : He.FnW) = some (nm, qual, params, .stmts body, scope, mainGlobals, [], builtinsNs) := e
      simp only [Option.some.injEq, Prod.mk.injEq] at e2
      obtain ⟨h1, h2, h3, h4, h5, h6, h7, h8⟩ := e2
      subst h1 h2 h3 h4 h5 h6 h8
      exact ⟨cda, cc, oc, od, _, _, _, _, osl, ho, q1, q2, q3⟩
    · cases q
  · cases q
/-- the class named x, its field fld, its __init__'s qualified name, the text's file -/
def excB (K : PySem.W.Frag) (x fld qual file : Str) : List Bool := [clsB K (ga K x),
  decide (PySem.W.findIn K (.ref (ga K x)) "__setattr__" = some (some (.builtin "object.__setattr__"))), decide (PySem.W.subIn K (.ref (ga K x)) (.type "BaseException") = some true), decide (PySem.W.typeIn K (.ref (ga K x)) = some (.type "type")), PySem.W.keepIn K (.ref (ga K x)),
  decide (PySem.W.findIn K (.ref (ga K x)) "__init__" = some (some (.ref (ma K (ga K x) "__init__")))), decide (PySem.W.typeIn K (.ref (ma K (ga K x) "__init__")) = some (.type "function")), decide (PySem.W.ks_superIn K (ga K x) (ga K x) "__init__" = some (some (.builtin "ValueError.__init__"))),
  decide (PySem.W.subIn K (.ref (ga K x)) (.type "ValueError") = some true), decide (PySem.W.mroIn K (ga K x) (.ref (ga K x)) = some true), decide (PySem.W.nsIn K cStatics "thirdparty.any" = some none),
  fnB K (ma K (ga K x) "__init__") (ga K x) qual file, decide (PySem.W.findIn K (.ref (ga K x)) fld = some none),
  decide (PySem.W.findIn K (.ref (ga K x)) "__getattribute__" = some (some (.builtin "BaseException.__getattribute__"))), decide (PySem.W.findIn K (.ref (ga K x)) "__getattr__" = some none), PySem.W.hasDictIn K (ga K x),
  decide (PySem.W.findIn K (.ref (ga K x)) "__class__" = some (some (.builtin "object.__class__"))), decide (PySem.W.specialIn K (.builtin "object.__class__") "__get__" = some (some (.builtin "getset_descriptor.__get__"))),
  decide (PySem.W.takesIn K (.builtin "object.__class__") = some true), decide (PySem.W.mroIn K (ga K x) (.type "object") = some true)]
def excAll (K : PySem.W.Frag) (x fld qual file : Str) : Bool := (excB K x fld qual file).all id
structure ExTxt (K : PySem.W.Frag) (P : Program) (x fld qual : Str) (params : Arguments) (body : List Stmt) (scope : Scope) : Prop where
  ex : ∃ cda cc oc od doc pm an ct osl, SupTxt K P (ga K x) (ma K (ga K x) "__init__") cda cc ∧ K.lookup (ma K (ga K x) "__init__") = some ⟨oc, od, .func (PySem.W.fnX "__init__" qual params body scope [("__class__", cc)] .none .none doc pm an (.ref cda) ct), osl⟩ ∧ PySem.W.codeIn K (.ref cda) qual = true
  no : PySem.W.findIn K (.ref (ga K x)) fld = some none
  ec : ExcC K (ga K x)
  xf : XfC K (ga K x)
theorem exTxt_of {K : PySem.W.Frag} {P : Program} {x fld qual file : Str} {params : Arguments} {body : List Stmt} {scope : Scope} (h : excAll K x fld qual file = true) (hP : P.main.file = file)
    (e : fnC K (x, some "__init__") = He.DefD.val ⟨(x, some "__init__"), "__init__", qual, params, body, scope, [], []⟩) : ExTxt K P x fld qual params body scope := by
  have a : ∀ (i : Nat) (b : Bool), (excB K x fld qual file)[i]? = some b → b = true := fun i b hi => exAt h i hi
  obtain ⟨cda, cc, oc, od, doc, pm, an, ct, osl, hl, hcd, hcell, hfile⟩ := fnB_ok (C := ga K x) (file := file) e (a 11 _ rfl)
  have h2 := of_decide_eq_true (a 2 _ rfl)
  have h13 := of_decide_eq_true (a 13 _ rfl)
  have h14 := of_decide_eq_true (a 14 _ rfl)
  have oex : OexC K (ga K x) := ⟨clsB_ok (a 0 _ rfl), of_decide_eq_true (a 1 _ rfl), h2, of_decide_eq_true (a 3 _ rfl), a 4 _ rfl⟩
  refine ⟨⟨cda, cc, oc, od, doc, pm, an, ct, osl, ⟨oex, of_decide_eq_true (a 5 _ rfl), of_decide_eq_true (a 6 _ rfl), of_decide_eq_true (a 7 _ rfl), of_decide_eq_true (a 8 _ rfl), of_decide_eq_true (a 9 _ rfl), of_decide_eq_true (a 10 _ rfl), ?_, cellB_ok hcell⟩, hl, hcd⟩, of_decide_eq_true (a 12 _ rfl),
    ⟨h13, h14, h2, a 15 _ rfl, of_decide_eq_true (a 16 _ rfl), of_decide_eq_true (a 17 _ rfl), of_decide_eq_true (a 18 _ rfl), of_decide_eq_true (a 19 _ rfl)⟩, ⟨h13, h14, h2, a 15 _ rfl⟩⟩
  rw [hP]
  obtain ⟨ccl, cdd, vs, ccs, f, tf, z⟩ := fileB_ok hfile
  exact ⟨ccl, cdd, vs, ccs, f, tf, z⟩
/-! ### the hook -/
def asE (g : Addr → Option Obj) (n : Nat) (es : List He.DefD) : List Addr :=
  He.asD g n ++ (cStatics :: es.flatMap fun d => match (He.frG g (He.asD g n)).lookup (He.fAd (He.frG g (He.asD g n)) d.at_) with
    | some ⟨_, _, .func fd, _⟩ => fd.closure.map (·.2)
    | _ => [])
abbrev AlE : Type := He.AlD × List He.FnW
def obsE (n : Nat) (fa : List He.Fa) (fn : List He.DefD) (ex : PySem.W.Frag → List Bool) (es : List He.DefD) (g : Addr → Option Obj) : AlE :=
  let K := He.frG g (asE g n es)
  (((He.obsD fa fn K).1 && (ex K).all id, (He.obsD fa fn K).2), es.map fun d => fnC K d.at_)
def hookE (n : Nat) (fa : List He.Fa) (fn : List He.DefD) (ex : PySem.W.Frag → List Bool) (es : List He.DefD) : PySem.W.Hook where
  α := AlE
  obs s := obsE n fa fn ex es s.heap.get?
  val _ := (He.valD fn, es.map He.DefD.val)
  says _ h := ∃ K : PySem.W.Frag, K.In h ∧ He.SaysD fa fn K ∧ (ex K).all id = true ∧ es.map (fun d => fnC K d.at_) = es.map He.DefD.val
  of _ _ e := by
    have e0 := congrArg (fun z : AlE => z.1) e
    have e1 := congrArg (fun z : He.AlD => z.1) e0
    have e2 := congrArg (fun z : He.AlD => z.2) e0
    have e3 := congrArg (fun z : AlE => z.2) e
    obtain ⟨a, b⟩ := Bool.and_eq_true_iff.mp e1
    exact ⟨_, He.frG_in, Prod.ext a e2, b, e3⟩
  keeps _ _ _ c k := let ⟨K, hK, c⟩ := c; ⟨K, PySem.W.Frag.In.keeps hK k, c⟩
theorem obsE_eq {n : Nat} {fa : List He.Fa} {fn : List He.DefD} {ex : PySem.W.Frag → List Bool} {es : List He.DefD} {g : Addr → Option Obj} {s : Shared} (h : ∀ a, g a = s.heap.get? a) : obsE n fa fn ex es g = (hookE n fa fn ex es).obs s := by
  obtain rfl : g = s.heap.get? := funext h
  rfl
theorem fnC_at {K : PySem.W.Frag} {es : List He.DefD} (h : es.map (fun d => fnC K d.at_) = es.map He.DefD.val) (i : Nat) {d : He.DefD} (hd : es[i]? = some d) : fnC K d.at_ = d.val := by
  have e2 : (es.map fun d => fnC K d.at_)[i]? = (es.map He.DefD.val)[i]? := by rw [h]
  rw [List.getElem?_map, List.getElem?_map, hd] at e2
  exact Option.some.inj e2
end TKE
set_option maxHeartbeats 2000000
set_option pp.maxSteps 300
/-! Texts with such classes: the pieces that the generated terms name. -/
namespace TKE
open PySem PySem.Spec PyProof.Rows L2 NdefX TK
def isS : V → Prop := fun y => ∃ z : Str, y = .str z ∧ z.length ≤ 1000
def isI : V → Prop := fun y => ∃ z : Int, y = .int z ∧ z.natAbs.log2 < 1920 ∧ (toString z : Str).length ≤ 1000
theorem ex_l1 {z : Str} (hz : z.length ≤ 1000) : z.length ≤ sizeLine := Nat.le_trans hz (by decide)
theorem ex_l2 {p z : Str} (hp : p.length ≤ 200) (hz : z.length ≤ 1000) : (p ++ z).length ≤ sizeLine := by
  rw [cat_len, sizeLine_eq]
  omega
theorem ex_l3 {p z q : Str} (hp : p.length ≤ 200) (hq : q.length ≤ 200) (hz : z.length ≤ 1000) : (p ++ z ++ q).length ≤ sizeLine := by
  rw [cat_len, cat_len, sizeLine_eq]
  omega
theorem pg_tupK {X : Cx} (K : PySem.W.Frag) (e : X.K = K) {es : List Expr} {k : Nat} {t : TGs} {n : Nat} {pos : Pos} (hc : X.calm = true) (h : PGs X es t)
    (hn : (assignEach es X.env).length = n := by rfl) (hst : (assignEach es X.env).findIdx? (·.1) = none := by rfl) : PG X (.Tuple es k pos) (gTup K n t) := by
  subst e
  exact pg_tup hc h hn hst
def rTupOf (K : PySem.W.Frag) : List V → Hp → VK → Prop := fun xs H Q => ∃ p ys, xs = [.ref p] ∧ ((SqL K H p ys ∧ ∀ l, H l = none → Q (.ref l) (upd H l (.tup ys))) ∨ (SqT K H p ys ∧ Q (.ref p) H))
theorem tupOfK {X : Cx} (K : PySem.W.Frag) (e : X.K = K) : CallR X (.type "tuple") (rTupOf K) := by
  subst e
  exact call_tuple_of
section
variable {P : Program} {w : World} {K : PySem.W.Frag} {mg : Str → Option Value} {base : Heap}
theorem makX_of {x qual : Str} {C f : Addr} {params : Arguments} {body : List Stmt} {scope : Scope} {fd : FuncData} {ps : List Str} {k n : Nat} {sp : Sp} (M : Mk K C f) (hm : mg x = some (.ref C)) (F : FunD K "__init__" qual params body scope [] [] f fd) (G : FnOk P w K mg base (L2.CX P w) k f fd ps sp) (hn : ps.length = n + 1)
    (h : ∀ (kV doc pm : Value) (an : Option Addr) (cdv ct : Value) (us : List Value), us.length = ps.length → bindArgs (PySem.W.fnOf "__init__" qual params body scope .none kV doc pm an cdv ct) ⟨us, []⟩ = pure (ps.zip us)) : MakX P w K mg base k x C sp n [] (fun vs _ => vs) :=
  ⟨f, fd, ps, fun us _ => us, M, G, hm, ⟨fun s us ws _ h1 _ => F.bindsA h s us (h1.trans hn.symm), fun r _ => r⟩⟩
end
end TKE
set_option maxHeartbeats 4000000
namespace K19
open PySem PySem.Spec PyProof.Rows L2 SX TK TKS
open C8 (pe_c)
def top (i : Nat) : Stmt := PySem.Challenge.pw_trunkland_k19_requests_in_turn.main.body.getD i (.Pass ⟨0, 0, 0, 0⟩)
abbrev s_wall : Stmt := top 0
abbrev s_is_name : Stmt := top 11
abbrev s_is_tag : Stmt := top 12
abbrev s_is_address : Stmt := top 13
abbrev s_read_number : Stmt := top 14
abbrev s_split_address : Stmt := top 15
abbrev s_consists_of : Stmt := top 16
abbrev s_read_offer : Stmt := top 21
abbrev s_write_offer : Stmt := top 22
abbrev s_answer : Stmt := top 23
abbrev s_flows : Stmt := top 24
abbrev s_read_formats : Stmt := top 25
abbrev s_sends : Stmt := top 26
abbrev s_takes : Stmt := top 27
abbrev s_mode : Stmt := top 28
abbrev s_Letter___init : Stmt := inClass (top 38) 0
abbrev s_Letter_parts : Stmt := inClass (top 38) 1
abbrev s_Letter_reply : Stmt := inClass (top 38) 2
abbrev s_is_final : Stmt := top 39
abbrev s_write : Stmt := top 40
abbrev s_read : Stmt := top 41
abbrev s_write_head : Stmt := top 42
abbrev s_read_head : Stmt := top 43
abbrev s_read_line : Stmt := top 44
abbrev s_read_origin : Stmt := top 45
abbrev s_read_target : Stmt := top 46
abbrev s_read_single : Stmt := top 47
abbrev s_Wait___init : Stmt := inClass (top 51) 0
abbrev s_Wait_repeats : Stmt := inClass (top 51) 1
abbrev s_Wait_is_up : Stmt := inClass (top 51) 2
abbrev s_Client___init : Stmt := inClass (top 53) 0
abbrev s_Client_sending : Stmt := inClass (top 53) 1
abbrev s_Client_take : Stmt := inClass (top 53) 2
abbrev s_Client_stop : Stmt := inClass (top 53) 3
abbrev s_Client_tick : Stmt := inClass (top 53) 4
abbrev s_Client_is_over : Stmt := inClass (top 53) 5
abbrev s_Client__take_provisional : Stmt := inClass (top 53) 6
abbrev s_Client__keep_for : Stmt := inClass (top 53) 7
abbrev s_Server___init : Stmt := inClass (top 55) 0
abbrev s_Server_matches : Stmt := inClass (top 55) 1
abbrev s_Server_again : Stmt := inClass (top 55) 2
abbrev s_Server_reply : Stmt := inClass (top 55) 3
abbrev s_Server_keep : Stmt := inClass (top 55) 4
abbrev s_Server_tick : Stmt := inClass (top 55) 5
abbrev s_Server_is_over : Stmt := inClass (top 55) 6
abbrev s_Leg___init : Stmt := inClass (top 68) 0
abbrev s_Leg_call_out : Stmt := inClass (top 68) 1
abbrev s_Leg_call_in : Stmt := inClass (top 68) 2
abbrev s_Leg_ring : Stmt := inClass (top 68) 3
abbrev s_Leg_accept : Stmt := inClass (top 68) 4
abbrev s_Leg_refuse : Stmt := inClass (top 68) 5
abbrev s_Leg_hang_up : Stmt := inClass (top 68) 6
abbrev s_Leg_turn : Stmt := inClass (top 68) 7
abbrev s_Leg_move : Stmt := inClass (top 68) 8
abbrev s_Leg_receive : Stmt := inClass (top 68) 9
abbrev s_Leg_tick : Stmt := inClass (top 68) 10
abbrev s_Leg_take_events : Stmt := inClass (top 68) 11
abbrev s_Leg_is_done : Stmt := inClass (top 68) 12
abbrev s_Leg__send : Stmt := inClass (top 68) 13
abbrev s_Leg__serve : Stmt := inClass (top 68) 14
abbrev s_Leg__reply : Stmt := inClass (top 68) 15
abbrev s_Leg__reply_to_call : Stmt := inClass (top 68) 16
abbrev s_Leg__talk : Stmt := inClass (top 68) 17
abbrev s_Leg__end : Stmt := inClass (top 68) 18
abbrev s_Leg__stop_call : Stmt := inClass (top 68) 19
abbrev s_Leg__ask : Stmt := inClass (top 68) 20
abbrev s_Leg__is_asking : Stmt := inClass (top 68) 21
abbrev s_Leg__send_waiting : Stmt := inClass (top 68) 22
abbrev s_Leg__has_most_servers : Stmt := inClass (top 68) 23
abbrev s_Leg__take_known : Stmt := inClass (top 68) 24
abbrev s_Leg__take_new : Stmt := inClass (top 68) 25
abbrev s_Leg__take_end : Stmt := inClass (top 68) 26
abbrev s_Leg__take_stop : Stmt := inClass (top 68) 27
abbrev s_Leg__take_turn : Stmt := inClass (top 68) 28
abbrev s_Leg__take_move : Stmt := inClass (top 68) 29
abbrev s_Leg__take_reply : Stmt := inClass (top 68) 30
abbrev s_Leg__follow : Stmt := inClass (top 68) 31
abbrev s_Leg__follow_call : Stmt := inClass (top 68) 32
abbrev s_Leg__give_up_request : Stmt := inClass (top 68) 33
abbrev s_Leg__lose : Stmt := inClass (top 68) 34
abbrev s_Leg__send_live : Stmt := inClass (top 68) 35
abbrev s_Leg__forget_those_over : Stmt := inClass (top 68) 36
abbrev s_law_state : Stmt := top 70
abbrev s_law_draw : Stmt := top 71
abbrev s_law_pick : Stmt := top 72
abbrev s_law_talking : Stmt := top 73
abbrev s_law_take : Stmt := top 74
abbrev s_law_next : Stmt := top 75
abbrev s_law_asks : Stmt := top 76
abbrev s_law_replies : Stmt := top 77
abbrev s_law_sent_right : Stmt := top 78
abbrev s_law : Stmt := top 79
theorem sc_wall : FnScope ["k"] ["k"] (defScope s_wall) := ⟨rfl, rfl, rfl, by decide +kernel, rfl, by decide +kernel, by decide +kernel⟩
theorem sc_is_name : FnScope ["word"] ["word"] (defScope s_is_name) := ⟨rfl, rfl, rfl, by decide +kernel, rfl, by decide +kernel, by decide +kernel⟩
theorem sc_is_tag : FnScope ["word"] ["word"] (defScope s_is_tag) := ⟨rfl, rfl, rfl, by decide +kernel, rfl, by decide +kernel, by decide +kernel⟩
theorem sc_is_address : FnScope ["word"] ["word"] (defScope s_is_address) := ⟨rfl, rfl, rfl, by decide +kernel, rfl, by decide +kernel, by decide +kernel⟩
theorem sc_read_number : FnScope ["word", "most", "number"] ["word", "most"] (defScope s_read_number) := ⟨rfl, rfl, rfl, by decide +kernel, rfl, by decide +kernel, by decide +kernel⟩
theorem sc_split_address : FnScope ["word", "parts", "user", "host"] ["word"] (defScope s_split_address) := ⟨rfl, rfl, rfl, by decide +kernel, rfl, by decide +kernel, by decide +kernel⟩
theorem sc_consists_of : FnScope ["word", "marks", "longest", "mark"] ["word", "marks", "longest"] (defScope s_consists_of) := ⟨rfl, rfl, rfl, by decide +kernel, rfl, by decide +kernel, by decide +kernel⟩
theorem sc_read_offer : FnScope ["words", "port", "mode", "formats"] ["words"] (defScope s_read_offer) := ⟨rfl, rfl, rfl, by decide +kernel, rfl, by decide +kernel, by decide +kernel⟩
theorem sc_write_offer : FnScope ["offer", "port", "mode", "formats"] ["offer"] (defScope s_write_offer) := ⟨rfl, rfl, rfl, by decide +kernel, rfl, by decide +kernel, by decide +kernel⟩
theorem sc_answer : FnScope ["able", "offer", "port", "_", "own_formats", "formats", "sends", "takes", "name"] ["able", "offer"] (defScope s_answer) := ⟨rfl, rfl, rfl, by decide +kernel, rfl, by decide +kernel, by decide +kernel⟩
theorem sc_flows : FnScope ["offer", "answered", "there", "back"] ["offer", "answered"] (defScope s_flows) := ⟨rfl, rfl, rfl, by decide +kernel, rfl, by decide +kernel, by decide +kernel⟩
theorem sc_read_formats : FnScope ["word", "names", "name"] ["word"] (defScope s_read_formats) := ⟨rfl, rfl, rfl, by decide +kernel, rfl, by decide +kernel, by decide +kernel⟩
theorem sc_sends : FnScope ["offer"] ["offer"] (defScope s_sends) := ⟨rfl, rfl, rfl, by decide +kernel, rfl, by decide +kernel, by decide +kernel⟩
theorem sc_takes : FnScope ["offer"] ["offer"] (defScope s_takes) := ⟨rfl, rfl, rfl, by decide +kernel, rfl, by decide +kernel, by decide +kernel⟩
theorem sc_mode : FnScope ["sends", "takes"] ["sends", "takes"] (defScope s_mode) := ⟨rfl, rfl, rfl, by decide +kernel, rfl, by decide +kernel, by decide +kernel⟩
theorem sc_Letter___init : FnScope ["self", "verb", "call", "origin", "origin_tag", "target", "target_tag", "seq", "way", "code", "offer", "stay", "goal"] ["self", "verb", "call", "origin", "origin_tag", "target", "target_tag", "seq", "way", "code", "offer", "stay", "goal"] (defScope s_Letter___init) := ⟨rfl, rfl, rfl, by decide +kernel, rfl, by decide +kernel, by decide +kernel⟩
theorem sc_Letter_parts : FnScope ["self"] ["self"] (defScope s_Letter_parts) := ⟨rfl, rfl, rfl, by decide +kernel, rfl, by decide +kernel, by decide +kernel⟩
theorem sc_Letter_reply : FnScope ["self", "code", "tag", "offer", "stay"] ["self", "code", "tag", "offer", "stay"] (defScope s_Letter_reply) := ⟨rfl, rfl, rfl, by decide +kernel, rfl, by decide +kernel, by decide +kernel⟩
theorem sc_is_final : FnScope ["code"] ["code"] (defScope s_is_final) := ⟨rfl, rfl, rfl, by decide +kernel, rfl, by decide +kernel, by decide +kernel⟩
theorem sc_write : FnScope ["letter", "lines", "line"] ["letter"] (defScope s_write) := ⟨rfl, rfl, rfl, by decide +kernel, rfl, by decide +kernel, by decide +kernel⟩
theorem sc_read : FnScope ["text", "lines", "rest", "parts", "number", "key", "part"] ["text"] (defScope s_read) := ⟨rfl, rfl, rfl, by decide +kernel, rfl, by decide +kernel, by decide +kernel⟩
theorem sc_write_head : FnScope ["letter"] ["letter"] (defScope s_write_head) := ⟨rfl, rfl, rfl, by decide +kernel, rfl, by decide +kernel, by decide +kernel⟩
theorem sc_read_head : FnScope ["words"] ["words"] (defScope s_read_head) := ⟨rfl, rfl, rfl, by decide +kernel, rfl, by decide +kernel, by decide +kernel⟩
theorem sc_read_line : FnScope ["key", "line", "words", "offer"] ["key", "line"] (defScope s_read_line) := ⟨rfl, rfl, rfl, by decide +kernel, rfl, by decide +kernel, by decide +kernel⟩
theorem sc_read_origin : FnScope ["words"] ["words"] (defScope s_read_origin) := ⟨rfl, rfl, rfl, by decide +kernel, rfl, by decide +kernel, by decide +kernel⟩
theorem sc_read_target : FnScope ["words"] ["words"] (defScope s_read_target) := ⟨rfl, rfl, rfl, by decide +kernel, rfl, by decide +kernel, by decide +kernel⟩
theorem sc_read_single : FnScope ["key", "word", "number", "is_right"] ["key", "word"] (defScope s_read_single) := ⟨rfl, rfl, rfl, by decide +kernel, rfl, by decide +kernel, by decide +kernel⟩
theorem sc_Wait___init : FnScope ["self", "now", "first"] ["self", "now", "first"] (defScope s_Wait___init) := ⟨rfl, rfl, rfl, by decide +kernel, rfl, by decide +kernel, by decide +kernel⟩
theorem sc_Wait_repeats : FnScope ["self", "now"] ["self", "now"] (defScope s_Wait_repeats) := ⟨rfl, rfl, rfl, by decide +kernel, rfl, by decide +kernel, by decide +kernel⟩
theorem sc_Wait_is_up : FnScope ["self", "now"] ["self", "now"] (defScope s_Wait_is_up) := ⟨rfl, rfl, rfl, by decide +kernel, rfl, by decide +kernel, by decide +kernel⟩
theorem sc_Client___init : FnScope ["self", "letter", "place", "now", "first"] ["self", "letter", "place", "now", "first"] (defScope s_Client___init) := ⟨rfl, rfl, rfl, by decide +kernel, rfl, by decide +kernel, by decide +kernel⟩
theorem sc_Client_sending : FnScope ["self"] ["self"] (defScope s_Client_sending) := ⟨rfl, rfl, rfl, by decide +kernel, rfl, by decide +kernel, by decide +kernel⟩
theorem sc_Client_take : FnScope ["self", "reply", "now"] ["self", "reply", "now"] (defScope s_Client_take) := ⟨rfl, rfl, rfl, by decide +kernel, rfl, by decide +kernel, by decide +kernel⟩
theorem sc_Client_stop : FnScope ["self", "now"] ["self", "now"] (defScope s_Client_stop) := ⟨rfl, rfl, rfl, by decide +kernel, rfl, by decide +kernel, by decide +kernel⟩
theorem sc_Client_tick : FnScope ["self", "now", "given_up"] ["self", "now"] (defScope s_Client_tick) := ⟨rfl, rfl, rfl, by decide +kernel, rfl, by decide +kernel, by decide +kernel⟩
theorem sc_Client_is_over : FnScope ["self"] ["self"] (defScope s_Client_is_over) := ⟨rfl, rfl, rfl, by decide +kernel, rfl, by decide +kernel, by decide +kernel⟩
theorem sc_Client__take_provisional : FnScope ["self", "reply"] ["self", "reply"] (defScope s_Client__take_provisional) := ⟨rfl, rfl, rfl, by decide +kernel, rfl, by decide +kernel, by decide +kernel⟩
theorem sc_Client__keep_for : FnScope ["self", "reply", "call"] ["self", "reply"] (defScope s_Client__keep_for) := ⟨rfl, rfl, rfl, by decide +kernel, rfl, by decide +kernel, by decide +kernel⟩
theorem sc_Server___init : FnScope ["self", "letter", "place", "first"] ["self", "letter", "place", "first"] (defScope s_Server___init) := ⟨rfl, rfl, rfl, by decide +kernel, rfl, by decide +kernel, by decide +kernel⟩
theorem sc_Server_matches : FnScope ["self", "letter", "place", "own"] ["self", "letter", "place"] (defScope s_Server_matches) := ⟨rfl, rfl, rfl, by decide +kernel, rfl, by decide +kernel, by decide +kernel⟩
theorem sc_Server_again : FnScope ["self"] ["self"] (defScope s_Server_again) := ⟨rfl, rfl, rfl, by decide +kernel, rfl, by decide +kernel, by decide +kernel⟩
theorem sc_Server_reply : FnScope ["self", "letter", "now"] ["self", "letter", "now"] (defScope s_Server_reply) := ⟨rfl, rfl, rfl, by decide +kernel, rfl, by decide +kernel, by decide +kernel⟩
theorem sc_Server_keep : FnScope ["self", "now"] ["self", "now"] (defScope s_Server_keep) := ⟨rfl, rfl, rfl, by decide +kernel, rfl, by decide +kernel, by decide +kernel⟩
theorem sc_Server_tick : FnScope ["self", "now", "waits_for_keep"] ["self", "now"] (defScope s_Server_tick) := ⟨rfl, rfl, rfl, by decide +kernel, rfl, by decide +kernel, by decide +kernel⟩
theorem sc_Server_is_over : FnScope ["self"] ["self"] (defScope s_Server_is_over) := ⟨rfl, rfl, rfl, by decide +kernel, rfl, by decide +kernel, by decide +kernel⟩
theorem sc_Leg___init : FnScope ["self", "tag", "call", "own", "other", "place", "able", "first", "check", "seq"] ["self", "tag", "call", "own", "other", "place", "able", "first", "check", "seq"] (defScope s_Leg___init) := ⟨rfl, rfl, rfl, by decide +kernel, rfl, by decide +kernel, by decide +kernel⟩
theorem sc_Leg_call_out : FnScope ["self", "offer", "now"] ["self", "offer", "now"] (defScope s_Leg_call_out) := ⟨rfl, rfl, rfl, by decide +kernel, rfl, by decide +kernel, by decide +kernel⟩
theorem sc_Leg_call_in : FnScope ["self", "letter"] ["self", "letter"] (defScope s_Leg_call_in) := ⟨rfl, rfl, rfl, by decide +kernel, rfl, by decide +kernel, by decide +kernel⟩
theorem sc_Leg_ring : FnScope ["self", "now"] ["self", "now"] (defScope s_Leg_ring) := ⟨rfl, rfl, rfl, by decide +kernel, rfl, by decide +kernel, by decide +kernel⟩
theorem sc_Leg_accept : FnScope ["self", "offer", "now"] ["self", "offer", "now"] (defScope s_Leg_accept) := ⟨rfl, rfl, rfl, by decide +kernel, rfl, by decide +kernel, by decide +kernel⟩
theorem sc_Leg_refuse : FnScope ["self", "code", "now"] ["self", "code", "now"] (defScope s_Leg_refuse) := ⟨rfl, rfl, rfl, by decide +kernel, rfl, by decide +kernel, by decide +kernel⟩
theorem sc_Leg_hang_up : FnScope ["self", "now"] ["self", "now"] (defScope s_Leg_hang_up) := ⟨rfl, rfl, rfl, by decide +kernel, rfl, by decide +kernel, by decide +kernel⟩
theorem sc_Leg_turn : FnScope ["self", "offer", "now"] ["self", "offer", "now"] (defScope s_Leg_turn) := ⟨rfl, rfl, rfl, by decide +kernel, rfl, by decide +kernel, by decide +kernel⟩
theorem sc_Leg_move : FnScope ["self", "goal", "now"] ["self", "goal", "now"] (defScope s_Leg_move) := ⟨rfl, rfl, rfl, by decide +kernel, rfl, by decide +kernel, by decide +kernel⟩
theorem sc_Leg_receive : FnScope ["self", "letter", "place", "now", "server"] ["self", "letter", "place", "now"] (defScope s_Leg_receive) := ⟨rfl, rfl, rfl, by decide +kernel, rfl, by decide +kernel, by decide +kernel⟩
theorem sc_Leg_tick : FnScope ["self", "now", "sent", "client", "repeated", "given_up", "server"] ["self", "now"] (defScope s_Leg_tick) := ⟨rfl, rfl, rfl, by decide +kernel, rfl, by decide +kernel, by decide +kernel⟩
theorem sc_Leg_take_events : FnScope ["self", "events"] ["self"] (defScope s_Leg_take_events) := ⟨rfl, rfl, rfl, by decide +kernel, rfl, by decide +kernel, by decide +kernel⟩
theorem sc_Leg_is_done : FnScope ["self"] ["self"] (defScope s_Leg_is_done) := ⟨rfl, rfl, rfl, by decide +kernel, rfl, by decide +kernel, by decide +kernel⟩
theorem sc_Leg__send : FnScope ["self", "verb", "now", "offer", "goal", "letter", "client"] ["self", "verb", "now", "offer", "goal"] (defScope s_Leg__send) := ⟨rfl, rfl, rfl, by decide +kernel, rfl, by decide +kernel, by decide +kernel⟩
theorem sc_Leg__serve : FnScope ["self", "letter", "place", "server"] ["self", "letter", "place"] (defScope s_Leg__serve) := ⟨rfl, rfl, rfl, by decide +kernel, rfl, by decide +kernel, by decide +kernel⟩
theorem sc_Leg__reply : FnScope ["self", "server", "now", "code", "offer"] ["self", "server", "now", "code", "offer"] (defScope s_Leg__reply) := ⟨rfl, rfl, rfl, by decide +kernel, rfl, by decide +kernel, by decide +kernel⟩
theorem sc_Leg__reply_to_call : FnScope ["self", "now", "code", "offer"] ["self", "now", "code", "offer"] (defScope s_Leg__reply_to_call) := ⟨rfl, rfl, rfl, by decide +kernel, rfl, by decide +kernel, by decide +kernel⟩
theorem sc_Leg__talk : FnScope ["self", "now"] ["self", "now"] (defScope s_Leg__talk) := ⟨rfl, rfl, rfl, by decide +kernel, rfl, by decide +kernel, by decide +kernel⟩
theorem sc_Leg__end : FnScope ["self", "why", "code"] ["self", "why", "code"] (defScope s_Leg__end) := ⟨rfl, rfl, rfl, by decide +kernel, rfl, by decide +kernel, by decide +kernel⟩
theorem sc_Leg__stop_call : FnScope ["self", "now", "client"] ["self", "now"] (defScope s_Leg__stop_call) := ⟨rfl, rfl, rfl, by decide +kernel, rfl, by decide +kernel, by decide +kernel⟩
theorem sc_Leg__ask : FnScope ["self", "verb", "now", "offer", "goal"] ["self", "verb", "now", "offer", "goal"] (defScope s_Leg__ask) := ⟨rfl, rfl, rfl, by decide +kernel, rfl, by decide +kernel, by decide +kernel⟩
theorem sc_Leg__is_asking : FnScope ["self", "client"] ["self"] (defScope s_Leg__is_asking) := ⟨rfl, rfl, rfl, by decide +kernel, rfl, by decide +kernel, by decide +kernel⟩
theorem sc_Leg__send_waiting : FnScope ["self", "now", "verb", "offer", "goal"] ["self", "now"] (defScope s_Leg__send_waiting) := ⟨rfl, rfl, rfl, by decide +kernel, rfl, by decide +kernel, by decide +kernel⟩
theorem sc_Leg__has_most_servers : FnScope ["self", "server"] ["self"] (defScope s_Leg__has_most_servers) := ⟨rfl, rfl, rfl, by decide +kernel, rfl, by decide +kernel, by decide +kernel⟩
theorem sc_Leg__take_known : FnScope ["self", "server", "letter", "now"] ["self", "server", "letter", "now"] (defScope s_Leg__take_known) := ⟨rfl, rfl, rfl, by decide +kernel, rfl, by decide +kernel, by decide +kernel⟩
theorem sc_Leg__take_new : FnScope ["self", "server", "now", "verb"] ["self", "server", "now"] (defScope s_Leg__take_new) := ⟨rfl, rfl, rfl, by decide +kernel, rfl, by decide +kernel, by decide +kernel⟩
theorem sc_Leg__take_end : FnScope ["self", "server", "now"] ["self", "server", "now"] (defScope s_Leg__take_end) := ⟨rfl, rfl, rfl, by decide +kernel, rfl, by decide +kernel, by decide +kernel⟩
theorem sc_Leg__take_stop : FnScope ["self", "server", "now", "is_answered"] ["self", "server", "now"] (defScope s_Leg__take_stop) := ⟨rfl, rfl, rfl, by decide +kernel, rfl, by decide +kernel, by decide +kernel⟩
theorem sc_Leg__take_turn : FnScope ["self", "server", "now", "offer", "answered"] ["self", "server", "now"] (defScope s_Leg__take_turn) := ⟨rfl, rfl, rfl, by decide +kernel, rfl, by decide +kernel, by decide +kernel⟩
theorem sc_Leg__take_move : FnScope ["self", "server", "now", "goal"] ["self", "server", "now"] (defScope s_Leg__take_move) := ⟨rfl, rfl, rfl, by decide +kernel, rfl, by decide +kernel, by decide +kernel⟩
theorem sc_Leg__take_reply : FnScope ["self", "reply", "now", "client", "sent", "code"] ["self", "reply", "now"] (defScope s_Leg__take_reply) := ⟨rfl, rfl, rfl, by decide +kernel, rfl, by decide +kernel, by decide +kernel⟩
theorem sc_Leg__follow : FnScope ["self", "reply", "now"] ["self", "reply", "now"] (defScope s_Leg__follow) := ⟨rfl, rfl, rfl, by decide +kernel, rfl, by decide +kernel, by decide +kernel⟩
theorem sc_Leg__follow_call : FnScope ["self", "reply", "now"] ["self", "reply", "now"] (defScope s_Leg__follow_call) := ⟨rfl, rfl, rfl, by decide +kernel, rfl, by decide +kernel, by decide +kernel⟩
theorem sc_Leg__give_up_request : FnScope ["self", "verb", "now"] ["self", "verb", "now"] (defScope s_Leg__give_up_request) := ⟨rfl, rfl, rfl, by decide +kernel, rfl, by decide +kernel, by decide +kernel⟩
theorem sc_Leg__lose : FnScope ["self", "now"] ["self", "now"] (defScope s_Leg__lose) := ⟨rfl, rfl, rfl, by decide +kernel, rfl, by decide +kernel, by decide +kernel⟩
theorem sc_Leg__send_live : FnScope ["self", "now"] ["self", "now"] (defScope s_Leg__send_live) := ⟨rfl, rfl, rfl, by decide +kernel, rfl, by decide +kernel, by decide +kernel⟩
theorem sc_Leg__forget_those_over : FnScope ["self", "client", "server"] ["self"] (defScope s_Leg__forget_those_over) := ⟨rfl, rfl, rfl, by decide +kernel, rfl, by decide +kernel, by decide +kernel⟩
theorem sc_law_state : FnScope ["script", "seed", "cell"] ["script"] (defScope s_law_state) := ⟨rfl, rfl, rfl, by decide +kernel, rfl, by decide +kernel, by decide +kernel⟩
theorem sc_law_draw : FnScope ["state", "many", "cells", "value", "mixed"] ["state", "many"] (defScope s_law_draw) := ⟨rfl, rfl, rfl, by decide +kernel, rfl, by decide +kernel, by decide +kernel⟩
theorem sc_law_pick : FnScope ["state", "row"] ["state", "row"] (defScope s_law_pick) := ⟨rfl, rfl, rfl, by decide +kernel, rfl, by decide +kernel, by decide +kernel⟩
theorem sc_law_talking : FnScope ["state", "check", "able", "leg", "call"] ["state", "check"] (defScope s_law_talking) := ⟨rfl, rfl, rfl, by decide +kernel, rfl, by decide +kernel, by decide +kernel⟩
theorem sc_law_take : FnScope ["rows", "world", "place", "text", "letter", "sent"] ["rows", "world"] (defScope s_law_take) := ⟨rfl, rfl, rfl, by decide +kernel, rfl, by decide +kernel, by decide +kernel⟩
theorem sc_law_next : FnScope ["world", "due"] ["world", "due"] (defScope s_law_next) := ⟨rfl, rfl, rfl, by decide +kernel, rfl, by decide +kernel, by decide +kernel⟩
theorem sc_law_asks : FnScope ["state", "leg", "world", "due", "now", "kind", "port", "goal", "rows", "made", "waiting"] ["state", "leg", "world", "due", "now"] (defScope s_law_asks) := ⟨rfl, rfl, rfl, by decide +kernel, rfl, by decide +kernel, by decide +kernel⟩
theorem sc_law_replies : FnScope ["state", "leg", "world", "due", "events", "now", "check", "letter", "code", "offer", "rows", "made"] ["state", "leg", "world", "due", "events", "now", "check"] (defScope s_law_replies) := ⟨rfl, rfl, rfl, by decide +kernel, rfl, by decide +kernel, by decide +kernel⟩
theorem sc_law_sent_right : FnScope ["world", "due", "sent", "letter"] ["world", "due"] (defScope s_law_sent_right) := ⟨rfl, rfl, rfl, by decide +kernel, rfl, by decide +kernel, by decide +kernel⟩
theorem sc_law : FnScope ["script", "state", "check", "leg", "world", "due", "events", "told", "now", "rows", "k", "old"] ["script"] (defScope s_law) := ⟨rfl, rfl, rfl, by decide +kernel, rfl, by decide +kernel, by decide +kernel⟩
structure Tx (K : PySem.W.Frag) (mg : Str → Option Value) : Prop where
  g_ASKING : mg "ASKING" = some (.ref (He.ga K "ASKING"))
  v_ASKING : ∀ H : Hp, SqT K H (He.ga K "ASKING") [.str "TURN", .str "MOVE", .str "LIVE"]
  g_BEFORE_TALKING : mg "BEFORE_TALKING" = some (.ref (He.ga K "BEFORE_TALKING"))
  v_BEFORE_TALKING : ∀ H : Hp, SqT K H (He.ga K "BEFORE_TALKING") [.str "calling", .str "ringing"]
  g_CODES : mg "CODES" = some (.ref (He.ga K "CODES"))
  v_CODES : ∀ H : Hp, SqT K H (He.ga K "CODES") [.int 18, .int 20, .int 41, .int 43, .int 44, .int 45, .int 46, .int 48, .int 50]
  g_DIGITS : ∃ t, mg "DIGITS" = some (.str "0123456789" t)
  g_GREATEST_CODE : ∃ t, mg "GREATEST_CODE" = some (.int 99 t)
  g_GREATEST_GAP : ∃ t, mg "GREATEST_GAP" = some (.int 8 t)
  g_GREATEST_PORT : ∃ t, mg "GREATEST_PORT" = some (.int 65535 t)
  g_GREATEST_SEQ : ∃ t, mg "GREATEST_SEQ" = some (.int 999999 t)
  g_LEAST_FINAL_CODE : ∃ t, mg "LEAST_FINAL_CODE" = some (.int 20 t)
  g_LIMIT : ∃ t, mg "LIMIT" = some (.int 32 t)
  g_LONGEST_NUMBER : ∃ t, mg "LONGEST_NUMBER" = some (.int 9 t)
  g_LONGEST_STAY : ∃ t, mg "LONGEST_STAY" = some (.int 9999 t)
  g_LONGEST_WORD : ∃ t, mg "LONGEST_WORD" = some (.int 16 t)
  g_MODES : mg "MODES" = some (.ref (He.ga K "MODES"))
  v_MODES : ∀ H : Hp, SqT K H (He.ga K "MODES") [.str "both", .str "send", .str "take", .str "none"]
  g_MOST_FORMATS : ∃ t, mg "MOST_FORMATS" = some (.int 6 t)
  g_MOST_SERVERS : ∃ t, mg "MOST_SERVERS" = some (.int 16 t)
  g_MOST_WAITING : ∃ t, mg "MOST_WAITING" = some (.int 8 t)
  g_NAME_MARKS : ∃ t, mg "NAME_MARKS" = some (.str "abcdefghijklmnopqrstuvwxyz0123456789" t)
  g_NEEDED : mg "NEEDED" = some (.ref (He.ga K "NEEDED"))
  v_NEEDED : ∀ H : Hp, SqT K H (He.ga K "NEEDED") [.str "call", .str "from", .str "to", .str "seq", .str "way"]
  g_NOT_NOW : ∃ t, mg "NOT_NOW" = some (.int 50 t)
  g_NO_ANSWER : ∃ t, mg "NO_ANSWER" = some (.int 48 t)
  g_NO_CALL : ∃ t, mg "NO_CALL" = some (.int 41 t)
  g_NO_FORMAT : ∃ t, mg "NO_FORMAT" = some (.int 46 t)
  g_POSSIBLE : mg "POSSIBLE" = some (.ref (He.ga K "POSSIBLE"))
  v_POSSIBLE : ∀ H : Hp, SqT K H (He.ga K "POSSIBLE") [.str "offer", .str "stay", .str "goal"]
  g_RINGS : ∃ t, mg "RINGS" = some (.int 18 t)
  g_SMALL_LETTERS : ∃ t, mg "SMALL_LETTERS" = some (.str "abcdefghijklmnopqrstuvwxyz" t)
  g_STOPPED : ∃ t, mg "STOPPED" = some (.int 45 t)
  g_TAG_MARKS : ∃ t, mg "TAG_MARKS" = some (.str "ABCDEFGHIJKLMNOPQRSTUVWXYZabcdefghijklmnopqrstuvwxyz0123456789" t)
  g_VERBS : mg "VERBS" = some (.ref (He.ga K "VERBS"))
  v_VERBS : ∀ H : Hp, SqT K H (He.ga K "VERBS") [.str "CALL", .str "KEEP", .str "STOP", .str "END", .str "TURN", .str "MOVE", .str "LIVE", .str "SIGN"]
  g_YES : ∃ t, mg "YES" = some (.int 20 t)
  f_abs : mg "abs" = none
  f_all : mg "all" = none
  f_any : mg "any" = none
  f_int : mg "int" = none
  f_len : mg "len" = none
  f_list : mg "list" = none
  f_min : mg "min" = none
  f_range : mg "range" = none
  f_set : mg "set" = none
  f_str : mg "str" = none
  f_tuple : mg "tuple" = none
  cl_Letter : Cls K (He.ga K "Letter")
  na_Letter_verb : NoAttr K (He.ga K "Letter") "verb"
  na_Letter_code : NoAttr K (He.ga K "Letter") "code"
  na_Letter_call : NoAttr K (He.ga K "Letter") "call"
  na_Letter_origin : NoAttr K (He.ga K "Letter") "origin"
  na_Letter_origin_tag : NoAttr K (He.ga K "Letter") "origin_tag"
  na_Letter_target : NoAttr K (He.ga K "Letter") "target"
  na_Letter_target_tag : NoAttr K (He.ga K "Letter") "target_tag"
  na_Letter_seq : NoAttr K (He.ga K "Letter") "seq"
  na_Letter_way : NoAttr K (He.ga K "Letter") "way"
  na_Letter_offer : NoAttr K (He.ga K "Letter") "offer"
  na_Letter_stay : NoAttr K (He.ga K "Letter") "stay"
  na_Letter_goal : NoAttr K (He.ga K "Letter") "goal"
  cl_Wait : Cls K (He.ga K "Wait")
  na_Wait__began : NoAttr K (He.ga K "Wait") "_began"
  na_Wait__first : NoAttr K (He.ga K "Wait") "_first"
  na_Wait__gap : NoAttr K (He.ga K "Wait") "_gap"
  na_Wait__due : NoAttr K (He.ga K "Wait") "_due"
  cl_Client : Cls K (He.ga K "Client")
  na_Client_letter : NoAttr K (He.ga K "Client") "letter"
  na_Client_place : NoAttr K (He.ga K "Client") "place"
  na_Client_state : NoAttr K (He.ga K "Client") "state"
  na_Client__first : NoAttr K (He.ga K "Client") "_first"
  na_Client__wait : NoAttr K (He.ga K "Client") "_wait"
  na_Client__keep : NoAttr K (He.ga K "Client") "_keep"
  cl_Server : Cls K (He.ga K "Server")
  na_Server_letter : NoAttr K (He.ga K "Server") "letter"
  na_Server_place : NoAttr K (He.ga K "Server") "place"
  na_Server_state : NoAttr K (He.ga K "Server") "state"
  na_Server_code : NoAttr K (He.ga K "Server") "code"
  na_Server__first : NoAttr K (He.ga K "Server") "_first"
  na_Server__wait : NoAttr K (He.ga K "Server") "_wait"
  na_Server__latest : NoAttr K (He.ga K "Server") "_latest"
  cl_Leg : Cls K (He.ga K "Leg")
  na_Leg_tag : NoAttr K (He.ga K "Leg") "tag"
  na_Leg_call : NoAttr K (He.ga K "Leg") "call"
  na_Leg_own : NoAttr K (He.ga K "Leg") "own"
  na_Leg_other : NoAttr K (He.ga K "Leg") "other"
  na_Leg_place : NoAttr K (He.ga K "Leg") "place"
  na_Leg_able : NoAttr K (He.ga K "Leg") "able"
  na_Leg_first : NoAttr K (He.ga K "Leg") "first"
  na_Leg_check : NoAttr K (He.ga K "Leg") "check"
  na_Leg_other_tag : NoAttr K (He.ga K "Leg") "other_tag"
  na_Leg_state : NoAttr K (He.ga K "Leg") "state"
  na_Leg__seq : NoAttr K (He.ga K "Leg") "_seq"
  na_Leg__requests : NoAttr K (He.ga K "Leg") "_requests"
  na_Leg_took_call : NoAttr K (He.ga K "Leg") "took_call"
  na_Leg__greatest_taken : NoAttr K (He.ga K "Leg") "_greatest_taken"
  na_Leg__clients : NoAttr K (He.ga K "Leg") "_clients"
  na_Leg__servers : NoAttr K (He.ga K "Leg") "_servers"
  na_Leg__waiting : NoAttr K (He.ga K "Leg") "_waiting"
  na_Leg__live_due : NoAttr K (He.ga K "Leg") "_live_due"
  na_Leg__events : NoAttr K (He.ga K "Leg") "_events"
/-! ### what the program's defs answer -/
def consL (l m : List Nat) (n : Int) : Bool := (decide ((1 : Int) ≤ (l.length : Int)) && decide ((l.length : Int) ≤ n)) && l.all fun c => decide (c ∈ m)
def consB (z m : Str) (n : Int) : Bool := consL (TL.tl z) (TL.tl m) n
theorem consB_len {z m : Str} {n : Int} (h : consB z m n = true) : 0 < (TL.tl z).length ∧ ((TL.tl z).length : Int) ≤ n ∧ ∀ c ∈ TL.tl z, c ∈ TL.tl m := by
  unfold consB consL at h
  rw [Bool.and_eq_true, Bool.and_eq_true, decide_eq_true_eq, decide_eq_true_eq] at h
  refine ⟨by omega, h.1.2, fun c hc => ?_⟩
  exact of_decide_eq_true (List.all_eq_true.mp h.2 c hc)
def spCons : Sp := fun vs H Q _ => ∃ (z m : Str) (n : Int), vs = [.str z, .str m, .int n] ∧ z.length ≤ 1000 ∧ ∀ H', Same H H' → Q (.bl (consB z m n)) H'
theorem ok_consists_of {P : Program} {w : World} {K : PySem.W.Frag} {mg : Str → Option Value} {base : Heap} {f : Addr} {fd : FuncData} (T : Tx K mg) 
    (F : FunD K "_consists_of" "_consists_of" (defArgs s_consists_of) (defBody s_consists_of) (defScope s_consists_of) [] [] f fd) : FnOk P w K mg base CX0 1 f fd ["word", "marks", "longest"] spCons := by
  refine F.ok sc_consists_of (fun vs H Q E h => ?_) (fun cdv A outer s H vs Q E hr h => ?_)
  · obtain ⟨z, m, n, rfl, _⟩ := h
    rfl
  · obtain ⟨z, m, n, rfl, hz, k⟩ := h
    have hz2 : z.length ≤ sizeLine := Nat.le_trans hz (by decide)
    have eB : consB z m n = ((decide ((1 : Int) ≤ (z.length : Int)) && decide ((z.length : Int) ≤ n)) && (TL.tl z).all fun c => decide (c ∈ TL.tl m)) := by
      unfold consB consL
      rw [len_eq]
    refine ⟨_, PSs.nox (pss_one (ps_ret (pe_and (pe_chain op_le op_le pe_int (pe_callB call_len_str rfl T.f_len PySem.boot_len (pa_cons (pv 0) pa_nil)) (pv 2)) (pe_one (pe_callB (cr_all rfl) rfl T.f_all (by decide +kernel) (pa_cons (pe_lc (own := [("mark", 3)]) (g := gName 3) rfl sc_consists_of.nd (pi_str (pv 0)) (blkOk_by (own := [("mark", 3)]) (N := ["word", "marks", "longest", "mark"]) (sc := defScope s_consists_of) (by decide +kernel)) (fun _ _ _ _ _ => pg_name (i := 3) sc_consists_of.nd rfl (Or.inl rfl)) (fun _ _ _ _ _ => pts_nil) (fun _ _ _ _ _ => (pe_cmpR op_in_sign (pv 3) (pv 1) (by with_unfolding_all rfl)))) pa_nil)))))), ?_⟩
    refine ⟨_, rfl, _, rfl, hz2, _, _, rfl, rfl, _, rfl, ?_⟩
    refine ite2 (fun h1 => ?_) (fun h1 => ?_)
    · refine ⟨_, rfl, _, _, rfl, rfl, _, rfl, ?_⟩
      refine ite2 (fun h2 => ?_) (fun h2 => ?_)
      · refine ⟨_, rfl, _, rfl, fun D hD => ?_⟩
        have hn : z.cps.size ≤ sizeLine := by
          rw [size_tl, ← len_eq]
          exact hz2
        refine lc_pureN walk_str (fun i => V.bl (decide ((TL.tl z).getD i 0 ∈ TL.tl m))) hn (fun _ _ => trivial) (fun i x H' kk hi y q => ?_) ?_
        · obtain ⟨rfl, c, hc, rfl⟩ := y
          refine ⟨rfl, _, rfl, _, rfl, _, _, rfl, rfl, ?_⟩
          have e : (TL.tl z).getD i 0 = c := by
            have h5 : (TL.tl z)[i]? = some c := by
              show z.cps.toList[i]? = some c
              rw [Array.getElem?_toList]
              exact hc
            rw [List.getD_eq_getElem?_getD, h5]
            rfl
          rw [← e]
          exact q
        · refine ⟨D, (TL.tl z).map fun c => decide (c ∈ TL.tl m), rfl, SqL.of ?_, ?_⟩
          · rw [upd_same, size_tl, List.map_map]
            exact congrArg (fun l => some (HO.lst l)) (range_map_getD (TL.tl z) 0 fun c => V.bl (decide (c ∈ TL.tl m)))
          · have e : (List.map (fun c => decide (c ∈ TL.tl m)) (TL.tl z)).all id = consB z m n := by
              rw [eB, h1, h2, List.all_map]
              rfl
            rw [e]
            exact k _ (same_upd hD)
      · have e : consB z m n = false := by
          rw [eB, ef h2, Bool.and_false, Bool.false_and]
        have q := k H (Same.refl H)
        rw [e] at q
        exact q
    · have e : consB z m n = false := by
        rw [eB, ef h1, Bool.false_and, Bool.false_and]
      refine ⟨false, rfl, iteF ?_⟩
      have q := k H (Same.refl H)
      rw [e] at q
      exact q

/-! ### names, tags -/
abbrev zSM : Str := "abcdefghijklmnopqrstuvwxyz"
abbrev zNM : Str := "abcdefghijklmnopqrstuvwxyz0123456789"
abbrev zTM : Str := "ABCDEFGHIJKLMNOPQRSTUVWXYZabcdefghijklmnopqrstuvwxyz0123456789"
abbrev zDG : Str := "0123456789"
def nameB (z : Str) : Bool := consB z zNM 16 && decide ((TL.tl z).getD 0 0 ∈ TL.tl zSM)
def spName : Sp := fun vs H Q _ => ∃ z : Str, vs = [.str z] ∧ z.length ≤ 1000 ∧ ∀ H', Same H H' → Q (.bl (nameB z)) H'
theorem ok_is_name {P : Program} {w : World} {K : PySem.W.Frag} {mg : Str → Option Value} {base : Heap} {f : Addr} {fd : FuncData} (T : Tx K mg) (c_consists_of : C8.Cal P w K mg base 1 "_consists_of" spCons [])
    (F : FunD K "is_name" "is_name" (defArgs s_is_name) (defBody s_is_name) (defScope s_is_name) [] [] f fd) : FnOk P w K mg base CX0 2 f fd ["word"] spName := by
  refine F.ok sc_is_name (fun vs H Q E h => ?_) (fun cdv A outer s H vs Q E hr h => ?_)
  · obtain ⟨z, rfl, _⟩ := h
    rfl
  · obtain ⟨z, rfl, hz, k⟩ := h
    have hz2 : z.length ≤ sizeLine := Nat.le_trans hz (by decide)
    refine ⟨_, PSs.nox (pss_one (ps_ret (pe_and (pe_c c_consists_of hr (by decide) rfl (pa_cons (pv 0) (pa_cons (pgS T.g_NAME_MARKS) (pa_cons (pgI T.g_LONGEST_WORD) pa_nil)))) (pe_one (pe_cmpR op_in_sign (pe_ix ix_str (pv 0) pe_int (fun _ _ => rfl)) (pgS T.g_SMALL_LETTERS) (by with_unfolding_all rfl)))))), ?_⟩
    refine ⟨_, rfl, z, zNM, 16, rfl, hz, fun H1 s1 => ⟨_, rfl, ?_⟩⟩
    refine ite2 (fun h1 => ?_) (fun h1 => ?_)
    · refine ⟨_, rfl, _, 0, _, rfl, rfl, hz2, at0 0 (consB_len h1).1, _, _, rfl, rfl, ?_⟩
      have e : decide ((TL.tl z).getD 0 0 ∈ TL.tl zSM) = nameB z := by
        unfold nameB
        rw [h1, Bool.true_and]
      have q := k H1 s1
      rw [← e] at q
      exact q
    · have e : nameB z = false := by
        unfold nameB
        rw [ef h1, Bool.false_and]
      have q := k H1 s1
      rw [e] at q
      exact q

def tagB (z : Str) : Bool := consB z zTM 16
def spTag : Sp := fun vs H Q _ => ∃ z : Str, vs = [.str z] ∧ z.length ≤ 1000 ∧ ∀ H', Same H H' → Q (.bl (tagB z)) H'
theorem ok_is_tag {P : Program} {w : World} {K : PySem.W.Frag} {mg : Str → Option Value} {base : Heap} {f : Addr} {fd : FuncData} (T : Tx K mg) (c_consists_of : C8.Cal P w K mg base 1 "_consists_of" spCons [])
    (F : FunD K "is_tag" "is_tag" (defArgs s_is_tag) (defBody s_is_tag) (defScope s_is_tag) [] [] f fd) : FnOk P w K mg base CX0 2 f fd ["word"] spTag := by
  refine F.ok sc_is_tag (fun vs H Q E h => ?_) (fun cdv A outer s H vs Q E hr h => ?_)
  · obtain ⟨z, rfl, _⟩ := h
    rfl
  · obtain ⟨z, rfl, hz, k⟩ := h
    refine ⟨_, PSs.nox (pss_one (ps_ret (pe_c c_consists_of hr (by decide) rfl (pa_cons (pv 0) (pa_cons (pgS T.g_TAG_MARKS) (pa_cons (pgI T.g_LONGEST_WORD) pa_nil)))))), ?_⟩
    exact ⟨_, rfl, z, zTM, 16, rfl, hz, fun H1 s1 => k H1 s1⟩

/-! ### numbers -/
def numV (z : Str) (most : Int) : V :=
  if consB z zDG 9 = true then
    (if (decide (V.str (S [(TL.tl z).getD 0 0]) = V.str "0") && !decide (V.str z = V.str "0")) = true then .non
     else if ((NumText.digitsVal (TL.tl z) : Nat) : Int) ≤ most then .int (NumText.digitsVal (TL.tl z) : Nat) else .non)
  else .non
theorem digits_of {z : Str} (h : ∀ c ∈ TL.tl z, c ∈ TL.tl zDG) : ∀ c ∈ TL.tl z, 48 ≤ c ∧ c ≤ 57 := fun c hc => by
  have h1 := h c hc
  have h2 : ∀ c ∈ TL.tl zDG, 48 ≤ c ∧ c ≤ 57 := by decide +kernel
  exact h2 c h1
def spNum : Sp := fun vs H Q _ => ∃ (z : Str) (m : Int), vs = [.str z, .int m] ∧ z.length ≤ 1000 ∧ ∀ H', Same H H' → Q (numV z m) H'
theorem ok_read_number {P : Program} {w : World} {K : PySem.W.Frag} {mg : Str → Option Value} {base : Heap} {f : Addr} {fd : FuncData} (T : Tx K mg) (c_consists_of : C8.Cal P w K mg base 1 "_consists_of" spCons [])
    (F : FunD K "read_number" "read_number" (defArgs s_read_number) (defBody s_read_number) (defScope s_read_number) [] [] f fd) : FnOk P w K mg base CX0 2 f fd ["word", "most"] spNum := by
  refine F.ok sc_read_number (fun vs H Q E h => ?_) (fun cdv A outer s H vs Q E hr h => ?_)
  · obtain ⟨z, m, rfl, _⟩ := h
    rfl
  · obtain ⟨z, m, rfl, hz, k⟩ := h
    have hz2 : z.length ≤ sizeLine := Nat.le_trans hz (by decide)
    refine ⟨_, PSs.nox (C8.pss_cut (ps_if (pt_not (pt_val (pe_c c_consists_of hr (by decide) rfl (pa_cons (pv 0) (pa_cons (pgS T.g_DIGITS) (pa_cons (pgI T.g_LONGEST_NUMBER) pa_nil)))))) (pss_one (ps_ret pe_non)) pss_nil) (C8.pss_cut (ps_if (PW.pt (pw_and (pt_cmpR op_eq (pe_ix ix_str (pv 0) pe_int (fun _ _ => rfl)) pe_str (nomark _)) (pw_and1 (pt_cmpR op_ne (pv 0) pe_str (nomark _))))) (pss_one (ps_ret pe_non)) pss_nil) (pss_cons (ps_set (i := 2) sc_read_number.nd rfl (Or.inl rfl) (pe_callTy call_int_str rfl T.f_int (by decide +kernel) (pa_cons (pv 0) pa_nil))) (pss_one (ps_ret (pe_ifExp (pt_cmpR op_le (pv 2) (pv 1) (nomark _)) (pv 2) pe_non)))))), ?_⟩
    refine ⟨fun σ' H' => σ' = [some (.str z), some (.int m), none] ∧ Same H H' ∧ consB z zDG 9 = true, ?_, ?_⟩
    · refine ⟨_, rfl, z, zDG, 9, rfl, hz, fun H1 s1 => ⟨_, rfl, ?_⟩⟩
      have q := k H1 s1
      unfold numV at q
      by_cases h1 : consB z zDG 9 = true
      · rw [h1]
        exact iteF ⟨rfl, s1, rfl⟩
      · rw [if_neg h1] at q
        rw [ef h1]
        exact iteT q
    · rintro σ' H1 ⟨rfl, s1, h1⟩
      have q := k H1 s1
      unfold numV at q
      rw [if_pos h1] at q
      have hl := consB_len h1
      by_cases h2 : (decide (V.str (S [(TL.tl z).getD 0 0]) = V.str "0") && !decide (V.str z = V.str "0")) = true
      · rw [if_pos h2] at q
        rw [Bool.and_eq_true] at h2
        refine ⟨fun σ' H' => False, ?_, fun _ _ z => z.elim⟩
        refine ⟨_, rfl, _, 0, _, rfl, rfl, hz2, at0 0 hl.1, rfl, _, rfl, ?_⟩
        refine ite2 (fun _ => ?_) (fun h3 => absurd h2.1 h3)
        refine ⟨_, rfl, rfl, _, rfl, ?_⟩
        refine ite2 (fun _ => q) (fun h3 => absurd h2.2 h3)
      · rw [if_neg h2] at q
        refine ⟨fun σ' H' => σ' = [some (.str z), some (.int m), none] ∧ H' = H1, ?_, ?_⟩
        · refine ⟨_, rfl, _, 0, _, rfl, rfl, hz2, at0 0 hl.1, rfl, _, rfl, ?_⟩
          refine ite2 (fun h3 => ?_) (fun h3 => iteF ⟨rfl, rfl⟩)
          refine ⟨_, rfl, rfl, _, rfl, ?_⟩
          refine ite2 (fun h4 => absurd (Bool.and_eq_true_iff.mpr ⟨h3, h4⟩) h2) (fun _ => ⟨rfl, rfl⟩)
        · rintro σ' H' ⟨rfl, rfl⟩
          refine ⟨_, rfl, z, _, rfl, PySem.intText_digits (x := z) (digits_of hl.2.2) (List.length_pos_iff.mp hl.1) (by rw [len_eq]; omega), by rw [len_eq]; omega, ?_⟩
          refine ⟨_, rfl, _, rfl, _, _, rfl, rfl, _, rfl, ?_⟩
          by_cases h5 : ((NumText.digitsVal (TL.tl z) : Nat) : Int) ≤ m
          · rw [if_pos h5] at q
            rw [decide_eq_true h5]
            exact iteT ⟨_, rfl, q⟩
          · rw [if_neg h5] at q
            rw [decide_eq_false h5]
            exact iteF q

/-! ### addresses -/
def splitO : List Str → Option (Str × Str)
  | [u, h] => if (nameB u && nameB h) = true then some (u, h) else none
  | _ => none
def splitB (z : Str) : Option (Str × Str) := splitO (Txt.split z "@")
/-- None, or a tuple of two texts -/
def PairV (H : Hp) (x : V) : Option (Str × Str) → Prop
  | none => x = .non
  | some (u, h) => ∃ p, x = .ref p ∧ H p = some (.tup [.str u, .str h])
theorem at_len : ("@" : Str) = S [64] := by decide +kernel
theorem split_parts {z u h : Str} (e : Txt.split z "@" = [u, h]) : TL.tl z = TL.tl u ++ 64 :: TL.tl h ∧ 64 ∉ TL.tl u ∧ 64 ∉ TL.tl h := by
  rw [at_len] at e
  have j := StrLaws.join_split z (S [64])
  rw [e] at j
  have f := StrLaws.split_free z 64
  refine ⟨?_, f u (by rw [e]; simp), f h (by rw [e]; simp)⟩
  have e2 := TL.tl_join (S [64]) [u, h]
  rw [← j, e2]
  rfl
theorem split_two {z : Str} {a b : List Nat} (e : TL.tl z = a ++ 64 :: b) (ha : 64 ∉ a) (hb : 64 ∉ b) : Txt.split z "@" = [S a, S b] := by
  rw [at_len]
  have e1 : z = S (a ++ 64 :: b) := by
    rw [← e]
  rw [e1, split_S (by simp) (by decide)]
  have e2 : a ++ 64 :: b = TL.joinL [64] [a, b] := rfl
  rw [e2, spl_join (by simp) (by
    intro p hp
    rcases List.mem_cons.mp hp with z | z
    · rw [z]; exact ha
    · rw [List.mem_singleton.mp z]; exact hb)]
  rfl
def spSplit : Sp := fun vs H Q _ => ∃ z : Str, vs = [.str z] ∧ z.length ≤ 1000 ∧ ∀ x H', Same H H' → PairV H' x (splitB z) → Q x H'
theorem ok_split_address {P : Program} {w : World} {K : PySem.W.Frag} {mg : Str → Option Value} {base : Heap} {f : Addr} {fd : FuncData} (T : Tx K mg) (c_is_name : C8.Cal P w K mg base 2 "is_name" spName [])
    (F : FunD K "split_address" "split_address" (defArgs s_split_address) (defBody s_split_address) (defScope s_split_address) [] [] f fd) : FnOk P w K mg base CX0 3 f fd ["word"] spSplit := by
  refine F.ok sc_split_address (fun vs H Q E h => ?_) (fun cdv A outer s H vs Q E hr h => ?_)
  · obtain ⟨z, rfl, _⟩ := h
    rfl
  · obtain ⟨z, rfl, hz, k⟩ := h
    have hz2 : z.length + 2 ≤ sizeLine := Nat.le_trans (Nat.add_le_add_right hz 2) (by decide)
    refine ⟨_, PSs.nox (pss_cons (ps_set (i := 1) sc_split_address.nd rfl (Or.inl rfl) (pe_split (pv 0) pe_str)) (C8.pss_cut (ps_if (pt_cmpR op_ne (pe_callB call_len_seq rfl T.f_len PySem.boot_len (pa_cons (pv 1) pa_nil)) pe_int (nomark _)) (pss_one (ps_ret pe_non)) pss_nil) (pss_cons (ps_asg (pv 1) (pg_unl rfl (pgs_cons (pg_name (i := 2) sc_split_address.nd rfl (Or.inl rfl)) (pgs_cons (pg_name (i := 3) sc_split_address.nd rfl (Or.inl rfl)) pgs_nil)))) (pss_one (ps_ret (pe_ifExp (PW.pt (pw_and (pt_val (pe_c c_is_name hr (by decide) rfl (pa_cons (pv 2) pa_nil))) (pw_and1 (pt_val (pe_c c_is_name hr (by decide) rfl (pa_cons (pv 3) pa_nil)))))) (pe_tup (pa_cons (pv 2) (pa_cons (pv 3) pa_nil))) pe_non)))))), ?_⟩
    refine ⟨_, rfl, ⟨_, rfl⟩, z, "@", rfl, rfl, by decide +kernel, hz2, fun p hp => ?_⟩
    have s1 := same_upd (o := .lst ((Txt.split z "@").map V.str)) hp
    generalize eY : Txt.split z "@" = ys at *
    refine ⟨fun σ' H' => σ' = [some (.str z), some (.ref p), none, none] ∧ H' = upd H p (.lst (ys.map V.str)) ∧ ys.length = 2, ?_, ?_⟩
    · refine ⟨_, rfl, p, _, rfl, .inl (SqL.of upd_same), rfl, _, rfl, ?_⟩
      rw [List.length_map]
      by_cases h2 : ys.length = 2
      · rw [h2]
        exact iteF ⟨rfl, rfl, rfl⟩
      · have e : decide (V.int (ys.length : Nat) = V.int 2) = false := decide_eq_false fun q => h2 (by
          have := V.int.inj q
          omega)
        rw [e]
        refine iteT ?_
        refine k _ _ s1 ?_
        unfold splitB
        rw [eY]
        unfold splitO
        split
        · exact absurd rfl h2
        · rfl
    · rintro σ' H' ⟨rfl, rfl, h2⟩
      obtain ⟨u, ys, rfl⟩ : ∃ u r, ys = u :: r := by
        cases ys with
        | nil => cases h2
        | cons u r => exact ⟨u, r, rfl⟩
      obtain ⟨h, ys, rfl⟩ : ∃ u r, ys = u :: r := by
        cases ys with
        | nil => cases h2
        | cons u r => exact ⟨u, r, rfl⟩
      obtain rfl : ys = [] := List.length_eq_zero_iff.mp (by
        rw [List.length_cons, List.length_cons] at h2
        omega)
      obtain ⟨ez, _, _⟩ := split_parts eY
      have el := congrArg List.length ez
      rw [List.length_append, List.length_cons, ← len_eq, ← len_eq, ← len_eq] at el
      refine ⟨_, rfl, p, _, rfl, SqL.of upd_same, rfl, _, _, rfl, _, _, rfl, rfl, ?_⟩
      refine ⟨_, rfl, u, rfl, by omega, fun H2 s2 => ⟨_, rfl, ?_⟩⟩
      have eB : splitB z = if (nameB u && nameB h) = true then some (u, h) else none := by
        unfold splitB
        rw [eY]
        rfl
      by_cases h3 : nameB u = true
      · rw [h3]
        refine iteT ⟨_, rfl, h, rfl, by omega, fun H3 s3 => ⟨_, rfl, ?_⟩⟩
        by_cases h4 : nameB h = true
        · rw [h4]
          refine iteT ⟨_, rfl, _, rfl, by show 2 ≤ sizeLine; decide, fun t ht => ?_⟩
          refine k _ _ (((s1.trans s2).trans s3).trans (same_upd ht)) ?_
          rw [eB, h3, h4]
          exact ⟨t, rfl, upd_same⟩
        · rw [ef h4]
          refine iteF (k _ _ ((s1.trans s2).trans s3) ?_)
          rw [eB, h3, ef h4]
          rfl
      · rw [ef h3]
        refine iteF (iteF (k _ _ (s1.trans s2) ?_))
        rw [eB, ef h3]
        rfl
def spIsAddr : Sp := fun vs H Q _ => ∃ z : Str, vs = [.str z] ∧ z.length ≤ 1000 ∧ ∀ H', Same H H' → Q (.bl (splitB z).isSome) H'
theorem PairV.none_iff {H : Hp} {x : V} {o : Option (Str × Str)} (h : PairV H x o) : (!decide (x = .non)) = o.isSome := by
  cases o with
  | none =>
    cases (show x = .non from h)
    rfl
  | some q =>
    obtain ⟨u, w⟩ := q
    obtain ⟨p, rfl, _⟩ := h
    rfl
theorem ok_is_address {P : Program} {w : World} {K : PySem.W.Frag} {mg : Str → Option Value} {base : Heap} {f : Addr} {fd : FuncData} (T : Tx K mg) (c_split_address : C8.Cal P w K mg base 3 "split_address" spSplit [])
    (F : FunD K "is_address" "is_address" (defArgs s_is_address) (defBody s_is_address) (defScope s_is_address) [] [] f fd) : FnOk P w K mg base CX0 4 f fd ["word"] spIsAddr := by
  refine F.ok sc_is_address (fun vs H Q E h => ?_) (fun cdv A outer s H vs Q E hr h => ?_)
  · obtain ⟨z, rfl, _⟩ := h
    rfl
  · obtain ⟨z, rfl, hz, k⟩ := h
    refine ⟨_, PSs.nox (pss_one (ps_ret (pe_cmpR op_notN (pe_c c_split_address hr (by decide) rfl (pa_cons (pv 0) pa_nil)) pe_non (nomark _)))), ?_⟩
    refine ⟨_, rfl, z, rfl, hz, fun x H1 s1 hp => ⟨rfl, ?_⟩⟩
    rw [hp.none_iff]
    exact k H1 s1

end K19
set_option maxHeartbeats 4000000
namespace K19
open PySem PySem.Spec PyProof.Rows L2 SX TK TKS
open C8 (pe_c)
/-! ### offers -/
structure Off where
  port : Int
  mode : Str
  fs : List Str
/-- an offer stands at x -/
def OffAt (H : Hp) (x : V) (o : Off) : Prop := ∃ p f, x = .ref p ∧ H p = some (.tup [.int o.port, .str o.mode, .ref f]) ∧ H f = some (.tup (o.fs.map V.str))
theorem OffAt.same {H H' : Hp} {x : V} {o : Off} (h : OffAt H x o) (s : Same H H') : OffAt H' x o := by
  obtain ⟨p, f, rfl, e1, e2⟩ := h
  exact ⟨p, f, rfl, s _ _ e1, s _ _ e2⟩
theorem OffAt.keep {H H' : Hp} {x : V} {o : Off} {s c : Addr} (h : OffAt H x o) (st : StAt H s c) (k : Keep H H' s c) : OffAt H' x o := by
  obtain ⟨p, f, rfl, e1, e2⟩ := h
  obtain ⟨_, ⟨n, g1⟩, ns, g2, _⟩ := st
  exact ⟨p, f, rfl, k _ _ e1 (ne_of e1 g1 (by intro z; cases z)) (ne_of e1 g2 (by intro z; cases z)), k _ _ e2 (ne_of e2 g1 (by intro z; cases z)) (ne_of e2 g2 (by intro z; cases z))⟩
/-- a text within a list of texts -/
theorem inV_strs (z : Str) : ∀ l : List Str, inV (.str z) (l.map V.str) = decide (z ∈ l)
  | [] => rfl
  | a :: l => by
    have ih := inV_strs z l
    unfold inV at ih ⊢
    rw [List.map_cons, List.any_cons, ih]
    show ((a == z) || decide (z ∈ l)) = decide (z ∈ a :: l)
    by_cases e : a = z
    · subst e
      simp
    · have h1 : (a == z) = false := by simpa using e
      rw [h1, Bool.false_or]
      exact decide_eq_decide.mpr ⟨fun h => List.mem_cons_of_mem _ h, fun h => by
        rcases List.mem_cons.mp h with q | q
        · exact absurd q.symm e
        · exact q⟩
theorem flat_strs : ∀ l : List Str, (l.map V.str).all flatV = true
  | [] => rfl
  | _ :: l => by
    rw [List.map_cons, List.all_cons, flat_strs l]
    rfl
/-- None, or an offer -/
def OffO (H : Hp) (x : V) : Option Off → Prop
  | none => x = .non
  | some o => OffAt H x o
theorem OffO.same {H H' : Hp} {x : V} {o : Option Off} (h : OffO H x o) (s : Same H H') : OffO H' x o := by
  cases o with
  | none => exact h
  | some o => exact OffAt.same h s
theorem OffO.none_iff {H : Hp} {x : V} {o : Option Off} (h : OffO H x o) : (!decide (x = .non)) = o.isSome := by
  cases o with
  | none =>
    cases (show x = .non from h)
    rfl
  | some o =>
    obtain ⟨p, f, rfl, _⟩ := h
    rfl

/-! ### offers as words -/
def wordsS (o : Off) : Str := Txt.join " " [Str.ofString (toString o.port), o.mode, Txt.join "," o.fs]
structure OffOk (o : Off) : Prop where
  p0 : 0 ≤ o.port
  p1 : o.port ≤ 65535
  m : o.mode.length ≤ 16
  n : o.fs.length ≤ 6
  f : ∀ z ∈ o.fs, z.length ≤ 16
theorem comma_len : ("," : Str).length = 1 := by decide +kernel
theorem blank_len : (" " : Str).length = 1 := by decide +kernel
theorem OffOk.join {o : Off} (h : OffOk o) : (o.fs.map (·.length)).sum + o.fs.length * ("," : Str).length ≤ 102 ∧ (Txt.join "," o.fs).length ≤ 102 := by
  have a := sum_le h.f
  have b := join_len "," o.fs
  have n := h.n
  rw [comma_len] at b ⊢
  omega
theorem OffOk.str {o : Off} (h : OffOk o) : (Str.ofString (toString o.port)).length ≤ 5 ∧ o.port.natAbs.log2 < 1920 := by
  have p0 := h.p0
  have p1 := h.p1
  refine ⟨PyProof.Rows.toString_length_le p0 (k := 5) (by decide) (by omega), log_small ?_⟩
  have : o.port.natAbs ≤ 65535 := by omega
  exact Nat.lt_of_le_of_lt this (Nat.lt_of_lt_of_le (by decide : 65535 < 2 ^ 16) (Nat.pow_le_pow_right (by decide) (by decide)))
def spWrite : Sp := fun vs H Q _ => ∃ x o, vs = [x] ∧ OffAt H x o ∧ OffOk o ∧ ∀ H', Same H H' → Q (.str (wordsS o)) H'
theorem ok_write_offer {P : Program} {w : World} {K : PySem.W.Frag} {mg : Str → Option Value} {base : Heap} {f : Addr} {fd : FuncData} (T : Tx K mg) 
    (F : FunD K "write_offer" "write_offer" (defArgs s_write_offer) (defBody s_write_offer) (defScope s_write_offer) [] [] f fd) : FnOk P w K mg base CX0 1 f fd ["offer"] spWrite := by
  refine F.ok sc_write_offer (fun vs H Q E h => ?_) (fun cdv A outer s H vs Q E hr h => ?_)
  · obtain ⟨x, o, rfl, _⟩ := h
    rfl
  · obtain ⟨x, o, rfl, ⟨p, f, rfl, e1, e2⟩, ok, k⟩ := h
    obtain ⟨j1, j2⟩ := ok.join
    obtain ⟨t1, t2⟩ := ok.str
    have lm := ok.m
    refine ⟨_, PSs.nox (pss_cons (ps_asg (pv 0) (pg_tup rfl (pgs_cons (pg_name (i := 1) sc_write_offer.nd rfl (Or.inl rfl)) (pgs_cons (pg_name (i := 2) sc_write_offer.nd rfl (Or.inl rfl)) (pgs_cons (pg_name (i := 3) sc_write_offer.nd rfl (Or.inl rfl)) pgs_nil))))) (pss_one (ps_ret (pe_join pe_str (pe_lst (pa_cons (pe_callTy call_str_int rfl T.f_str (by decide +kernel) (pa_cons (pv 1) pa_nil)) (pa_cons (pv 2) (pa_cons (pe_join pe_str (pv 3)) pa_nil)))))))), ?_⟩
    refine ⟨_, rfl, p, _, rfl, SqT.of e1, rfl, _, _, rfl, _, _, rfl, _, _, rfl, rfl, ?_⟩
    refine ⟨⟨_, rfl⟩, _, rfl, _, rfl, t2, _, rfl, ⟨_, rfl⟩, _, rfl, ",", f, o.fs, rfl, rfl, .inr (SqT.of e2), by omega, by show 3 ≤ sizeLine; decide, fun q hq => ?_⟩
    refine ⟨" ", q, [Str.ofString (toString o.port), o.mode, Txt.join "," o.fs], rfl, rfl, .inl (SqL.of upd_same), ?_, k _ (same_upd hq)⟩
    rw [blank_len]
    show (Str.ofString (toString o.port)).length + (o.mode.length + ((Txt.join "," o.fs).length + 0)) + 3 * 1 ≤ 16777216
    omega
def fmtO (z : Str) : Option (List Str) :=
  if (Txt.split z ",").length ≤ 6 ∧ (Txt.split z ",").Nodup then (if (Txt.split z ",").all nameB = true then some (Txt.split z ",") else none) else none
/-- None, or a tuple of texts -/
def TupO (H : Hp) (x : V) : Option (List Str) → Prop
  | none => x = .non
  | some l => ∃ f, x = .ref f ∧ H f = some (.tup (l.map V.str))
def spFmt : Sp := fun vs H Q _ => ∃ z : Str, vs = [.str z] ∧ z.length ≤ 1000 ∧ ∀ x H', Same H H' → TupO H' x (fmtO z) → Q x H'
theorem ok_read_formats {P : Program} {w : World} {K : PySem.W.Frag} {mg : Str → Option Value} {base : Heap} {f : Addr} {fd : FuncData} (T : Tx K mg) (c_is_name : C8.Cal P w K mg base 2 "is_name" spName [])
    (F : FunD K "_read_formats" "_read_formats" (defArgs s_read_formats) (defBody s_read_formats) (defScope s_read_formats) [] [] f fd) : FnOk P w K mg base CX0 3 f fd ["word"] spFmt := by
  refine F.ok sc_read_formats (fun vs H Q E h => ?_) (fun cdv A outer s H vs Q E hr h => ?_)
  · obtain ⟨z, rfl, _⟩ := h
    rfl
  · obtain ⟨z, rfl, hz, k⟩ := h
    have hz2 : z.length + 2 ≤ sizeLine := Nat.le_trans (Nat.add_le_add_right hz 2) (by decide)
    have hp0 : ∀ y ∈ Txt.split z ",", y.length ≤ 1000 := fun y hy => Nat.le_trans (part_len hy) hz
    have eF : fmtO z = if (Txt.split z ",").length ≤ 6 ∧ (Txt.split z ",").Nodup then (if (Txt.split z ",").all nameB = true then some (Txt.split z ",") else none) else none := rfl
    have hy1 : (Txt.split z ",").length ≤ 1002 := Nat.le_trans (PyProof.Rows.split_le z ",") (by omega)
    refine ⟨_, PSs.nox (pss_cons (ps_set (i := 1) sc_read_formats.nd rfl (Or.inl rfl) (pe_split (pv 0) pe_str)) (C8.pss_cut (ps_if (PW.pt (pw_or (pt_cmpR op_gt (pe_callB call_len_seq rfl T.f_len PySem.boot_len (pa_cons (pv 1) pa_nil)) (pgI T.g_MOST_FORMATS) (nomark _)) (pw_or1 (pt_cmpR op_lt (TKS.pe_lenSetK (pv 1) T.f_len T.f_set) (pe_callB call_len_seq rfl T.f_len PySem.boot_len (pa_cons (pv 1) pa_nil)) (nomark _))))) (pss_one (ps_ret pe_non)) pss_nil) (pss_one (ps_ret (pe_ifExp (pt_val (pe_callB (cr_all rfl) rfl T.f_all (by decide +kernel) (pa_cons (pe_lc (own := [("name", 2)]) (g := gName 2) rfl sc_read_formats.nd (pi_list (pv 1)) (blkOk_by (own := [("name", 2)]) (N := ["word", "names", "name"]) (sc := defScope s_read_formats) (by decide +kernel)) (fun _ _ _ _ _ => pg_name (i := 2) sc_read_formats.nd rfl (Or.inl rfl)) (fun _ _ _ _ _ => pts_nil) (fun _ _ _ _ _ => (pe_c c_is_name hr (by decide) rfl (pa_cons (pv 2) pa_nil)))) pa_nil))) (pe_callTy call_tuple_of rfl T.f_tuple (by decide +kernel) (pa_cons (pv 1) pa_nil)) pe_non))))), ?_⟩
    refine ⟨_, rfl, ⟨_, rfl⟩, z, ",", rfl, rfl, by decide +kernel, hz2, fun p hp => ?_⟩
    have s1 := same_upd (o := .lst ((Txt.split z ",").map V.str)) hp
    generalize Txt.split z "," = ys at hp0 eF hy1 s1 ⊢
    refine ⟨fun σ' H' => σ' = [some (.str z), some (.ref p), none] ∧ H' = upd H p (.lst (ys.map V.str)) ∧ ys.length ≤ 6 ∧ ys.Nodup, ?_, ?_⟩
    · refine ⟨_, rfl, p, _, rfl, .inl (SqL.of upd_same), _, _, rfl, rfl, _, rfl, ?_⟩
      rw [List.length_map]
      by_cases h6 : ys.length ≤ 6
      · rw [decide_eq_false (by omega)]
        refine iteF ⟨_, rfl, p, ys.map Sum.inr, rfl, SqL.of (by rw [upd_same, key_strs]), by rw [List.length_map]; omega, _, rfl, p, _, rfl, .inl (SqL.of upd_same), _, _, rfl, rfl, _, rfl, ?_⟩
        have le := metK_len (fun i => (ys.map (Sum.inr : Str → Key)).getD i (.inl 0)) (ys.map (Sum.inr : Str → Key)).length
        have nd := met_all (ys.map (Sum.inr : Str → Key))
        rw [nodup_inr] at nd
        rw [List.length_map] at le nd ⊢
        by_cases hn : ys.Nodup
        · rw [nd.mpr hn, List.length_map, decide_eq_false (by omega)]
          exact iteF ⟨rfl, rfl, h6, hn⟩
        · have ne : (metK (fun i => (ys.map (Sum.inr : Str → Key)).getD i (.inl 0)) ys.length).length ≠ ys.length := fun q => hn (nd.mp q)
          rw [List.length_map, decide_eq_true (by omega)]
          refine iteT (k _ _ s1 ?_)
          rw [eF, if_neg (fun q => hn q.2)]
          rfl
      · rw [decide_eq_true (by omega)]
        refine iteT (iteT (k _ _ s1 ?_))
        rw [eF, if_neg (fun q => h6 q.1)]
        rfl
    · rintro σ' H' ⟨rfl, rfl, h6, hn⟩
      rw [if_pos ⟨h6, hn⟩] at eF
      refine ⟨_, rfl, p, rfl, ⟨_, SqL.of upd_same⟩, fun D hD => ?_⟩
      have hpD : p ≠ D := fun e => by
        rw [e, upd_same] at hD
        cases hD
      have hD0 : H D = none := by
        rw [upd_ne hpD.symm] at hD
        exact hD
      refine lc_itN (walk_list (xs := ys.map V.str)) (fun i H' => Same (upd H p (.lst (ys.map V.str))) H' ∧ H' D = some (.lst ((ys.take i).map fun y => V.bl (nameB y)))) ⟨same_upd hD, upd_same⟩ (fun i H1 hi q => SqL.of (q.1 _ _ upd_same)) (fun i v H1 H2 hi q yy => ?_) (fun H1 q => ?_)
      · obtain ⟨sm, ed⟩ := q
        obtain ⟨rfl, ev⟩ := yy
        rw [List.getElem?_map] at ev
        obtain ⟨w, ew, rfl⟩ := Option.map_eq_some_iff.mp ev
        rw [List.length_map] at hi
        refine ⟨rfl, _, rfl, w, rfl, hp0 w (List.mem_of_getElem? ew), fun H3 s3 => ⟨_, s3 _ _ ed, ?_, same_upd2 (sm.trans s3) hD, ?_⟩⟩
        · rw [List.length_map, List.length_take]
          exact Nat.lt_of_le_of_lt (show min i ys.length ≤ 6 by omega) (by decide)
        · rw [upd_same, List.take_add_one, ew, List.map_append]
          rfl
      · obtain ⟨sm, ed⟩ := q
        rw [List.length_map, List.take_length] at ed
        refine ⟨D, ys.map nameB, rfl, SqL.of (by rw [ed, List.map_map]; rfl), _, rfl, ?_⟩
        have eA : (ys.map nameB).all id = ys.all nameB := by
          rw [List.all_map]
          rfl
        rw [eA]
        by_cases hA : ys.all nameB = true
        · rw [if_pos hA] at eF
          rw [hA]
          refine iteT ⟨_, rfl, p, _, rfl, .inl ⟨SqL.of (sm _ _ upd_same), fun t ht => k _ _ ((s1.trans sm).trans (same_upd ht)) ?_⟩⟩
          rw [eF]
          exact ⟨t, rfl, upd_same⟩
        · rw [if_neg hA] at eF
          rw [ef hA]
          refine iteF (k _ _ (s1.trans sm) ?_)
          rw [eF]
          rfl
def modesL : List Str := ["both", "send", "take", "none"]
/-- the offer that three words write -/
def readP : V → Str → Option (List Str) → Option Off
  | .int p, b, some fs => if b ∈ modesL then some ⟨p, b, fs⟩ else none
  | _, _, _ => none
def readO : List Str → Option Off
  | [a, b, c] => readP (numV a 65535) b (fmtO c)
  | _ => none
theorem readP_ok (p : Int) (b : Str) (fs : List Str) : readP (.int p) b (some fs) = if b ∈ modesL then some ⟨p, b, fs⟩ else none := rfl
theorem readO_eq (a b c : Str) : readO [a, b, c] = readP (numV a 65535) b (fmtO c) := rfl
theorem readO_len {ws : List Str} (h : ws.length ≠ 3) : readO ws = none := by
  unfold readO
  split
  · exact absurd rfl h
  · rfl
theorem numV_cases (z : Str) (m : Int) : numV z m = .non ∨ ∃ i, numV z m = .int i := by
  unfold numV
  split
  · split
    · exact .inl rfl
    · split
      · exact .inr ⟨_, rfl⟩
      · exact .inl rfl
  · exact .inl rfl
def spRead : Sp := fun vs H Q _ => ∃ l ws, vs = [.ref l] ∧ H l = some (.lst (ws.map V.str)) ∧ (∀ z ∈ ws, z.length ≤ 1000) ∧ ws.length ≤ 1000 ∧ ∀ x H', Same H H' → OffO H' x (readO ws) → Q x H'
theorem ok_read_offer {P : Program} {w : World} {K : PySem.W.Frag} {mg : Str → Option Value} {base : Heap} {f : Addr} {fd : FuncData} (T : Tx K mg) (c_read_number : C8.Cal P w K mg base 2 "read_number" spNum []) (c_read_formats : C8.Cal P w K mg base 3 "_read_formats" spFmt [])
    (F : FunD K "read_offer" "read_offer" (defArgs s_read_offer) (defBody s_read_offer) (defScope s_read_offer) [] [] f fd) : FnOk P w K mg base CX0 4 f fd ["words"] spRead := by
  refine F.ok sc_read_offer (fun vs H Q E h => ?_) (fun cdv A outer s H vs Q E hr h => ?_)
  · obtain ⟨l, ws, rfl, _⟩ := h
    rfl
  · obtain ⟨l, ws, rfl, hl, hw, hn, k⟩ := h
    refine ⟨_, PSs.nox (C8.pss_cut (ps_if (pt_cmpR op_ne (pe_callB call_len_seq rfl T.f_len PySem.boot_len (pa_cons (pv 0) pa_nil)) pe_int (nomark _)) (pss_one (ps_ret pe_non)) pss_nil) (pss_cons (ps_set (i := 1) sc_read_offer.nd rfl (Or.inl rfl) (pe_c c_read_number hr (by decide) rfl (pa_cons (pe_ix ix_list (pv 0) pe_int (fun _ _ => rfl)) (pa_cons (pgI T.g_GREATEST_PORT) pa_nil)))) (pss_cons (ps_set (i := 2) sc_read_offer.nd rfl (Or.inl rfl) (pe_ix ix_list (pv 0) pe_int (fun _ _ => rfl))) (pss_cons (ps_set (i := 3) sc_read_offer.nd rfl (Or.inl rfl) (pe_c c_read_formats hr (by decide) rfl (pa_cons (pe_ix ix_list (pv 0) pe_int (fun _ _ => rfl)) pa_nil))) (C8.pss_cut (ps_if (PW.pt (pw_or (pt_cmpR op_isN (pv 1) pe_non (nomark _)) (pw_or (pt_cmpR op_notIn_seq (pv 2) (pgR T.g_MODES) (by with_unfolding_all rfl)) (pw_or1 (pt_cmpR op_isN (pv 3) pe_non (nomark _)))))) (pss_one (ps_ret pe_non)) pss_nil) (pss_one (ps_ret (pe_tup (pa_cons (pv 1) (pa_cons (pv 2) (pa_cons (pv 3) pa_nil))))))))))), ?_⟩
    refine ⟨fun σ' H' => σ' = [some (.ref l), none, none, none] ∧ H' = H ∧ ws.length = 3, ?_, ?_⟩
    · refine ⟨_, rfl, l, _, rfl, .inl (SqL.of hl), rfl, _, rfl, ?_⟩
      rw [List.length_map]
      by_cases h3 : ws.length = 3
      · rw [h3]
        exact iteF ⟨rfl, rfl, rfl⟩
      · have e : decide (V.int (ws.length : Nat) = V.int 3) = false := decide_eq_false fun q => h3 (by
          have := V.int.inj q
          omega)
        rw [e]
        refine iteT (k _ _ (Same.refl H) ?_)
        rw [readO_len h3]
        rfl
    · rintro σ' H' ⟨rfl, rfl, h3⟩
      obtain ⟨a, b, c, rfl⟩ : ∃ a b c, ws = [a, b, c] := by
        cases ws with
        | nil => cases h3
        | cons a r => cases r with
          | nil => cases h3
          | cons b r => cases r with
            | nil => cases h3
            | cons c r => cases r with
              | nil => exact ⟨a, b, c, rfl⟩
              | cons d r => simp at h3
      refine ⟨_, rfl, l, _, 0, _, rfl, rfl, SqL.of hl, rfl, a, 65535, rfl, hw a (by simp), fun H1 s1 => ?_⟩
      refine ⟨_, rfl, l, _, 1, _, rfl, rfl, SqL.of (s1 _ _ hl), rfl, ?_⟩
      refine ⟨_, rfl, l, _, 2, _, rfl, rfl, SqL.of (s1 _ _ hl), rfl, c, rfl, hw c (by simp), fun x H2 s2 hx => ?_⟩
      have s12 := s1.trans s2
      refine ⟨fun σ' H' => σ' = [some (.ref l), some (numV a 65535), some (.str b), some x] ∧ H' = H2 ∧ (∃ p, numV a 65535 = .int p) ∧ b ∈ modesL ∧ ∃ fs, fmtO c = some fs, ?_, ?_⟩
      · refine ⟨_, rfl, rfl, _, rfl, ?_⟩
        rcases numV_cases a 65535 with e | ⟨p, e⟩
        · rw [e]
          refine iteT (iteT (k _ _ s12 ?_))
          rw [readO_eq, e]
          rfl
        · rw [e]
          refine iteF ⟨_, rfl, _, modesL.map V.str, rfl, .inr (T.v_MODES H2), rfl, rfl, _, rfl, ?_⟩
          rw [inV_strs]
          by_cases hb : b ∈ modesL
          · rw [decide_eq_true hb]
            refine iteF ⟨_, rfl, rfl, _, rfl, ?_⟩
            cases ef : fmtO c with
            | none =>
              rw [ef] at hx
              cases (show x = .non from hx)
              refine iteT (k _ _ s12 ?_)
              rw [readO_eq, e, ef]
              rfl
            | some fs =>
              rw [ef] at hx
              obtain ⟨f, rfl, _⟩ := hx
              exact iteF ⟨rfl, rfl, ⟨p, rfl⟩, hb, fs, rfl⟩
          · rw [decide_eq_false hb]
            refine iteT (iteT (k _ _ s12 ?_))
            rw [readO_eq, e]
            cases fmtO c with
            | none => rfl
            | some fs =>
              rw [readP_ok, if_neg hb]
              rfl
      · rintro σ' H3 ⟨rfl, rfl, ⟨p, e⟩, hb, fs, ef⟩
        rw [ef] at hx
        obtain ⟨f, rfl, e2⟩ := hx
        rw [e]
        refine ⟨_, rfl, _, rfl, _, rfl, by show 3 ≤ sizeLine; decide, fun q hq => k _ _ (s12.trans (same_upd hq)) ?_⟩
        rw [readO_eq, e, ef]
        rw [readP_ok, if_pos hb]
        exact ⟨q, f, rfl, upd_same, (same_upd hq) _ _ e2⟩

end K19
set_option maxHeartbeats 4000000
namespace K19
open PySem PySem.Spec PyProof.Rows L2 SX TK TKS
open C8 (pe_c)
/-! ### letters -/
structure Ltr where
  verb : Str
  call : Str
  origin : Str
  otag : Str
  target : Str
  ttag : Str
  seq : Int
  way : Str
  code : V
  offer : V
  stay : V
  goal : V
def Ltr.fl (L : Ltr) : List (Str × V) := [("verb", .str L.verb), ("code", L.code), ("call", .str L.call), ("origin", .str L.origin), ("origin_tag", .str L.otag), ("target", .str L.target), ("target_tag", .str L.ttag), ("seq", .int L.seq), ("way", .str L.way), ("offer", L.offer), ("stay", L.stay), ("goal", L.goal)]
def LetAt (K : PySem.W.Frag) (H : Hp) (a : Addr) (L : Ltr) : Prop := ∃ dx, H a = some (.ins (He.ga K "Letter") dx L.fl)
theorem LetAt.same {K : PySem.W.Frag} {H H' : Hp} {a : Addr} {L : Ltr} (h : LetAt K H a L) (s : Same H H') : LetAt K H' a L := by
  obtain ⟨dx, e⟩ := h
  exact ⟨dx, s _ _ e⟩
def Ltr.args (L : Ltr) : List V := [.str L.verb, .str L.call, .str L.origin, .str L.otag, .str L.target, .str L.ttag, .int L.seq, .str L.way, L.code, L.offer, L.stay, L.goal]
def spLetInit (K : PySem.W.Frag) : Sp := fun vs H Q _ => ∃ (p dx : Addr) (L : Ltr), vs = .ref p :: L.args ∧ H p = some (.ins (He.ga K "Letter") dx []) ∧ Q .non (upd H p (.ins (He.ga K "Letter") dx L.fl))
theorem ok_Letter___init {P : Program} {w : World} {K : PySem.W.Frag} {mg : Str → Option Value} {base : Heap} {f : Addr} {fd : FuncData} (T : Tx K mg) 
    (F : FunD K "__init__" "Letter.__init__" (defArgs s_Letter___init) (defBody s_Letter___init) (defScope s_Letter___init) [] [("code", (V.non)), ("offer", (V.non)), ("stay", (V.non)), ("goal", (V.non))] f fd) : FnOk P w K mg base CX0 1 f fd ["self", "verb", "call", "origin", "origin_tag", "target", "target_tag", "seq", "way", "code", "offer", "stay", "goal"] (spLetInit K) := by
  refine F.ok sc_Letter___init (fun vs H Q E h => ?_) (fun cdv A outer s H vs Q E hr h => ?_)
  · obtain ⟨p, dx, L, rfl, _⟩ := h
    rfl
  · obtain ⟨p, dx, L, rfl, hp, k⟩ := h
    refine ⟨_, PSs.nox (pss_cons (ps_fldC rfl T.cl_Letter T.na_Letter_verb (pv 0) (pv 1) rfl) (pss_cons (ps_fldC rfl T.cl_Letter T.na_Letter_code (pv 0) (pv 9) rfl) (pss_cons (ps_fldC rfl T.cl_Letter T.na_Letter_call (pv 0) (pv 2) rfl) (pss_cons (ps_fldC rfl T.cl_Letter T.na_Letter_origin (pv 0) (pv 3) rfl) (pss_cons (ps_fldC rfl T.cl_Letter T.na_Letter_origin_tag (pv 0) (pv 4) rfl) (pss_cons (ps_fldC rfl T.cl_Letter T.na_Letter_target (pv 0) (pv 5) rfl) (pss_cons (ps_fldC rfl T.cl_Letter T.na_Letter_target_tag (pv 0) (pv 6) rfl) (pss_cons (ps_fldC rfl T.cl_Letter T.na_Letter_seq (pv 0) (pv 7) rfl) (pss_cons (ps_fldC rfl T.cl_Letter T.na_Letter_way (pv 0) (pv 8) rfl) (pss_cons (ps_fldC rfl T.cl_Letter T.na_Letter_offer (pv 0) (pv 10) rfl) (pss_cons (ps_fldC rfl T.cl_Letter T.na_Letter_stay (pv 0) (pv 11) rfl) (pss_one (ps_fldC rfl T.cl_Letter T.na_Letter_goal (pv 0) (pv 12) rfl))))))))))))), ?_⟩
    refine ⟨_, rfl, _, rfl, p, dx, _, rfl, hp, sm, ?_⟩
    refine ⟨_, rfl, _, rfl, p, dx, _, rfl, upd_same, sm, ?_⟩
    refine ⟨_, rfl, _, rfl, p, dx, _, rfl, upd_same, sm, ?_⟩
    refine ⟨_, rfl, _, rfl, p, dx, _, rfl, upd_same, sm, ?_⟩
    refine ⟨_, rfl, _, rfl, p, dx, _, rfl, upd_same, sm, ?_⟩
    refine ⟨_, rfl, _, rfl, p, dx, _, rfl, upd_same, sm, ?_⟩
    refine ⟨_, rfl, _, rfl, p, dx, _, rfl, upd_same, sm, ?_⟩
    refine ⟨_, rfl, _, rfl, p, dx, _, rfl, upd_same, sm, ?_⟩
    refine ⟨_, rfl, _, rfl, p, dx, _, rfl, upd_same, sm, ?_⟩
    refine ⟨_, rfl, _, rfl, p, dx, _, rfl, upd_same, sm, ?_⟩
    refine ⟨_, rfl, _, rfl, p, dx, _, rfl, upd_same, sm, ?_⟩
    refine ⟨_, rfl, _, rfl, p, dx, _, rfl, upd_same, sm, ?_⟩
    simp only [upd_upd]
    exact k
def Ltr.partsV (L : Ltr) : List V := [.str L.verb, L.code, .str L.call, .str L.origin, .str L.otag, .str L.target, .str L.ttag, .int L.seq, .str L.way, L.offer, L.stay, L.goal]
def spParts (K : PySem.W.Frag) : Sp := fun vs H Q _ => ∃ (a : Addr) (L : Ltr), vs = [.ref a] ∧ LetAt K H a L ∧ ∀ t, H t = none → Q (.ref t) (upd H t (.tup L.partsV))
theorem ok_Letter_parts {P : Program} {w : World} {K : PySem.W.Frag} {mg : Str → Option Value} {base : Heap} {f : Addr} {fd : FuncData} (T : Tx K mg) 
    (F : FunD K "parts" "Letter.parts" (defArgs s_Letter_parts) (defBody s_Letter_parts) (defScope s_Letter_parts) [] [] f fd) : FnOk P w K mg base CX0 1 f fd ["self"] (spParts K) := by
  refine F.ok sc_Letter_parts (fun vs H Q E h => ?_) (fun cdv A outer s H vs Q E hr h => ?_)
  · obtain ⟨p, L, rfl, _⟩ := h
    rfl
  · obtain ⟨p, L, rfl, ⟨dx, hp⟩, k⟩ := h
    refine ⟨_, PSs.nox (pss_one (ps_ret (pe_tup (pa_cons (pe_fldC rfl T.cl_Letter T.na_Letter_verb (pv 0) rfl) (pa_cons (pe_fldC rfl T.cl_Letter T.na_Letter_code (pv 0) rfl) (pa_cons (pe_fldC rfl T.cl_Letter T.na_Letter_call (pv 0) rfl) (pa_cons (pe_fldC rfl T.cl_Letter T.na_Letter_origin (pv 0) rfl) (pa_cons (pe_fldC rfl T.cl_Letter T.na_Letter_origin_tag (pv 0) rfl) (pa_cons (pe_fldC rfl T.cl_Letter T.na_Letter_target (pv 0) rfl) (pa_cons (pe_fldC rfl T.cl_Letter T.na_Letter_target_tag (pv 0) rfl) (pa_cons (pe_fldC rfl T.cl_Letter T.na_Letter_seq (pv 0) rfl) (pa_cons (pe_fldC rfl T.cl_Letter T.na_Letter_way (pv 0) rfl) (pa_cons (pe_fldC rfl T.cl_Letter T.na_Letter_offer (pv 0) rfl) (pa_cons (pe_fldC rfl T.cl_Letter T.na_Letter_stay (pv 0) rfl) (pa_cons (pe_fldC rfl T.cl_Letter T.na_Letter_goal (pv 0) rfl) pa_nil))))))))))))))), ?_⟩
    refine ⟨_, rfl, p, dx, _, _, rfl, hp, rfl, _, rfl, p, dx, _, _, rfl, hp, rfl, _, rfl, p, dx, _, _, rfl, hp, rfl, _, rfl, p, dx, _, _, rfl, hp, rfl, _, rfl, p, dx, _, _, rfl, hp, rfl, _, rfl, p, dx, _, _, rfl, hp, rfl, ?_⟩
    refine ⟨_, rfl, p, dx, _, _, rfl, hp, rfl, _, rfl, p, dx, _, _, rfl, hp, rfl, _, rfl, p, dx, _, _, rfl, hp, rfl, _, rfl, p, dx, _, _, rfl, hp, rfl, _, rfl, p, dx, _, _, rfl, hp, rfl, _, rfl, p, dx, _, _, rfl, hp, rfl, ?_⟩
    exact ⟨by show 12 ≤ sizeLine; decide, k⟩
def Ltr.reply (L : Ltr) (code : V) (tag : Str) (offer stay : V) : Ltr := ⟨L.verb, L.call, L.origin, L.otag, L.target, tag, L.seq, L.way, code, offer, stay, .non⟩
def spLReply (K : PySem.W.Frag) : Sp := fun vs H Q _ => ∃ (a : Addr) (L : Ltr) (code : V) (tag : Str) (offer stay : V), vs = [.ref a, code, .str tag, offer, stay] ∧ LetAt K H a L ∧ ∀ b H', Same H H' → H b = none → LetAt K H' b (L.reply code tag offer stay) → Q (.ref b) H'
theorem ok_Letter_reply {P : Program} {w : World} {K : PySem.W.Frag} {mg : Str → Option Value} {base : Heap} {f : Addr} {fd : FuncData} (T : Tx K mg) (c_mk_Letter_b : MakK P w K mg base 1 "Letter" (He.ga K "Letter") (spLetInit K) 0 ["verb", "code", "call", "origin", "origin_tag", "target", "target_tag", "seq", "way", "offer", "stay"] (fun vs zs => vs ++ ((((zs.drop 0).take 1) ++ (((zs.drop 2).take 7) ++ (((zs.drop 1).take 1) ++ (((zs.drop 9).take 2) ++ ((([(V.non)] : List V).drop 0).take 1))))))))
    (F : FunD K "reply" "Letter.reply" (defArgs s_Letter_reply) (defBody s_Letter_reply) (defScope s_Letter_reply) [(V.non), (V.non)] [] f fd) : FnOk P w K mg base CX0 3 f fd ["self", "code", "tag", "offer", "stay"] (spLReply K) := by
  refine F.ok sc_Letter_reply (fun vs H Q E h => ?_) (fun cdv A outer s H vs Q E hr h => ?_)
  · obtain ⟨p, L, code, tag, offer, stay, rfl, _⟩ := h
    rfl
  · obtain ⟨p, L, code, tag, offer, stay, rfl, ⟨dx, hp⟩, k⟩ := h
    refine ⟨_, PSs.nox (pss_one (ps_ret (pe_mkK0 c_mk_Letter_b hr (by decide) rfl (pk_cons (pe_fldC rfl T.cl_Letter T.na_Letter_verb (pv 0) rfl) (pk_cons (pv 1) (pk_cons (pe_fldC rfl T.cl_Letter T.na_Letter_call (pv 0) rfl) (pk_cons (pe_fldC rfl T.cl_Letter T.na_Letter_origin (pv 0) rfl) (pk_cons (pe_fldC rfl T.cl_Letter T.na_Letter_origin_tag (pv 0) rfl) (pk_cons (pe_fldC rfl T.cl_Letter T.na_Letter_target (pv 0) rfl) (pk_cons (pv 2) (pk_cons (pe_fldC rfl T.cl_Letter T.na_Letter_seq (pv 0) rfl) (pk_cons (pe_fldC rfl T.cl_Letter T.na_Letter_way (pv 0) rfl) (pk_cons (pv 3) (pk_cons (pv 4) pk_nil)))))))))))))), ?_⟩
    refine ⟨_, rfl, p, dx, _, _, rfl, hp, rfl, _, rfl, _, rfl, p, dx, _, _, rfl, hp, rfl, _, rfl, p, dx, _, _, rfl, hp, rfl, _, rfl, p, dx, _, _, rfl, hp, rfl, _, rfl, p, dx, _, _, rfl, hp, rfl, _, rfl, _, rfl, p, dx, _, _, rfl, hp, rfl, _, rfl, p, dx, _, _, rfl, hp, rfl, _, rfl, _, rfl, rfl, rfl, ?_⟩
    intro x dy hx hdy hne
    refine ⟨x, dy, L.reply code tag offer stay, rfl, upd_same, rfl, ?_⟩
    rw [upd_upd]
    exact k x _ (same_own hx hdy) hx ⟨dy, upd_same⟩

end K19
set_option maxHeartbeats 4000000
namespace K19
open PySem PySem.Spec PyProof.Rows L2 SX TK TKS
open C8 (pe_c)
/-! ### the text of a letter without offer, stay and goal -/
theorem emp_len : Str.empty.length = 0 := rfl
theorem k_request : ("request " : Str).length = 8 := by decide +kernel
theorem k_reply : ("reply " : Str).length = 6 := by decide +kernel
theorem k_blank : (" " : Str).length = 1 := by decide +kernel
theorem k_call : ("call " : Str).length = 5 := by decide +kernel
theorem k_from : ("from " : Str).length = 5 := by decide +kernel
theorem k_to : ("to " : Str).length = 3 := by decide +kernel
theorem k_seq : ("seq " : Str).length = 4 := by decide +kernel
theorem k_way : ("way " : Str).length = 4 := by decide +kernel
theorem k_nl : ("\n" : Str).length = 1 := by decide +kernel
def TxOk (z : Str) : Prop := PyData.strOk z = true
structure LOk (L : Ltr) : Prop where
  oks : TxOk L.verb ∧ TxOk L.call ∧ TxOk L.origin ∧ TxOk L.otag ∧ TxOk L.target ∧ TxOk L.ttag ∧ TxOk L.way
  seq0 : 0 ≤ L.seq
  verb : L.verb.length ≤ 1000
  call : L.call.length ≤ 1000
  origin : L.origin.length ≤ 1000
  otag : L.otag.length ≤ 1000
  target : L.target.length ≤ 1000
  ttag : L.ttag.length ≤ 1000
  seq : L.seq.natAbs < 1000000000
  way : L.way.length ≤ 1000
  code : L.code = .non ∨ ∃ c : Int, L.code = .int c ∧ 0 ≤ c ∧ c.natAbs < 1000000000
def headS (L : Ltr) : Str := match L.code with
  | .int c => Str.empty ++ "reply " ++ numS c ++ " " ++ L.verb
  | _ => Str.empty ++ "request " ++ L.verb
theorem headS_len {L : Ltr} (g : LOk L) : (headS L).length ≤ 2000 := by
  have := g.verb
  rcases g.code with e | ⟨c, e, hc0, hc⟩
  · have q : headS L = Str.empty ++ "request " ++ L.verb := by unfold headS; rw [e]
    rw [q, cat_len, cat_len, emp_len, k_request]
    omega
  · have q : headS L = Str.empty ++ "reply " ++ numS c ++ " " ++ L.verb := by unfold headS; rw [e]
    have := numS_len hc
    rw [q, cat_len, cat_len, cat_len, cat_len, emp_len, k_reply, k_blank]
    omega
def spHead (K : PySem.W.Frag) : Sp := fun vs H Q _ => ∃ (a : Addr) (L : Ltr), vs = [.ref a] ∧ LetAt K H a L ∧ LOk L ∧ Q (.str (headS L)) H
theorem ok_write_head {P : Program} {w : World} {K : PySem.W.Frag} {mg : Str → Option Value} {base : Heap} {f : Addr} {fd : FuncData} (T : Tx K mg) 
    (F : FunD K "_write_head" "_write_head" (defArgs s_write_head) (defBody s_write_head) (defScope s_write_head) [] [] f fd) : FnOk P w K mg base CX0 1 f fd ["letter"] (spHead K) := by
  refine F.ok sc_write_head (fun vs H Q E h => ?_) (fun cdv A outer s H vs Q E hr h => ?_)
  · obtain ⟨a, L, rfl, _⟩ := h
    rfl
  · obtain ⟨a, L, rfl, ⟨dx, hp⟩, g, k⟩ := h
    have g1 := g.verb
    refine ⟨_, PSs.nox (C8.pss_cut (ps_if (pt_cmpR op_isN (pe_fldC rfl T.cl_Letter T.na_Letter_code (pv 0) rfl) pe_non (nomark _)) (pss_one (ps_ret (pe_joined (PJ.cons pe_str (PJ.cons (pe_fmt (pe_fldC rfl T.cl_Letter T.na_Letter_verb (pv 0) rfl)) PJ.nil))))) pss_nil) (pss_one (ps_ret (pe_joined (PJ.cons pe_str (PJ.cons (pe_fmt (pe_fldC rfl T.cl_Letter T.na_Letter_code (pv 0) rfl)) (PJ.cons pe_str (PJ.cons (pe_fmt (pe_fldC rfl T.cl_Letter T.na_Letter_verb (pv 0) rfl)) PJ.nil)))))))), ?_⟩
    rcases g.code with e | ⟨c, e, hc0, hc⟩
    · have q : headS L = Str.empty ++ "request " ++ L.verb := by unfold headS; rw [e]
      rw [q] at k
      refine ⟨fun _ _ => False, ?_, fun _ _ z => z.elim⟩
      refine ⟨_, rfl, a, dx, _, _, rfl, hp, rfl, rfl, _, rfl, ?_⟩
      rw [e]
      refine iteT ⟨_, rfl, szl (by rw [cat_len, emp_len, k_request]; omega), _, rfl, a, dx, _, _, rfl, hp, rfl, .inl ⟨_, rfl, szl (by omega), _, rfl, szl (by rw [cat_len, cat_len, emp_len, k_request]; omega), k⟩⟩
    · have q : headS L = Str.empty ++ "reply " ++ numS c ++ " " ++ L.verb := by unfold headS; rw [e]
      have := numS_len hc
      rw [q] at k
      refine ⟨fun σ' H' => σ' = [some (.ref a)] ∧ H' = H, ?_, ?_⟩
      · refine ⟨_, rfl, a, dx, _, _, rfl, hp, rfl, rfl, _, rfl, ?_⟩
        rw [e]
        exact iteF ⟨rfl, rfl⟩
      · rintro σ' H' ⟨rfl, rfl⟩
        refine ⟨_, rfl, szl (by rw [cat_len, emp_len, k_reply]; omega), _, rfl, a, dx, _, _, rfl, hp, rfl, .inr ⟨c, e, numS_log hc, ?_⟩⟩
        refine ⟨_, rfl, szl (by show (_ ++ _ ++ numS c).length ≤ _; rw [cat_len, cat_len, emp_len, k_reply]; omega), ?_⟩
        refine ⟨_, rfl, szl (by show (_ ++ _ ++ numS c ++ _).length ≤ _; rw [cat_len, cat_len, cat_len, emp_len, k_reply, k_blank]; omega), ?_⟩
        exact ⟨_, rfl, a, dx, _, _, rfl, hp, rfl, .inl ⟨_, rfl, szl (by omega), _, rfl, szl (by show (_ ++ _ ++ numS c ++ _ ++ _).length ≤ _; rw [cat_len, cat_len, cat_len, cat_len, emp_len, k_reply, k_blank]; omega), k⟩⟩
def toS (L : Ltr) : Str := if ((L.ttag.length : Int) != 0) = true then Str.empty ++ "to " ++ L.target ++ " " ++ L.ttag else Str.empty ++ "to " ++ L.target
def linesS (L : Ltr) : List Str := [headS L, Str.empty ++ "call " ++ L.call, Str.empty ++ "from " ++ L.origin ++ " " ++ L.otag, toS L, Str.empty ++ "seq " ++ numS L.seq, Str.empty ++ "way " ++ L.way]
def textOf (l : List Str) : Str := Txt.join "" (l.map fun z => z ++ "\n")
theorem toS_len {L : Ltr} (g : LOk L) : (toS L).length ≤ 3000 := by
  have := g.target
  have := g.ttag
  unfold toS
  split
  · rw [cat_len, cat_len, cat_len, cat_len, emp_len, k_to, k_blank]
    omega
  · rw [cat_len, cat_len, emp_len, k_to]
    omega
theorem linesS_len {L : Ltr} (g : LOk L) : ∀ z ∈ linesS L, z.length ≤ 3000 := by
  intro z hz
  have := g.call
  have := g.origin
  have := g.otag
  have := g.way
  have := numS_len g.seq
  simp only [linesS, List.mem_cons, List.not_mem_nil, or_false] at hz
  rcases hz with rfl | rfl | rfl | rfl | rfl | rfl
  · exact Nat.le_trans (headS_len g) (by decide)
  · rw [cat_len, cat_len, emp_len, k_call]; omega
  · rw [cat_len, cat_len, cat_len, cat_len, emp_len, k_from, k_blank]; omega
  · exact toS_len g
  · rw [cat_len, cat_len, emp_len, k_seq]; omega
  · rw [cat_len, cat_len, emp_len, k_way]; omega
theorem textOf_fits {l : List Str} (h : ∀ z ∈ l, z.length ≤ 3000) (hn : l.length ≤ 100) : ((l.map fun z => z ++ ("\n" : Str)).map (·.length)).sum + (l.map fun z => z ++ ("\n" : Str)).length * ("" : Str).length ≤ 1000000 := by
  have e0 : ("" : Str).length = 0 := rfl
  rw [e0, Nat.mul_zero, Nat.add_zero]
  refine Nat.le_trans (sum_le (m := 3001) fun z hz => ?_) ?_
  · obtain ⟨y, hy, rfl⟩ := List.mem_map.mp hz
    rw [cat_len, k_nl]
    exact Nat.succ_le_succ (h y hy)
  · rw [List.length_map]
    omega
theorem linesS_ok {L : Ltr} (g : LOk L) : ∀ z ∈ linesS L, PyData.strOk z = true := by
  obtain ⟨h1, h2, h3, h4, h5, h6, h7⟩ := g.oks
  have q : PyData.strOk Str.empty = true := by decide +kernel
  have e1 := ok_num g.seq0
  intro z hz
  simp only [linesS, List.mem_cons, List.not_mem_nil, or_false] at hz
  rcases hz with rfl | rfl | rfl | rfl | rfl | rfl
  · rcases g.code with e | ⟨c, e, hc0, hc⟩
    · have e2 : headS L = Str.empty ++ "request " ++ L.verb := by unfold headS; rw [e]
      rw [e2]
      exact ok_cat (ok_cat q (by decide +kernel)) h1
    · have e2 : headS L = Str.empty ++ "reply " ++ numS c ++ " " ++ L.verb := by unfold headS; rw [e]
      rw [e2]
      exact ok_cat (ok_cat (ok_cat (ok_cat q (by decide +kernel)) (ok_num hc0)) (by decide +kernel)) h1
  · exact ok_cat (ok_cat q (by decide +kernel)) h2
  · exact ok_cat (ok_cat (ok_cat (ok_cat q (by decide +kernel)) h3) (by decide +kernel)) h4
  · unfold toS
    split
    · exact ok_cat (ok_cat (ok_cat (ok_cat q (by decide +kernel)) h5) (by decide +kernel)) h6
    · exact ok_cat (ok_cat q (by decide +kernel)) h5
  · exact ok_cat (ok_cat q (by decide +kernel)) e1
  · exact ok_cat (ok_cat q (by decide +kernel)) h7
theorem textOf_ok {l : List Str} (h : ∀ z ∈ l, PyData.strOk z = true) : PyData.strOk (textOf l) = true :=
  ok_join (by decide +kernel) fun z hz => by
    obtain ⟨y, hy, rfl⟩ := List.mem_map.mp hz
    exact ok_cat (h y hy) (by decide +kernel)

/-! ### the text of any letter -/
theorem k_offer : ("offer " : Str).length = 6 := by decide +kernel
theorem k_stay : ("stay " : Str).length = 5 := by decide +kernel
theorem k_goal : ("goal " : Str).length = 5 := by decide +kernel
def offL : Option Off → List Str
  | none => []
  | some o => [Str.empty ++ "offer " ++ wordsS o]
def stayL : V → List Str
  | .int n => [Str.empty ++ "stay " ++ numS n]
  | _ => []
def goalL : V → List Str
  | .str z => [Str.empty ++ "goal " ++ z]
  | _ => []
def linesX (L : Ltr) (o : Option Off) : List Str := linesS L ++ offL o ++ stayL L.stay ++ goalL L.goal
structure XOk (L : Ltr) (o : Option Off) : Prop where
  off : ∀ u, o = some u → OffOk u
  offT : ∀ u, o = some u → TxOk (wordsS u)
  stay : L.stay = .non ∨ ∃ c : Int, L.stay = .int c ∧ 0 ≤ c ∧ c.natAbs < 1000000000
  goal : L.goal = .non ∨ ∃ z : Str, L.goal = .str z ∧ TxOk z ∧ z.length ≤ 1000
theorem wordsS_len {o : Off} (ok : OffOk o) : (wordsS o).length ≤ 130 := by
  obtain ⟨j1, j2⟩ := ok.join
  obtain ⟨t1, t2⟩ := ok.str
  have lm := ok.m
  have b := join_len " " [Str.ofString (toString o.port), o.mode, Txt.join "," o.fs]
  rw [blank_len] at b
  unfold wordsS
  refine Nat.le_trans b ?_
  show (Str.ofString (toString o.port)).length + (o.mode.length + ((Txt.join "," o.fs).length + 0)) + 3 * 1 ≤ 130
  omega
theorem linesX_n (L : Ltr) (o : Option Off) : (linesX L o).length ≤ 9 := by
  unfold linesX
  rw [List.length_append, List.length_append, List.length_append]
  have : (offL o).length ≤ 1 := by cases o <;> simp [offL]
  have : (stayL L.stay).length ≤ 1 := by unfold stayL; split <;> simp
  have : (goalL L.goal).length ≤ 1 := by unfold goalL; split <;> simp
  show 6 + _ + _ + _ ≤ 9
  omega
theorem linesX_len {L : Ltr} {o : Option Off} (g : LOk L) (xk : XOk L o) : ∀ z ∈ linesX L o, z.length ≤ 3000 := by
  intro z hz
  unfold linesX at hz
  rw [List.mem_append, List.mem_append, List.mem_append] at hz
  rcases hz with ((hz | hz) | hz) | hz
  · exact linesS_len g z hz
  · cases o with
    | none => cases hz
    | some o =>
      have := wordsS_len (xk.off o rfl)
      rw [List.mem_singleton.mp hz, cat_len, cat_len, emp_len, k_offer]
      omega
  · rcases xk.stay with e | ⟨c, e, hc0, hc⟩
    · rw [e] at hz
      cases hz
    · have := numS_len hc
      rw [e] at hz
      rw [List.mem_singleton.mp hz, cat_len, cat_len, emp_len, k_stay]
      omega
  · rcases xk.goal with e | ⟨y, e, hz0, hy⟩
    · rw [e] at hz
      cases hz
    · rw [e] at hz
      rw [List.mem_singleton.mp hz, cat_len, cat_len, emp_len, k_goal]
      omega
theorem linesX_ok {L : Ltr} {o : Option Off} (g : LOk L) (xk : XOk L o) : ∀ z ∈ linesX L o, PyData.strOk z = true := by
  have q : PyData.strOk Str.empty = true := by decide +kernel
  intro z hz
  unfold linesX at hz
  rw [List.mem_append, List.mem_append, List.mem_append] at hz
  rcases hz with ((hz | hz) | hz) | hz
  · exact linesS_ok g z hz
  · cases o with
    | none => cases hz
    | some o =>
      rw [List.mem_singleton.mp hz]
      exact ok_cat (ok_cat q (by decide +kernel)) (xk.offT o rfl)
  · rcases xk.stay with e | ⟨c, e, hc0, hc⟩
    · rw [e] at hz
      cases hz
    · rw [e] at hz
      rw [List.mem_singleton.mp hz]
      exact ok_cat (ok_cat q (by decide +kernel)) (ok_num hc0)
  · rcases xk.goal with e | ⟨y, e, hz0, hy⟩
    · rw [e] at hz
      cases hz
    · rw [e] at hz
      rw [List.mem_singleton.mp hz]
      exact ok_cat (ok_cat q (by decide +kernel)) hz0
def spWrite1 (K : PySem.W.Frag) : Sp := fun vs H Q _ => ∃ (a : Addr) (L : Ltr), vs = [.ref a] ∧ LetAt K H a L ∧ LOk L ∧ (∃ o, OffO H L.offer o ∧ XOk L o ∧ ∀ H', Same H H' → Q (.str (textOf (linesX L o))) H')
theorem ok_write {P : Program} {w : World} {K : PySem.W.Frag} {mg : Str → Option Value} {base : Heap} {f : Addr} {fd : FuncData} (T : Tx K mg) (c_write_head : C8.Cal P w K mg base 1 "_write_head" (spHead K) []) (c_write_offer : C8.Cal P w K mg base 1 "write_offer" spWrite [])
    (F : FunD K "write" "write" (defArgs s_write) (defBody s_write) (defScope s_write) [] [] f fd) : FnOk P w K mg base CX0 2 f fd ["letter"] (spWrite1 K) := by
  refine F.ok sc_write (fun vs H Q E h => ?_) (fun cdv A outer s H vs Q E hr h => ?_)
  · obtain ⟨a, L, rfl, _⟩ := h
    rfl
  · obtain ⟨a, L, rfl, hl, g, o, ho, xk, k⟩ := h
    obtain ⟨dx, hp⟩ := id hl
    have g1 := g.call
    have g2 := g.origin
    have g3 := g.otag
    have g4 := g.target
    have g5 := g.ttag
    have g6 := g.way
    have g7 := numS_len g.seq
    refine ⟨_, PSs.nox (pss_cons (ps_set (i := 1) sc_write.nd rfl (Or.inl rfl) (pe_lst (pa_cons (pe_c c_write_head hr (by decide) rfl (pa_cons (pv 0) pa_nil)) (pa_cons (pe_joined (PJ.cons pe_str (PJ.cons (pe_fmt (pe_fldC rfl T.cl_Letter T.na_Letter_call (pv 0) rfl)) PJ.nil))) (pa_cons (pe_joined (PJ.cons pe_str (PJ.cons (pe_fmt (pe_fldC rfl T.cl_Letter T.na_Letter_origin (pv 0) rfl)) (PJ.cons pe_str (PJ.cons (pe_fmt (pe_fldC rfl T.cl_Letter T.na_Letter_origin_tag (pv 0) rfl)) PJ.nil))))) pa_nil))))) (pss_cons (ps_expr (pe_bm PySem.F.plainAttrs_list PySem.F.slot_list_append PySem.F.type_list_append mt_append (pv 1) (pa_cons (pe_cut (pe_ifExp (pt_truth (pe_fldC rfl T.cl_Letter T.na_Letter_target_tag (pv 0) rfl) (fun _ => rfl)) (pe_joined (PJ.cons pe_str (PJ.cons (pe_fmt (pe_fldC rfl T.cl_Letter T.na_Letter_target (pv 0) rfl)) (PJ.cons pe_str (PJ.cons (pe_fmt (pe_fldC rfl T.cl_Letter T.na_Letter_target_tag (pv 0) rfl)) PJ.nil))))) (pe_joined (PJ.cons pe_str (PJ.cons (pe_fmt (pe_fldC rfl T.cl_Letter T.na_Letter_target (pv 0) rfl)) PJ.nil))))) pa_nil))) (pss_cons (ps_expr (pe_bm PySem.F.plainAttrs_list PySem.F.slot_list_extend PySem.F.type_list_extend mt_extend (pv 1) (pa_cons (pe_lst (pa_cons (pe_joined (PJ.cons pe_str (PJ.cons (pe_fmt (pe_fldC rfl T.cl_Letter T.na_Letter_seq (pv 0) rfl)) PJ.nil))) (pa_cons (pe_joined (PJ.cons pe_str (PJ.cons (pe_fmt (pe_fldC rfl T.cl_Letter T.na_Letter_way (pv 0) rfl)) PJ.nil))) pa_nil))) pa_nil))) (C8.pss_cut (ps_if (pt_cmpR op_notN (pe_fldC rfl T.cl_Letter T.na_Letter_offer (pv 0) rfl) pe_non (nomark _)) (pss_one (ps_expr (pe_bm PySem.F.plainAttrs_list PySem.F.slot_list_append PySem.F.type_list_append mt_append (pv 1) (pa_cons (pe_joined (PJ.cons pe_str (PJ.cons (pe_fmt (pe_c c_write_offer hr (by decide) rfl (pa_cons (pe_fldC rfl T.cl_Letter T.na_Letter_offer (pv 0) rfl) pa_nil))) PJ.nil))) pa_nil)))) pss_nil) (C8.pss_cut (ps_if (pt_cmpR op_notN (pe_fldC rfl T.cl_Letter T.na_Letter_stay (pv 0) rfl) pe_non (nomark _)) (pss_one (ps_expr (pe_bm PySem.F.plainAttrs_list PySem.F.slot_list_append PySem.F.type_list_append mt_append (pv 1) (pa_cons (pe_joined (PJ.cons pe_str (PJ.cons (pe_fmt (pe_fldC rfl T.cl_Letter T.na_Letter_stay (pv 0) rfl)) PJ.nil))) pa_nil)))) pss_nil) (C8.pss_cut (ps_if (pt_cmpR op_notN (pe_fldC rfl T.cl_Letter T.na_Letter_goal (pv 0) rfl) pe_non (nomark _)) (pss_one (ps_expr (pe_bm PySem.F.plainAttrs_list PySem.F.slot_list_append PySem.F.type_list_append mt_append (pv 1) (pa_cons (pe_joined (PJ.cons pe_str (PJ.cons (pe_fmt (pe_fldC rfl T.cl_Letter T.na_Letter_goal (pv 0) rfl)) PJ.nil))) pa_nil)))) pss_nil) (pss_one (ps_ret (pe_join pe_str (pe_lc (own := [("line", 2)]) (g := gName 2) rfl sc_write.nd (pi_list (pv 1)) (blkOk_by (own := [("line", 2)]) (N := ["letter", "lines", "line"]) (sc := defScope s_write) (by decide +kernel)) (fun _ _ _ _ _ => pg_name (i := 2) sc_write.nd rfl (Or.inl rfl)) (fun _ _ _ _ _ => pts_nil) (fun _ _ _ _ _ => (pe_op op_add_str (pv 2) pe_str)))))))))))), ?_⟩
    refine ⟨_, rfl, a, L, rfl, hl, g, ?_⟩
    refine ⟨_, rfl, szl (by rw [cat_len, emp_len, k_call]; omega), _, rfl, a, dx, _, _, rfl, hp, rfl, .inl ⟨_, rfl, szl (by omega), _, rfl, szl (by rw [cat_len, cat_len, emp_len, k_call]; omega), ?_⟩⟩
    refine ⟨_, rfl, szl (by rw [cat_len, emp_len, k_from]; omega), _, rfl, a, dx, _, _, rfl, hp, rfl, .inl ⟨_, rfl, szl (by omega), _, rfl, szl (by rw [cat_len, cat_len, emp_len, k_from]; omega), ?_⟩⟩
    refine ⟨_, rfl, szl (by rw [cat_len, cat_len, cat_len, emp_len, k_from, k_blank]; omega), _, rfl, a, dx, _, _, rfl, hp, rfl, .inl ⟨_, rfl, szl (by omega), _, rfl, szl (by rw [cat_len, cat_len, cat_len, cat_len, emp_len, k_from, k_blank]; omega), ?_⟩⟩
    refine ⟨by show 3 ≤ sizeLine; decide, fun l hnl => ?_⟩
    have al : a ≠ l := ne_of_none hp hnl
    -- lines.append(to)
    refine ⟨_, rfl, .inl ⟨rfl, _, SqL.of upd_same⟩, fun v H' => v = .str (toS L) ∧ H' = upd H l (.lst [.str (headS L), .str (Str.empty ++ "call " ++ L.call), .str (Str.empty ++ "from " ++ L.origin ++ " " ++ L.otag)]), ?_, ?_⟩
    · have hp1 : ∀ o, (upd H l o) a = some (.ins (He.ga K "Letter") dx L.fl) := fun o => by rw [upd_ne al]; exact hp
      refine ⟨_, rfl, a, dx, _, .str L.ttag, rfl, hp1 _, rfl, _, ⟨szl (by omega), rfl⟩, ?_⟩
      cases e : ((L.ttag.length : Int) != 0) with
      | true =>
        have q : toS L = Str.empty ++ "to " ++ L.target ++ " " ++ L.ttag := by unfold toS; rw [e]; rfl
        rw [q]
        refine iteT ⟨_, rfl, szl (by rw [cat_len, emp_len, k_to]; omega), _, rfl, a, dx, _, _, rfl, hp1 _, rfl, .inl ⟨_, rfl, szl (by omega), _, rfl, szl (by rw [cat_len, cat_len, emp_len, k_to]; omega), ?_⟩⟩
        exact ⟨_, rfl, szl (by rw [cat_len, cat_len, cat_len, emp_len, k_to, k_blank]; omega), _, rfl, a, dx, _, _, rfl, hp1 _, rfl, .inl ⟨_, rfl, szl (by omega), _, rfl, szl (by rw [cat_len, cat_len, cat_len, cat_len, emp_len, k_to, k_blank]; omega), rfl, rfl⟩⟩
      | false =>
        have q : toS L = Str.empty ++ "to " ++ L.target := by unfold toS; rw [e]; rfl
        rw [q]
        exact iteF ⟨_, rfl, szl (by rw [cat_len, emp_len, k_to]; omega), _, rfl, a, dx, _, _, rfl, hp1 _, rfl, .inl ⟨_, rfl, szl (by omega), _, rfl, szl (by rw [cat_len, cat_len, emp_len, k_to]; omega), rfl, rfl⟩⟩
    rintro v H' ⟨rfl, rfl⟩
    refine ⟨l, _, _, rfl, rfl, upd_same, by show 3 < sizeLine; decide, ?_⟩
    rw [upd_upd]
    -- lines.extend([seq, way])
    have hp1 : ∀ o, (upd H l o) a = some (.ins (He.ga K "Letter") dx L.fl) := fun o => by rw [upd_ne al]; exact hp
    refine ⟨_, rfl, .inl ⟨rfl, _, SqL.of upd_same⟩, _, rfl, szl (by rw [cat_len, emp_len, k_seq]; omega), _, rfl, a, dx, _, _, rfl, hp1 _, rfl, .inr ⟨_, rfl, numS_log g.seq, ?_⟩⟩
    refine ⟨_, rfl, szl (by show (_ ++ _ ++ numS L.seq).length ≤ _; rw [cat_len, cat_len, emp_len, k_seq]; omega), ?_⟩
    refine ⟨_, rfl, szl (by rw [cat_len, emp_len, k_way]; omega), _, rfl, a, dx, _, _, rfl, hp1 _, rfl, .inl ⟨_, rfl, szl (by omega), _, rfl, szl (by rw [cat_len, cat_len, emp_len, k_way]; omega), ?_⟩⟩
    refine ⟨by show 2 ≤ sizeLine; decide, fun l2 hn2 => ?_⟩
    have l2l : l ≠ l2 := fun e => by rw [← e, upd_same] at hn2; cases hn2
    have hn20 : H l2 = none := by rw [upd_ne l2l.symm] at hn2; exact hn2
    refine ⟨l, l2, _, _, rfl, rfl, (by rw [upd_ne l2l]; exact upd_same), upd_same, by show 6 ≤ sizeLine; decide, ?_⟩
    have sH : Same H (upd (upd (upd H l (.lst [.str (headS L), .str (Str.empty ++ "call " ++ L.call), .str (Str.empty ++ "from " ++ L.origin ++ " " ++ L.otag), .str (toS L)])) l2 (.lst [.str (Str.empty ++ "seq " ++ numS L.seq), .str (Str.empty ++ "way " ++ L.way)])) l (.lst ((linesS L).map V.str))) := TK.Same.upd_of ((same_upd hnl).trans (same_upd hn2)) hnl
    -- the offer, the stay, the goal
    have app : ∀ {H1 : Hp} {l1 : List Str} {z : Str}, H1 l = some (.lst (l1.map V.str)) → upd H1 l (.lst (l1.map V.str ++ [.str z])) = upd H1 l (.lst ((l1 ++ [z]).map V.str)) := fun _ => by rw [List.map_append]; rfl
    refine ⟨fun σ' H' => σ' = [some (.ref a), some (.ref l), none] ∧ Same H H' ∧ H' l = some (.lst ((linesS L ++ offL o).map V.str)), ?_, ?_⟩
    · refine ⟨_, rfl, a, dx, _, _, rfl, sH _ _ hp, rfl, rfl, _, rfl, ?_⟩
      rw [ho.none_iff]
      cases o with
      | none =>
        refine iteF ⟨rfl, sH, ?_⟩
        rw [show offL none = [] from rfl, List.append_nil]
        exact upd_same
      | some o =>
        have ok := xk.off o rfl
        have wl := wordsS_len ok
        refine iteT ⟨_, rfl, .inl ⟨rfl, _, SqL.of upd_same⟩, _, rfl, szl (by rw [cat_len, emp_len, k_offer]; omega), ?_⟩
        refine ⟨_, rfl, a, dx, _, _, rfl, sH _ _ hp, rfl, _, o, rfl, ho.same sH, ok, fun H2 s2 => .inl ⟨_, rfl, szl (by omega), _, rfl, szl (by rw [cat_len, cat_len, emp_len, k_offer]; omega), ?_⟩⟩
        have h2 := s2 _ _ (show (upd _ l _) l = some (.lst ((linesS L).map V.str)) from upd_same)
        refine ⟨l, _, _, rfl, rfl, h2, by show 6 < sizeLine; decide, ?_⟩
        refine ⟨rfl, TK.Same.upd_of (sH.trans s2) hnl, ?_⟩
        rw [upd_same, List.map_append]
        rfl
    rintro σ' H1 ⟨rfl, sH, hl1⟩
    have n1 : (linesS L ++ offL o).length ≤ 7 := by
      rw [List.length_append]
      have : (offL o).length ≤ 1 := by cases o <;> simp [offL]
      show 6 + _ ≤ 7
      omega
    have zl1 := linesX_len (L := L) (o := o) g xk
    unfold linesX at zl1
    refine ⟨fun σ' H' => σ' = [some (.ref a), some (.ref l), none] ∧ Same H H' ∧ H' l = some (.lst ((linesS L ++ offL o ++ stayL L.stay).map V.str)), ?_, ?_⟩
    · refine ⟨_, rfl, a, dx, _, _, rfl, sH _ _ hp, rfl, rfl, _, rfl, ?_⟩
      rcases xk.stay with e | ⟨c, e, hc0, hc⟩
      · rw [e]
        refine iteF ⟨rfl, sH, ?_⟩
        rw [show stayL V.non = [] from rfl, List.append_nil]
        exact hl1
      · have := numS_len hc
        rw [e]
        refine iteT ⟨_, rfl, .inl ⟨rfl, _, SqL.of hl1⟩, _, rfl, szl (by rw [cat_len, emp_len, k_stay]; omega), ?_⟩
        refine ⟨_, rfl, a, dx, _, _, rfl, sH _ _ hp, rfl, .inr ⟨c, e, numS_log hc, ?_⟩⟩
        refine ⟨_, rfl, szl (by show (_ ++ _ ++ numS c).length ≤ _; rw [cat_len, cat_len, emp_len, k_stay]; omega), ?_⟩
        refine ⟨l, _, _, rfl, rfl, hl1, by rw [List.length_map]; exact Nat.lt_of_le_of_lt n1 (by decide), ?_⟩
        refine ⟨rfl, TK.Same.upd_of sH hnl, ?_⟩
        rw [upd_same, List.map_append (l₂ := stayL _)]
        rfl
    rintro σ' H2 ⟨rfl, sH, hl1⟩
    have n2 : (linesS L ++ offL o ++ stayL L.stay).length ≤ 8 := by
      rw [List.length_append]
      have : (stayL L.stay).length ≤ 1 := by unfold stayL; split <;> simp
      omega
    refine ⟨fun σ' H' => σ' = [some (.ref a), some (.ref l), none] ∧ Same H H' ∧ H' l = some (.lst ((linesX L o).map V.str)), ?_, ?_⟩
    · refine ⟨_, rfl, a, dx, _, _, rfl, sH _ _ hp, rfl, rfl, _, rfl, ?_⟩
      unfold linesX
      rcases xk.goal with e | ⟨z, e, hz0, hz⟩
      · rw [e]
        refine iteF ⟨rfl, sH, ?_⟩
        rw [show goalL V.non = [] from rfl, List.append_nil]
        exact hl1
      · rw [e]
        refine iteT ⟨_, rfl, .inl ⟨rfl, _, SqL.of hl1⟩, _, rfl, szl (by rw [cat_len, emp_len, k_goal]; omega), ?_⟩
        refine ⟨_, rfl, a, dx, _, _, rfl, sH _ _ hp, rfl, .inl ⟨z, e, szl (by omega), _, rfl, szl (by rw [cat_len, cat_len, emp_len, k_goal]; omega), ?_⟩⟩
        refine ⟨l, _, _, rfl, rfl, hl1, by rw [List.length_map]; exact Nat.lt_of_le_of_lt n2 (by decide), ?_⟩
        refine ⟨rfl, TK.Same.upd_of sH hnl, ?_⟩
        rw [upd_same, List.map_append (l₂ := goalL _)]
        rfl
    rintro σ' H3 ⟨rfl, sH, hl1⟩
    have n3 := linesX_n L o
    -- the join
    refine ⟨⟨_, rfl⟩, _, rfl, l, rfl, ⟨_, SqL.of hl1⟩, fun D hD => ?_⟩
    have hS2 : ∀ u, SqL K (upd H3 D u) l ((linesX L o).map V.str) := fun o => SqL.of ((same_upd hD) _ _ hl1)
    have hfit := textOf_fits (linesX_len g xk) (Nat.le_trans n3 (by decide))
    refine lc_pureN walk_list (fun i => V.str ((linesX L o).getD i "" ++ "\n")) (by rw [List.length_map]; exact Nat.le_trans n3 (by show 9 ≤ sizeLine; decide)) (fun _ _ => hS2 _) (fun i x H4 kk hi y q => ?_) ?_
    · obtain ⟨rfl, hx⟩ := y
      rw [List.length_map] at hi
      rw [List.getElem?_map, List.getElem?_eq_getElem hi] at hx
      obtain rfl := Option.some.inj hx
      refine ⟨rfl, _, rfl, _, _, rfl, rfl, Nat.le_trans (Nat.add_le_add (linesX_len g xk _ (List.getElem_mem hi)) (Nat.le_of_eq k_nl)) (by decide), ?_⟩
      rw [List.getD_eq_getElem?_getD, List.getElem?_eq_getElem hi] at q
      exact q
    · rw [List.length_map, range_map_getD (linesX L o) "" fun z => V.str (z ++ "\n")]
      refine ⟨_, D, (linesX L o).map fun z => z ++ "\n", rfl, rfl, .inl (SqL.of ?_), ?_, ?_⟩
      · rw [List.map_map]
        exact upd_same
      · exact Nat.le_trans hfit (by decide)
      · exact k _ (sH.trans (same_upd hD))

end K19
set_option maxHeartbeats 4000000
namespace K19
open PySem PySem.Spec PyProof.Rows L2 SX TK TKS
open C8 (pe_c)
/-! ### an offer's words, read back -/
theorem numL_zero : ∀ n : Nat, (TL.numL n).getD 0 0 = 48 → n = 0 := by
  intro n
  induction n using Nat.strongRecOn with
  | _ n ih =>
    intro h
    by_cases h1 : n < 10
    · rw [TL.numL_lt h1] at h
      have : 48 + n = 48 := h
      omega
    · have h2 : 10 ≤ n := by omega
      rw [TL.numL_step h2] at h
      have h3 : (TL.numL (n / 10)).getD 0 0 = 48 := by
        cases e : TL.numL (n / 10) with
        | nil => exact absurd e (TL.numL_ne _)
        | cons a r =>
          rw [e] at h
          exact h
      have := ih (n / 10) (by omega) h3
      omega
theorem digits_in : ∀ c, 48 ≤ c → c ≤ 57 → c ∈ TL.tl zDG := by
  intro c h1 h2
  have e : TL.tl zDG = [48, 49, 50, 51, 52, 53, 54, 55, 56, 57] := by decide +kernel
  rw [e]
  simp only [List.mem_cons, List.not_mem_nil, or_false]
  omega
theorem num_back {i m : Int} (h0 : 0 ≤ i) (h1 : i ≤ m) (h2 : i ≤ 999999999) : numV (Str.ofString (toString i)) m = .int i := by
  obtain ⟨n, rfl⟩ := Int.eq_ofNat_of_zero_le h0
  rw [num_S]
  have hl : (TL.numL n).length ≤ 9 := TL.numL_len (by decide) (by omega)
  have hp : 0 < (TL.numL n).length := List.length_pos_iff.mpr (TL.numL_ne n)
  have hd := TL.numL_digits n
  have c1 : consB (S (TL.numL n)) zDG 9 = true := by
    unfold consB consL
    rw [Bool.and_eq_true, Bool.and_eq_true, decide_eq_true_eq, decide_eq_true_eq, List.all_eq_true]
    refine ⟨⟨?_, ?_⟩, fun c hc => decide_eq_true (digits_in c (hd c hc).1 (hd c hc).2)⟩
    · show (1 : Int) ≤ ((TL.numL n).length : Int)
      omega
    · show ((TL.numL n).length : Int) ≤ 9
      omega
  have c2 : (decide (V.str (S [(TL.tl (S (TL.numL n))).getD 0 0]) = V.str "0") && !decide (V.str (S (TL.numL n)) = V.str "0")) = false := by
    by_cases e : (TL.numL n).getD 0 0 = 48
    · have e0 := numL_zero n e
      subst e0
      decide +kernel
    · have e1 : decide (V.str (S [(TL.tl (S (TL.numL n))).getD 0 0]) = V.str "0") = false := decide_eq_false fun q => e (by
        have q2 := V.str.inj q
        rw [show ("0" : Str) = S [48] by decide +kernel] at q2
        exact (List.cons.inj (S_inj q2)).1)
      rw [e1]
      rfl
  unfold numV
  rw [if_pos c1, if_neg (by rw [c2]; exact Bool.false_ne_true)]
  show (if ((NumText.digitsVal (TL.numL n) : Nat) : Int) ≤ m then V.int (NumText.digitsVal (TL.numL n) : Nat) else .non) = _
  rw [TL.numL_val, if_pos h1]
theorem modes_plain : ∀ z ∈ modesL, 32 ∉ TL.tl z := by decide +kernel
theorem joinL_free {c : Nat} {s : List Nat} (hs : c ∉ s) : ∀ l : List (List Nat), (∀ p ∈ l, c ∉ p) → c ∉ TL.joinL s l
  | [], _ => by simp [TL.joinL]
  | [p], h => h p (by simp)
  | p :: q :: r, h => by
    show c ∉ p ++ (s ++ TL.joinL s (q :: r))
    rw [List.mem_append, List.mem_append]
    rintro (z | z | z)
    · exact h p (by simp) z
    · exact hs z
    · exact joinL_free hs (q :: r) (fun x hx => h x (List.mem_cons_of_mem _ hx)) z
theorem str_noblank {i : Int} (h0 : 0 ≤ i) : 32 ∉ TL.tl (Str.ofString (toString i)) := by
  obtain ⟨n, rfl⟩ := Int.eq_ofNat_of_zero_le h0
  rw [TL.tl_num]
  exact TL.numL_free (by omega)

/-! ### dicts of parts -/
theorem mergeK_app : ∀ (more kvs : List (Key × V)), ((kvs ++ more).map (·.1)).Nodup → mergeK kvs more = kvs ++ more
  | [], kvs, _ => by
    rw [List.append_nil]
    rfl
  | kv :: more, kvs, h => by
    have e : mergeK kvs (kv :: more) = mergeK (putK kvs kv.1 kv.2) more := rfl
    have hv : valV kvs kv.1 = none := by
      have h1 := valV_any kv.1 kvs
      have h2 : (kvs.any fun q => decide (q.1 = kv.1)) = false := by
        rw [Bool.eq_false_iff]
        intro z
        obtain ⟨q, hq, e⟩ := List.any_eq_true.mp z
        rw [List.map_append, List.map_cons, List.nodup_append] at h
        exact h.2.2 q.1 (List.mem_map.mpr ⟨q, hq, rfl⟩) kv.1 (List.mem_cons_self ..) (of_decide_eq_true e)
      rw [h2] at h1
      cases q : valV kvs kv.1 with
      | none => rfl
      | some x => rw [q] at h1; cases h1
    rw [e, putK_new _ hv, mergeK_app more _ (by simpa using h)]
    simp
theorem dkOf_keys : ∀ {ks : List Str} {zs : List V}, ks.length = zs.length → (dkOf ks zs).map (·.1) = ks.map Sum.inr
  | [], _, _ => rfl
  | _ :: _, [], h => nomatch h
  | k :: ks, z :: zs, h => by
    show Sum.inr k :: (dkOf ks zs).map (·.1) = _
    rw [dkOf_keys (Nat.succ.inj h)]
    rfl
theorem dkOf_app : ∀ {ks ks' : List Str} {zs zs' : List V}, ks.length = zs.length → dkOf ks zs ++ dkOf ks' zs' = dkOf (ks ++ ks') (zs ++ zs')
  | [], _, [], _, _ => rfl
  | [], _, _ :: _, _, h => nomatch h
  | _ :: _, _, [], _, h => nomatch h
  | k :: ks, _, z :: zs, _, h => congrArg (List.cons (Sum.inr k, z)) (dkOf_app (Nat.succ.inj h))
theorem nd_inr {ks : List Str} (h : ks.Nodup) : (ks.map (Sum.inr : Str → Key)).Nodup := List.Pairwise.map _ (fun _ _ q e => q (Sum.inr.inj e)) h
theorem merge_dk {ks ks' : List Str} {zs zs' : List V} (hl : ks.length = zs.length) (hl' : ks'.length = zs'.length) (nd : (ks ++ ks').Nodup) : mergeK (dkOf ks zs) (dkOf ks' zs') = dkOf (ks ++ ks') (zs ++ zs') := by
  rw [mergeK_app, dkOf_app hl]
  rw [List.map_append, dkOf_keys hl, dkOf_keys hl', ← List.map_append]
  exact nd_inr nd
theorem merge_dk0 {ks : List Str} {zs : List V} (hl : ks.length = zs.length) (nd : ks.Nodup) : mergeK [] (dkOf ks zs) = dkOf ks zs := merge_dk (ks := []) (zs := []) rfl hl nd
/-! ### the head of a letter, read -/
def verbsL : List Str := ["CALL", "KEEP", "STOP", "END", "TURN", "MOVE", "LIVE", "SIGN"]
def codesL : List Int := [18, 20, 41, 43, 44, 45, 46, 48, 50]
theorem verbs_v : ([.str "CALL", .str "KEEP", .str "STOP", .str "END", .str "TURN", .str "MOVE", .str "LIVE", .str "SIGN"] : List V) = verbsL.map V.str := rfl
theorem verbs_len : ∀ z ∈ verbsL, z.length ≤ 16 := by decide +kernel
def headW (v : Str) : Option Int → List Str
  | none => ["request", v]
  | some c => ["reply", numS c, v]
def headK : Option Int → List Str
  | none => ["verb"]
  | some _ => ["verb", "code"]
def headZ (v : Str) : Option Int → List V
  | none => [.str v]
  | some c => [.str v, .int c]
theorem code_num : ∀ c ∈ codesL, numV (numS c) 99 = .int c := fun c hc => by
  have h : 0 ≤ c ∧ c ≤ 99 := (by decide : ∀ c ∈ codesL, 0 ≤ c ∧ c ≤ 99) c hc
  exact num_back h.1 h.2 (by omega)
theorem code_in : ∀ c ∈ codesL, inV (.int c) [.int 18, .int 20, .int 41, .int 43, .int 44, .int 45, .int 46, .int 48, .int 50] = true := by decide
theorem code_int : ∀ c ∈ codesL, PySem.intText? (numS c) = some c := fun c hc => by
  have h : 0 ≤ c ∧ c ≤ 99 := (by decide : ∀ c ∈ codesL, 0 ≤ c ∧ c ≤ 99) c hc
  obtain ⟨n, rfl⟩ := Int.eq_ofNat_of_zero_le h.1
  have e : numS (n : Int) = S (TL.numL n) := num_S _
  rw [e, PySem.intText_digits (x := S (TL.numL n)) (fun c hc => TL.numL_digits n c hc) (TL.numL_ne n) (by
    show (TL.numL n).length ≤ 4300
    have := TL.numL_len (n := n) (k := 9) (by decide) (by omega)
    omega)]
  show some (((NumText.digitsVal (TL.numL n) : Nat) : Int)) = _
  rw [TL.numL_val]
def spReadHead : Sp := fun vs H Q _ => ∃ l v c, vs = [.ref l] ∧ H l = some (.lst ((headW v c).map V.str)) ∧ v ∈ verbsL ∧ (∀ n, c = some n → n ∈ codesL) ∧ ∀ d H', Same H H' → H d = none → H' d = some (.dK (dkOf (headK c) (headZ v c))) → Q (.ref d) H'
theorem ok_read_head {P : Program} {w : World} {K : PySem.W.Frag} {mg : Str → Option Value} {base : Heap} {f : Addr} {fd : FuncData} (T : Tx K mg) (c_read_number : C8.Cal P w K mg base 2 "read_number" spNum [])
    (F : FunD K "_read_head" "_read_head" (defArgs s_read_head) (defBody s_read_head) (defScope s_read_head) [] [] f fd) : FnOk P w K mg base CX0 3 f fd ["words"] spReadHead := by
  refine F.ok sc_read_head (fun vs H Q E h => ?_) (fun cdv A outer s H vs Q E hr h => ?_)
  · obtain ⟨l, v, c, rfl, _⟩ := h
    rfl
  · obtain ⟨l, v, c, rfl, hl, hv, hc, k⟩ := h
    have lv := verbs_len v hv
    have inv : inV (.str v) (verbsL.map V.str) = true := by rw [inV_strs]; exact decide_eq_true hv
    refine ⟨_, PSs.nox (C8.pss_cut (ps_if (pt_cmpR op_notIn_seq (pe_ix ix_list (pv 0) (pe_un un_neg pe_int) (fun _ _ => rfl)) (pgR T.g_VERBS) (by with_unfolding_all rfl)) (pss_one (ps_ret pe_non)) pss_nil) (C8.pss_cut (ps_if (PW.pt (pw_and (pt_cmpR op_eq (pe_callB call_len_seq rfl T.f_len PySem.boot_len (pa_cons (pv 0) pa_nil)) pe_int (nomark _)) (pw_and1 (pt_cmpR op_eq (pe_ix ix_list (pv 0) pe_int (fun _ _ => rfl)) pe_str (nomark _))))) (pss_one (ps_ret (pe_disp (pps_cons pe_str (pe_ix ix_list (pv 0) pe_int (fun _ _ => rfl)) pps_nil) rfl rfl (by simp) (by decide)))) pss_nil) (C8.pss_cut (ps_if (PW.pt (pw_and (pt_cmpR op_eq (pe_callB call_len_seq rfl T.f_len PySem.boot_len (pa_cons (pv 0) pa_nil)) pe_int (nomark _)) (pw_and (pt_cmpR op_eq (pe_ix ix_list (pv 0) pe_int (fun _ _ => rfl)) pe_str (nomark _)) (pw_and1 (pt_cmpR op_in_seq (pe_c c_read_number hr (by decide) rfl (pa_cons (pe_ix ix_list (pv 0) pe_int (fun _ _ => rfl)) (pa_cons (pgI T.g_GREATEST_CODE) pa_nil))) (pgR T.g_CODES) (by with_unfolding_all rfl)))))) (pss_one (ps_ret (pe_disp (pps_cons pe_str (pe_ix ix_list (pv 0) pe_int (fun _ _ => rfl)) (pps_cons pe_str (pe_callTy call_int_str rfl T.f_int (by decide +kernel) (pa_cons (pe_ix ix_list (pv 0) pe_int (fun _ _ => rfl)) pa_nil)) pps_nil)) rfl rfl (by simp) (by decide)))) pss_nil) (pss_one (ps_ret pe_non))))), ?_⟩
    refine ⟨fun σ' H' => σ' = [some (.ref l)] ∧ H' = H, ?_, ?_⟩
    · cases c with
      | none =>
        refine ⟨_, rfl, 1, rfl, l, _, -1, _, rfl, rfl, SqL.of hl, rfl, _, verbsL.map V.str, rfl, .inr (T.v_VERBS H), rfl, flat_strs _, _, rfl, ?_⟩
        rw [inv]
        exact iteF ⟨rfl, rfl⟩
      | some n =>
        refine ⟨_, rfl, 1, rfl, l, _, -1, _, rfl, rfl, SqL.of hl, rfl, _, verbsL.map V.str, rfl, .inr (T.v_VERBS H), rfl, flat_strs _, _, rfl, ?_⟩
        rw [inv]
        exact iteF ⟨rfl, rfl⟩
    rintro σ' H' ⟨rfl, rfl⟩
    cases c with
    | none =>
      refine ⟨fun _ _ => False, ?_, fun _ _ z => z.elim⟩
      refine ⟨_, rfl, l, _, rfl, .inl (SqL.of hl), rfl, _, rfl, iteT ⟨_, rfl, l, _, 0, _, rfl, rfl, SqL.of hl, rfl, rfl, _, rfl, iteT fun p hp => ?_⟩⟩
      refine ⟨_, rfl, l, _, 1, _, rfl, rfl, SqL.of ((same_upd hp) _ _ hl), rfl, upd_same, dkOf ["verb"] [.str v], rfl, by show 1 ≤ 15; decide, ?_⟩
      rw [upd_upd, merge_dk0 rfl (by decide +kernel)]
      exact k p _ (same_upd hp) hp upd_same
    | some n =>
      have hn := hc n rfl
      refine ⟨fun σ' H2 => σ' = [some (.ref l)] ∧ H2 = H', ⟨_, rfl, l, _, rfl, .inl (SqL.of hl), rfl, _, rfl, iteF ⟨rfl, rfl⟩⟩, ?_⟩
      rintro σ' H2 ⟨rfl, rfl⟩
      refine ⟨fun _ _ => False, ?_, fun _ _ z => z.elim⟩
      have zn : (numS n).length ≤ 10 := numS_len (by have : 0 ≤ n ∧ n ≤ 99 := (by decide : ∀ c ∈ codesL, 0 ≤ c ∧ c ≤ 99) n hn; omega)
      refine ⟨_, rfl, l, _, rfl, .inl (SqL.of hl), rfl, _, rfl, iteT ⟨_, rfl, l, _, 0, _, rfl, rfl, SqL.of hl, rfl, rfl, _, rfl, iteT ?_⟩⟩
      refine ⟨_, rfl, l, _, 1, _, rfl, rfl, SqL.of hl, rfl, numS n, 99, rfl, Nat.le_trans zn (by decide), fun H3 s3 => ?_⟩
      rw [code_num n hn]
      refine ⟨_, _, rfl, .inr (T.v_CODES H3), rfl, rfl, _, rfl, ?_⟩
      rw [code_in n hn]
      refine iteT fun p hp => ?_
      have hl3 : ∀ o, (upd H3 p o) l = some (.lst ((["reply", numS n, v] : List Str).map V.str)) := fun o => (same_upd hp) _ _ (s3 _ _ hl)
      have hb := code_int n hn
      refine ⟨_, rfl, l, _, 2, _, rfl, rfl, SqL.of (hl3 _), rfl, _, rfl, l, _, 1, _, rfl, rfl, SqL.of (hl3 _), rfl, numS n, n, rfl, hb, Nat.le_trans zn (by decide), ?_⟩
      refine ⟨upd_same, dkOf ["verb", "code"] [.str v, .int n], rfl, by show 2 ≤ 15; decide, ?_⟩
      rw [upd_upd, merge_dk0 rfl (by decide +kernel)]
      exact k p _ (s3.trans (same_upd hp)) (by
        cases q : H2 p with
        | none => rfl
        | some u =>
          have := s3 _ _ q
          rw [hp] at this
          cases this) upd_same
end K19
set_option maxHeartbeats 4000000
namespace K19
open PySem PySem.Spec PyProof.Rows L2 SX TK TKS
open C8 (pe_c)
/-! ### the lines of a letter, read -/
theorem fresh_of {H H1 : Hp} {p : Addr} (s : Same H H1) (h : H1 p = none) : H p = none := by
  cases q : H p with
  | none => rfl
  | some u =>
    have := s _ _ q
    rw [h] at this
    cases this
def spOrigin : Sp := fun vs H Q _ => ∃ l o t, vs = [.ref l] ∧ H l = some (.lst [.str o, .str t]) ∧ o.length ≤ 1000 ∧ t.length ≤ 1000 ∧ (splitB o).isSome = true ∧ tagB t = true ∧ ∀ d H', Same H H' → H d = none → H' d = some (.dK (dkOf ["origin", "origin_tag"] [.str o, .str t])) → Q (.ref d) H'
theorem ok_read_origin {P : Program} {w : World} {K : PySem.W.Frag} {mg : Str → Option Value} {base : Heap} {f : Addr} {fd : FuncData} (T : Tx K mg) (c_is_address : C8.Cal P w K mg base 4 "is_address" spIsAddr []) (c_is_tag : C8.Cal P w K mg base 2 "is_tag" spTag [])
    (F : FunD K "_read_origin" "_read_origin" (defArgs s_read_origin) (defBody s_read_origin) (defScope s_read_origin) [] [] f fd) : FnOk P w K mg base CX0 5 f fd ["words"] spOrigin := by
  refine F.ok sc_read_origin (fun vs H Q E h => ?_) (fun cdv A outer s H vs Q E hr h => ?_)
  · obtain ⟨l, o, t, rfl, _⟩ := h
    rfl
  · obtain ⟨l, o, t, rfl, hl, lo, lt, ho, ht, k⟩ := h
    refine ⟨_, PSs.nox (C8.pss_cut (ps_if (PW.pt (pw_and (pt_cmpR op_eq (pe_callB call_len_seq rfl T.f_len PySem.boot_len (pa_cons (pv 0) pa_nil)) pe_int (nomark _)) (pw_and (pt_val (pe_c c_is_address hr (by decide) rfl (pa_cons (pe_ix ix_list (pv 0) pe_int (fun _ _ => rfl)) pa_nil))) (pw_and1 (pt_val (pe_c c_is_tag hr (by decide) rfl (pa_cons (pe_ix ix_list (pv 0) pe_int (fun _ _ => rfl)) pa_nil))))))) (pss_one (ps_ret (pe_disp (pps_cons pe_str (pe_ix ix_list (pv 0) pe_int (fun _ _ => rfl)) (pps_cons pe_str (pe_ix ix_list (pv 0) pe_int (fun _ _ => rfl)) pps_nil)) rfl rfl (by simp) (by decide)))) pss_nil) (pss_one (ps_ret pe_non))), ?_⟩
    refine ⟨fun _ _ => False, ?_, fun _ _ z => z.elim⟩
    refine ⟨_, rfl, l, _, rfl, .inl (SqL.of hl), rfl, _, rfl, iteT ⟨_, rfl, l, _, 0, _, rfl, rfl, SqL.of hl, rfl, o, rfl, lo, fun H1 s1 => ⟨_, rfl, ?_⟩⟩⟩
    rw [ho]
    refine iteT ⟨_, rfl, l, _, 1, _, rfl, rfl, SqL.of (s1 _ _ hl), rfl, t, rfl, lt, fun H2 s2 => ⟨_, rfl, ?_⟩⟩
    rw [ht]
    refine iteT fun p hp => ?_
    have h3 := (s1.trans s2).trans (same_upd (o := .dK []) hp)
    refine ⟨_, rfl, l, _, 0, _, rfl, rfl, SqL.of (h3 _ _ hl), rfl, _, rfl, l, _, 1, _, rfl, rfl, SqL.of (h3 _ _ hl), rfl, upd_same, dkOf ["origin", "origin_tag"] [.str o, .str t], rfl, by show 2 ≤ 15; decide, ?_⟩
    rw [upd_upd, merge_dk0 rfl (by decide +kernel)]
    exact k p _ ((s1.trans s2).trans (same_upd hp)) (fresh_of (s1.trans s2) hp) upd_same
def tgW (t g : Str) : List Str := if g.length = 0 then [t] else [t, g]
def spTarget : Sp := fun vs H Q _ => ∃ l t g, vs = [.ref l] ∧ H l = some (.lst ((tgW t g).map V.str)) ∧ t.length ≤ 1000 ∧ g.length ≤ 1000 ∧ (splitB t).isSome = true ∧ (g = "" ∨ (g.length ≠ 0 ∧ tagB g = true)) ∧ ∀ d H', Same H H' → H d = none → H' d = some (.dK (dkOf ["target", "target_tag"] [.str t, .str g])) → Q (.ref d) H'
theorem ok_read_target {P : Program} {w : World} {K : PySem.W.Frag} {mg : Str → Option Value} {base : Heap} {f : Addr} {fd : FuncData} (T : Tx K mg) (c_is_address : C8.Cal P w K mg base 4 "is_address" spIsAddr []) (c_is_tag : C8.Cal P w K mg base 2 "is_tag" spTag [])
    (F : FunD K "_read_target" "_read_target" (defArgs s_read_target) (defBody s_read_target) (defScope s_read_target) [] [] f fd) : FnOk P w K mg base CX0 5 f fd ["words"] spTarget := by
  refine F.ok sc_read_target (fun vs H Q E h => ?_) (fun cdv A outer s H vs Q E hr h => ?_)
  · obtain ⟨l, t, g, rfl, _⟩ := h
    rfl
  · obtain ⟨l, t, g, rfl, hl, lt, lg, ht, hg, k⟩ := h
    refine ⟨_, PSs.nox (C8.pss_cut (ps_if (PW.pt (pw_and (pt_cmpR op_eq (pe_callB call_len_seq rfl T.f_len PySem.boot_len (pa_cons (pv 0) pa_nil)) pe_int (nomark _)) (pw_and1 (pt_val (pe_c c_is_address hr (by decide) rfl (pa_cons (pe_ix ix_list (pv 0) pe_int (fun _ _ => rfl)) pa_nil)))))) (pss_one (ps_ret (pe_disp (pps_cons pe_str (pe_ix ix_list (pv 0) pe_int (fun _ _ => rfl)) (pps_cons pe_str pe_str pps_nil)) rfl rfl (by simp) (by decide)))) pss_nil) (C8.pss_cut (ps_if (PW.pt (pw_and (pt_cmpR op_eq (pe_callB call_len_seq rfl T.f_len PySem.boot_len (pa_cons (pv 0) pa_nil)) pe_int (nomark _)) (pw_and (pt_val (pe_c c_is_address hr (by decide) rfl (pa_cons (pe_ix ix_list (pv 0) pe_int (fun _ _ => rfl)) pa_nil))) (pw_and1 (pt_val (pe_c c_is_tag hr (by decide) rfl (pa_cons (pe_ix ix_list (pv 0) pe_int (fun _ _ => rfl)) pa_nil))))))) (pss_one (ps_ret (pe_disp (pps_cons pe_str (pe_ix ix_list (pv 0) pe_int (fun _ _ => rfl)) (pps_cons pe_str (pe_ix ix_list (pv 0) pe_int (fun _ _ => rfl)) pps_nil)) rfl rfl (by simp) (by decide)))) pss_nil) (pss_one (ps_ret pe_non)))), ?_⟩
    unfold tgW at hl
    rcases hg with rfl | ⟨hg, hg2⟩
    · rw [if_pos (show ("" : Str).length = 0 from rfl)] at hl
      refine ⟨fun _ _ => False, ?_, fun _ _ z => z.elim⟩
      refine ⟨_, rfl, l, _, rfl, .inl (SqL.of hl), rfl, _, rfl, iteT ⟨_, rfl, l, _, 0, _, rfl, rfl, SqL.of hl, rfl, t, rfl, lt, fun H1 s1 => ⟨_, rfl, ?_⟩⟩⟩
      rw [ht]
      refine iteT fun p hp => ?_
      have h3 := s1.trans (same_upd (o := .dK []) hp)
      refine ⟨_, rfl, l, _, 0, _, rfl, rfl, SqL.of (h3 _ _ hl), rfl, upd_same, dkOf ["target", "target_tag"] [.str t, .str ""], rfl, by show 2 ≤ 15; decide, ?_⟩
      rw [upd_upd, merge_dk0 rfl (by decide +kernel)]
      exact k p _ (s1.trans (same_upd hp)) (fresh_of s1 hp) upd_same
    · rw [if_neg hg] at hl
      refine ⟨fun σ' H' => σ' = [some (.ref l)] ∧ H' = H, ⟨_, rfl, l, _, rfl, .inl (SqL.of hl), rfl, _, rfl, iteF ⟨rfl, rfl⟩⟩, ?_⟩
      rintro σ' H' ⟨rfl, rfl⟩
      refine ⟨fun _ _ => False, ?_, fun _ _ z => z.elim⟩
      refine ⟨_, rfl, l, _, rfl, .inl (SqL.of hl), rfl, _, rfl, iteT ⟨_, rfl, l, _, 0, _, rfl, rfl, SqL.of hl, rfl, t, rfl, lt, fun H1 s1 => ⟨_, rfl, ?_⟩⟩⟩
      rw [ht]
      refine iteT ⟨_, rfl, l, _, 1, _, rfl, rfl, SqL.of (s1 _ _ hl), rfl, g, rfl, lg, fun H2 s2 => ⟨_, rfl, ?_⟩⟩
      rw [hg2]
      refine iteT fun p hp => ?_
      have h3 := (s1.trans s2).trans (same_upd (o := .dK []) hp)
      refine ⟨_, rfl, l, _, 0, _, rfl, rfl, SqL.of (h3 _ _ hl), rfl, _, rfl, l, _, 1, _, rfl, rfl, SqL.of (h3 _ _ hl), rfl, upd_same, dkOf ["target", "target_tag"] [.str t, .str g], rfl, by show 2 ≤ 15; decide, ?_⟩
      rw [upd_upd, merge_dk0 rfl (by decide +kernel)]
      exact k p _ ((s1.trans s2).trans (same_upd hp)) (fresh_of (s1.trans s2) hp) upd_same
/-- what a line of one word says -/
inductive Sing : Str → Str → V → Prop
  | seq {w : Str} {n : Int} (h : numV w 999999 = .int n) : Sing "seq" w (.int n)
  | stay {w : Str} {n : Int} (h : numV w 9999 = .int n) : Sing "stay" w (.int n)
  | goal {w : Str} (h : (splitB w).isSome = true) : Sing "goal" w (.str w)
  | call {w : Str} (h : tagB w = true) : Sing "call" w (.str w)
  | way {w : Str} (h : tagB w = true) : Sing "way" w (.str w)
def spSingle : Sp := fun vs H Q _ => ∃ key w x, vs = [.str key, .str w] ∧ w.length ≤ 1000 ∧ Sing key w x ∧ ∀ d H', Same H H' → H d = none → H' d = some (.dK (dkOf [key] [x])) → Q (.ref d) H'
theorem ok_read_single {P : Program} {w : World} {K : PySem.W.Frag} {mg : Str → Option Value} {base : Heap} {f : Addr} {fd : FuncData} (T : Tx K mg) (c_is_address : C8.Cal P w K mg base 4 "is_address" spIsAddr []) (c_is_tag : C8.Cal P w K mg base 2 "is_tag" spTag []) (c_read_number : C8.Cal P w K mg base 2 "read_number" spNum [])
    (F : FunD K "_read_single" "_read_single" (defArgs s_read_single) (defBody s_read_single) (defScope s_read_single) [] [] f fd) : FnOk P w K mg base CX0 5 f fd ["key", "word"] spSingle := by
  refine F.ok sc_read_single (fun vs H Q E h => ?_) (fun cdv A outer s H vs Q E hr h => ?_)
  · obtain ⟨key, w, x, rfl, _⟩ := h
    rfl
  · obtain ⟨key, w, x, rfl, lw, hs, k⟩ := h
    refine ⟨_, PSs.nox (C8.pss_cut (ps_if (PW.pt (pw_or (pt_cmpR op_eq (pv 0) pe_str (nomark _)) (pw_or1 (pt_cmpR op_eq (pv 0) pe_str (nomark _))))) (pss_cons (ps_set (i := 2) sc_read_single.nd rfl (Or.inl rfl) (pe_c c_read_number hr (by decide) rfl (pa_cons (pv 1) (pa_cons (pe_ifExp (pt_cmpR op_eq (pv 0) pe_str (nomark _)) (pgI T.g_GREATEST_SEQ) (pgI T.g_LONGEST_STAY)) pa_nil)))) (pss_one (ps_ret (pe_ifExp (pt_cmpR op_notN (pv 2) pe_non (nomark _)) (pe_disp (pps_cons (pv 0) (pv 2) pps_nil) rfl rfl (by simp) (by decide)) pe_non)))) pss_nil) (pss_cons (ps_set (i := 3) sc_read_single.nd rfl (Or.inl rfl) (pe_ifExp (pt_cmpR op_eq (pv 0) pe_str (nomark _)) (pe_c c_is_address hr (by decide) rfl (pa_cons (pv 1) pa_nil)) (pe_c c_is_tag hr (by decide) rfl (pa_cons (pv 1) pa_nil)))) (pss_one (ps_ret (pe_ifExp (pt_val (pv 3)) (pe_disp (pps_cons (pv 0) (pv 1) pps_nil) rfl rfl (by simp) (by decide)) pe_non))))), ?_⟩
    cases hs with
    | @seq _ n h =>
      refine ⟨fun _ _ => False, ?_, fun _ _ z => z.elim⟩
      refine ⟨_, rfl, rfl, _, rfl, iteT ⟨_, rfl, _, rfl, rfl, _, rfl, iteT ⟨w, 999999, rfl, lw, fun H1 s1 => ?_⟩⟩⟩
      rw [h]
      refine ⟨_, rfl, rfl, _, rfl, iteT fun p hp => ⟨_, rfl, _, rfl, upd_same, dkOf ["seq"] [.int n], rfl, by show 1 ≤ 15; decide, ?_⟩⟩
      rw [upd_upd, merge_dk0 rfl (by decide +kernel)]
      exact k p _ (s1.trans (same_upd hp)) (fresh_of s1 hp) upd_same
    | @stay _ n h =>
      refine ⟨fun _ _ => False, ?_, fun _ _ z => z.elim⟩
      refine ⟨_, rfl, rfl, _, rfl, iteF ⟨_, rfl, rfl, _, rfl, iteT ⟨_, rfl, _, rfl, rfl, _, rfl, iteF ⟨w, 9999, rfl, lw, fun H1 s1 => ?_⟩⟩⟩⟩
      rw [h]
      refine ⟨_, rfl, rfl, _, rfl, iteT fun p hp => ⟨_, rfl, _, rfl, upd_same, dkOf ["stay"] [.int n], rfl, by show 1 ≤ 15; decide, ?_⟩⟩
      rw [upd_upd, merge_dk0 rfl (by decide +kernel)]
      exact k p _ (s1.trans (same_upd hp)) (fresh_of s1 hp) upd_same
    | goal h =>
      refine ⟨fun σ' H' => σ' = [some (.str "goal"), some (.str w), none, none] ∧ H' = H, ⟨_, rfl, rfl, _, rfl, iteF ⟨_, rfl, rfl, _, rfl, iteF ⟨rfl, rfl⟩⟩⟩, ?_⟩
      rintro σ' H' ⟨rfl, rfl⟩
      refine ⟨_, rfl, rfl, _, rfl, iteT ⟨_, rfl, w, rfl, lw, fun H1 s1 => ?_⟩⟩
      rw [h]
      refine ⟨_, rfl, _, rfl, iteT fun p hp => ⟨_, rfl, _, rfl, upd_same, dkOf ["goal"] [.str w], rfl, by show 1 ≤ 15; decide, ?_⟩⟩
      rw [upd_upd, merge_dk0 rfl (by decide +kernel)]
      exact k p _ (s1.trans (same_upd hp)) (fresh_of s1 hp) upd_same
    | call h =>
      refine ⟨fun σ' H' => σ' = [some (.str "call"), some (.str w), none, none] ∧ H' = H, ⟨_, rfl, rfl, _, rfl, iteF ⟨_, rfl, rfl, _, rfl, iteF ⟨rfl, rfl⟩⟩⟩, ?_⟩
      rintro σ' H' ⟨rfl, rfl⟩
      refine ⟨_, rfl, rfl, _, rfl, iteF ⟨_, rfl, w, rfl, lw, fun H1 s1 => ?_⟩⟩
      rw [h]
      refine ⟨_, rfl, _, rfl, iteT fun p hp => ⟨_, rfl, _, rfl, upd_same, dkOf ["call"] [.str w], rfl, by show 1 ≤ 15; decide, ?_⟩⟩
      rw [upd_upd, merge_dk0 rfl (by decide +kernel)]
      exact k p _ (s1.trans (same_upd hp)) (fresh_of s1 hp) upd_same
    | way h =>
      refine ⟨fun σ' H' => σ' = [some (.str "way"), some (.str w), none, none] ∧ H' = H, ⟨_, rfl, rfl, _, rfl, iteF ⟨_, rfl, rfl, _, rfl, iteF ⟨rfl, rfl⟩⟩⟩, ?_⟩
      rintro σ' H' ⟨rfl, rfl⟩
      refine ⟨_, rfl, rfl, _, rfl, iteF ⟨_, rfl, w, rfl, lw, fun H1 s1 => ?_⟩⟩
      rw [h]
      refine ⟨_, rfl, _, rfl, iteT fun p hp => ⟨_, rfl, _, rfl, upd_same, dkOf ["way"] [.str w], rfl, by show 1 ≤ 15; decide, ?_⟩⟩
      rw [upd_upd, merge_dk0 rfl (by decide +kernel)]
      exact k p _ (s1.trans (same_upd hp)) (fresh_of s1 hp) upd_same
end K19
set_option maxHeartbeats 4000000
namespace K19
open PySem PySem.Spec PyProof.Rows L2 SX TK TKS
open C8 (pe_c)
/-! ### a line of a letter, read -/
theorem cutV_1 (x : V) (xs : List V) : cutV (x :: xs) (some 1) none = xs := by
  unfold cutV
  have a : HT.sIx (x :: xs).length 0 (some 1) = 1 := by
    unfold HT.sIx
    simp
  have b : HT.sIx (x :: xs).length (x :: xs).length none = (x :: xs).length := by rfl
  rw [a, b]
  simp
theorem at_hd (x : Str) (l : List Str) : atI ((x :: l).map V.str) 0 = some (.str x) := atC (V.str x) _
def spLine : Sp := fun vs H Q _ => ∃ (key line : Str) (ws : List Str), vs = [.str key, .str line] ∧ Txt.split line " " = ws ∧ line.length ≤ 3000 ∧ (∀ z ∈ ws, z.length ≤ 1000) ∧ ws.length ≤ 1000 ∧
  ((∃ w r, ws = w :: r ∧ w ≠ key ∧ ∀ H', Same H H' → Q .non H')
  ∨ (∃ o t, key = "from" ∧ ws = ([("from" : Str), o, t] : List Str) ∧ (splitB o).isSome = true ∧ tagB t = true ∧ ∀ d H', Same H H' → H d = none → H' d = some (.dK (dkOf ["origin", "origin_tag"] [.str o, .str t])) → Q (.ref d) H')
  ∨ (∃ t g, key = "to" ∧ ws = (("to" : Str) :: tgW t g : List Str) ∧ (splitB t).isSome = true ∧ (g = "" ∨ (g.length ≠ 0 ∧ tagB g = true)) ∧ ∀ d H', Same H H' → H d = none → H' d = some (.dK (dkOf ["target", "target_tag"] [.str t, .str g])) → Q (.ref d) H')
  ∨ (∃ r o, key = "offer" ∧ ws = (("offer" : Str) :: r : List Str) ∧ readO r = some o ∧ ∀ d x H', Same H H' → H d = none → OffAt H' x o → H' d = some (.dK (dkOf ["offer"] [x])) → Q (.ref d) H')
  ∨ (∃ w x, ws = [key, w] ∧ Sing key w x ∧ ∀ d H', Same H H' → H d = none → H' d = some (.dK (dkOf [key] [x])) → Q (.ref d) H'))
theorem ok_read_line {P : Program} {w : World} {K : PySem.W.Frag} {mg : Str → Option Value} {base : Heap} {f : Addr} {fd : FuncData} (T : Tx K mg) (c_read_origin : C8.Cal P w K mg base 5 "_read_origin" spOrigin []) (c_read_target : C8.Cal P w K mg base 5 "_read_target" spTarget []) (c_read_single : C8.Cal P w K mg base 5 "_read_single" spSingle []) (c_read_offer : C8.Cal P w K mg base 4 "read_offer" spRead [])
    (F : FunD K "_read_line" "_read_line" (defArgs s_read_line) (defBody s_read_line) (defScope s_read_line) [] [] f fd) : FnOk P w K mg base CX0 6 f fd ["key", "line"] spLine := by
  refine F.ok sc_read_line (fun vs H Q E h => ?_) (fun cdv A outer s H vs Q E hr h => ?_)
  · obtain ⟨key, line, ws, rfl, _⟩ := h
    rfl
  · obtain ⟨key, line, ws, rfl, ew, ll, lw, lz, k⟩ := h
    have hz2 : line.length + 2 ≤ sizeLine := Nat.le_trans (Nat.add_le_add_right ll 2) (by decide)
    refine ⟨_, PSs.nox (pss_cons (ps_set (i := 2) sc_read_line.nd rfl (Or.inl rfl) (pe_split (pv 1) pe_str)) (C8.pss_cut (ps_if (pt_cmpR op_ne (pe_ix ix_list (pv 2) pe_int (fun _ _ => rfl)) (pv 0) (nomark _)) (pss_one (ps_ret pe_non)) pss_nil) (C8.pss_cut (ps_if (pt_cmpR op_eq (pv 0) pe_str (nomark _)) (pss_one (ps_ret (pe_c c_read_origin hr (by decide) rfl (pa_cons (pe_slice sl_list (pv 2) (po_some pe_int) po_none) pa_nil)))) pss_nil) (C8.pss_cut (ps_if (pt_cmpR op_eq (pv 0) pe_str (nomark _)) (pss_one (ps_ret (pe_c c_read_target hr (by decide) rfl (pa_cons (pe_slice sl_list (pv 2) (po_some pe_int) po_none) pa_nil)))) pss_nil) (C8.pss_cut (ps_if (pt_cmpR op_eq (pv 0) pe_str (nomark _)) (pss_cons (ps_set (i := 3) sc_read_line.nd rfl (Or.inl rfl) (pe_c c_read_offer hr (by decide) rfl (pa_cons (pe_slice sl_list (pv 2) (po_some pe_int) po_none) pa_nil))) (pss_one (ps_ret (pe_ifExp (pt_cmpR op_notN (pv 3) pe_non (nomark _)) (pe_disp (pps_cons pe_str (pv 3) pps_nil) rfl rfl (by simp) (by decide)) pe_non)))) pss_nil) (pss_one (ps_ret (pe_ifExp (pt_cmpR op_eq (pe_callB call_len_seq rfl T.f_len PySem.boot_len (pa_cons (pv 2) pa_nil)) pe_int (nomark _)) (pe_c c_read_single hr (by decide) rfl (pa_cons (pv 0) (pa_cons (pe_ix ix_list (pv 2) pe_int (fun _ _ => rfl)) pa_nil))) pe_non)))))))), ?_⟩
    refine ⟨_, rfl, ⟨_, rfl⟩, line, " ", rfl, rfl, by decide +kernel, hz2, fun p hp => ?_⟩
    rw [ew]
    have s1 := same_upd (o := .lst (ws.map V.str)) hp
    have e1 : (upd H p (.lst (ws.map V.str))) p = some (.lst (ws.map V.str)) := upd_same
    generalize (upd H p (.lst (ws.map V.str))) = H1 at *
    rcases k with ⟨w, r, rfl, hw, k⟩ | ⟨o, t, rfl, rfl, ho, ht, k⟩ | ⟨t, g, rfl, rfl, ht, hg, k⟩ | ⟨r, o, rfl, rfl, ho, k⟩ | ⟨w, x, rfl, hs, k⟩
    · refine ⟨fun _ _ => False, ?_, fun _ _ z => z.elim⟩
      refine ⟨_, rfl, p, _, 0, .str w, rfl, rfl, SqL.of e1, at_hd _ _, _, rfl, rfl, _, rfl, ?_⟩
      rw [decide_eq_false (show ¬ V.str w = V.str key from fun q => hw (V.str.inj q))]
      exact iteT (k _ s1)
    · refine ⟨fun σ' H' => σ' = [some (.str "from"), some (.str line), some (.ref p), none] ∧ H' = H1, ⟨_, rfl, p, _, 0, .str "from", rfl, rfl, SqL.of e1, rfl, _, rfl, rfl, _, rfl, iteF ⟨rfl, rfl⟩⟩, ?_⟩
      rintro σ' H2 ⟨rfl, e⟩
      obtain rfl : H1 = H2 := e.symm
      refine ⟨fun _ _ => False, ?_, fun _ _ z => z.elim⟩
      refine ⟨_, rfl, rfl, _, rfl, iteT ⟨_, rfl, 1, rfl, p, _, rfl, SqL.of e1, fun q hq => ?_⟩⟩
      refine ⟨q, o, t, rfl, ?_, lw o (by simp), lw t (by simp), ho, ht, fun d H2 s2 hd e2 => k d H2 ((s1.trans (same_upd hq)).trans s2) (fresh_of (s1.trans (same_upd hq)) hd) e2⟩
      rw [upd_same]
      exact congrArg (fun z => some (HO.lst z)) (cutV_1 _ _)
    · refine ⟨fun σ' H' => σ' = [some (.str "to"), some (.str line), some (.ref p), none] ∧ H' = H1, ⟨_, rfl, p, _, 0, .str "to", rfl, rfl, SqL.of e1, at_hd _ _, _, rfl, rfl, _, rfl, iteF ⟨rfl, rfl⟩⟩, ?_⟩
      rintro σ' H2 ⟨rfl, e⟩
      obtain rfl : H1 = H2 := e.symm
      refine ⟨fun σ' H' => σ' = [some (.str "to"), some (.str line), some (.ref p), none] ∧ H' = H1, ⟨_, rfl, rfl, _, rfl, iteF ⟨rfl, rfl⟩⟩, ?_⟩
      rintro σ' H2 ⟨rfl, e⟩
      obtain rfl : H1 = H2 := e.symm
      refine ⟨fun _ _ => False, ?_, fun _ _ z => z.elim⟩
      refine ⟨_, rfl, rfl, _, rfl, iteT ⟨_, rfl, 1, rfl, p, _, rfl, SqL.of e1, fun q hq => ?_⟩⟩
      refine ⟨q, t, g, rfl, ?_, lw t (by unfold tgW; split <;> simp), ?_, ht, hg, fun d H2 s2 hd e2 => k d H2 ((s1.trans (same_upd hq)).trans s2) (fresh_of (s1.trans (same_upd hq)) hd) e2⟩
      · rw [upd_same]
        exact congrArg (fun z => some (HO.lst z)) (cutV_1 _ _)
      · rcases hg with rfl | ⟨hg, _⟩
        · decide
        · exact lw g (by unfold tgW; rw [if_neg hg]; simp)
    · refine ⟨fun σ' H' => σ' = [some (.str "offer"), some (.str line), some (.ref p), none] ∧ H' = H1, ⟨_, rfl, p, _, 0, .str "offer", rfl, rfl, SqL.of e1, at_hd _ _, _, rfl, rfl, _, rfl, iteF ⟨rfl, rfl⟩⟩, ?_⟩
      rintro σ' H2 ⟨rfl, e⟩
      obtain rfl : H1 = H2 := e.symm
      refine ⟨fun σ' H' => σ' = [some (.str "offer"), some (.str line), some (.ref p), none] ∧ H' = H1, ⟨_, rfl, rfl, _, rfl, iteF ⟨rfl, rfl⟩⟩, ?_⟩
      rintro σ' H2 ⟨rfl, e⟩
      obtain rfl : H1 = H2 := e.symm
      refine ⟨fun σ' H' => σ' = [some (.str "offer"), some (.str line), some (.ref p), none] ∧ H' = H1, ⟨_, rfl, rfl, _, rfl, iteF ⟨rfl, rfl⟩⟩, ?_⟩
      rintro σ' H2 ⟨rfl, e⟩
      obtain rfl : H1 = H2 := e.symm
      refine ⟨fun _ _ => False, ?_, fun _ _ z => z.elim⟩
      refine ⟨_, rfl, rfl, _, rfl, iteT ⟨_, rfl, 1, rfl, p, _, rfl, SqL.of e1, fun q hq => ?_⟩⟩
      refine ⟨q, r, rfl, ?_, fun z hz => lw z (List.mem_cons_of_mem _ hz), by rw [List.length_cons] at lz; omega, fun x H2 s2 hx => ?_⟩
      · rw [upd_same]
        exact congrArg (fun z => some (HO.lst z)) (cutV_1 _ _)
      · rw [ho] at hx
        have hx2 : OffAt H2 x o := hx
        obtain ⟨b, f, rfl, _⟩ := id hx2
        have s3 := (s1.trans (same_upd hq)).trans s2
        refine ⟨_, rfl, rfl, _, rfl, iteT fun y hy => ⟨_, rfl, upd_same, dkOf ["offer"] [.ref b], rfl, by show 1 ≤ 15; decide, ?_⟩⟩
        rw [upd_upd, merge_dk0 rfl (by decide +kernel)]
        exact k y _ _ (s3.trans (same_upd hy)) (fresh_of s3 hy) (hx2.same (same_upd hy)) upd_same
    · have hk : key ≠ "from" ∧ key ≠ "to" ∧ key ≠ "offer" := by
        cases hs <;> decide +kernel
      have d1 : ∀ z : Str, key ≠ z → decide (V.str key = V.str z) = false := fun z h => decide_eq_false fun q => h (V.str.inj q)
      refine ⟨fun σ' H' => σ' = [some (.str key), some (.str line), some (.ref p), none] ∧ H' = H1, ⟨_, rfl, p, _, 0, .str key, rfl, rfl, SqL.of e1, rfl, _, rfl, rfl, _, rfl, ?_⟩, ?_⟩
      · rw [decide_eq_true rfl]
        exact iteF ⟨rfl, rfl⟩
      rintro σ' H2 ⟨rfl, e⟩
      obtain rfl : H1 = H2 := e.symm
      refine ⟨fun σ' H' => σ' = [some (.str key), some (.str line), some (.ref p), none] ∧ H' = H1, ⟨_, rfl, rfl, _, rfl, ?_⟩, ?_⟩
      · rw [d1 _ hk.1]
        exact iteF ⟨rfl, rfl⟩
      rintro σ' H2 ⟨rfl, e⟩
      obtain rfl : H1 = H2 := e.symm
      refine ⟨fun σ' H' => σ' = [some (.str key), some (.str line), some (.ref p), none] ∧ H' = H1, ⟨_, rfl, rfl, _, rfl, ?_⟩, ?_⟩
      · rw [d1 _ hk.2.1]
        exact iteF ⟨rfl, rfl⟩
      rintro σ' H2 ⟨rfl, e⟩
      obtain rfl : H1 = H2 := e.symm
      refine ⟨fun σ' H' => σ' = [some (.str key), some (.str line), some (.ref p), none] ∧ H' = H1, ⟨_, rfl, rfl, _, rfl, ?_⟩, ?_⟩
      · rw [d1 _ hk.2.2]
        exact iteF ⟨rfl, rfl⟩
      rintro σ' H2 ⟨rfl, e⟩
      obtain rfl : H1 = H2 := e.symm
      refine ⟨_, rfl, p, _, rfl, .inl (SqL.of e1), rfl, _, rfl, iteT ⟨_, rfl, _, rfl, p, _, 1, _, rfl, rfl, SqL.of e1, rfl, ?_⟩⟩
      exact ⟨key, w, x, rfl, lw w (by simp), hs, fun d H2 s2 hd e2 => k d H2 (s1.trans s2) (fresh_of s1 hd) e2⟩
end K19
set_option maxHeartbeats 4000000
namespace K19
open PySem PySem.Spec PyProof.Rows L2 SX TK TKS
open C8 (pe_c)
/-! ### a letter that can be read -/
def codeV : Option Int → V
  | none => .non
  | some c => .int c
structure GLet (L : Ltr) (o : Option Off) (c : Option Int) : Prop where
  verb : L.verb ∈ verbsL
  code : L.code = codeV c
  codeOk : ∀ n, c = some n → n ∈ codesL
  call : tagB L.call = true
  origin : (splitB L.origin).isSome = true
  otag : tagB L.otag = true
  target : (splitB L.target).isSome = true
  ttag : L.ttag = "" ∨ (L.ttag.length ≠ 0 ∧ tagB L.ttag = true)
  seq0 : 0 ≤ L.seq
  seq1 : L.seq ≤ 999999
  way : tagB L.way = true
  off : ∀ u, o = some u → readO (Txt.split (wordsS u) " ") = some u ∧ OffOk u ∧ 10 ∉ TL.tl (wordsS u) ∧ PyData.strOk (wordsS u) = true ∧ (∀ z ∈ Txt.split (wordsS u) " ", z.length ≤ 1000) ∧ (Txt.split (wordsS u) " ").length ≤ 999
  stay : L.stay = .non ∨ ∃ n : Int, L.stay = .int n ∧ 0 ≤ n ∧ n ≤ 9999
  goal : L.goal = .non ∨ ∃ z : Str, L.goal = .str z ∧ (splitB z).isSome = true
theorem tm_free : ∀ c ∈ TL.tl zTM, c ≠ 32 ∧ c ≠ 10 := by decide +kernel
theorem nm_free : ∀ c ∈ TL.tl zNM, c ≠ 32 ∧ c ≠ 10 := by decide +kernel
theorem tag_free {z : Str} (h : tagB z = true) : 32 ∉ TL.tl z ∧ 10 ∉ TL.tl z ∧ z.length ≤ 16 := by
  obtain ⟨_, h2, h3⟩ := consB_len h
  exact ⟨fun m => (tm_free _ (h3 _ m)).1 rfl, fun m => (tm_free _ (h3 _ m)).2 rfl, by rw [len_eq]; omega⟩
theorem name_free {z : Str} (h : nameB z = true) : 32 ∉ TL.tl z ∧ 10 ∉ TL.tl z ∧ z.length ≤ 16 := by
  unfold nameB at h
  rw [Bool.and_eq_true] at h
  obtain ⟨_, h2, h3⟩ := consB_len h.1
  exact ⟨fun m => (nm_free _ (h3 _ m)).1 rfl, fun m => (nm_free _ (h3 _ m)).2 rfl, by rw [len_eq]; omega⟩
theorem addr_free {z : Str} (h : (splitB z).isSome = true) : 32 ∉ TL.tl z ∧ 10 ∉ TL.tl z ∧ z.length ≤ 33 := by
  unfold splitB at h
  cases e : Txt.split z "@" with
  | nil => rw [e] at h; cases h
  | cons u r => cases r with
    | nil => rw [e] at h; cases h
    | cons w r => cases r with
      | cons _ _ => rw [e] at h; cases h
      | nil =>
        rw [e] at h
        obtain ⟨ez, _, _⟩ := split_parts e
        by_cases g : (nameB u && nameB w) = true
        · rw [Bool.and_eq_true] at g
          obtain ⟨a1, a2, a3⟩ := name_free g.1
          obtain ⟨b1, b2, b3⟩ := name_free g.2
          have el := congrArg List.length ez
          rw [List.length_append, List.length_cons, ← len_eq, ← len_eq, ← len_eq] at el
          rw [ez]
          simp only [List.mem_append, List.mem_cons]
          refine ⟨?_, ?_, by omega⟩
          · rintro (q | q | q)
            · exact a1 q
            · cases q
            · exact b1 q
          · rintro (q | q | q)
            · exact a2 q
            · cases q
            · exact b2 q
        · have e2 : splitO [u, w] = none := by
            show (if (nameB u && nameB w) = true then some (u, w) else none) = none
            rw [if_neg g]
          rw [e2] at h
          cases h
theorem num_free {i : Int} (h0 : 0 ≤ i) : 32 ∉ TL.tl (numS i) ∧ 10 ∉ TL.tl (numS i) := by
  rw [numS_tl h0]
  exact ⟨TL.numL_free (by omega), TL.numL_free (by omega)⟩
theorem cut_sp {ws : List Str} (hne : ws ≠ []) (h : ∀ w ∈ ws, 32 ∉ TL.tl w) : Txt.split (Txt.join " " ws) " " = ws :=
  TL.split_join (y := " ") (s := 32) (S := []) (by decide +kernel) (by decide +kernel) hne h
theorem cut_nl {ws : List Str} (hne : ws ≠ []) (h : ∀ w ∈ ws, 10 ∉ TL.tl w) : Txt.split (Txt.join "\n" ws) "\n" = ws :=
  TL.split_join (y := "\n") (s := 10) (S := []) (by decide +kernel) (by decide +kernel) hne h
theorem tl_sp : TL.tl (" " : Str) = [32] := by decide +kernel
theorem tl_nl : TL.tl ("\n" : Str) = [10] := by decide +kernel
theorem tl_e : TL.tl Str.empty = [] := rfl
theorem join2 {a b p : Str} (h : TL.tl p = TL.tl a ++ [32]) : Str.empty ++ p ++ b = Txt.join " " [a, b] := by
  rw [show ∀ l, Txt.join " " l = Str.join " " l from fun l => TL.join_eq _ _]
  apply TL.ext_tl
  rw [TL.tl_join, TL.tl_append, TL.tl_append, tl_e, h, tl_sp]
  simp [TL.joinL]
theorem join3 {a b c p : Str} (h : TL.tl p = TL.tl a ++ [32]) : Str.empty ++ p ++ b ++ " " ++ c = Txt.join " " [a, b, c] := by
  rw [show ∀ l, Txt.join " " l = Str.join " " l from fun l => TL.join_eq _ _]
  apply TL.ext_tl
  rw [TL.tl_join, TL.tl_append, TL.tl_append, TL.tl_append, TL.tl_append, tl_e, h, tl_sp]
  simp [TL.joinL]
theorem text_join : ∀ l : List Str, textOf l = Txt.join "\n" (l ++ [("" : Str)]) := by
  intro l
  unfold textOf
  rw [show ∀ y l, Txt.join y l = Str.join y l from fun y l => TL.join_eq _ _]
  rw [show ∀ y l, Txt.join y l = Str.join y l from fun y l => TL.join_eq _ _]
  apply TL.ext_tl
  rw [TL.tl_join, TL.tl_join, tl_nl, show TL.tl ("" : Str) = [] from rfl]
  induction l with
  | nil => rfl
  | cons a r ih =>
    have e1 : ∀ m : List Str, TL.joinL [] ((a :: m).map fun z => TL.tl (z ++ ("\n" : Str))) = TL.tl a ++ ([10] ++ TL.joinL [] (m.map fun z => TL.tl (z ++ ("\n" : Str)))) := by
      intro m
      cases m with
      | nil =>
        show TL.tl (a ++ ("\n" : Str)) = _
        rw [TL.tl_append, tl_nl]
        rfl
      | cons b m =>
        show TL.tl (a ++ ("\n" : Str)) ++ ([] ++ TL.joinL [] _) = _
        rw [TL.tl_append, tl_nl, List.nil_append, List.append_assoc]
        rfl
    rw [List.map_map] at ih ⊢
    have e2 := e1 r
    refine e2.trans ?_
    have e3 : TL.joinL [10] ((a :: r ++ [("" : Str)]).map TL.tl) = TL.tl a ++ ([10] ++ TL.joinL [10] ((r ++ [("" : Str)]).map TL.tl)) := by
      cases r <;> rfl
    rw [e3]
    exact congrArg (fun z => TL.tl a ++ ([10] ++ z)) ih
theorem text_cut {l : List Str} (h : ∀ w ∈ l, 10 ∉ TL.tl w) : Txt.split (textOf l) "\n" = l ++ [("" : Str)] := by
  rw [text_join]
  refine cut_nl (by simp) fun w hw => ?_
  rcases List.mem_append.mp hw with q | q
  · exact h w q
  · rw [List.mem_singleton.mp q]
    exact List.not_mem_nil
theorem cut2 {a b p : Str} (h : TL.tl p = TL.tl a ++ [32]) (ha : 32 ∉ TL.tl a) (hb : 32 ∉ TL.tl b) : Txt.split (Str.empty ++ p ++ b) " " = [a, b] := by
  rw [join2 h]
  refine cut_sp (by simp) fun w hw => ?_
  simp only [List.mem_cons, List.not_mem_nil, or_false] at hw
  rcases hw with rfl | rfl
  · exact ha
  · exact hb
theorem cut3 {a b c p : Str} (h : TL.tl p = TL.tl a ++ [32]) (ha : 32 ∉ TL.tl a) (hb : 32 ∉ TL.tl b) (hc : 32 ∉ TL.tl c) : Txt.split (Str.empty ++ p ++ b ++ " " ++ c) " " = [a, b, c] := by
  rw [join3 h]
  refine cut_sp (by simp) fun w hw => ?_
  simp only [List.mem_cons, List.not_mem_nil, or_false] at hw
  rcases hw with rfl | rfl | rfl
  · exact ha
  · exact hb
  · exact hc
end K19
set_option maxHeartbeats 4000000
namespace K19
open PySem PySem.Spec PyProof.Rows L2 SX TK TKS
open C8 (pe_c)
theorem tm_ok : ∀ c ∈ TL.tl zTM, c < 0x110000 := by decide +kernel
theorem nm_ok : ∀ c ∈ TL.tl zNM, c < 0x110000 := by decide +kernel
theorem tag_ok {z : Str} (h : tagB z = true) : PyData.strOk z = true := ok_iff.mpr fun c hc => tm_ok _ ((consB_len h).2.2 c hc)
theorem name_okS {z : Str} (h : nameB z = true) : ∀ c ∈ TL.tl z, c < 0x110000 := fun c hc => by
  unfold nameB at h
  rw [Bool.and_eq_true] at h
  exact nm_ok _ ((consB_len h.1).2.2 c hc)
theorem addr_ok {z : Str} (h : (splitB z).isSome = true) : PyData.strOk z = true := by
  rw [ok_iff]
  unfold splitB at h
  cases e : Txt.split z "@" with
  | nil => rw [e] at h; cases h
  | cons u r => cases r with
    | nil => rw [e] at h; cases h
    | cons w r => cases r with
      | cons _ _ => rw [e] at h; cases h
      | nil =>
        rw [e] at h
        obtain ⟨ez, _, _⟩ := split_parts e
        by_cases g : (nameB u && nameB w) = true
        · rw [Bool.and_eq_true] at g
          intro c hc
          rw [ez, List.mem_append, List.mem_cons] at hc
          rcases hc with q | q | q
          · exact name_okS g.1 c q
          · rw [q]; decide
          · exact name_okS g.2 c q
        · have e2 : splitO [u, w] = none := by
            show (if (nameB u && nameB w) = true then some (u, w) else none) = none
            rw [if_neg g]
          rw [e2] at h
          cases h
theorem verbs_ok : ∀ z ∈ verbsL, PyData.strOk z = true ∧ 32 ∉ TL.tl z ∧ 10 ∉ TL.tl z := by decide +kernel
theorem GLet.lok {L : Ltr} {o : Option Off} {c : Option Int} (g : GLet L o c) : LOk L := by
  have a1 := tag_free g.call
  have a2 := addr_free g.origin
  have a3 := tag_free g.otag
  have a4 := addr_free g.target
  have a5 := tag_free g.way
  have a6 := verbs_len _ g.verb
  have s0 := g.seq0
  have s1 := g.seq1
  have tt : PyData.strOk L.ttag = true ∧ L.ttag.length ≤ 16 := by
    rcases g.ttag with e | ⟨_, e⟩
    · rw [e]
      exact ⟨by decide +kernel, by decide +kernel⟩
    · exact ⟨tag_ok e, (tag_free e).2.2⟩
  refine ⟨⟨(verbs_ok _ g.verb).1, tag_ok g.call, addr_ok g.origin, tag_ok g.otag, addr_ok g.target, tt.1, tag_ok g.way⟩, s0, by omega, by omega, by omega, by omega, by omega, by omega, by omega, by omega, ?_⟩
  rw [g.code]
  cases c with
  | none => exact .inl rfl
  | some n =>
    have h : 0 ≤ n ∧ n ≤ 99 := (by decide : ∀ c ∈ codesL, 0 ≤ c ∧ c ≤ 99) n (g.codeOk n rfl)
    exact .inr ⟨n, rfl, h.1, by omega⟩
theorem GLet.xok {L : Ltr} {o : Option Off} {c : Option Int} (g : GLet L o c) : XOk L o := by
  refine ⟨fun u e => (g.off u e).2.1, fun u e => (g.off u e).2.2.2.1, ?_, ?_⟩
  · rcases g.stay with e | ⟨n, e, h0, h1⟩
    · exact .inl e
    · exact .inr ⟨n, e, h0, by omega⟩
  · rcases g.goal with e | ⟨z, e, h⟩
    · exact .inl e
    · have := (addr_free h).2.2
      exact .inr ⟨z, e, addr_ok h, by omega⟩
/-! ### the lines that every letter has -/
def keyI : Nat → Str
  | 0 => "call"
  | 1 => "from"
  | 2 => "to"
  | 3 => "seq"
  | _ => "way"
def lineI (L : Ltr) : Nat → Str
  | 0 => Str.empty ++ "call " ++ L.call
  | 1 => Str.empty ++ "from " ++ L.origin ++ " " ++ L.otag
  | 2 => toS L
  | 3 => Str.empty ++ "seq " ++ numS L.seq
  | _ => Str.empty ++ "way " ++ L.way
def ksI : Nat → List Str
  | 0 => ["call"]
  | 1 => ["origin", "origin_tag"]
  | 2 => ["target", "target_tag"]
  | 3 => ["seq"]
  | _ => ["way"]
def zsI (L : Ltr) : Nat → List V
  | 0 => [.str L.call]
  | 1 => [.str L.origin, .str L.otag]
  | 2 => [.str L.target, .str L.ttag]
  | 3 => [.int L.seq]
  | _ => [.str L.way]
theorem toS_cut {L : Ltr} {o : Option Off} {c : Option Int} (g : GLet L o c) : Txt.split (toS L) " " = (("to" : Str) :: tgW L.target L.ttag : List Str) := by
  have a4 := addr_free g.target
  unfold toS tgW
  rcases g.ttag with e | ⟨h, e⟩
  · rw [e, if_neg (by decide +kernel), if_pos (show ("" : Str).length = 0 from rfl)]
    exact cut2 (by decide +kernel) (by decide +kernel) a4.1
  · rw [if_pos (by simpa using h), if_neg h]
    exact cut3 (by decide +kernel) (by decide +kernel) a4.1 (tag_free e).1
theorem need_line {L : Ltr} {o : Option Off} {c : Option Int} (g : GLet L o c) (i : Nat) {H : Hp} {Q : VK} {E : XK} (k : ∀ d H', Same H H' → H d = none → H' d = some (.dK (dkOf (ksI i) (zsI L i))) → Q (.ref d) H') : spLine [.str (keyI i), .str (lineI L i)] H Q E := by
  have ll := linesS_len g.lok
  have a1 := tag_free g.call
  have a2 := addr_free g.origin
  have a3 := tag_free g.otag
  have a4 := addr_free g.target
  have a5 := tag_free g.way
  have w2 : ∀ (x y : Str), x.length ≤ 1000 → y.length ≤ 1000 → ∀ z ∈ [x, y], z.length ≤ 1000 := by
    intro x y hx hy z hz
    simp only [List.mem_cons, List.not_mem_nil, or_false] at hz
    rcases hz with rfl | rfl
    · exact hx
    · exact hy
  match i, k with
  | 0, k => exact ⟨_, _, ["call", L.call], rfl, cut2 (by decide +kernel) (by decide +kernel) a1.1, ll _ (by simp [linesS, lineI]), w2 _ _ (by decide +kernel) (by omega), by simp, .inr (.inr (.inr (.inr ⟨_, _, rfl, .call g.call, k⟩)))⟩
  | 1, k => exact ⟨_, _, ["from", L.origin, L.otag], rfl, cut3 (by decide +kernel) (by decide +kernel) a2.1 a3.1, ll _ (by simp [linesS, lineI]), (fun z hz => by
      simp only [List.mem_cons, List.not_mem_nil, or_false] at hz
      rcases hz with rfl | rfl | rfl
      · decide +kernel
      · omega
      · omega), by simp, .inr (.inl ⟨_, _, rfl, rfl, g.origin, g.otag, k⟩)⟩
  | 2, k => exact ⟨_, _, _, rfl, toS_cut g, ll _ (by simp [linesS, lineI]), (fun z hz => by
      unfold tgW at hz
      rcases g.ttag with e | ⟨h, e⟩
      · rw [e, if_pos (show ("" : Str).length = 0 from rfl)] at hz
        exact w2 _ _ (by decide +kernel) (by omega) z hz
      · rw [if_neg h] at hz
        have := (tag_free e).2.2
        simp only [List.mem_cons, List.not_mem_nil, or_false] at hz
        rcases hz with rfl | rfl | rfl
        · decide +kernel
        · omega
        · omega), by unfold tgW; split <;> simp, .inr (.inr (.inl ⟨_, _, rfl, rfl, g.target, g.ttag, k⟩))⟩
  | 3, k => exact ⟨_, _, ["seq", numS L.seq], rfl, cut2 (by decide +kernel) (by decide +kernel) (num_free g.seq0).1, ll _ (by simp [linesS, lineI]), w2 _ _ (by decide +kernel) (Nat.le_trans (numS_len (by have := g.seq0; have := g.seq1; omega)) (by decide)), by simp, .inr (.inr (.inr (.inr ⟨_, _, rfl, .seq (num_back g.seq0 g.seq1 (by have := g.seq1; omega)), k⟩)))⟩
  | n + 4, k => exact ⟨_, _, ["way", L.way], rfl, cut2 (by decide +kernel) (by decide +kernel) a5.1, ll _ (by simp [linesS, lineI]), w2 _ _ (by decide +kernel) (by omega), by simp, .inr (.inr (.inr (.inr ⟨_, _, rfl, .way g.way, k⟩)))⟩
/-! ### the lines that a letter may have -/
def keyP : Nat → Str
  | 0 => "offer"
  | 1 => "stay"
  | _ => "goal"
def lineP (L : Ltr) (o : Option Off) : Nat → List Str
  | 0 => offL o
  | 1 => stayL L.stay
  | _ => goalL L.goal
/-- what stands for the part j -/
def XV (L : Ltr) (o : Option Off) (H : Hp) : Nat → V → Prop
  | 0, x => ∃ u, o = some u ∧ OffAt H x u
  | 1, x => x = L.stay
  | _, x => x = L.goal
theorem split_sp_ne (w : Str) : Txt.split w " " ≠ [] := by
  intro e
  have q := congrArg TL.tl (StrLaws.join_split w " ")
  rw [e, TL.tl_join] at q
  have q2 : TL.tl w = [] := q.symm
  have e2 : w = S [] := TL.ext_tl (by rw [q2])
  have e3 : Txt.split (S []) " " = [S []] := by decide +kernel
  rw [e2, e3] at e
  cases e
theorem cut_cons {a p : Str} (w : Str) (h : TL.tl p = TL.tl a ++ [32]) (ha : 32 ∉ TL.tl a) : Txt.split (Str.empty ++ p ++ w) " " = a :: Txt.split w " " := by
  have e1 := StrLaws.join_split w " "
  have e32 : (" " : Str) = S [32] := by decide +kernel
  have f1 : ∀ p ∈ Txt.split w " ", 32 ∉ TL.tl p := by
    rw [e32]
    exact StrLaws.split_free w 32
  have hne : Txt.split w " " ≠ [] := split_sp_ne w
  have e : Str.empty ++ p ++ w = Txt.join " " (a :: Txt.split w " ") := by
    rw [show ∀ l, Txt.join " " l = Str.join " " l from fun l => TL.join_eq _ _]
    apply TL.ext_tl
    rw [TL.tl_join, TL.tl_append, TL.tl_append, tl_e, h, tl_sp]
    have e2 := congrArg TL.tl e1
    rw [TL.tl_join, tl_sp] at e2
    cases q : Txt.split w " " with
    | nil => exact absurd q hne
    | cons b r =>
      rw [q] at e2
      show [] ++ (TL.tl a ++ [32]) ++ TL.tl w = TL.tl a ++ ([32] ++ TL.joinL [32] ((b :: r).map TL.tl))
      rw [e2, List.nil_append, List.append_assoc]
  rw [e]
  refine cut_sp (by simp) fun x hx => ?_
  rcases List.mem_cons.mp hx with rfl | q
  · exact ha
  · exact f1 x q
theorem poss_here {L : Ltr} {o : Option Off} {c : Option Int} (g : GLet L o c) (j : Nat) {z : Str} (hz : lineP L o j = [z]) {H : Hp} {Q : VK} {E : XK}
    (k : ∀ d x H', Same H H' → H d = none → XV L o H' j x → H' d = some (.dK (dkOf [keyP j] [x])) → Q (.ref d) H') : spLine [.str (keyP j), .str z] H Q E := by
  have ll : z.length ≤ 3000 := linesX_len g.lok g.xok z (by
    unfold linesX
    match j, hz with
    | 0, hz => rw [show offL o = [z] from hz]; simp
    | 1, hz => rw [show stayL L.stay = [z] from hz]; simp
    | n + 2, hz => rw [show goalL L.goal = [z] from hz]; simp)
  match j, hz, k with
  | 0, hz, k =>
    cases o with
    | none => cases hz
    | some u =>
      obtain ⟨r1, r2, r3, r4, r5, r6⟩ := g.off u rfl
      obtain rfl : Str.empty ++ "offer " ++ wordsS u = z := (List.cons.inj hz).1
      exact ⟨_, _, _, rfl, cut_cons (a := "offer") _ (by decide +kernel) (by decide +kernel), ll, (fun y hy => by
        rcases List.mem_cons.mp hy with rfl | q
        · decide +kernel
        · exact r5 y q), by rw [List.length_cons]; omega, .inr (.inr (.inr (.inl ⟨_, u, rfl, rfl, r1, fun d x H' s hd hx e => k d x H' s hd ⟨u, rfl, hx⟩ e⟩)))⟩
  | 1, hz, k =>
    rcases g.stay with e | ⟨n, e, h0, h1⟩
    · rw [show lineP L o 1 = stayL L.stay from rfl, e] at hz
      cases hz
    · rw [show lineP L o 1 = stayL L.stay from rfl, e] at hz
      obtain rfl : Str.empty ++ "stay " ++ numS n = z := (List.cons.inj hz).1
      have := numS_len (i := n) (by omega)
      exact ⟨_, _, ["stay", numS n], rfl, cut2 (by decide +kernel) (by decide +kernel) (num_free h0).1, ll, (fun y hy => by
        simp only [List.mem_cons, List.not_mem_nil, or_false] at hy
        rcases hy with rfl | rfl
        · decide +kernel
        · omega), by simp, .inr (.inr (.inr (.inr ⟨_, .int n, rfl, .stay (num_back h0 h1 (by omega)), fun d H' s hd q => k d _ H' s hd e.symm q⟩)))⟩
  | m + 2, hz, k =>
    rcases g.goal with e | ⟨y, e, h0⟩
    · rw [show lineP L o (m + 2) = goalL L.goal from rfl, e] at hz
      cases hz
    · rw [show lineP L o (m + 2) = goalL L.goal from rfl, e] at hz
      obtain rfl : Str.empty ++ "goal " ++ y = z := (List.cons.inj hz).1
      have ya := addr_free h0
      exact ⟨_, _, ["goal", y], rfl, cut2 (by decide +kernel) (by decide +kernel) ya.1, ll, (fun y hy => by
        simp only [List.mem_cons, List.not_mem_nil, or_false] at hy
        rcases hy with rfl | rfl
        · decide +kernel
        · omega), by simp, .inr (.inr (.inr (.inr ⟨_, .str y, rfl, .goal h0, fun d H' s hd q => k d _ H' s hd e.symm q⟩)))⟩
/-- the first word of the line j -/
theorem poss_not {L : Ltr} {o : Option Off} {c : Option Int} (g : GLet L o c) (j : Nat) {z key : Str} (hz : lineP L o j = [z]) (hk : keyP j ≠ key) {H : Hp} {Q : VK} {E : XK}
    (k : ∀ H', Same H H' → Q .non H') : spLine [.str key, .str z] H Q E := by
  have ll : z.length ≤ 3000 := linesX_len g.lok g.xok z (by
    unfold linesX
    match j, hz with
    | 0, hz => rw [show offL o = [z] from hz]; simp
    | 1, hz => rw [show stayL L.stay = [z] from hz]; simp
    | n + 2, hz => rw [show goalL L.goal = [z] from hz]; simp)
  match j, hz, hk with
  | 0, hz, hk =>
    cases o with
    | none => cases hz
    | some u =>
      obtain ⟨r1, r2, r3, r4, r5, r6⟩ := g.off u rfl
      obtain rfl : Str.empty ++ "offer " ++ wordsS u = z := (List.cons.inj hz).1
      exact ⟨_, _, _, rfl, cut_cons (a := "offer") _ (by decide +kernel) (by decide +kernel), ll, (fun y hy => by
        rcases List.mem_cons.mp hy with rfl | q
        · decide +kernel
        · exact r5 y q), by rw [List.length_cons]; omega, .inl ⟨_, _, rfl, hk, k⟩⟩
  | 1, hz, hk =>
    rcases g.stay with e | ⟨n, e, h0, h1⟩
    · rw [show lineP L o 1 = stayL L.stay from rfl, e] at hz
      cases hz
    · rw [show lineP L o 1 = stayL L.stay from rfl, e] at hz
      obtain rfl : Str.empty ++ "stay " ++ numS n = z := (List.cons.inj hz).1
      have := numS_len (i := n) (by omega)
      exact ⟨_, _, ["stay", numS n], rfl, cut2 (by decide +kernel) (by decide +kernel) (num_free h0).1, ll, (fun y hy => by
        simp only [List.mem_cons, List.not_mem_nil, or_false] at hy
        rcases hy with rfl | rfl
        · decide +kernel
        · omega), by simp, .inl ⟨_, _, rfl, hk, k⟩⟩
  | m + 2, hz, hk =>
    rcases g.goal with e | ⟨y, e, h0⟩
    · rw [show lineP L o (m + 2) = goalL L.goal from rfl, e] at hz
      cases hz
    · rw [show lineP L o (m + 2) = goalL L.goal from rfl, e] at hz
      obtain rfl : Str.empty ++ "goal " ++ y = z := (List.cons.inj hz).1
      have ya := addr_free h0
      exact ⟨_, _, ["goal", y], rfl, cut2 (by decide +kernel) (by decide +kernel) ya.1, ll, (fun y hy => by
        simp only [List.mem_cons, List.not_mem_nil, or_false] at hy
        rcases hy with rfl | rfl
        · decide +kernel
        · omega), by simp, .inl ⟨_, _, rfl, hk, k⟩⟩
end K19
set_option maxHeartbeats 4000000
namespace K19
open PySem PySem.Spec PyProof.Rows L2 SX TK TKS
open C8 (pe_c)
/-! ### read, of a letter's own text -/
theorem GLet.nonl {L : Ltr} {o : Option Off} {c : Option Int} (g : GLet L o c) : ∀ z ∈ linesX L o, 10 ∉ TL.tl z := by
  have a1 := (tag_free g.call).2.1
  have a2 := (addr_free g.origin).2.1
  have a3 := (tag_free g.otag).2.1
  have a4 := (addr_free g.target).2.1
  have a5 := (tag_free g.way).2.1
  have a6 := (verbs_ok _ g.verb).2.2
  have a7 := (num_free g.seq0).2
  have cat : ∀ {x y : Str}, 10 ∉ TL.tl x → 10 ∉ TL.tl y → 10 ∉ TL.tl (x ++ y) := fun hx hy => by
    rw [TL.tl_append, List.mem_append]
    exact fun h => h.elim hx hy
  have e0 : 10 ∉ TL.tl Str.empty := List.not_mem_nil
  intro z hz
  unfold linesX at hz
  rw [List.mem_append, List.mem_append, List.mem_append] at hz
  rcases hz with ((hz | hz) | hz) | hz
  · simp only [linesS, List.mem_cons, List.not_mem_nil, or_false] at hz
    rcases hz with rfl | rfl | rfl | rfl | rfl | rfl
    · unfold headS
      rw [g.code]
      cases c with
      | none => exact cat (cat e0 (by decide +kernel)) a6
      | some n =>
        have h : 0 ≤ n ∧ n ≤ 99 := (by decide : ∀ c ∈ codesL, 0 ≤ c ∧ c ≤ 99) n (g.codeOk n rfl)
        exact cat (cat (cat (cat e0 (by decide +kernel)) (num_free h.1).2) (by decide +kernel)) a6
    · exact cat (cat e0 (by decide +kernel)) a1
    · exact cat (cat (cat (cat e0 (by decide +kernel)) a2) (by decide +kernel)) a3
    · unfold toS
      split
      · rename_i h
        rcases g.ttag with e | ⟨_, e⟩
        · rw [e] at h
          exact absurd h (by decide +kernel)
        · exact cat (cat (cat (cat e0 (by decide +kernel)) a4) (by decide +kernel)) (tag_free e).2.1
      · exact cat (cat e0 (by decide +kernel)) a4
    · exact cat (cat e0 (by decide +kernel)) a7
    · exact cat (cat e0 (by decide +kernel)) a5
  · cases o with
    | none => cases hz
    | some u =>
      rw [List.mem_singleton.mp hz]
      exact cat (cat e0 (by decide +kernel)) (g.off u rfl).2.2.1
  · rcases g.stay with e | ⟨n, e, h0, _⟩
    · rw [e] at hz
      cases hz
    · rw [e] at hz
      rw [List.mem_singleton.mp hz]
      exact cat (cat e0 (by decide +kernel)) (num_free h0).2
  · rcases g.goal with e | ⟨y, e, h0⟩
    · rw [e] at hz
      cases hz
    · rw [e] at hz
      rw [List.mem_singleton.mp hz]
      exact cat (cat e0 (by decide +kernel)) (addr_free h0).2.1
theorem head_cut {L : Ltr} {o : Option Off} {c : Option Int} (g : GLet L o c) : Txt.split (headS L) " " = headW L.verb c := by
  have a6 := (verbs_ok _ g.verb).2.1
  unfold headS
  rw [g.code]
  cases c with
  | none => exact cut2 (by decide +kernel) (by decide +kernel) a6
  | some n =>
    have h : 0 ≤ n ∧ n ≤ 99 := (by decide : ∀ c ∈ codesL, 0 ≤ c ∧ c ≤ 99) n (g.codeOk n rfl)
    exact cut3 (by decide +kernel) (by decide +kernel) (num_free h.1).1 a6
theorem line_at (L : Ltr) (o : Option Off) (i : Nat) (hi : i < 5) : atI ((linesX L o).map V.str) ((((i : Nat) : Int) + 1 + 1) - 1) = some (.str (lineI L i)) := by
  have hl : 6 ≤ ((linesX L o).map V.str).length := by
    rw [List.length_map]
    unfold linesX
    rw [List.length_append, List.length_append, List.length_append]
    show 6 ≤ 6 + _ + _ + _
    omega
  rw [atN (V.str "") (by omega) (by omega)]
  have e : ((((i : Nat) : Int) + 1 + 1) - 1).toNat = i + 1 := by omega
  rw [e]
  match i, hi with
  | 0, _ => rfl
  | 1, _ => rfl
  | 2, _ => rfl
  | 3, _ => rfl
  | 4, _ => rfl
def hKb : Bool → List Str
  | false => ["verb"]
  | true => ["verb", "code"]
theorem hKb_eq (c : Option Int) : headK c = hKb c.isSome := by cases c <;> rfl
def KK (b : Bool) : Nat → List Str
  | 0 => hKb b
  | i + 1 => KK b i ++ ksI i
def ZZ (L : Ltr) (c : Option Int) : Nat → List V
  | 0 => headZ L.verb c
  | i + 1 => ZZ L c i ++ zsI L i
theorem ksI_len (L : Ltr) : ∀ i, (ksI i).length = (zsI L i).length
  | 0 => rfl
  | 1 => rfl
  | 2 => rfl
  | 3 => rfl
  | _ + 4 => rfl
theorem KK_len (L : Ltr) (c : Option Int) : ∀ i, (KK c.isSome i).length = (ZZ L c i).length
  | 0 => by cases c <;> rfl
  | i + 1 => by
    show (KK c.isSome i ++ ksI i).length = (ZZ L c i ++ zsI L i).length
    rw [List.length_append, List.length_append, KK_len L c i, ksI_len L i]
theorem KK_nd : ∀ b : Bool, ∀ i < 5, (KK b i ++ ksI i).Nodup := by decide +kernel
theorem KK_short : ∀ b : Bool, ∀ i < 6, (KK b i).length ≤ 9 := by decide +kernel
theorem dkOf_len {ks : List Str} {zs : List V} (h : ks.length = zs.length) : (dkOf ks zs).length = ks.length := by
  unfold dkOf
  rw [List.length_map, List.length_zip, h, Nat.min_self]
/-! the parts that a letter may have -/
def tailP (L : Ltr) (o : Option Off) : Nat → List Str
  | 0 => offL o ++ (stayL L.stay ++ goalL L.goal)
  | 1 => stayL L.stay ++ goalL L.goal
  | 2 => goalL L.goal
  | _ => []
def ExtAt (L : Ltr) (o : Option Off) (H : Hp) : Nat → List Str → List V → Prop
  | 0, kx, zx => kx = [] ∧ zx = []
  | j + 1, kx, zx => ∃ k0 z0, ExtAt L o H j k0 z0 ∧ ((lineP L o j = [] ∧ kx = k0 ∧ zx = z0) ∨ ∃ z x, lineP L o j = [z] ∧ XV L o H j x ∧ kx = k0 ++ [keyP j] ∧ zx = z0 ++ [x])
theorem XV.same {L : Ltr} {o : Option Off} {H H' : Hp} (s : Same H H') : ∀ {j : Nat} {x : V}, XV L o H j x → XV L o H' j x
  | 0, _, ⟨u, e, h⟩ => ⟨u, e, h.same s⟩
  | 1, _, h => h
  | _ + 2, _, h => h
theorem ExtAt.same {L : Ltr} {o : Option Off} {H H' : Hp} (s : Same H H') : ∀ {j : Nat} {kx : List Str} {zx : List V}, ExtAt L o H j kx zx → ExtAt L o H' j kx zx
  | 0, _, _, h => h
  | j + 1, _, _, ⟨k0, z0, h, q⟩ => ⟨k0, z0, h.same s, q.imp id fun ⟨z, x, a, b, e⟩ => ⟨z, x, a, b.same s, e⟩⟩
theorem ExtAt.sub {L : Ltr} {o : Option Off} {H : Hp} : ∀ {j : Nat} {kx : List Str} {zx : List V}, ExtAt L o H j kx zx → kx.Sublist ((List.range j).map keyP) ∧ kx.length = zx.length
  | 0, _, _, ⟨e1, e2⟩ => by rw [e1, e2]; exact ⟨List.Sublist.slnil, rfl⟩
  | j + 1, _, _, ⟨k0, z0, h, q⟩ => by
    obtain ⟨a, b⟩ := h.sub
    rw [List.range_succ, List.map_append]
    rcases q with ⟨_, rfl, rfl⟩ | ⟨z, x, _, _, rfl, rfl⟩
    · exact ⟨a.trans (List.sublist_append_left _ _), b⟩
    · exact ⟨a.append (List.Sublist.refl _), by rw [List.length_append, List.length_append, b]; rfl⟩
theorem PK_nd : ∀ b : Bool, ∀ j < 4, (KK b 5 ++ (List.range j).map keyP).Nodup := by decide +kernel
theorem lineP_cases (L : Ltr) (o : Option Off) : ∀ j, lineP L o j = [] ∨ ∃ z, lineP L o j = [z]
  | 0 => by
    show offL o = [] ∨ ∃ z, offL o = [z]
    cases o
    · exact .inl rfl
    · exact .inr ⟨_, rfl⟩
  | 1 => by
    show stayL L.stay = [] ∨ ∃ z, stayL L.stay = [z]
    unfold stayL
    split
    · exact .inr ⟨_, rfl⟩
    · exact .inl rfl
  | _ + 2 => by
    show goalL L.goal = [] ∨ ∃ z, goalL L.goal = [z]
    unfold goalL
    split
    · exact .inr ⟨_, rfl⟩
    · exact .inl rfl
theorem tail_split (L : Ltr) (o : Option Off) : ∀ j < 3, tailP L o j = lineP L o j ++ tailP L o (j + 1)
  | 0, _ => rfl
  | 1, _ => rfl
  | 2, _ => (List.append_nil _).symm
theorem next_line {L : Ltr} {o : Option Off} {z : Str} {r : List Str} : ∀ j < 3, tailP L o (j + 1) = z :: r → ∃ i, lineP L o i = [z] ∧ keyP i ≠ keyP j
  | 0, _, h => by
    have h2 : lineP L o 1 ++ lineP L o 2 = z :: r := h
    rcases lineP_cases L o 1 with e | ⟨y, e⟩
    · rw [e, List.nil_append] at h2
      rcases lineP_cases L o 2 with e3 | ⟨y, e3⟩
      · rw [e3] at h2
        cases h2
      · rw [e3] at h2
        obtain rfl : y = z := (List.cons.inj h2).1
        exact ⟨2, e3, by decide +kernel⟩
    · rw [e] at h2
      obtain rfl : y = z := (List.cons.inj h2).1
      exact ⟨1, e, by decide +kernel⟩
  | 1, _, h => by
    have h2 : lineP L o 2 = z :: r := h
    rcases lineP_cases L o 2 with e3 | ⟨y, e3⟩
    · rw [e3] at h2
      cases h2
    · rw [e3] at h2
      obtain rfl : y = z := (List.cons.inj h2).1
      exact ⟨2, e3, by decide +kernel⟩
  | 2, _, h => nomatch h
theorem drop_at {ls : List Str} {nn : Nat} {z : Str} {r : List Str} (h : ls.drop nn = z :: r) : nn < ls.length ∧ atI (ls.map V.str) ((nn : Nat) : Int) = some (.str z) ∧ ls.drop (nn + 1) = r := by
  have hlt : nn < ls.length := by
    rcases Nat.lt_or_ge nn ls.length with q | q
    · exact q
    · rw [List.drop_eq_nil_of_le q] at h
      cases h
  rw [List.drop_eq_getElem_cons hlt] at h
  obtain ⟨h1, h2⟩ := List.cons.inj h
  refine ⟨hlt, ?_, h2⟩
  rw [atN (V.str "") (by omega) (by rw [List.length_map]; omega), Int.toNat_natCast, List.getD_eq_getElem?_getD, List.getElem?_map, List.getElem?_eq_getElem hlt, h1]
  rfl
theorem XV.updD {L : Ltr} {o : Option Off} {H : Hp} {d : Addr} {kvs kvs' : List (Key × V)} (hd : H d = some (.dK kvs)) : ∀ {j : Nat} {x : V}, XV L o H j x → XV L o (upd H d (.dK kvs')) j x
  | 0, _, ⟨u, e, p, f, e0, e1, e2⟩ => ⟨u, e, p, f, e0, by rw [upd_ne (fun z => by rw [z, hd] at e1; cases e1)]; exact e1, by rw [upd_ne (fun z => by rw [z, hd] at e2; cases e2)]; exact e2⟩
  | 1, _, h => h
  | _ + 2, _, h => h
theorem ExtAt.updD {L : Ltr} {o : Option Off} {H : Hp} {d : Addr} {kvs kvs' : List (Key × V)} (hd : H d = some (.dK kvs)) : ∀ {j : Nat} {kx : List Str} {zx : List V}, ExtAt L o H j kx zx → ExtAt L o (upd H d (.dK kvs')) j kx zx
  | 0, _, _, h => h
  | j + 1, _, _, ⟨k0, z0, h, q⟩ => ⟨k0, z0, h.updD hd, q.imp id fun ⟨z, x, a, b, e⟩ => ⟨z, x, a, b.updD hd, e⟩⟩
end K19
set_option maxHeartbeats 4000000
set_option pp.maxSteps 400
namespace K19
open PySem PySem.Spec PyProof.Rows L2 SX TK TKS
open C8 (pe_c)
abbrev ssS : List Str → (List V → List V → List V) → Prop := SsOk "self" ["verb", "call", "origin", "origin_tag", "target", "target_tag", "seq", "way", "code", "offer", "stay", "goal"] ["verb", "call", "origin", "origin_tag", "target", "target_tag", "seq", "way"]
abbrev namesP : List Str := ["verb", "call", "origin", "origin_tag", "target", "target_tag", "seq", "way", "code", "offer", "stay", "goal"]
theorem all_in : ∀ b : Bool, ∀ k ∈ KK b 5 ++ (List.range 3).map keyP, k ∈ namesP ∧ k ≠ "self" := by decide +kernel
theorem need_in : ∀ b : Bool, ∀ k ∈ (["verb", "call", "origin", "origin_tag", "target", "target_tag", "seq", "way"] : List Str), k ∈ KK b 5 := by decide +kernel
theorem ext_ss {L : Ltr} {o : Option Off} {H : Hp} {kx : List Str} {zx : List V} (b : Bool) (h : ExtAt L o H 3 kx zx) : ssS (KK b 5 ++ kx) (fun vs zs => vs ++ byNameV namesP (KK b 5 ++ kx) zs) := by
  have sub : (KK b 5 ++ kx).Sublist (KK b 5 ++ (List.range 3).map keyP) := (List.Sublist.refl _).append h.sub.1
  refine ⟨List.nodup_cons.mpr ⟨fun m => (all_in b _ (sub.subset m)).2 rfl, (PK_nd b 3 (by decide)).sublist sub⟩, fun k hk => (all_in b k (sub.subset hk)).1, fun k hk => List.mem_append_left _ (need_in b k hk), rfl⟩
theorem ext_args {L : Ltr} {o : Option Off} {c : Option Int} {H : Hp} {kx : List Str} {zx : List V} (g : GLet L o c) (h : ExtAt L o H 3 kx zx) : ∃ ox, OffO H ox o ∧ byNameV namesP (KK c.isSome 5 ++ kx) (ZZ L c 5 ++ zx) = ({ L with offer := ox } : Ltr).args := by
  obtain ⟨k2, z2, ⟨k1, z1, ⟨k0, z0, ⟨rfl, rfl⟩, q0⟩, q1⟩, q2⟩ := h
  have hc := g.code
  have hst : stayL L.stay = [] → L.stay = .non := fun e => by
    rcases g.stay with q | ⟨n, q, _⟩
    · exact q
    · rw [q] at e
      cases e
  have hgl : goalL L.goal = [] → L.goal = .non := fun e => by
    rcases g.goal with q | ⟨n, q, _⟩
    · exact q
    · rw [q] at e
      cases e
  obtain ⟨ox, hox, e0⟩ : ∃ ox, OffO H ox o ∧ ((k1 = [] ∧ z1 = [] ∧ ox = .non) ∨ (k1 = [("offer" : Str)] ∧ z1 = [ox])) := by
    rcases q0 with ⟨e, rfl, rfl⟩ | ⟨z, x, e, ⟨u, rfl, hu⟩, rfl, rfl⟩
    · cases o with
      | none => exact ⟨.non, rfl, .inl ⟨rfl, rfl, rfl⟩⟩
      | some u => cases e
    · exact ⟨x, hu, .inr ⟨rfl, rfl⟩⟩
  refine ⟨ox, hox, ?_⟩
  obtain ⟨verb, call, origin, otag, target, ttag, seq, way, code, offer, stay, goal⟩ := L
  cases hc
  have e1 : (k2 = k1 ∧ z2 = z1 ∧ stay = .non) ∨ (k2 = k1 ++ [("stay" : Str)] ∧ z2 = z1 ++ [stay]) := by
    rcases q1 with ⟨e, rfl, rfl⟩ | ⟨z, x, e, hx, rfl, rfl⟩
    · exact .inl ⟨rfl, rfl, hst e⟩
    · cases (show x = stay from hx)
      exact .inr ⟨rfl, rfl⟩
  have e2 : (kx = k2 ∧ zx = z2 ∧ goal = .non) ∨ (kx = k2 ++ [("goal" : Str)] ∧ zx = z2 ++ [goal]) := by
    rcases q2 with ⟨e, rfl, rfl⟩ | ⟨z, x, e, hx, rfl, rfl⟩
    · exact .inl ⟨rfl, rfl, hgl e⟩
    · cases (show x = goal from hx)
      exact .inr ⟨rfl, rfl⟩
  clear q0 q1 q2 hst hgl g hox
  cases c with
  | none =>
    rcases e0 with ⟨rfl, rfl, rfl⟩ | ⟨rfl, rfl⟩ <;> rcases e1 with ⟨rfl, rfl, rfl⟩ | ⟨rfl, rfl⟩ <;> rcases e2 with ⟨rfl, rfl, rfl⟩ | ⟨rfl, rfl⟩ <;> rfl
  | some n =>
    rcases e0 with ⟨rfl, rfl, rfl⟩ | ⟨rfl, rfl⟩ <;> rcases e1 with ⟨rfl, rfl, rfl⟩ | ⟨rfl, rfl⟩ <;> rcases e2 with ⟨rfl, rfl, rfl⟩ | ⟨rfl, rfl⟩ <;> rfl
def spReadL (K : PySem.W.Frag) : Sp := fun vs H Q _ => ∃ L o c, vs = [.str (textOf (linesX L o))] ∧ GLet L o c ∧ ∀ a x H', Same H H' → H a = none → OffO H' x o → LetAt K H' a { L with offer := x } → Q (.ref a) H'
theorem ok_read {P : Program} {w : World} {K : PySem.W.Frag} {mg : Str → Option Value} {base : Heap} {f : Addr} {fd : FuncData} (T : Tx K mg) (c_read_head : C8.Cal P w K mg base 3 "_read_head" spReadHead []) (c_read_line : C8.Cal P w K mg base 6 "_read_line" spLine []) (c_mk_Letter_ss : TK.MakS P w K mg base 1 "Letter" (He.ga K "Letter") (spLetInit K) (TK.SsOk "self" ["verb", "call", "origin", "origin_tag", "target", "target_tag", "seq", "way", "code", "offer", "stay", "goal"] ["verb", "call", "origin", "origin_tag", "target", "target_tag", "seq", "way"]))
    (F : FunD K "read" "read" (defArgs s_read) (defBody s_read) (defScope s_read) [] [] f fd) : FnOk P w K mg base CX0 7 f fd ["text"] (spReadL K) := by
  refine F.ok sc_read (fun vs H Q E h => ?_) (fun cdv A outer s H vs Q E hr h => ?_)
  · obtain ⟨L, o, c, rfl, _⟩ := h
    rfl
  · obtain ⟨L, o, c, rfl, g, k⟩ := h
    have hlen := linesX_len g.lok g.xok
    have hn9 := linesX_n L o
    have hfit := textOf_fits hlen (Nat.le_trans hn9 (by decide))
    have hz2 : (textOf (linesX L o)).length + 2 ≤ sizeLine := by
      have b := join_len "" ((linesX L o).map fun z => z ++ ("\n" : Str))
      have : (textOf (linesX L o)).length ≤ 1000000 := Nat.le_trans b hfit
      exact Nat.le_trans (Nat.add_le_add_right this 2) (by decide)
    have hcut := text_cut g.nonl
    have hat := line_at L o
    have hhead := head_cut g
    refine ⟨_, PSs.nox (pss_cons (ps_set (i := 1) sc_read.nd rfl (Or.inl rfl) (pe_split (pv 0) pe_str)) (pss_cons (ps_set (i := 2) sc_read.nd rfl (Or.inl rfl) (pe_bm0 PySem.F.plainAttrs_list PySem.F.slot_list_pop PySem.F.type_list_pop mt_pop (pv 1))) (pss_cons (ps_set (i := 3) sc_read.nd rfl (Or.inl rfl) (pe_ifExp (pt_truth (pv 1) (fun _ => rfl)) (pe_c c_read_head hr (by decide) rfl (pa_cons (pe_split (pe_ix ix_list (pv 1) pe_int (fun _ _ => rfl)) pe_str) pa_nil)) pe_non)) (C8.pss_cut (ps_if (pt_cmpR op_isN (pv 3) pe_non (nomark _)) (pss_one ps_never) pss_nil) (pss_cons (ps_set (i := 4) sc_read.nd rfl (Or.inl rfl) pe_int) (pss_cons (ps_for PassesOwn.never rfl (pi_tup (pgR T.g_NEEDED)) (pg_name (i := 5) sc_read.nd rfl (Or.inl rfl)) (pss_cons (ps_aug (i := 4) sc_read.nd rfl (Or.inl rfl) pe_int ip_add) (pss_cons (ps_set (i := 6) sc_read.nd rfl (Or.inl rfl) (pe_ifExp (pt_cmpR op_le (pv 4) (pe_callB call_len_seq rfl T.f_len PySem.boot_len (pa_cons (pv 1) pa_nil)) (nomark _)) (pe_c c_read_line hr (by decide) rfl (pa_cons (pv 5) (pa_cons (pe_ix ix_list (pv 1) (pe_op op_sub (pv 4) pe_int) (fun _ _ => rfl)) pa_nil))) pe_non)) (C8.pss_cut (ps_if (pt_cmpR op_isN (pv 6) pe_non (nomark _)) (pss_one ps_never) pss_nil) (pss_one (ps_expr (TK.pe_dupd (pv 3) (pv 6) ⟨rfl, by rfl, rfl, rfl⟩))))))) (pss_cons (ps_for PassesOwn.never rfl (pi_tup (pgR T.g_POSSIBLE)) (pg_name (i := 5) sc_read.nd rfl (Or.inl rfl)) (pss_cons (ps_set (i := 6) sc_read.nd rfl (Or.inl rfl) (pe_ifExp (pt_cmpR op_lt (pv 4) (pe_callB call_len_seq rfl T.f_len PySem.boot_len (pa_cons (pv 1) pa_nil)) (nomark _)) (pe_c c_read_line hr (by decide) rfl (pa_cons (pv 5) (pa_cons (pe_ix ix_list (pv 1) (pv 4) (fun _ _ => rfl)) pa_nil))) pe_non)) (pss_one (ps_if (pt_cmpR op_notN (pv 6) pe_non (nomark _)) (pss_cons (ps_aug (i := 4) sc_read.nd rfl (Or.inl rfl) pe_int ip_add) (pss_one (ps_expr (TK.pe_dupd (pv 3) (pv 6) ⟨rfl, by rfl, rfl, rfl⟩)))) pss_nil)))) (C8.pss_cut (ps_if (PW.pt (pw_or (pt_cmpR op_lt (pv 4) (pe_callB call_len_seq rfl T.f_len PySem.boot_len (pa_cons (pv 1) pa_nil)) (nomark _)) (pw_or1 (pt_cmpR op_ne (pv 2) pe_str (nomark _))))) (pss_one ps_never) pss_nil) (pss_one (ps_ret (TK.pe_mkSS c_mk_Letter_ss hr (by decide) rfl (pv 3)))))))))))), ?_⟩
    refine ⟨_, rfl, ⟨_, rfl⟩, textOf (linesX L o), "\n", rfl, rfl, by decide +kernel, hz2, fun l hl => ?_⟩
    rw [hcut]
    generalize textOf (linesX L o) = tx
    have hlast : ((linesX L o ++ [("" : Str)]).map V.str)[((linesX L o ++ [("" : Str)]).map V.str).length - 1]? = some (.str "") := by simp
    have ed : ((linesX L o ++ [("" : Str)]).map V.str).dropLast = (linesX L o).map V.str := by simp
    refine ⟨_, rfl, .inl ⟨rfl, _, SqL.of upd_same⟩, l, _, _, rfl, rfl, upd_same, hlast, ?_⟩
    rw [upd_upd, ed]
    have s1 : Same H (upd H l (.lst ((linesX L o).map V.str))) := same_upd hl
    have e1 : (upd H l (.lst ((linesX L o).map V.str))) l = some (.lst ((linesX L o).map V.str)) := upd_same
    generalize upd H l (.lst ((linesX L o).map V.str)) = H1 at s1 e1 ⊢
    have h0 : atI ((linesX L o).map V.str) 0 = some (.str (headS L)) := atC (V.str (headS L)) _
    have hne : (!((linesX L o).map V.str).isEmpty) = true := rfl
    have hh3 : (headS L).length ≤ 2000 := headS_len g.lok
    refine ⟨_, rfl, _, .inl ⟨_, SqL.of e1, rfl⟩, ?_⟩
    rw [hne]
    refine iteT ⟨_, rfl, l, _, 0, .str (headS L), rfl, rfl, SqL.of e1, h0, ⟨_, rfl⟩, headS L, " ", rfl, rfl, by decide +kernel, Nat.le_trans (Nat.add_le_add_right hh3 2) (by decide), fun q hq => ?_⟩
    rw [hhead]
    have s2 := s1.trans (same_upd (o := .lst ((headW L.verb c).map V.str)) hq)
    have e2 := (same_upd (o := .lst ((headW L.verb c).map V.str)) hq) _ _ e1
    refine ⟨q, L.verb, c, rfl, upd_same, g.verb, g.codeOk, fun d H2 s3 hd ed => ?_⟩
    have s4 := s2.trans s3
    have e3 := s3 _ _ e2
    have hdH : H d = none := fresh_of s2 hd
    have ld : l ≠ d := fun e => by rw [← e, e2] at hd; cases hd
    rw [hKb_eq] at ed
    refine ⟨fun σ' H' => σ' = [some (.str tx), some (.ref l), some (.str ""), some (.ref d), none, none, none] ∧ H' = H2, ⟨_, rfl, rfl, _, rfl, iteF ⟨rfl, rfl⟩⟩, ?_⟩
    rintro σ' H3 ⟨rfl, e⟩
    obtain rfl : H2 = H3 := e.symm
    -- the lines that every letter has
    refine ⟨_, rfl, ⟨_, T.v_NEEDED _⟩, for_it walk_tup (fun i σ H' => ∃ v5 v6 : Option V, σ = [some (.str tx), some (.ref l), some (.str ""), some (.ref d), some (.int ((i : Nat) + 1)), v5, v6] ∧ Same H H' ∧ H' l = some (.lst ((linesX L o).map V.str)) ∧ H' d = some (.dK (dkOf (KK c.isSome i) (ZZ L c i)))) ⟨none, none, rfl, s4, e3, ed⟩ (fun _ _ H' _ _ => T.v_NEEDED H') ?_ ?_⟩
    · rintro i x σ H3 H4 hi ⟨v5, v6, rfl, s5, e5, e6⟩ ⟨rfl, hx⟩
      have hi5 : i < 5 := hi
      obtain rfl : V.str (keyI i) = x := by
        have q : ([.str "call", .str "from", .str "to", .str "seq", .str "way"] : List V)[i]? = some (.str (keyI i)) := by
          match i, hi5 with
          | 0, _ => rfl
          | 1, _ => rfl
          | 2, _ => rfl
          | 3, _ => rfl
          | 4, _ => rfl
        exact Option.some.inj (q.symm.trans hx)
      refine ⟨_, rfl, _, _, rfl, rfl, ?_⟩
      have hle : decide ((((i : Nat) : Int) + 1 + 1) ≤ (((linesX L o).map V.str).length : Nat)) = true := decide_eq_true (by
        rw [List.length_map]
        unfold linesX
        rw [List.length_append, List.length_append, List.length_append]
        show _ ≤ ((6 + _ + _ + _ : Nat) : Int)
        omega)
      refine ⟨_, rfl, _, rfl, l, _, rfl, .inl (SqL.of e5), _, _, rfl, rfl, _, rfl, ?_⟩
      rw [hle]
      refine iteT ⟨_, rfl, _, rfl, _, rfl, _, _, rfl, rfl, l, _, _, .str (lineI L i), rfl, rfl, SqL.of e5, hat i hi5, ?_⟩
      delta tNil
      dsimp only
      refine need_line g i fun d2 H5 s6 hd2 e7 => ?_
      refine ⟨fun σ' H' => σ' = [some (.str tx), some (.ref l), some (.str ""), some (.ref d), some (.int ((i : Nat) + 1 + 1)), some (.str (keyI i)), some (.ref d2)] ∧ H' = H5, ⟨_, rfl, rfl, _, rfl, iteF ⟨rfl, rfl⟩⟩, ?_⟩
      rintro σ' H6 ⟨rfl, e⟩
      obtain rfl : H5 = H6 := e.symm
      have dd2 : d ≠ d2 := fun e => by rw [← e, e6] at hd2; cases hd2
      have e8 := s6 _ _ e6
      refine ⟨_, rfl, d, rfl, .inl ⟨_, .inl e8⟩, _, rfl, d2, _, _, rfl, dd2, e8, .inl e7, ?_, ?_⟩
      · rw [dkOf_len (KK_len L c i), dkOf_len (ksI_len L i)]
        have := KK_short c.isSome i (by omega)
        have : (ksI i).length ≤ 2 := by
          unfold ksI
          split <;> decide
        exact Nat.le_trans (by omega : _ ≤ 20) (by decide)
      · refine ⟨_, _, rfl, TK.Same.upd_of (s5.trans s6) hdH, ?_, ?_⟩
        · rw [upd_ne ld]
          exact s6 _ _ e5
        · rw [upd_same, merge_dk (KK_len L c i) (ksI_len L i) (KK_nd c.isSome i hi5)]
          rfl
    · rintro σ H3 ⟨v5, v6, rfl, s5, e5, e6⟩
      -- the lines that a letter may have
      refine ⟨_, rfl, ⟨_, T.v_POSSIBLE _⟩, for_it walk_tup (fun j σ H' => ∃ (v5 v6 : Option V) (nn : Nat) (kx : List Str) (zx : List V), σ = [some (.str tx), some (.ref l), some (.str ""), some (.ref d), some (.int (nn : Nat)), v5, v6] ∧ Same H H' ∧ H' l = some (.lst ((linesX L o).map V.str)) ∧ H' d = some (.dK (dkOf (KK c.isSome 5 ++ kx) (ZZ L c 5 ++ zx))) ∧ (linesX L o).drop nn = tailP L o j ∧ nn ≤ (linesX L o).length ∧ ExtAt L o H' j kx zx) ⟨v5, v6, 6, [], [], rfl, s5, e5, ?_, ?_, ?_, rfl, rfl⟩ (fun _ _ H' _ _ => T.v_POSSIBLE H') ?_ ?_⟩
      · rw [List.append_nil, List.append_nil]
        exact e6
      · unfold linesX tailP
        rw [List.append_assoc, List.append_assoc]
        rfl
      · unfold linesX
        rw [List.length_append, List.length_append, List.length_append]
        show 6 ≤ 6 + _ + _ + _
        omega
      · rintro j x σ H4 H5 hj ⟨v5, v6, nn, kx, zx, rfl, s5, e5, e6, ht, hn, hx⟩ ⟨rfl, hx2⟩
        have hj3 : j < 3 := hj
        obtain rfl : V.str (keyP j) = x := by
          have q : ([.str "offer", .str "stay", .str "goal"] : List V)[j]? = some (.str (keyP j)) := by
            match j, hj3 with
            | 0, _ => rfl
            | 1, _ => rfl
            | 2, _ => rfl
          exact Option.some.inj (q.symm.trans hx2)
        have hsp := tail_split L o j hj3
        rw [hsp] at ht
        obtain ⟨hsub, hkl⟩ := hx.sub
        have none_case : ∀ (v6 : V) (H6 : Hp), v6 = .non → Same H5 H6 → lineP L o j = [] → ∃ (v5' v6' : Option V) (n' : Nat) (k' : List Str) (z' : List V), ([some (.str tx), some (.ref l), some (.str ""), some (.ref d), some (.int (nn : Nat)), some (.str (keyP j)), some v6] : List (Option V)) = [some (.str tx), some (.ref l), some (.str ""), some (.ref d), some (.int (n' : Nat)), v5', v6'] ∧ Same H H6 ∧ H6 l = some (.lst ((linesX L o).map V.str)) ∧ H6 d = some (.dK (dkOf (KK c.isSome 5 ++ k') (ZZ L c 5 ++ z'))) ∧ (linesX L o).drop n' = tailP L o (j + 1) ∧ n' ≤ (linesX L o).length ∧ ExtAt L o H6 (j + 1) k' z' := by
          rintro v6 H6 rfl s6 e7
          rw [e7, List.nil_append] at ht
          exact ⟨_, _, nn, kx, zx, rfl, s5.trans s6, s6 _ _ e5, s6 _ _ e6, ht, hn, kx, zx, hx.same s6, .inl ⟨e7, rfl, rfl⟩⟩
        rcases lineP_cases L o j with e7 | ⟨z, e7⟩
        · obtain e8 | ⟨z, r, e8⟩ : tailP L o (j + 1) = [] ∨ ∃ z r, tailP L o (j + 1) = z :: r := by
            cases tailP L o (j + 1) with
            | nil => exact .inl rfl
            | cons z r => exact .inr ⟨z, r, rfl⟩
          · have ht2 := ht
            rw [e7, e8] at ht2
            have hnn : ¬ ((nn : Nat) : Int) < (((linesX L o).map V.str).length : Nat) := by
              rw [List.length_map]
              have := congrArg List.length ht2
              rw [List.length_drop] at this
              have : (linesX L o).length - nn = 0 := this
              omega
            refine ⟨_, rfl, _, rfl, l, _, rfl, .inl (SqL.of e5), _, _, rfl, rfl, _, rfl, ?_⟩
            rw [decide_eq_false hnn]
            refine iteF ⟨_, rfl, rfl, _, rfl, iteF ?_⟩
            exact none_case .non H5 rfl (Same.refl H5) e7
          · obtain ⟨i, e9, hki⟩ := next_line j hj3 e8
            have ht2 := ht
            rw [e7, e8] at ht2
            obtain ⟨hlt, hat2, _⟩ := drop_at ht2
            refine ⟨_, rfl, _, rfl, l, _, rfl, .inl (SqL.of e5), _, _, rfl, rfl, _, rfl, ?_⟩
            rw [decide_eq_true (by rw [List.length_map]; omega)]
            refine iteT ⟨_, rfl, _, rfl, _, rfl, l, _, _, .str z, rfl, rfl, SqL.of e5, hat2, ?_⟩
            delta tNil
            dsimp only
            refine poss_not g i e9 hki fun H6 s6 => ?_
            refine ⟨_, rfl, rfl, _, rfl, iteF ?_⟩
            exact none_case .non H6 rfl s6 e7
        · rw [e7] at ht
          obtain ⟨hlt, hat2, hdr⟩ := drop_at ht
          refine ⟨_, rfl, _, rfl, l, _, rfl, .inl (SqL.of e5), _, _, rfl, rfl, _, rfl, ?_⟩
          rw [decide_eq_true (by rw [List.length_map]; omega)]
          refine iteT ⟨_, rfl, _, rfl, _, rfl, l, _, _, .str z, rfl, rfl, SqL.of e5, hat2, ?_⟩
          delta tNil
          dsimp only
          refine poss_here g j e7 fun d2 x H6 s6 hd2 hxv e9 => ?_
          have dd2 : d ≠ d2 := fun e => by rw [← e, e6] at hd2; cases hd2
          have e10 := s6 _ _ e6
          have hl5 : (KK c.isSome 5 ++ kx).length = (ZZ L c 5 ++ zx).length := by rw [List.length_append, List.length_append, KK_len, hkl]
          refine ⟨_, rfl, rfl, _, rfl, iteT ⟨_, rfl, _, _, rfl, rfl, ?_⟩⟩
          refine ⟨_, rfl, d, rfl, .inl ⟨_, .inl e10⟩, _, rfl, d2, _, _, rfl, dd2, e10, .inl e9, ?_, ?_⟩
          · rw [dkOf_len hl5, dkOf_len (ks := [keyP j]) (zs := [x]) rfl, List.length_append]
            have := KK_short c.isSome 5 (by omega)
            have := hsub.length_le
            rw [List.length_map, List.length_range] at this
            exact Nat.le_trans (by show _ + _ + 1 ≤ 20; omega) (by decide)
          · have nd : (KK c.isSome 5 ++ kx ++ [keyP j]).Nodup := by
              have q := PK_nd c.isSome (j + 1) (by omega)
              rw [List.range_succ, List.map_append] at q
              rw [List.append_assoc]
              exact q.sublist ((List.Sublist.refl _).append (hsub.append (List.Sublist.refl _)))
            refine ⟨_, _, nn + 1, kx ++ [keyP j], zx ++ [x], rfl, TK.Same.upd_of (s5.trans s6) hdH, ?_, ?_, hdr, hlt, kx, zx, ?_, .inr ⟨z, x, e7, ?_, rfl, rfl⟩⟩
            · rw [upd_ne ld]
              exact s6 _ _ e5
            · rw [upd_same, merge_dk hl5 rfl nd, List.append_assoc, List.append_assoc]
            · exact (hx.same s6).updD e10
            · exact hxv.updD e10
      · rintro σ H4 ⟨v5, v6, nn, kx, zx, rfl, s5, e5, e6, ht, hn, hx⟩
        have hnn : nn = (linesX L o).length := by
          have := congrArg List.length ht
          rw [List.length_drop] at this
          have : (linesX L o).length - nn = 0 := this
          omega
        refine ⟨fun σ' H' => σ' = [some (.str tx), some (.ref l), some (.str ""), some (.ref d), some (.int (nn : Nat)), v5, v6] ∧ H' = H4, ⟨_, rfl, _, rfl, l, _, rfl, .inl (SqL.of e5), _, _, rfl, rfl, _, rfl, ?_⟩, ?_⟩
        · rw [decide_eq_false (by rw [List.length_map]; omega)]
          exact iteF ⟨_, rfl, rfl, _, rfl, iteF ⟨rfl, rfl⟩⟩
        rintro σ' H5 ⟨rfl, e⟩
        obtain rfl : H4 = H5 := e.symm
        obtain ⟨ox, hox, eargs⟩ := ext_args g hx
        have hl5 : (KK c.isSome 5 ++ kx).length = (ZZ L c 5 ++ zx).length := by rw [List.length_append, List.length_append, KK_len, hx.sub.2]
        intro p hp
        have pd : p ≠ d := fun e => by rw [e, e6] at hp; cases hp
        refine ⟨_, rfl, upd_same, d, _, _, _, rfl, pd, .inl (by rw [upd_ne pd.symm]; exact e6), hl5, ext_ss c.isSome hx, ?_⟩
        intro x dx hx1 hx2 hne
        rw [upd_upd] at hx1 hx2 ⊢
        refine ⟨x, dx, { L with offer := ox }, congrArg (List.cons (V.ref x)) eargs, upd_same, rfl, ?_⟩
        rw [upd_upd]
        have sp := (same_upd (o := .dK (dkOf (KK c.isSome 5 ++ kx) (ZZ L c 5 ++ zx))) hp).trans (same_own (C := He.ga K "Letter") (fs := ({ L with offer := ox } : Ltr).fl) hx1 hx2)
        exact k x ox _ (s5.trans sp) (fresh_of (s5.trans (same_upd hp)) hx1) (hox.same sp) ⟨dx, upd_same⟩
end K19
set_option maxHeartbeats 2000000
/-! Cells: the changing part of the heap that something owns, as a list of places and what stands there. -/
namespace TKC
open PySem PySem.Spec PyProof.Rows L2 TK
/-- a method called with j of its defaults given by place -/
theorem metJ_of {P : Program} {w : World} {K : PySem.W.Frag} {mg : Str → Option Value} {base : Heap} {C : Addr} {n qual : Str} {params : Arguments} {body : List Stmt} {scope : Scope} {dvs : List V} {f : Addr} {fd : FuncData} {ps : List Str} {k : Nat} {sp : Sp} (j : Nat) (c : Cls K C) (m : Meth K C n f) (F : FunD K n qual params body scope dvs [] f fd) (G : FnOk P w K mg base L2.CX0 k f fd ps sp) (hd : dvs ≠ []) (hn : dvs.length ≤ ps.length) (hj : j ≤ dvs.length)
    (h : ∀ (T : Addr) (kV doc pm : Value) (an : Option Addr) (cdv ct : Value) (us its : List Value), us.length = ps.length - dvs.length + j → its.length = dvs.length →
      ∃ k, bindArgs (PySem.W.fnOf n qual params body scope (.ref T) kV doc pm an cdv ct) ⟨us, []⟩ = seqItems? (.ref T) >>= k ∧ k (some its.toArray) = pure (ps.zip (us ++ its.drop j))) : C8.Met P w K mg base k C n sp (dvs.drop j) := by
  obtain ⟨ds, h1, h2⟩ := F.binds1 (ps := ps) (ps.length - dvs.length + j) j hd (by omega) h
  exact ⟨f, fd, ps, ds, c, m, G, h2, h1⟩
/-- a method with positional defaults, the first of them given by keywords -/
theorem metKD_of {P : Program} {w : World} {K : PySem.W.Frag} {mg : Str → Option Value} {base : Heap} {C : Addr} {n qual : Str} {params : Arguments} {body : List Stmt} {scope : Scope} {dvs : List V} {f : Addr} {fd : FuncData} {ps ks : List Str} {k m : Nat} {sp : Sp} (c : Cls K C) (me : Meth K C n f) (F : FunD K n qual params body scope dvs [] f fd) (G : FnOk P w K mg base L2.CX0 k f fd ps sp) (hd : dvs ≠ [])
    (h : ∀ (T : Addr) (kV doc pm : Value) (an : Option Addr) (cdv ct : Value) (us its ws : List Value), us.length = m + 1 → its.length = dvs.length → ws.length = ks.length →
      ∃ k, bindArgs (PySem.W.fnOf n qual params body scope (.ref T) kV doc pm an cdv ct) ⟨us, ks.zip ws⟩ = seqItems? (.ref T) >>= k ∧ k (some its.toArray) = pure (ps.zip (us ++ ws ++ its.drop ks.length))) : TK.MetK P w K mg base k C n sp m ks (fun vs zs => vs ++ zs ++ dvs.drop ks.length) := by
  obtain ⟨its, b⟩ := F.kbindsD (m + 1) ks (fun us its ws => us ++ ws ++ its.drop ks.length) hd (fun r1 r2 r3 => (r1.append r3).append (r2.drop _)) h
  exact ⟨f, fd, ps, _, c, me, G, b⟩
abbrev Cell := Addr × HO
def keys (M : List Cell) : List Addr := M.map (·.1)
/-- tuples and letters (the instances of twelve fields) do not change -/
def imm : HO → Bool
  | .tup _ => true
  | .ins _ _ fs => decide (fs.length = 12)
  | _ => false
structure Cells (H : Hp) (M : List Cell) : Prop where
  nd : (keys M).Nodup
  at_ : ∀ q ∈ M, H q.1 = some q.2
/-- what stands in H outside A, and what does not change, stands in H'; A' is of A or new -/
structure Upd (A A' : List Addr) (H H' : Hp) : Prop where
  fr : ∀ b o, H b = some o → (b ∈ A → imm o = true) → H' b = some o
  nw : ∀ x ∈ A', x ∈ A ∨ H x = none
def Im (H H' : Hp) : Prop := ∀ b o, H b = some o → imm o = true → H' b = some o
theorem Im.refl (H : Hp) : Im H H := fun _ _ e _ => e
theorem Im.trans {H H1 H2 : Hp} (s : Im H H1) (t : Im H1 H2) : Im H H2 := fun b o e i => t b o (s b o e i) i
theorem Im.of_same {H H' : Hp} (s : Same H H') : Im H H' := fun b o e _ => s b o e
theorem Upd.im {A A' : List Addr} {H H' : Hp} (u : Upd A A' H H') : Im H H' := fun b o e i => u.fr b o e fun _ => i
theorem Upd.refl (A : List Addr) (H : Hp) : Upd A A H H := ⟨fun _ _ e _ => e, fun _ m => .inl m⟩
theorem Upd.of_same {A A' : List Addr} {H H' : Hp} (s : Same H H') (h : ∀ x ∈ A', x ∈ A ∨ H x = none) : Upd A A' H H' := ⟨fun b o e _ => s b o e, h⟩
theorem Upd.same {A : List Addr} {H H' : Hp} (s : Same H H') : Upd A A H H' := Upd.of_same s fun _ m => .inl m
theorem Upd.trans {A A1 A2 : List Addr} {H H1 H2 : Hp} (s : Upd A A1 H H1) (t : Upd A1 A2 H1 H2) : Upd A A2 H H2 := by
  refine ⟨fun b o e n => t.fr b o (s.fr b o e n) fun m => ?_, fun x m => ?_⟩
  · rcases s.nw b m with q | q
    · exact n q
    · rw [q] at e
      cases e
  · rcases t.nw x m with q | q
    · exact s.nw x q
    · by_cases h : x ∈ A
      · exact .inl h
      · right
        cases e : H x with
        | none => rfl
        | some o =>
          rw [s.fr x o e fun m => absurd m h] at q
          cases q
theorem Upd.grow {A A' B B' : List Addr} {H H' : Hp} (u : Upd A A' H H') (h : ∀ x ∈ A, x ∈ B) (h' : ∀ x ∈ B', x ∈ B ∨ x ∈ A') : Upd B B' H H' :=
  ⟨fun b o e n => u.fr b o e fun m => n (h b m), fun x m => (h' x m).elim .inl fun q => (u.nw x q).imp (h x) id⟩
theorem Upd.one {a : Addr} {o o' : HO} {H : Hp} (h : H a = some o) (n : imm o = false) : Upd [a] [a] H (upd H a o') :=
  ⟨fun b u e i => by
    by_cases q : b = a
    · subst q
      rw [h] at e
      cases e
      have := i (List.mem_singleton.mpr rfl)
      rw [n] at this
      cases this
    · rw [upd_ne q]
      exact e, fun _ m => .inl m⟩
theorem Upd.new {a : Addr} {o : HO} {H : Hp} (h : H a = none) : Upd [] [a] H (upd H a o) :=
  ⟨fun b u e _ => by
    rw [upd_ne (ne_of_none e h)]
    exact e, fun x m => .inr (by rw [List.mem_singleton.mp m]; exact h)⟩
theorem Cells.get {H : Hp} {M : List Cell} (c : Cells H M) {a : Addr} {o : HO} (m : (a, o) ∈ M) : H a = some o := c.at_ _ m
theorem Cells.nil (H : Hp) : Cells H [] := ⟨List.nodup_nil, fun _ m => nomatch m⟩
theorem Cells.same {H H' : Hp} {M : List Cell} (c : Cells H M) (s : Same H H') : Cells H' M := ⟨c.nd, fun q m => s _ _ (c.at_ q m)⟩
theorem keys_app (M N : List Cell) : keys (M ++ N) = keys M ++ keys N := List.map_append
theorem Cells.perm {H : Hp} {M N : List Cell} (c : Cells H M) (p : M.Perm N) : Cells H N := ⟨(p.map _).nodup_iff.mp c.nd, fun q m => c.at_ q (p.mem_iff.mpr m)⟩
theorem Cells.sub {H : Hp} {M N : List Cell} (c : Cells H M) (s : N.Sublist M) : Cells H N := ⟨(s.map _).nodup c.nd, fun q m => c.at_ q (s.subset m)⟩
theorem mem_keys {M : List Cell} {q : Cell} (m : q ∈ M) : q.1 ∈ keys M := List.mem_map.mpr ⟨q, m, rfl⟩
theorem Cells.alive {H : Hp} {M : List Cell} (c : Cells H M) {x : Addr} (m : x ∈ keys M) : ∃ o, H x = some o := by
  obtain ⟨q, hq, rfl⟩ := List.mem_map.mp m
  exact ⟨_, c.at_ q hq⟩
theorem Cells.fresh {H : Hp} {M : List Cell} (c : Cells H M) {x : Addr} (h : H x = none) : x ∉ keys M := fun m => by
  obtain ⟨o, e⟩ := c.alive m
  rw [h] at e
  cases e
theorem Cells.add {H : Hp} {M : List Cell} (c : Cells H M) {a : Addr} {o : HO} (h : H a = none) : Cells (upd H a o) ((a, o) :: M) := by
  refine ⟨List.nodup_cons.mpr ⟨c.fresh h, c.nd⟩, fun q m => ?_⟩
  rcases List.mem_cons.mp m with rfl | m
  · exact upd_same
  · rw [upd_ne (ne_of_none (c.at_ q m) h)]
    exact c.at_ q m
/-- one part of the cells, changed -/
theorem Cells.frame {H H' : Hp} {M1 M2 M2' M3 : List Cell} (c : Cells H (M1 ++ M2 ++ M3)) (d : Cells H' M2') (u : Upd (keys M2) (keys M2') H H') : Cells H' (M1 ++ M2' ++ M3) ∧ Upd (keys (M1 ++ M2 ++ M3)) (keys (M1 ++ M2' ++ M3)) H H' := by
  have nd := c.nd
  rw [keys_app, keys_app, List.append_assoc, List.nodup_append] at nd
  obtain ⟨n1, n23, dis1⟩ := nd
  rw [List.nodup_append] at n23
  obtain ⟨n2, n3, dis2⟩ := n23
  have a1 : ∀ x ∈ keys M1, ∃ o, H x = some o := fun x m => c.alive (by rw [keys_app, keys_app]; exact List.mem_append_left _ (List.mem_append_left _ m))
  have a3 : ∀ x ∈ keys M3, ∃ o, H x = some o := fun x m => c.alive (by rw [keys_app]; exact List.mem_append_right _ m)
  have out : ∀ x, (∃ o, H x = some o) → x ∉ keys M2 → x ∉ keys M2' := fun x ⟨o, e⟩ h m => (u.nw x m).elim h fun z => by rw [e] at z; cases z
  refine ⟨⟨?_, fun q m => ?_⟩, u.grow (fun x m => ?_) (fun x m => ?_)⟩
  · rw [keys_app, keys_app, List.append_assoc, List.nodup_append, List.nodup_append]
    refine ⟨n1, ⟨d.nd, n3, fun x h2 y h3 e => ?_⟩, fun x h1 y h23 e => ?_⟩
    · subst e
      exact out x (a3 x h3) (fun m => dis2 x m x h3 rfl) h2
    · subst e
      rcases List.mem_append.mp h23 with h2 | h3
      · exact out x (a1 x h1) (fun m => dis1 x h1 x (List.mem_append_left _ m) rfl) h2
      · exact dis1 x h1 x (List.mem_append_right _ h3) rfl
  · rcases List.mem_append.mp m with m | m
    · rcases List.mem_append.mp m with m | m
      · exact u.fr _ _ (c.at_ q (List.mem_append_left _ (List.mem_append_left _ m))) fun z => absurd rfl (dis1 _ (mem_keys m) _ (List.mem_append_left _ z))
      · exact d.at_ q m
    · exact u.fr _ _ (c.at_ q (List.mem_append_right _ m)) fun z => absurd rfl (dis2 _ z _ (mem_keys m))
  · rw [keys_app, keys_app]
    exact List.mem_append_left _ (List.mem_append_right _ m)
  · rw [keys_app, keys_app] at m
    rcases List.mem_append.mp m with m | m
    · rcases List.mem_append.mp m with m | m
      · exact .inl (by rw [keys_app, keys_app]; exact List.mem_append_left _ (List.mem_append_left _ m))
      · exact .inr m
    · exact .inl (by rw [keys_app]; exact List.mem_append_right _ m)
theorem Cells.set {H : Hp} {M1 M3 : List Cell} {a : Addr} {o o' : HO} (c : Cells H (M1 ++ (a, o) :: M3)) (n : imm o = false) : Cells (upd H a o') (M1 ++ (a, o') :: M3) ∧ Upd (keys (M1 ++ (a, o) :: M3)) (keys (M1 ++ (a, o') :: M3)) H (upd H a o') := by
  have h : H a = some o := c.get (by simp)
  have e : ∀ v : HO, M1 ++ (a, v) :: M3 = M1 ++ [(a, v)] ++ M3 := fun v => by simp
  rw [e] at c ⊢
  rw [e]
  exact c.frame (M2' := [(a, o')]) ⟨by simp [keys], fun q m => by rw [List.mem_singleton.mp m]; exact upd_same⟩ (Upd.one h n)
/-! ### steps from cells to cells -/
structure Run (H : Hp) (M : List Cell) (H' : Hp) (M' : List Cell) : Prop where
  c : Cells H' M'
  u : Upd (keys M) (keys M') H H'
section
variable {H H1 H2 : Hp} {M M1 M2 A B : List Cell} {a : Addr} {o o' : HO}
theorem Run.refl (c : Cells H M) : Run H M H M := ⟨c, Upd.refl _ _⟩
theorem Run.trans (r : Run H M H1 M1) (t : Run H1 M1 H2 M2) : Run H M H2 M2 := ⟨t.c, r.u.trans t.u⟩
theorem Run.im (r : Run H M H1 M1) : Im H H1 := r.u.im
theorem Run.same (r : Run H M H1 M1) (s : Same H1 H2) : Run H M H2 M1 := ⟨r.c.same s, r.u.trans (Upd.same s)⟩
theorem Run.add (r : Run H M H1 M1) (h : H1 a = none) : Run H M (upd H1 a o) ((a, o) :: M1) := ⟨r.c.add h, r.u.trans (Upd.of_same (same_upd h) fun x m => by
  rcases List.mem_cons.mp m with rfl | m
  · exact .inr h
  · exact .inl m)⟩
theorem Run.own {x dx : Addr} (r : Run H M H1 M1) (hx : H1 x = none) (hd : H1 dx = none) (n : x ≠ dx) : Run H M (upd (upd H1 dx (.own x)) x o) ((x, o) :: M1) := (r.same (same_upd hd)).add (by rw [upd_ne n]; exact hx)
theorem Run.set (r : Run H M H1 (A ++ (a, o) :: B)) (n : imm o = false) : Run H M (upd H1 a o') (A ++ (a, o') :: B) := by
  obtain ⟨c, u⟩ := r.c.set (o' := o') n
  exact ⟨c, r.u.trans u⟩
theorem Run.perm (r : Run H M H1 M1) (p : M1.Perm M2) : Run H M H1 M2 := ⟨r.c.perm p, r.u.trans ⟨fun _ _ e _ => e, fun _ m => .inl ((p.map _).mem_iff.mpr m)⟩⟩
theorem Run.sub (r : Run H M H1 M1) (s : M2.Sublist M1) : Run H M H1 M2 := ⟨r.c.sub s, r.u.trans ⟨fun _ _ e _ => e, fun _ m => .inl ((s.map _).subset m)⟩⟩
theorem Run.frame {N N' : List Cell} (r : Run H M H1 (A ++ N ++ B)) (t : Run H1 N H2 N') : Run H M H2 (A ++ N' ++ B) := by
  obtain ⟨c, u⟩ := r.c.frame t.c t.u
  exact ⟨c, r.u.trans u⟩
theorem Run.frameR {N N' : List Cell} (r : Run H M H1 (A ++ N)) (t : Run H1 N H2 N') : Run H M H2 (A ++ N') := by
  have := Run.frame (B := []) (by rw [List.append_nil]; exact r) t
  rw [List.append_nil] at this
  exact this
theorem Run.frameL {N N' : List Cell} (r : Run H M H1 (N ++ B)) (t : Run H1 N H2 N') : Run H M H2 (N' ++ B) := Run.frame (A := []) r t
theorem Cells.left {A B : List Cell} (c : Cells H (A ++ B)) : Cells H A := c.sub (List.sublist_append_left _ _)
theorem Cells.right {A B : List Cell} (c : Cells H (A ++ B)) : Cells H B := c.sub (List.sublist_append_right _ _)
end
theorem Run.new {H H1 H2 : Hp} {M M1 : List Cell} {a : Addr} {o : HO} (r : Run H M H1 M1) (s : Same H1 H2) (h : H1 a = none) (e : H2 a = some o) : Run H M H2 ((a, o) :: M1) := by
  refine ⟨⟨List.nodup_cons.mpr ⟨r.c.fresh h, r.c.nd⟩, fun q m => ?_⟩, r.u.trans (Upd.of_same s fun x m => ?_)⟩
  · rcases List.mem_cons.mp m with rfl | m
    · exact e
    · exact s _ _ (r.c.at_ q m)
  · rcases List.mem_cons.mp m with rfl | m
    · exact .inr h
    · exact .inl m
/-- what stands at the rows of what is sent -/
def RwI (H : Hp) : List Addr → List (Str × Str) → Prop
  | [], [] => True
  | t :: ts, z :: zs => H t = some (.tup [.str z.1, .str z.2]) ∧ RwI H ts zs
  | _, _ => False
theorem RwI.im {H H' : Hp} (s : Im H H') : ∀ {ts : List Addr} {zs : List (Str × Str)}, RwI H ts zs → RwI H' ts zs
  | [], [], _ => trivial
  | _ :: _, _ :: _, h => ⟨s _ _ h.1 rfl, h.2.im s⟩
  | [], _ :: _, h => h.elim
  | _ :: _, [], h => h.elim
theorem RwI.len {H : Hp} : ∀ {ts : List Addr} {zs : List (Str × Str)}, RwI H ts zs → ts.length = zs.length
  | [], [], _ => rfl
  | _ :: _, _ :: _, h => congrArg (· + 1) h.2.len
  | [], _ :: _, h => h.elim
  | _ :: _, [], h => h.elim
theorem RwI.app {H : Hp} : ∀ {ts ts' : List Addr} {zs zs' : List (Str × Str)}, RwI H ts zs → RwI H ts' zs' → RwI H (ts ++ ts') (zs ++ zs')
  | [], _, [], _, _, k => k
  | _ :: _, _, _ :: _, _, h, k => ⟨h.1, h.2.app k⟩
  | [], _, _ :: _, _, h, _ => h.elim
  | _ :: _, _, [], _, h, _ => h.elim
theorem RwI.one {H : Hp} {t : Addr} {a b : Str} (e : H t = some (.tup [.str a, .str b])) : RwI H [t] [(a, b)] := ⟨e, trivial⟩
end TKC
set_option maxHeartbeats 2000000
/-! heads of large texts: what a head looks at, each level from the one before, with no search for what is there twice -/
namespace TKH
open PySem PySem.Spec PyProof.Rows L2 SX TK
def refsL (g : Addr → Option Obj) (as : List Addr) : List Addr := as.flatMap fun a => match g a with
  | some o => He.refsD o
  | none => []
def asN (g : Addr → Option Obj) : Nat → List Addr → List Addr
  | 0, as => as
  | n + 1, as => as ++ asN g n (refsL g as)
def obsN (n : Nat) (fa : List He.Fa) (fn : List He.DefD) (ex : PySem.W.Frag → List Bool) (g : Addr → Option Obj) : He.AlD :=
  ((He.obsD fa fn (He.frG g (asN g n [mainGlobals]))).1 && (ex (He.frG g (asN g n [mainGlobals]))).all id, (He.obsD fa fn (He.frG g (asN g n [mainGlobals]))).2)
def hookN (n : Nat) (fa : List He.Fa) (fn : List He.DefD) (ex : PySem.W.Frag → List Bool) : PySem.W.Hook where
  α := He.AlD
  obs s := obsN n fa fn ex s.heap.get?
  val _ := He.valD fn
  says _ h := ∃ K : PySem.W.Frag, K.In h ∧ He.SaysD fa fn K ∧ (ex K).all id = true
  of _ _ e := by
    have e1 := congrArg (fun z : He.AlD => z.1) e
    have e2 := congrArg (fun z : He.AlD => z.2) e
    obtain ⟨a, b⟩ := Bool.and_eq_true_iff.mp e1
    exact ⟨_, He.frG_in, Prod.ext a e2, b⟩
  keeps _ _ _ c k := let ⟨K, hK, c1, c2⟩ := c; ⟨K, PySem.W.Frag.In.keeps hK k, c1, c2⟩
theorem obsN_eq {n : Nat} {fa : List He.Fa} {fn : List He.DefD} {ex : PySem.W.Frag → List Bool} {g : Addr → Option Obj} {s : Shared} (h : ∀ a, g a = s.heap.get? a) : obsN n fa fn ex g = (hookN n fa fn ex).obs s := by
  obtain rfl : g = s.heap.get? := funext h
  rfl
end TKH
set_option maxHeartbeats 4000000
set_option pp.maxSteps 400
namespace K19
open PySem PySem.Spec PyProof.Rows L2 SX TK TKS TKC
open C8 (pe_c)
/-! ### the law's source of draws -/
def spState (K : PySem.W.Frag) : Sp := fun vs H Q _ => ∃ (a : Addr) (ns : List Int), vs = [.ref a] ∧ SqL K H a (ns.map V.int) ∧ ns.length ≤ 63 ∧ ∀ s c H', Same H H' → H s = none → H c = none → StAt H' s c → Q (.ref s) H'
theorem ok_law_state {P : Program} {w : World} {K : PySem.W.Frag} {mg : Str → Option Value} {base : Heap} {f : Addr} {fd : FuncData} (T : Tx K mg) 
    (F : FunD K "_law_state" "_law_state" (defArgs s_law_state) (defBody s_law_state) (defScope s_law_state) [] [] f fd) : FnOk P w K mg base CX0 1 f fd ["script"] (spState K) := by
  refine F.ok sc_law_state (fun vs H Q E h => ?_) (fun cdv A outer s H vs Q E hr h => ?_)
  · obtain ⟨a, ns, rfl, _⟩ := h
    rfl
  · obtain ⟨a, ns, rfl, hS, hn, k⟩ := h
    refine ⟨_, PSs.nox (pss_cons (ps_set (i := 1) sc_law_state.nd rfl (Or.inl rfl) pe_int) (pss_cons (ps_for PassesOwn.never rfl (pi_list (pv 0)) (pg_name (i := 2) sc_law_state.nd rfl (Or.inl rfl)) (pss_one (ps_set (i := 1) sc_law_state.nd rfl (Or.inl rfl) (pe_op op_mod (pe_callTy call_int1 rfl T.f_int (by decide +kernel) (pa_cons (pe_op op_add (pe_op op_mul (pv 1) pe_int) (pv 2)) pa_nil)) pe_int)))) (pss_one (ps_ret (pe_lst (pa_cons (pe_lc (own := [("cell", 2)]) (g := gName 2) rfl sc_law_state.nd (pi_list (pv 0)) (blkOk_by (own := [("cell", 2)]) (N := ["script", "seed", "cell"]) (sc := defScope s_law_state) (by decide +kernel)) (fun _ _ _ _ _ => pg_name (i := 2) sc_law_state.nd rfl (Or.inl rfl)) (fun _ _ _ _ _ => pts_nil) (fun _ _ _ _ _ => (pe_callB call_abs rfl T.f_abs (by decide +kernel) (pa_cons (pv 2) pa_nil)))) (pa_cons (pe_op op_add (pv 1) pe_int) pa_nil))))))), ?_⟩
    refine ⟨_, rfl, a, rfl, ⟨_, hS⟩, for_list (K := K) (a := a) (xs := ns.map V.int) (fun i σ H' => H' = H ∧ ∃ (n : Int) (v : Option V), σ = [some (.ref a), some (.int n), v]) ⟨rfl, 7, none, rfl⟩ (fun i σ H' _ q => q.1 ▸ hS) ?_ ?_⟩
    · rintro i y σ H' hi ⟨rfl, n, v, rfl⟩
      obtain ⟨z, rfl⟩ : ∃ z, y = V.int z := by
        obtain ⟨z, _, e⟩ := List.mem_map.mp (List.mem_of_getElem? hi)
        exact ⟨z, e.symm⟩
      refine ⟨_, rfl, _, _, rfl, rfl, .inr ⟨by decide, by decide⟩, _, rfl, _, _, rfl, rfl, .inl ⟨_, rfl, _, _, rfl, rfl, (by show (0 : Int) < 1000003; decide), rfl, _, _, rfl⟩⟩
    · rintro σ H' ⟨rfl, n, v, rfl⟩
      refine ⟨_, rfl, a, rfl, ⟨_, hS⟩, fun D hD => ?_⟩
      have hS2 : ∀ o, SqL K (upd H' D o) a (ns.map V.int) := fun o => (same_upd hD).seq hS
      refine lc_pureN walk_list (fun i => V.int (if ns.getD i 0 < 0 then -(ns.getD i 0) else ns.getD i 0)) (by rw [List.length_map]; exact Nat.le_trans hn (by decide)) (fun _ _ => hS2 _) (fun i x H1 kk hi y q => ?_) ?_
      · obtain ⟨rfl, hx⟩ := y
        refine ⟨rfl, _, rfl, ns.getD i 0, ?_, q⟩
        rw [List.getElem?_map] at hx
        rw [List.length_map] at hi
        rw [List.getElem?_eq_getElem hi] at hx
        rw [List.getD_eq_getElem?_getD, List.getElem?_eq_getElem hi]
        exact congrArg (fun v => [v]) (Option.some.inj hx).symm
      · refine ⟨_, rfl, _, _, rfl, rfl, by show 2 ≤ sizeLine; decide, fun p hp => ?_⟩
        have npD : p ≠ D := fun e => by
          rw [e, upd_same] at hp
          cases hp
        have hp0 : H' p = none := by
          rw [upd_ne npD] at hp
          exact hp
        refine k p D _ ((same_upd hD).trans (same_upd hp)) hp0 hD ⟨npD, ⟨_, upd_same⟩, ns.map (fun i => if i < 0 then -i else i), ?_, ?_⟩
        · rw [upd_ne npD.symm, upd_same, List.length_map, List.map_map]
          exact congrArg (fun l => some (HO.lst l)) (range_map_getD ns 0 fun i => V.int (if i < 0 then -i else i))
        · rw [List.length_map]
          exact hn
def spDraw : Sp := fun vs H Q _ => ∃ (s c : Addr) (m : Int), vs = [.ref s, .int m] ∧ StAt H s c ∧ 0 < m ∧ m < 1073741824 ∧ ∀ r H', 0 ≤ r → r < m → StAt H' s c → Keep H H' s c → Q (.int r) H'
theorem ok_law_draw {P : Program} {w : World} {K : PySem.W.Frag} {mg : Str → Option Value} {base : Heap} {f : Addr} {fd : FuncData} (T : Tx K mg) 
    (F : FunD K "_law_draw" "_law_draw" (defArgs s_law_draw) (defBody s_law_draw) (defScope s_law_draw) [] [] f fd) : FnOk P w K mg base CX0 1 f fd ["state", "many"] spDraw := by
  refine F.ok sc_law_draw (fun vs H Q E h => ?_) (fun cdv A outer s0 H vs Q E hr h => ?_)
  · obtain ⟨s, c, m, rfl, _⟩ := h
    rfl
  · obtain ⟨s, c, m, rfl, ⟨ne, ⟨n, h1⟩, ns, h2, h3⟩, hm0, hm1, k⟩ := h
    refine ⟨_, PSs.nox (pss_cons (ps_set (i := 2) sc_law_draw.nd rfl (Or.inl rfl) (pe_ix ix_list (pv 0) pe_int (fun _ _ => rfl))) (C8.pss_cut (ps_while PassesOwn.never (PW.pt (pw_and (pt_cmpR op_gt (pe_callB call_len_seq rfl T.f_len PySem.boot_len (pa_cons (pv 2) pa_nil)) pe_int (nomark _)) (pw_and1 (pt_cmpR op_eq (pe_ix ix_list (pv 2) pe_int (fun _ _ => rfl)) pe_int (nomark _))))) (pss_one (ps_expr (pe_bm PySem.F.plainAttrs_list PySem.F.slot_list_pop PySem.F.type_list_pop mt_popAt (pv 2) (pa_cons pe_int pa_nil))))) (C8.pss_cut (ps_if (pt_cmpR op_gt (pe_callB call_len_seq rfl T.f_len PySem.boot_len (pa_cons (pv 2) pa_nil)) pe_int (nomark _)) (pss_cons (ps_set (i := 3) sc_law_draw.nd rfl (Or.inl rfl) (pe_ix ix_list (pv 2) pe_int (fun _ _ => rfl))) (pss_cons (ps_asg (pe_op op_fdiv (pv 3) (pv 1)) (pg_sub (pv 2) pe_int set_list)) (pss_one (ps_ret (pe_op op_mod (pe_callTy call_int1 rfl T.f_int (by decide +kernel) (pa_cons (pv 3) pa_nil)) (pv 1)))))) pss_nil) (pss_cons (ps_set (i := 4) sc_law_draw.nd rfl (Or.inl rfl) (pe_op op_mod (pe_callTy call_int1 rfl T.f_int (by decide +kernel) (pa_cons (pe_op op_add (pe_op op_mul (pe_ix ix_list (pv 0) pe_int (fun _ _ => rfl)) pe_int) pe_int) pa_nil)) pe_int)) (pss_cons (ps_asg (pv 4) (pg_sub (pv 0) pe_int set_list)) (pss_one (ps_ret (pe_op op_mod (pe_callTy call_int1 rfl T.f_int (by decide +kernel) (pa_cons (pe_op op_fdiv (pv 4) pe_int) pa_nil)) (pv 1))))))))), ?_⟩
    refine ⟨_, rfl, s, _, 0, _, rfl, rfl, SqL.of h1, rfl, ?_⟩
    let I : L2.St → Hp → List Int → Prop := fun σ H' ns' => σ = [some (.ref s), some (.int m), some (.ref c), none, none] ∧ H' s = some (.lst [.ref c, .int n]) ∧ Keep H H' s c ∧ H' c = some (.lst (ns'.map V.int)) ∧ ns'.length ≤ 63
    refine ⟨fun σ H' => ∃ ns', I σ H' ns', ?_, ?_⟩
    · refine ⟨fun l σ H' => ∃ ns', l = ns'.length ∧ I σ H' ns', ⟨ns.length, ns, rfl, rfl, h1, Keep.refl _ _ _, h2, h3⟩, ?_⟩
      rintro l σ H' ⟨ns', rfl, rfl, g1, kp, g2, g3⟩
      refine ⟨_, rfl, c, _, rfl, .inl (SqL.of g2), _, _, rfl, rfl, _, rfl, ?_⟩
      cases ns' with
      | nil => exact iteF (iteF ⟨[], rfl, g1, kp, g2, g3⟩)
      | cons v r =>
        rw [List.length_map, decide_eq_true (by rw [List.length_cons]; omega)]
        refine iteT ?_
        refine ⟨_, rfl, c, _, 0, V.int v, rfl, rfl, SqL.of g2, atC _ _, rfl, _, rfl, ?_⟩
        refine ite2 (fun h5 => ?_) (fun h5 => ⟨v :: r, rfl, g1, kp, g2, g3⟩)
        refine ⟨fun σ' H2 => ∃ l, l < (v :: r).length ∧ ∃ ns', l = ns'.length ∧ I σ' H2 ns', fun _ _ q => q, ?_⟩
        refine ⟨_, rfl, .inl ⟨rfl, _, SqL.of g2⟩, c, _, 0, 0, V.int v, rfl, rfl, g2, by decide, by decide, sqC _ _, rfl, ?_⟩
        refine ⟨r.length, Nat.lt_succ_self _, r, rfl, rfl, ?_, fun b o e q1 q2 => ?_, upd_same, Nat.le_of_succ_le g3⟩
        · rw [upd_ne ne]
          exact g1
        · rw [upd_ne q2]
          exact kp b o e q1 q2
    · rintro σ H' ⟨ns', rfl, g1, kp, g2, g3⟩
      refine ⟨fun σ' H2 => σ' = [some (.ref s), some (.int m), some (.ref c), none, none] ∧ H2 = H', ?_, ?_⟩
      · refine ⟨_, rfl, c, _, rfl, .inl (SqL.of g2), _, _, rfl, rfl, _, rfl, ?_⟩
        cases ns' with
        | nil => exact iteF ⟨rfl, rfl⟩
        | cons v r =>
          rw [List.length_map, decide_eq_true (by rw [List.length_cons]; omega)]
          refine iteT ?_
          refine ⟨_, rfl, c, _, 0, V.int v, rfl, rfl, SqL.of g2, atC _ _, ?_⟩
          refine ⟨_, rfl, _, rfl, _, _, rfl, rfl, ⟨hm0, hm1⟩, _, rfl, c, _, 0, 0, rfl, rfl, g2, ixC _ _, ?_⟩
          refine ⟨_, rfl, .inl ⟨_, rfl, _, rfl, _, _, rfl, rfl, hm0, ?_⟩⟩
          refine k _ _ (Int.emod_nonneg _ (by omega)) (Int.emod_lt_of_pos _ hm0) ⟨ne, ⟨n, ?_⟩, (v / m) :: r, upd_same, g3⟩ (fun b o e q1 q2 => ?_)
          · rw [upd_ne ne]
            exact g1
          · rw [upd_ne q2]
            exact kp b o e q1 q2
      · rintro σ' H2 ⟨rfl, rfl⟩
        refine ⟨_, rfl, s, _, 1, _, rfl, rfl, SqL.of g1, rfl, _, _, rfl, rfl, .inr ⟨by decide, by decide⟩, _, _, rfl, rfl, .inl ⟨_, rfl, _, _, rfl, rfl, (by show (0 : Int) < 2147483647; decide), ?_⟩⟩
        refine ⟨_, rfl, _, rfl, s, _, 1, 1, rfl, rfl, g1, rfl, ?_⟩
        refine ⟨_, rfl, _, _, rfl, rfl, ⟨by decide, by decide⟩, .inl ⟨_, rfl, _, rfl, _, _, rfl, rfl, hm0, ?_⟩⟩
        refine k _ _ (Int.emod_nonneg _ (by omega)) (Int.emod_lt_of_pos _ hm0) ⟨ne, ⟨_, upd_same⟩, ns', ?_, g3⟩ (fun b o e q1 q2 => ?_)
        · rw [upd_ne ne.symm]
          exact g2
        · rw [upd_ne q1]
          exact kp b o e q1 q2
/-- of a text: one of its signs; of a list: one of its items -/
def spPick : Sp := fun vs H Q _ => ∃ (s c : Addr) (x : V), vs = [.ref s, x] ∧ StAt H s c ∧
  ((∃ z : Str, x = .str z ∧ 0 < z.length ∧ z.length ≤ 1000 ∧ ∀ ch H', ch ∈ TL.tl z → StAt H' s c → Keep H H' s c → Q (.str (S [ch])) H') ∨
   (∃ a xs, x = .ref a ∧ H a = some (.lst xs) ∧ a ≠ s ∧ a ≠ c ∧ 0 < xs.length ∧ xs.length ≤ 1000 ∧ ∀ v ∈ xs, ∀ H', StAt H' s c → Keep H H' s c → Q v H'))
theorem ok_law_pick {P : Program} {w : World} {K : PySem.W.Frag} {mg : Str → Option Value} {base : Heap} {f : Addr} {fd : FuncData} (T : Tx K mg) (c_law_draw : C8.Cal P w K mg base 1 "_law_draw" spDraw [])
    (F : FunD K "_law_pick" "_law_pick" (defArgs s_law_pick) (defBody s_law_pick) (defScope s_law_pick) [] [] f fd) : FnOk P w K mg base CX0 2 f fd ["state", "row"] spPick := by
  refine F.ok sc_law_pick (fun vs H Q E h => ?_) (fun cdv A outer s0 H vs Q E hr h => ?_)
  · obtain ⟨s, c, x, rfl, _⟩ := h
    rfl
  · obtain ⟨s, c, x, rfl, hst, h⟩ := h
    refine ⟨_, PSs.nox (pss_one (ps_ret (pe_ix ix_seq (pv 1) (pe_c c_law_draw hr (by decide) rfl (pa_cons (pv 0) (pa_cons (pe_callB call_len rfl T.f_len PySem.boot_len (pa_cons (pv 1) pa_nil)) pa_nil))) (fun _ _ => rfl)))), ?_⟩
    rcases h with ⟨z, rfl, z0, z1, k⟩ | ⟨a, xs, rfl, ha, as, ac, x0, x1, k⟩
    · have hz2 : z.length ≤ sizeLine := Nat.le_trans z1 (by decide)
      refine ⟨_, rfl, _, rfl, _, rfl, _, z.length, rfl, ⟨hz2, rfl⟩, s, c, _, rfl, hst, by omega, by omega, fun r H' r0 r1 st' kp' => ?_⟩
      have hl : r < ((TL.tl z).length : Nat) := by rw [← len_eq]; exact r1
      refine .inr (.inr ⟨z, r, _, rfl, rfl, hz2, atN 0 r0 hl, ?_⟩)
      refine k _ H' ?_ st' kp'
      have hl2 : r.toNat < (TL.tl z).length := by omega
      rw [List.getD_eq_getElem?_getD, List.getElem?_eq_getElem hl2]
      exact List.getElem_mem _
    · have hx2 : xs.length ≤ sizeLine := Nat.le_trans x1 (by decide)
      refine ⟨_, rfl, _, rfl, _, rfl, _, xs.length, rfl, .inl ⟨xs, SqL.of ha, rfl⟩, s, c, _, rfl, hst, by omega, by omega, fun r H' r0 r1 st' kp' => ?_⟩
      refine .inl ⟨a, xs, r, _, rfl, rfl, SqL.of (kp' a _ ha as ac), atN .non r0 r1, ?_⟩
      refine k _ ?_ H' st' kp'
      rw [List.getD_eq_getElem?_getD, List.getElem?_eq_getElem (by omega)]
      exact List.getElem_mem _

/-! ### waits -/
def wfl (b f g d : Int) : List (Str × V) := [("_began", .int b), ("_first", .int f), ("_gap", .int g), ("_due", .int d)]
instance {b f g d : Int} : SmallF (wfl b f g d) 4 := ⟨Nat.le_refl _⟩
def WtAt (K : PySem.W.Frag) (H : Hp) (a : Addr) (b f g d : Int) : Prop := ∃ dx, H a = some (.ins (He.ga K "Wait") dx (wfl b f g d))
def spWaitInit (K : PySem.W.Frag) : Sp := fun vs H Q _ => ∃ (p dx : Addr) (now f : Int), vs = [.ref p, .int now, .int f] ∧ H p = some (.ins (He.ga K "Wait") dx []) ∧ Q .non (upd H p (.ins (He.ga K "Wait") dx (wfl now f f (now + f))))
theorem ok_Wait___init {P : Program} {w : World} {K : PySem.W.Frag} {mg : Str → Option Value} {base : Heap} {f : Addr} {fd : FuncData} (T : Tx K mg) 
    (F : FunD K "__init__" "Wait.__init__" (defArgs s_Wait___init) (defBody s_Wait___init) (defScope s_Wait___init) [] [] f fd) : FnOk P w K mg base CX0 1 f fd ["self", "now", "first"] (spWaitInit K) := by
  refine F.ok sc_Wait___init (fun vs H Q E h => ?_) (fun cdv A outer s H vs Q E hr h => ?_)
  · obtain ⟨p, dx, now, f, rfl, _⟩ := h
    rfl
  · obtain ⟨p, dx, now, f, rfl, hp, k⟩ := h
    refine ⟨_, PSs.nox (pss_cons (ps_fldC rfl T.cl_Wait T.na_Wait__began (pv 0) (pv 1) rfl) (pss_cons (ps_fldC rfl T.cl_Wait T.na_Wait__first (pv 0) (pv 2) rfl) (pss_cons (ps_fldC rfl T.cl_Wait T.na_Wait__gap (pv 0) (pv 2) rfl) (pss_one (ps_fldC rfl T.cl_Wait T.na_Wait__due (pv 0) (pe_op op_add (pv 1) (pv 2)) rfl))))), ?_⟩
    refine ⟨_, rfl, _, rfl, p, dx, _, rfl, hp, sm, ?_⟩
    refine ⟨_, rfl, _, rfl, p, dx, _, rfl, upd_same, sm, ?_⟩
    refine ⟨_, rfl, _, rfl, p, dx, _, rfl, upd_same, sm, ?_⟩
    refine ⟨_, rfl, _, rfl, _, _, rfl, rfl, _, rfl, p, dx, _, rfl, upd_same, sm, ?_⟩
    simp only [upd_upd]
    exact k
def minI (i j : Int) : Int := if j < i then j else i
def spRepeats (K : PySem.W.Frag) : Sp := fun vs H Q _ => ∃ (a : Addr) (b f g d now : Int), vs = [.ref a, .int now] ∧ WtAt K H a b f g d ∧
  ((now < d ∧ Q (.bl false) H) ∨ (¬ now < d ∧ ∀ H', WtAt K H' a b f (minI (2 * g) (8 * f)) (now + minI (2 * g) (8 * f)) → (∀ c o, H c = some o → c ≠ a → H' c = some o) → Q (.bl true) H'))
theorem ok_Wait_repeats {P : Program} {w : World} {K : PySem.W.Frag} {mg : Str → Option Value} {base : Heap} {f : Addr} {fd : FuncData} (T : Tx K mg) 
    (F : FunD K "repeats" "Wait.repeats" (defArgs s_Wait_repeats) (defBody s_Wait_repeats) (defScope s_Wait_repeats) [] [] f fd) : FnOk P w K mg base CX0 1 f fd ["self", "now"] (spRepeats K) := by
  refine F.ok sc_Wait_repeats (fun vs H Q E h => ?_) (fun cdv A outer s H vs Q E hr h => ?_)
  · obtain ⟨a, b, f, g, d, now, rfl, _⟩ := h
    rfl
  · obtain ⟨a, b, f, g, d, now, rfl, ⟨dx, hp⟩, h⟩ := h
    refine ⟨_, PSs.nox (C8.pss_cut (ps_if (pt_cmpR op_lt (pv 1) (pe_fldC rfl T.cl_Wait T.na_Wait__due (pv 0) rfl) (nomark _)) (pss_one (ps_ret pe_bl)) pss_nil) (pss_cons (ps_fldC rfl T.cl_Wait T.na_Wait__gap (pv 0) (pe_callB (call_min2 rfl) rfl T.f_min (by decide +kernel) (pa_cons (pe_op op_mul pe_int (pe_fldC rfl T.cl_Wait T.na_Wait__gap (pv 0) rfl)) (pa_cons (pe_op op_mul (pgI T.g_GREATEST_GAP) (pe_fldC rfl T.cl_Wait T.na_Wait__first (pv 0) rfl)) pa_nil))) rfl) (pss_cons (ps_fldC rfl T.cl_Wait T.na_Wait__due (pv 0) (pe_op op_add (pv 1) (pe_fldC rfl T.cl_Wait T.na_Wait__gap (pv 0) rfl)) rfl) (pss_one (ps_ret pe_bl))))), ?_⟩
    rcases h with ⟨h1, k⟩ | ⟨h1, k⟩
    · refine ⟨fun _ _ => False, ?_, fun _ _ z => z.elim⟩
      refine ⟨_, rfl, _, rfl, a, dx, _, _, rfl, hp, rfl, _, _, rfl, rfl, _, rfl, ?_⟩
      rw [decide_eq_true h1]
      exact iteT k
    · refine ⟨fun σ' H' => σ' = [some (.ref a), some (.int now)] ∧ H' = H, ?_, ?_⟩
      · refine ⟨_, rfl, _, rfl, a, dx, _, _, rfl, hp, rfl, _, _, rfl, rfl, _, rfl, ?_⟩
        rw [decide_eq_false h1]
        exact iteF ⟨rfl, rfl⟩
      rintro σ' H' ⟨rfl, rfl⟩
      refine ⟨_, rfl, a, dx, _, _, rfl, hp, rfl, _, _, rfl, rfl, .inl ⟨by decide, by decide⟩, _, rfl, a, dx, _, _, rfl, hp, rfl, _, _, rfl, rfl, .inl ⟨by decide, by decide⟩, _, _, rfl, _, rfl, a, dx, _, rfl, hp, sm, ?_⟩
      refine ⟨_, rfl, _, rfl, a, dx, _, _, rfl, upd_same, rfl, _, _, rfl, rfl, _, rfl, a, dx, _, rfl, upd_same, sm, ?_⟩
      rw [upd_upd]
      refine k _ ⟨dx, upd_same⟩ fun c o e hc => ?_
      rw [upd_ne hc]
      exact e
def spIsUp (K : PySem.W.Frag) : Sp := fun vs H Q _ => ∃ (a : Addr) (b f g d now : Int), vs = [.ref a, .int now] ∧ WtAt K H a b f g d ∧ Q (.bl (decide (32 * f ≤ now - b))) H
theorem ok_Wait_is_up {P : Program} {w : World} {K : PySem.W.Frag} {mg : Str → Option Value} {base : Heap} {f : Addr} {fd : FuncData} (T : Tx K mg) 
    (F : FunD K "is_up" "Wait.is_up" (defArgs s_Wait_is_up) (defBody s_Wait_is_up) (defScope s_Wait_is_up) [] [] f fd) : FnOk P w K mg base CX0 1 f fd ["self", "now"] (spIsUp K) := by
  refine F.ok sc_Wait_is_up (fun vs H Q E h => ?_) (fun cdv A outer s H vs Q E hr h => ?_)
  · obtain ⟨a, b, f, g, d, now, rfl, _⟩ := h
    rfl
  · obtain ⟨a, b, f, g, d, now, rfl, ⟨dx, hp⟩, k⟩ := h
    refine ⟨_, PSs.nox (pss_one (ps_ret (pe_cmpR op_ge (pe_op op_sub (pv 1) (pe_fldC rfl T.cl_Wait T.na_Wait__began (pv 0) rfl)) (pe_op op_mul (pgI T.g_LIMIT) (pe_fldC rfl T.cl_Wait T.na_Wait__first (pv 0) rfl)) (nomark _)))), ?_⟩
    exact ⟨_, rfl, _, rfl, a, dx, _, _, rfl, hp, rfl, _, _, rfl, rfl, _, rfl, a, dx, _, _, rfl, hp, rfl, _, _, rfl, rfl, .inl ⟨by decide, by decide⟩, _, _, rfl, rfl, k⟩

def spFinal : Sp := fun vs H Q _ => ∃ c : Int, vs = [.int c] ∧ Q (.bl (decide (c ≥ 20))) H
theorem ok_is_final {P : Program} {w : World} {K : PySem.W.Frag} {mg : Str → Option Value} {base : Heap} {f : Addr} {fd : FuncData} (T : Tx K mg) 
    (F : FunD K "is_final" "is_final" (defArgs s_is_final) (defBody s_is_final) (defScope s_is_final) [] [] f fd) : FnOk P w K mg base CX0 1 f fd ["code"] spFinal := by
  refine F.ok sc_is_final (fun vs H Q E h => ?_) (fun cdv A outer s H vs Q E hr h => ?_)
  · obtain ⟨c, rfl, _⟩ := h
    rfl
  · obtain ⟨c, rfl, k⟩ := h
    refine ⟨_, PSs.nox (pss_one (ps_ret (pe_cmpR op_ge (pv 0) (pgI T.g_LEAST_FINAL_CODE) (nomark _)))), ?_⟩
    exact ⟨_, rfl, _, _, rfl, rfl, k⟩
end K19
set_option maxHeartbeats 4000000
set_option pp.maxSteps 400
namespace K19
open PySem PySem.Spec PyProof.Rows L2 SX TK TKS TKC
open C8 (pe_c)
/-! ### clients -/
theorem vstr (a b : Str) : decide (V.str a = V.str b) = decide (a = b) := by
  by_cases h : a = b
  · rw [h, decide_eq_true rfl, decide_eq_true rfl]
  · rw [decide_eq_false h, decide_eq_false fun e => h (V.str.inj e)]
inductive CS where | cl | wt | sp | fn | ov
  deriving DecidableEq
def CS.s : CS → Str | .cl => "calling" | .wt => "waiting" | .sp => "stopping" | .fn => "final" | .ov => "over"
structure ClR where
  p : Addr
  dx : Addr
  la : Addr
  wa : Addr
  wx : Addr
  ka : Addr
  L : Ltr
  o : Option Off
  pl : Str
  f : Int
  st : CS
  b : Int
  g : Int
  d : Int
  kl : List Addr
  kz : Str
def clfl (la : Addr) (pl st : Str) (f : Int) (wa ka : Addr) : List (Str × V) := [("letter", .ref la), ("place", .str pl), ("state", .str st), ("_first", .int f), ("_wait", .ref wa), ("_keep", .ref ka)]
instance {la : Addr} {pl st : Str} {f : Int} {wa ka : Addr} : SmallF (clfl la pl st f wa ka) 6 := ⟨Nat.le_refl _⟩
def clO (K : PySem.W.Frag) (c : ClR) : HO := .ins (He.ga K "Client") c.dx (clfl c.la c.pl c.st.s c.f c.wa c.ka)
def wtO (K : PySem.W.Frag) (c : ClR) : HO := .ins (He.ga K "Wait") c.wx (wfl c.b c.f c.g c.d)
def clM (K : PySem.W.Frag) (c : ClR) : List Cell := [(c.p, clO K c), (c.wa, wtO K c), (c.ka, .lst (c.kl.map V.ref))]
/-- what a client rests on that does not change -/
structure ClI (K : PySem.W.Frag) (H : Hp) (c : ClR) : Prop where
  lt : LetAt K H c.la c.L
  of : OffO H c.L.offer c.o
  lk : LOk c.L
  xk : XOk c.L c.o
  kn : c.kl.length ≤ 1
  kt : ∀ t ∈ c.kl, H t = some (.tup [.str c.pl, .str c.kz])
theorem LetAt.im {K : PySem.W.Frag} {H H' : Hp} {a : Addr} {L : Ltr} (h : LetAt K H a L) (s : Im H H') : LetAt K H' a L := by
  obtain ⟨dx, e⟩ := h
  exact ⟨dx, s _ _ e rfl⟩
theorem OffAt.im {H H' : Hp} {x : V} {o : Off} (h : OffAt H x o) (s : Im H H') : OffAt H' x o := by
  obtain ⟨p, f, e, e1, e2⟩ := h
  exact ⟨p, f, e, s _ _ e1 rfl, s _ _ e2 rfl⟩
theorem OffO.im {H H' : Hp} {x : V} {o : Option Off} (h : OffO H x o) (s : Im H H') : OffO H' x o := by
  cases o with
  | none => exact h
  | some o => exact OffAt.im h s
theorem ClI.im {K : PySem.W.Frag} {H H' : Hp} {c : ClR} (h : ClI K H c) (s : Im H H') : ClI K H' c := ⟨h.lt.im s, h.of.im s, h.lk, h.xk, h.kn, fun t m => s _ _ (h.kt t m) rfl⟩
def newC (p dx la wa wx ka : Addr) (L : Ltr) (o : Option Off) (pl : Str) (f now : Int) : ClR := ⟨p, dx, la, wa, wx, ka, L, o, pl, f, .cl, now, f, now + f, [], ""⟩
def cl4 (la : Addr) (pl : Str) (f : Int) : List (Str × V) := [("letter", .ref la), ("place", .str pl), ("state", .str "calling"), ("_first", .int f)]
def cl5 (la x : Addr) (pl : Str) (f : Int) : List (Str × V) := [("letter", .ref la), ("place", .str pl), ("state", .str "calling"), ("_first", .int f), ("_wait", .ref x)]
instance {la : Addr} {pl : Str} {f : Int} : SmallF (cl4 la pl f) 4 := ⟨Nat.le_refl _⟩
instance {la x : Addr} {pl : Str} {f : Int} : SmallF (cl5 la x pl f) 5 := ⟨Nat.le_refl _⟩
theorem cells1 {H : Hp} {a : Addr} {o : HO} (h : H a = some o) : Cells H [(a, o)] := ⟨by simp [keys], fun q m => by rw [List.mem_singleton.mp m]; exact h⟩
def spClInit (K : PySem.W.Frag) : Sp := fun vs H Q _ => ∃ (p dx la : Addr) (pl : Str) (now f : Int), vs = [.ref p, .ref la, .str pl, .int now, .int f] ∧ H p = some (.ins (He.ga K "Client") dx []) ∧
  ∀ wa wx ka H', (∀ L o, Run H [(p, .ins (He.ga K "Client") dx [])] H' (clM K (newC p dx la wa wx ka L o pl f now))) → Q .non H'
theorem ok_Client___init {P : Program} {w : World} {K : PySem.W.Frag} {mg : Str → Option Value} {base : Heap} {f : Addr} {fd : FuncData} (T : Tx K mg) (c_mk_Wait : C8.Mak P w K mg base 1 "Wait" (He.ga K "Wait") (spWaitInit K) [])
    (F : FunD K "__init__" "Client.__init__" (defArgs s_Client___init) (defBody s_Client___init) (defScope s_Client___init) [] [] f fd) : FnOk P w K mg base CX0 3 f fd ["self", "letter", "place", "now", "first"] (spClInit K) := by
  refine F.ok sc_Client___init (fun vs H Q E h => ?_) (fun cdv A outer s H vs Q E hr h => ?_)
  · obtain ⟨p, dx, la, pl, now, f, rfl, _⟩ := h
    rfl
  · obtain ⟨p, dx, la, pl, now, f, rfl, hp, k⟩ := h
    refine ⟨_, PSs.nox (pss_cons (ps_fldC rfl T.cl_Client T.na_Client_letter (pv 0) (pv 1) rfl) (pss_cons (ps_fldC rfl T.cl_Client T.na_Client_place (pv 0) (pv 2) rfl) (pss_cons (ps_fldC rfl T.cl_Client T.na_Client_state (pv 0) pe_str rfl) (pss_cons (ps_fldC rfl T.cl_Client T.na_Client__first (pv 0) (pv 4) rfl) (pss_cons (ps_fldC rfl T.cl_Client T.na_Client__wait (pv 0) (C8.pe_mk c_mk_Wait hr (by decide) rfl (pa_cons (pv 3) (pa_cons (pv 4) pa_nil))) rfl) (pss_one (ps_fldC rfl T.cl_Client T.na_Client__keep (pv 0) (pe_lst pa_nil) rfl))))))), ?_⟩
    have r0 := Run.refl (cells1 hp)
    refine ⟨_, rfl, _, rfl, p, dx, _, rfl, hp, sm, ?_⟩
    refine ⟨_, rfl, _, rfl, p, dx, _, rfl, upd_same, sm, ?_⟩
    refine ⟨_, rfl, p, dx, _, rfl, upd_same, sm, ?_⟩
    refine ⟨_, rfl, _, rfl, p, dx, _, rfl, upd_same, sm, ?_⟩
    simp only [upd_upd]
    rw [show putF "_first" (V.int f) (putF "state" (V.str "calling") (putF "place" (V.str pl) (putF "letter" (V.ref la) []))) = (cl4 la pl f) from rfl]
    have r1 := r0.set (A := []) (B := []) (o' := .ins (He.ga K "Client") dx (cl4 la pl f)) rfl
    generalize upd H p (.ins (He.ga K "Client") dx (cl4 la pl f)) = H1 at r1 ⊢
    refine ⟨_, rfl, _, rfl, fun x dx' hx hdx hne => ?_⟩
    refine ⟨x, dx', now, f, rfl, upd_same, ?_⟩
    rw [upd_upd]
    have r2 := r1.own (o := .ins (He.ga K "Wait") dx' (wfl now f f (now + f))) hx hdx hne.symm
    generalize upd (upd H1 dx' (.own x)) x (.ins (He.ga K "Wait") dx' (wfl now f f (now + f))) = H2 at r2 ⊢
    refine ⟨rfl, _, rfl, p, dx, _, rfl, r2.c.get (o := .ins (He.ga K "Client") dx (cl4 la pl f)) (by simp), sm, ?_⟩
    rw [show putF "_wait" (V.ref x) (cl4 la pl f) = (cl5 la x pl f) from rfl]
    have r3 := r2.set (A := [(x, .ins (He.ga K "Wait") dx' (wfl now f f (now + f)))]) (B := []) (o' := .ins (He.ga K "Client") dx (cl5 la x pl f)) rfl
    generalize upd H2 p (.ins (He.ga K "Client") dx (cl5 la x pl f)) = H3 at r3 ⊢
    refine ⟨by show 0 ≤ sizeLine; decide, fun ka hka => ?_⟩
    have r4 := r3.add (o := .lst []) hka
    refine ⟨_, rfl, p, dx, _, rfl, r4.c.get (o := .ins (He.ga K "Client") dx (cl5 la x pl f)) (by simp), sm, ?_⟩
    have r5 := r4.set (A := [(ka, .lst []), (x, .ins (He.ga K "Wait") dx' (wfl now f f (now + f)))]) (B := []) (o' := .ins (He.ga K "Client") dx (clfl la pl "calling" f x ka)) rfl
    exact k x dx' ka _ fun L o => r5.perm (List.reverse_perm [(p, HO.ins (He.ga K "Client") dx (clfl la pl "calling" f x ka)), (x, .ins (He.ga K "Wait") dx' (wfl now f f (now + f))), (ka, .lst [])])
def spSending (K : PySem.W.Frag) : Sp := fun vs H Q _ => ∃ c : ClR, vs = [.ref c.p] ∧ H c.p = some (clO K c) ∧ ClI K H c ∧ ∀ r t H', Same H H' → H r = none → H' r = some (.lst (([t] : List Addr).map V.ref)) → RwI H' [t] [(c.pl, textOf (linesX c.L c.o))] → Q (.ref r) H'
theorem new2 {H : Hp} {t l : Addr} {o u : HO} (ht : H t = none) (hl : upd H t o l = none) : t ≠ l ∧ H l = none ∧ Same H (upd (upd H t o) l u) ∧ (upd (upd H t o) l u) t = some o ∧ (upd (upd H t o) l u) l = some u := by
  have n : t ≠ l := fun e => by rw [← e, upd_same] at hl; cases hl
  exact ⟨n, by rw [upd_ne n.symm] at hl; exact hl, (same_upd ht).trans (same_upd hl), (upd_ne n).trans upd_same, upd_same⟩
theorem ok_Client_sending {P : Program} {w : World} {K : PySem.W.Frag} {mg : Str → Option Value} {base : Heap} {f : Addr} {fd : FuncData} (T : Tx K mg) (c_write : C8.Cal P w K mg base 2 "write" (spWrite1 K) [])
    (F : FunD K "sending" "Client.sending" (defArgs s_Client_sending) (defBody s_Client_sending) (defScope s_Client_sending) [] [] f fd) : FnOk P w K mg base CX0 3 f fd ["self"] (spSending K) := by
  refine F.ok sc_Client_sending (fun vs H Q E h => ?_) (fun cdv A outer s H vs Q E hr h => ?_)
  · obtain ⟨c, rfl, _⟩ := h
    rfl
  · obtain ⟨c, rfl, hp, hi, k⟩ := h
    refine ⟨_, PSs.nox (pss_one (ps_ret (pe_lst (pa_cons (pe_tup (pa_cons (pe_fldC rfl T.cl_Client T.na_Client_place (pv 0) rfl) (pa_cons (pe_c c_write hr (by decide) rfl (pa_cons (pe_fldC rfl T.cl_Client T.na_Client_letter (pv 0) rfl) pa_nil)) pa_nil))) pa_nil)))), ?_⟩
    refine ⟨_, rfl, c.p, c.dx, _, _, rfl, hp, rfl, _, rfl, c.p, c.dx, _, _, rfl, hp, rfl, c.la, c.L, rfl, hi.lt, hi.lk, c.o, hi.of, hi.xk, fun H1 s1 => ⟨by show 2 ≤ sizeLine; decide, fun t ht => ⟨by show 1 ≤ sizeLine; decide, fun r hr => ?_⟩⟩⟩
    obtain ⟨n1, n2, s5, q1, q2⟩ := new2 (u := .lst [.ref t]) ht hr
    exact k r t _ (s1.trans s5) (s1.free n2) q2 (RwI.one q1)
def spClOver (K : PySem.W.Frag) : Sp := fun vs H Q _ => ∃ c : ClR, vs = [.ref c.p] ∧ H c.p = some (clO K c) ∧ Q (.bl (decide (c.st = .ov))) H
theorem ok_Client_is_over {P : Program} {w : World} {K : PySem.W.Frag} {mg : Str → Option Value} {base : Heap} {f : Addr} {fd : FuncData} (T : Tx K mg) 
    (F : FunD K "is_over" "Client.is_over" (defArgs s_Client_is_over) (defBody s_Client_is_over) (defScope s_Client_is_over) [] [] f fd) : FnOk P w K mg base CX0 1 f fd ["self"] (spClOver K) := by
  refine F.ok sc_Client_is_over (fun vs H Q E h => ?_) (fun cdv A outer s H vs Q E hr h => ?_)
  · obtain ⟨c, rfl, _⟩ := h
    rfl
  · obtain ⟨c, rfl, hp, k⟩ := h
    refine ⟨_, PSs.nox (pss_one (ps_ret (pe_cmpR op_eq (pe_fldC rfl T.cl_Client T.na_Client_state (pv 0) rfl) pe_str (nomark _)))), ?_⟩
    refine ⟨_, rfl, c.p, c.dx, _, _, rfl, hp, rfl, rfl, ?_⟩
    have e : decide (V.str c.st.s = V.str "over") = decide (c.st = .ov) := by cases c.st <;> rfl
    rw [e]
    exact k

end K19
set_option maxHeartbeats 4000000
set_option pp.maxSteps 400
namespace K19
open PySem PySem.Spec PyProof.Rows L2 SX TK TKS TKC
open C8 (pe_c)
/-! ### clients: stop, take -/
def stopC (c : ClR) (now : Int) (wa wx : Addr) : ClR := if (decide (c.st = .cl) || decide (c.st = .wt)) = true then { c with st := .sp, wa := wa, wx := wx, b := now, g := c.f, d := now + c.f } else c
def spStop (K : PySem.W.Frag) : Sp := fun vs H Q _ => ∃ (c : ClR) (now : Int), vs = [.ref c.p, .int now] ∧ Cells H (clM K c) ∧ ∀ wa wx H', Run H (clM K c) H' (clM K (stopC c now wa wx)) → Q .non H'
theorem sub3 {α : Type} (a b c d : α) : [a, b, d].Sublist [a, b, c, d] := ((List.Sublist.cons c (List.Sublist.refl [d])).cons₂ b).cons₂ a
/-- a new wait and another state -/
theorem Run.wait {K : PySem.W.Frag} {H H1 : Hp} {c : ClR} {x dx' : Addr} {st : CS} {now : Int} {M : List Cell} (r : Run H M H1 (clM K c)) (hx : (upd H1 c.p (.ins (He.ga K "Client") c.dx (clfl c.la c.pl st.s c.f c.wa c.ka))) x = none) (hdx : (upd H1 c.p (.ins (He.ga K "Client") c.dx (clfl c.la c.pl st.s c.f c.wa c.ka))) dx' = none) (hne : dx' ≠ x) :
    (upd (upd (upd H1 c.p (.ins (He.ga K "Client") c.dx (clfl c.la c.pl st.s c.f c.wa c.ka))) dx' (.own x)) x (.ins (He.ga K "Wait") dx' (wfl now c.f c.f (now + c.f)))) c.p = some (.ins (He.ga K "Client") c.dx (clfl c.la c.pl st.s c.f c.wa c.ka)) ∧
    Run H M (upd (upd (upd (upd H1 c.p (.ins (He.ga K "Client") c.dx (clfl c.la c.pl st.s c.f c.wa c.ka))) dx' (.own x)) x (.ins (He.ga K "Wait") dx' (wfl now c.f c.f (now + c.f)))) c.p (.ins (He.ga K "Client") c.dx (clfl c.la c.pl st.s c.f x c.ka))) (clM K { c with st := st, wa := x, wx := dx', b := now, g := c.f, d := now + c.f }) := by
  have r2 := r.set (A := []) (B := [(c.wa, wtO K c), (c.ka, .lst (c.kl.map V.ref))]) (o' := .ins (He.ga K "Client") c.dx (clfl c.la c.pl st.s c.f c.wa c.ka)) rfl
  have r3 := r2.own (o := .ins (He.ga K "Wait") dx' (wfl now c.f c.f (now + c.f))) hx hdx hne.symm
  refine ⟨r3.c.get (by simp), ?_⟩
  have r4 := r3.set (A := [(x, .ins (He.ga K "Wait") dx' (wfl now c.f c.f (now + c.f)))]) (B := [(c.wa, wtO K c), (c.ka, .lst (c.kl.map V.ref))]) (o' := .ins (He.ga K "Client") c.dx (clfl c.la c.pl st.s c.f x c.ka)) rfl
  exact (r4.sub (sub3 _ _ _ _)).perm (List.Perm.swap _ _ _)
theorem ok_Client_stop {P : Program} {w : World} {K : PySem.W.Frag} {mg : Str → Option Value} {base : Heap} {f : Addr} {fd : FuncData} (T : Tx K mg) (c_mk_Wait : C8.Mak P w K mg base 1 "Wait" (He.ga K "Wait") (spWaitInit K) [])
    (F : FunD K "stop" "Client.stop" (defArgs s_Client_stop) (defBody s_Client_stop) (defScope s_Client_stop) [] [] f fd) : FnOk P w K mg base CX0 3 f fd ["self", "now"] (spStop K) := by
  refine F.ok sc_Client_stop (fun vs H Q E h => ?_) (fun cdv A outer s H vs Q E hr h => ?_)
  · obtain ⟨c, now, rfl, _⟩ := h
    rfl
  · obtain ⟨c, now, rfl, hc, k⟩ := h
    have hp : H c.p = some (clO K c) := hc.get (by simp [clM])
    refine ⟨_, PSs.nox (pss_one (ps_if (pt_cmpR op_in_seq (pe_fldC rfl T.cl_Client T.na_Client_state (pv 0) rfl) (pe_tup (pa_cons pe_str (pa_cons pe_str pa_nil))) (by with_unfolding_all rfl)) (pss_cons (ps_fldC rfl T.cl_Client T.na_Client_state (pv 0) pe_str rfl) (pss_one (ps_fldC rfl T.cl_Client T.na_Client__wait (pv 0) (C8.pe_mk c_mk_Wait hr (by decide) rfl (pa_cons (pv 1) (pa_cons (pe_fldC rfl T.cl_Client T.na_Client__first (pv 0) rfl) pa_nil))) rfl))) pss_nil)), ?_⟩
    refine ⟨_, rfl, c.p, c.dx, _, _, rfl, hp, rfl, by show 2 ≤ sizeLine; decide, fun t hnt => ?_⟩
    have s1 := same_upd (o := .tup [.str "calling", .str "waiting"]) hnt
    refine ⟨t, _, rfl, .inr (SqT.of upd_same), rfl, rfl, _, rfl, ?_⟩
    have e1 : inV (V.str c.st.s) [.str "calling", .str "waiting"] = (decide (c.st = .cl) || decide (c.st = .wt)) := by cases c.st <;> rfl
    have r1 := (Run.refl hc).same s1
    show (if inV (V.str c.st.s) [.str "calling", .str "waiting"] = true then _ else _)
    rw [e1]
    generalize (upd H t (.tup [.str "calling", .str "waiting"])) = H1 at r1 ⊢
    cases e : (decide (c.st = .cl) || decide (c.st = .wt)) with
    | false =>
      have es : ∀ wa wx, stopC c now wa wx = c := fun wa wx => if_neg (by rw [e]; exact Bool.false_ne_true)
      refine iteF (k 0 0 _ ?_)
      rw [es]
      exact r1
    | true =>
      refine iteT ⟨_, rfl, c.p, c.dx, _, rfl, r1.c.get (o := clO K c) (by simp [clM]), sm, ?_⟩
      rw [show putF "state" (V.str "stopping") (clfl c.la c.pl c.st.s c.f c.wa c.ka) = clfl c.la c.pl CS.sp.s c.f c.wa c.ka from rfl]
      refine ⟨_, rfl, _, rfl, c.p, c.dx, _, _, rfl, upd_same, rfl, fun x dx' hx hdx hne => ?_⟩
      obtain ⟨q1, q2⟩ := Run.wait (st := .sp) (now := now) r1 hx hdx hne
      refine ⟨x, dx', now, c.f, rfl, upd_same, ?_⟩
      rw [upd_upd]
      refine ⟨rfl, _, rfl, c.p, c.dx, _, rfl, q1, sm, ?_⟩
      rw [show putF "_wait" (V.ref x) (clfl c.la c.pl CS.sp.s c.f c.wa c.ka) = clfl c.la c.pl CS.sp.s c.f x c.ka from rfl]
      refine k x dx' _ ?_
      rw [show stopC c now x dx' = _ from if_pos e]
      exact q2

end K19
set_option maxHeartbeats 4000000
set_option pp.maxSteps 400
namespace K19
open PySem PySem.Spec PyProof.Rows L2 SX TK TKS TKC
open C8 (pe_c)
theorem st_is (a : CS) (b : CS) : decide (V.str a.s = V.str b.s) = decide (a = b) := by cases a <;> cases b <;> rfl
def isC (L : Ltr) : Bool := decide (L.verb = "CALL")
def provB (c : ClR) : Bool := isC c.L && !decide (c.st = .fn)
def provC (c : ClR) : ClR := if (provB c && decide (c.st = .cl)) = true then { c with st := .wt } else c
def provV (c : ClR) (n : Int) : V := if provB c = true then .int n else .non
theorem Run.st {K : PySem.W.Frag} {H H1 : Hp} {c : ClR} {M : List Cell} (st : CS) (r : Run H M H1 (clM K c)) : Run H M (upd H1 c.p (.ins (He.ga K "Client") c.dx (clfl c.la c.pl st.s c.f c.wa c.ka))) (clM K { c with st := st }) :=
  r.set (A := []) (B := [(c.wa, wtO K c), (c.ka, .lst (c.kl.map V.ref))]) rfl
def spProv (K : PySem.W.Frag) : Sp := fun vs H Q _ => ∃ (c : ClR) (b : Addr) (n : Int) (M : Ltr), vs = [.ref c.p, .ref b] ∧ Cells H (clM K c) ∧ LetAt K H c.la c.L ∧ LetAt K H b M ∧ M.code = .int n ∧
  ∀ H', Run H (clM K c) H' (clM K (provC c)) → Q (provV c n) H'
theorem ok_Client__take_provisional {P : Program} {w : World} {K : PySem.W.Frag} {mg : Str → Option Value} {base : Heap} {f : Addr} {fd : FuncData} (T : Tx K mg) 
    (F : FunD K "_take_provisional" "Client._take_provisional" (defArgs s_Client__take_provisional) (defBody s_Client__take_provisional) (defScope s_Client__take_provisional) [] [] f fd) : FnOk P w K mg base CX0 1 f fd ["self", "reply"] (spProv K) := by
  refine F.ok sc_Client__take_provisional (fun vs H Q E h => ?_) (fun cdv A outer s H vs Q E hr h => ?_)
  · obtain ⟨c, b, n, M, rfl, _⟩ := h
    rfl
  · obtain ⟨c, b, n, M, rfl, hc, ⟨dl, hl⟩, ⟨dm, hm⟩, em, k⟩ := h
    have hp : H c.p = some (clO K c) := hc.get (by simp [clM])
    refine ⟨_, PSs.nox (C8.pss_cut (ps_if (PW.pt (pw_or (pt_cmpR op_ne (pe_fldC rfl T.cl_Letter T.na_Letter_verb (pe_fldC rfl T.cl_Client T.na_Client_letter (pv 0) rfl) rfl) pe_str (nomark _)) (pw_or1 (pt_cmpR op_eq (pe_fldC rfl T.cl_Client T.na_Client_state (pv 0) rfl) pe_str (nomark _))))) (pss_one (ps_ret pe_non)) pss_nil) (C8.pss_cut (ps_if (pt_cmpR op_eq (pe_fldC rfl T.cl_Client T.na_Client_state (pv 0) rfl) pe_str (nomark _)) (pss_one (ps_fldC rfl T.cl_Client T.na_Client_state (pv 0) pe_str rfl)) pss_nil) (pss_one (ps_ret (pe_fldC rfl T.cl_Letter T.na_Letter_code (pv 1) rfl))))), ?_⟩
    have e2 := st_is c.st .fn
    have e3 := st_is c.st .cl
    refine ⟨fun σ' H' => σ' = [some (.ref c.p), some (.ref b)] ∧ H' = H ∧ provB c = true, ?_, ?_⟩
    · have no : provB c = false → Q .non H := fun e => by
        have e4 : provC c = c := if_neg (by rw [e]; exact Bool.false_ne_true)
        have e5 : provV c n = .non := if_neg (by rw [e]; exact Bool.false_ne_true)
        rw [e4, e5] at k
        exact k H (Run.refl hc)
      refine ⟨_, rfl, c.p, c.dx, _, _, rfl, hp, rfl, c.la, dl, _, _, rfl, hl, rfl, rfl, _, rfl, ?_⟩
      rw [vstr]
      cases e : decide (c.L.verb = "CALL") with
      | false => exact iteT (no (by unfold provB isC; rw [e]; rfl))
      | true =>
        refine iteF ⟨_, rfl, c.p, c.dx, _, _, rfl, hp, rfl, rfl, _, rfl, ?_⟩
        show (if decide (V.str c.st.s = V.str CS.fn.s) = true then _ else _)
        rw [e2]
        cases e1 : decide (c.st = .fn) with
        | true => exact iteT (no (by unfold provB isC; rw [e, e1]; rfl))
        | false => exact iteF ⟨rfl, rfl, by unfold provB isC; rw [e, e1]; rfl⟩
    rintro σ' H1 ⟨rfl, e9, eB⟩
    obtain rfl : H = H1 := e9.symm
    have e5 : provV c n = .int n := if_pos eB
    refine ⟨fun σ' H' => σ' = [some (.ref c.p), some (.ref b)] ∧ Run H (clM K c) H' (clM K (provC c)), ?_, ?_⟩
    · refine ⟨_, rfl, c.p, c.dx, _, _, rfl, hp, rfl, rfl, _, rfl, ?_⟩
      show (if decide (V.str c.st.s = V.str CS.cl.s) = true then _ else _)
      rw [e3]
      cases e1 : decide (c.st = .cl) with
      | false =>
        have e4 : provC c = c := if_neg (by rw [e1, Bool.and_false]; exact Bool.false_ne_true)
        rw [e4]
        exact iteF ⟨rfl, Run.refl hc⟩
      | true =>
        have e4 : provC c = { c with st := .wt } := if_pos (by rw [e1, eB]; rfl)
        rw [e4]
        exact iteT ⟨_, rfl, c.p, c.dx, _, rfl, hp, sm, rfl, Run.st .wt (Run.refl hc)⟩
    rintro σ' H2 ⟨rfl, r⟩
    rw [e5] at k
    refine ⟨_, rfl, b, dm, _, _, rfl, r.im _ _ hm rfl, rfl, ?_⟩
    rw [em]
    exact k H2 r
def keepL (L : Ltr) (tag : Str) : Ltr := ⟨"KEEP", L.call, L.origin, L.otag, L.target, tag, L.seq, L.way, .non, .non, .non, .non⟩
theorem keepL_ok {L M : Ltr} (g : LOk L) (m : LOk M) : LOk (keepL L M.ttag) := by
  obtain ⟨_, g2, g3, g4, g5, _, g7⟩ := g.oks
  obtain ⟨_, _, _, _, _, m6, _⟩ := m.oks
  exact ⟨⟨by show PyData.strOk "KEEP" = true; decide +kernel, g2, g3, g4, g5, m6, g7⟩, g.seq0, by show ("KEEP" : Str).length ≤ 1000; decide +kernel, g.call, g.origin, g.otag, g.target, m.ttag, g.seq, g.way, .inl rfl⟩
theorem keepL_x (L : Ltr) (tag : Str) : XOk (keepL L tag) none := ⟨(fun _ e => nomatch e), (fun _ e => nomatch e), .inl rfl, .inl rfl⟩
def spKeepFor (K : PySem.W.Frag) : Sp := fun vs H Q _ => ∃ (c : ClR) (b : Addr) (M : Ltr), vs = [.ref c.p, .ref b] ∧ H c.p = some (clO K c) ∧ LetAt K H c.la c.L ∧ LetAt K H b M ∧
  ∀ x H', Same H H' → LetAt K H' x (keepL c.L M.ttag) → Q (.ref x) H'
theorem ok_Client__keep_for {P : Program} {w : World} {K : PySem.W.Frag} {mg : Str → Option Value} {base : Heap} {f : Addr} {fd : FuncData} (T : Tx K mg) (c_mk_Letter_a : MakK P w K mg base 1 "Letter" (He.ga K "Letter") (spLetInit K) 0 ["verb", "call", "origin", "origin_tag", "target", "target_tag", "seq", "way"] (fun vs zs => vs ++ ((((zs.drop 0).take 8) ++ ((([(V.non), (V.non), (V.non), (V.non)] : List V).drop 0).take 4)))))
    (F : FunD K "_keep_for" "Client._keep_for" (defArgs s_Client__keep_for) (defBody s_Client__keep_for) (defScope s_Client__keep_for) [] [] f fd) : FnOk P w K mg base CX0 3 f fd ["self", "reply"] (spKeepFor K) := by
  refine F.ok sc_Client__keep_for (fun vs H Q E h => ?_) (fun cdv A outer s H vs Q E hr h => ?_)
  · obtain ⟨c, b, M, rfl, _⟩ := h
    rfl
  · obtain ⟨c, b, M, rfl, hp, ⟨dl, hl⟩, ⟨dm, hm⟩, k⟩ := h
    refine ⟨_, PSs.nox (pss_cons (ps_set (i := 2) sc_Client__keep_for.nd rfl (Or.inl rfl) (pe_fldC rfl T.cl_Client T.na_Client_letter (pv 0) rfl)) (pss_one (ps_ret (pe_mkK0 c_mk_Letter_a hr (by decide) rfl (pk_cons pe_str (pk_cons (pe_fldC rfl T.cl_Letter T.na_Letter_call (pv 2) rfl) (pk_cons (pe_fldC rfl T.cl_Letter T.na_Letter_origin (pv 2) rfl) (pk_cons (pe_fldC rfl T.cl_Letter T.na_Letter_origin_tag (pv 2) rfl) (pk_cons (pe_fldC rfl T.cl_Letter T.na_Letter_target (pv 2) rfl) (pk_cons (pe_fldC rfl T.cl_Letter T.na_Letter_target_tag (pv 1) rfl) (pk_cons (pe_fldC rfl T.cl_Letter T.na_Letter_seq (pv 2) rfl) (pk_cons (pe_fldC rfl T.cl_Letter T.na_Letter_way (pv 2) rfl) pk_nil)))))))))))), ?_⟩
    refine ⟨_, rfl, c.p, c.dx, _, _, rfl, hp, rfl, ?_⟩
    refine ⟨_, rfl, c.la, dl, _, _, rfl, hl, rfl, _, rfl, c.la, dl, _, _, rfl, hl, rfl, _, rfl, c.la, dl, _, _, rfl, hl, rfl, _, rfl, c.la, dl, _, _, rfl, hl, rfl, _, rfl, b, dm, _, _, rfl, hm, rfl, _, rfl, c.la, dl, _, _, rfl, hl, rfl, _, rfl, c.la, dl, _, _, rfl, hl, rfl, rfl, rfl, ?_⟩
    intro x dy hx hdy hne
    refine ⟨x, dy, keepL c.L M.ttag, rfl, upd_same, rfl, ?_⟩
    rw [upd_upd]
    exact k x _ (same_own hx hdy) ⟨dy, upd_same⟩
abbrev tx (L : Ltr) : Str := textOf (linesX L none)
def finC (c : ClR) (M : Ltr) (now : Int) (wa wx ka kt : Addr) : ClR := { c with st := .fn, wa := wa, wx := wx, ka := ka, b := now, g := c.f, d := now + c.f, kl := [kt], kz := tx (keepL c.L M.ttag) }
/-- the client behind a reply -/
def takeC (c : ClR) (M : Ltr) (n now : Int) (wa wx ka kt : Addr) : ClR :=
  if c.st = .ov then c else if ¬ 20 ≤ n then provC c else if isC c.L = false then { c with st := .ov } else if c.st = .fn then c else finC c M now wa wx ka kt
/-- what is sent -/
def takeO (c : ClR) (M : Ltr) (n : Int) : List (Str × Str) :=
  if c.st = .ov then [] else if ¬ 20 ≤ n then [] else if isC c.L = false then [] else if c.st = .fn then c.kl.map fun _ => (c.pl, c.kz) else [(c.pl, tx (keepL c.L M.ttag))]
/-- what is told -/
def takeV (c : ClR) (n : Int) : V :=
  if c.st = .ov then .non else if ¬ 20 ≤ n then provV c n else if isC c.L = false then .int n else if c.st = .fn then .non else .int n
theorem sub4 {α : Type} (a b c d : α) : [a, b, c].Sublist [a, b, c, d] := List.sublist_append_left [a, b, c] [d]
theorem perm_of3 {α : Type} (a b c : α) : [a, b, c].Perm [b, c, a] := (List.Perm.swap b a [c]).trans ((List.Perm.swap c a []).cons b)
def spTake (K : PySem.W.Frag) : Sp := fun vs H Q _ => ∃ (c : ClR) (b : Addr) (n now : Int) (M : Ltr), vs = [.ref c.p, .ref b, .int now] ∧ Cells H (clM K c) ∧ ClI K H c ∧ LetAt K H b M ∧ LOk M ∧ M.code = .int n ∧
  ∀ t r ts wa wx ka kt H', Run H (clM K c) H' ((r, .lst (ts.map V.ref)) :: clM K (takeC c M n now wa wx ka kt)) → ClI K H' (takeC c M n now wa wx ka kt) → H' t = some (.tup [.ref r, takeV c n]) → RwI H' ts (takeO c M n) → Q (.ref t) H'
theorem pairR {Q : VK} {H : Hp} {v : V} (k : ∀ r t H', Same H H' → H r = none → H' r = some (.lst []) → H' t = some (.tup [.ref r, v]) → Q (.ref t) H') : 0 ≤ sizeLine ∧ ∀ l, H l = none → 2 ≤ sizeLine ∧ ∀ t, (upd H l (.lst [])) t = none → Q (.ref t) (upd (upd H l (.lst [])) t (.tup [.ref l, v])) := ⟨by decide, fun l hl => ⟨by decide, fun t ht => by
  obtain ⟨n1, n2, s, q1, q2⟩ := new2 (u := .tup [.ref l, v]) hl ht
  exact k l t _ s hl q1 q2⟩⟩
theorem ok_Client_take {P : Program} {w : World} {K : PySem.W.Frag} {mg : Str → Option Value} {base : Heap} {f : Addr} {fd : FuncData} (T : Tx K mg) (c_is_final : C8.Cal P w K mg base 1 "is_final" spFinal []) (c_Client__take_provisional : C8.Met P w K mg base 1 (He.ga K "Client") "_take_provisional" (spProv K) []) (c_mk_Wait : C8.Mak P w K mg base 1 "Wait" (He.ga K "Wait") (spWaitInit K) []) (c_Client__keep_for : C8.Met P w K mg base 3 (He.ga K "Client") "_keep_for" (spKeepFor K) []) (c_write : C8.Cal P w K mg base 2 "write" (spWrite1 K) [])
    (F : FunD K "take" "Client.take" (defArgs s_Client_take) (defBody s_Client_take) (defScope s_Client_take) [] [] f fd) : FnOk P w K mg base CX0 4 f fd ["self", "reply", "now"] (spTake K) := by
  refine F.ok sc_Client_take (fun vs H Q E h => ?_) (fun cdv A outer s H vs Q E hr h => ?_)
  · obtain ⟨c, b, n, now, M, rfl, _⟩ := h
    rfl
  · obtain ⟨c, b, n, now, M, rfl, hc, hi, hb, lm, em, k⟩ := h
    have hp : H c.p = some (clO K c) := hc.get (by simp [clM])
    have r0 := Run.refl hc
    obtain ⟨dl, hl⟩ := id hi.lt
    obtain ⟨dm, hm⟩ := id hb
    refine ⟨_, PSs.nox (C8.pss_cut (ps_if (pt_cmpR op_eq (pe_fldC rfl T.cl_Client T.na_Client_state (pv 0) rfl) pe_str (nomark _)) (pss_one (ps_ret (pe_tup (pa_cons (pe_lst pa_nil) (pa_cons pe_non pa_nil))))) pss_nil) (C8.pss_cut (ps_if (pt_not (pt_val (pe_c c_is_final hr (by decide) rfl (pa_cons (pe_fldC rfl T.cl_Letter T.na_Letter_code (pv 1) rfl) pa_nil)))) (pss_one (ps_ret (pe_tup (pa_cons (pe_lst pa_nil) (pa_cons (C8.pe_mt c_Client__take_provisional hr (by decide) (pv 0) (pa_cons (pv 1) pa_nil)) pa_nil))))) pss_nil) (C8.pss_cut (ps_if (pt_cmpR op_ne (pe_fldC rfl T.cl_Letter T.na_Letter_verb (pe_fldC rfl T.cl_Client T.na_Client_letter (pv 0) rfl) rfl) pe_str (nomark _)) (pss_cons (ps_fldC rfl T.cl_Client T.na_Client_state (pv 0) pe_str rfl) (pss_one (ps_ret (pe_tup (pa_cons (pe_lst pa_nil) (pa_cons (pe_fldC rfl T.cl_Letter T.na_Letter_code (pv 1) rfl) pa_nil)))))) pss_nil) (C8.pss_cut (ps_if (pt_cmpR op_eq (pe_fldC rfl T.cl_Client T.na_Client_state (pv 0) rfl) pe_str (nomark _)) (pss_one (ps_ret (pe_tup (pa_cons (pe_callTy call_list_of rfl T.f_list (by decide +kernel) (pa_cons (pe_fldC rfl T.cl_Client T.na_Client__keep (pv 0) rfl) pa_nil)) (pa_cons pe_non pa_nil))))) pss_nil) (pss_cons (ps_fldC rfl T.cl_Client T.na_Client_state (pv 0) pe_str rfl) (pss_cons (ps_fldC rfl T.cl_Client T.na_Client__wait (pv 0) (C8.pe_mk c_mk_Wait hr (by decide) rfl (pa_cons (pv 2) (pa_cons (pe_fldC rfl T.cl_Client T.na_Client__first (pv 0) rfl) pa_nil))) rfl) (pss_cons (ps_fldC rfl T.cl_Client T.na_Client__keep (pv 0) (pe_lst (pa_cons (pe_tup (pa_cons (pe_fldC rfl T.cl_Client T.na_Client_place (pv 0) rfl) (pa_cons (pe_c c_write hr (by decide) rfl (pa_cons (C8.pe_mt c_Client__keep_for hr (by decide) (pv 0) (pa_cons (pv 1) pa_nil)) pa_nil)) pa_nil))) pa_nil)) rfl) (pss_one (ps_ret (pe_tup (pa_cons (pe_callTy call_list_of rfl T.f_list (by decide +kernel) (pa_cons (pe_fldC rfl T.cl_Client T.na_Client__keep (pv 0) rfl) pa_nil)) (pa_cons (pe_fldC rfl T.cl_Letter T.na_Letter_code (pv 1) rfl) pa_nil)))))))))))), ?_⟩
    -- over
    refine ⟨fun σ' H' => σ' = [some (.ref c.p), some (.ref b), some (.int now)] ∧ H' = H ∧ c.st ≠ .ov, ?_, ?_⟩
    · refine ⟨_, rfl, c.p, c.dx, _, _, rfl, hp, rfl, rfl, _, rfl, ?_⟩
      show (if decide (V.str c.st.s = V.str CS.ov.s) = true then _ else _)
      rw [st_is]
      by_cases e : c.st = .ov
      · rw [decide_eq_true e]
        have e1 : ∀ wa wx ka kt, takeC c M n now wa wx ka kt = c := fun wa wx ka kt => if_pos e
        have e2 : takeO c M n = [] := if_pos e
        have e3 : takeV c n = .non := if_pos e
        simp only [e1, e2, e3] at k
        exact iteT (pairR fun r t H' s1 h1 h2 h3 => k t r [] 0 0 0 0 H' (r0.new s1 h1 h2) (hi.im (Im.of_same s1)) h3 trivial)
      · rw [decide_eq_false e]
        exact iteF ⟨rfl, rfl, e⟩
    rintro σ' H1 ⟨rfl, e, h1⟩
    obtain rfl : H = H1 := e.symm
    -- a provisional code
    refine ⟨fun σ' H' => σ' = [some (.ref c.p), some (.ref b), some (.int now)] ∧ H' = H ∧ 20 ≤ n, ?_, ?_⟩
    · refine ⟨_, rfl, b, dm, _, _, rfl, hm, rfl, n, congrArg (fun v => [v]) em, _, rfl, ?_⟩
      by_cases e : 20 ≤ n
      · rw [decide_eq_true (show n ≥ 20 from e)]
        exact iteF ⟨rfl, rfl, e⟩
      · rw [decide_eq_false (show ¬ n ≥ 20 from e)]
        have e1 : ∀ wa wx ka kt, takeC c M n now wa wx ka kt = provC c := fun wa wx ka kt => by unfold takeC; rw [if_neg h1, if_pos e]
        have e2 : takeO c M n = [] := by unfold takeO; rw [if_neg h1, if_pos e]
        have e3 : takeV c n = provV c n := by unfold takeV; rw [if_neg h1, if_pos e]
        simp only [e1, e2, e3] at k
        refine iteT ⟨by show 0 ≤ sizeLine; decide, fun l hnl => ?_⟩
        have s1 := same_upd (o := .lst []) hnl
        have el : (upd H l (.lst [])) l = some (.lst []) := upd_same
        have r1 := r0.new s1 hnl el
        generalize (upd H l (.lst [])) = H1 at s1 el r1 ⊢
        refine ⟨_, rfl, c.p, c.dx, _, rfl, s1 _ _ hp, rfl, _, rfl, c, b, n, M, rfl, hc.same s1, hi.lt.same s1, hb.same s1, em, fun H2 r2 => ⟨by show 2 ≤ sizeLine; decide, fun t ht => ?_⟩⟩
        have s3 := same_upd (o := .tup [.ref l, provV c n]) ht
        have r3 := (Run.frameR (A := [(l, .lst [])]) r1 r2).same s3
        have hi2 : ClI K (upd H2 t (.tup [.ref l, provV c n])) (provC c) := by
          have h := hi.im (r3.im)
          unfold provC
          split
          · exact ⟨h.lt, h.of, h.lk, h.xk, h.kn, h.kt⟩
          · exact h
        exact k t l [] 0 0 0 0 _ r3 hi2 upd_same trivial
    rintro σ' H1 ⟨rfl, e, h2⟩
    obtain rfl : H = H1 := e.symm
    have h2' : ¬ ¬ 20 ≤ n := fun z => z h2
    -- no CALL
    refine ⟨fun σ' H' => σ' = [some (.ref c.p), some (.ref b), some (.int now)] ∧ H' = H ∧ isC c.L = true, ?_, ?_⟩
    · refine ⟨_, rfl, c.p, c.dx, _, _, rfl, hp, rfl, c.la, dl, _, _, rfl, hl, rfl, rfl, _, rfl, ?_⟩
      rw [vstr]
      cases e : decide (c.L.verb = "CALL") with
      | true => exact iteF ⟨rfl, rfl, e⟩
      | false =>
        have e0 : isC c.L = false := e
        have e1 : ∀ wa wx ka kt, takeC c M n now wa wx ka kt = { c with st := .ov } := fun wa wx ka kt => by unfold takeC; rw [if_neg h1, if_neg h2', if_pos e0]
        have e2 : takeO c M n = [] := by unfold takeO; rw [if_neg h1, if_neg h2', if_pos e0]
        have e3 : takeV c n = .int n := by unfold takeV; rw [if_neg h1, if_neg h2', if_pos e0]
        simp only [e1, e2, e3] at k
        refine iteT ⟨_, rfl, c.p, c.dx, _, rfl, hp, sm, ?_⟩
        rw [show putF "state" (V.str "over") (clfl c.la c.pl c.st.s c.f c.wa c.ka) = clfl c.la c.pl CS.ov.s c.f c.wa c.ka from rfl]
        have r1 := Run.st .ov r0
        have hm1 := r1.im _ _ hm rfl
        generalize upd H c.p (.ins (He.ga K "Client") c.dx (clfl c.la c.pl CS.ov.s c.f c.wa c.ka)) = H1 at r1 hm1 ⊢
        refine ⟨by show 0 ≤ sizeLine; decide, fun l hnl => ?_⟩
        have r2 := r1.add (o := .lst []) hnl
        have s2 := same_upd (o := .lst []) hnl
        refine ⟨_, rfl, b, dm, _, _, rfl, s2 _ _ hm1, rfl, by show 2 ≤ sizeLine; decide, fun t ht => ?_⟩
        rw [em]
        have s3 := same_upd (o := .tup [.ref l, .int n]) ht
        have r3 := r2.same s3
        have h := hi.im r3.im
        exact k t l [] 0 0 0 0 _ r3 ⟨h.lt, h.of, h.lk, h.xk, h.kn, h.kt⟩ upd_same trivial
    rintro σ' H1 ⟨rfl, e, h3⟩
    obtain rfl : H = H1 := e.symm
    have h3' : ¬ isC c.L = false := by rw [h3]; exact fun e => nomatch e
    -- the same KEEP again
    refine ⟨fun σ' H' => σ' = [some (.ref c.p), some (.ref b), some (.int now)] ∧ H' = H ∧ c.st ≠ .fn, ?_, ?_⟩
    · refine ⟨_, rfl, c.p, c.dx, _, _, rfl, hp, rfl, rfl, _, rfl, ?_⟩
      show (if decide (V.str c.st.s = V.str CS.fn.s) = true then _ else _)
      rw [st_is]
      by_cases e : c.st = .fn
      · rw [decide_eq_true e]
        have e1 : ∀ wa wx ka kt, takeC c M n now wa wx ka kt = c := fun wa wx ka kt => by unfold takeC; rw [if_neg h1, if_neg h2', if_neg h3', if_pos e]
        have e2 : takeO c M n = c.kl.map fun _ => (c.pl, c.kz) := by unfold takeO; rw [if_neg h1, if_neg h2', if_neg h3', if_pos e]
        have e3 : takeV c n = .non := by unfold takeV; rw [if_neg h1, if_neg h2', if_neg h3', if_pos e]
        simp only [e1, e2, e3] at k
        have hk : H c.ka = some (.lst (c.kl.map V.ref)) := hc.get (by simp [clM])
        have hrw : RwI H c.kl (c.kl.map fun _ => (c.pl, c.kz)) := by
          have h := hi.kt
          generalize c.kl = kl at h
          induction kl with
          | nil => trivial
          | cons t r ih => exact ⟨h t (List.mem_cons_self ..), ih fun x m => h x (List.mem_cons_of_mem _ m)⟩
        refine iteT ⟨_, rfl, c.p, c.dx, _, _, rfl, hp, rfl, c.ka, _, rfl, .inl (SqL.of hk), fun l hnl => ⟨by show 2 ≤ sizeLine; decide, fun t ht => ?_⟩⟩
        obtain ⟨n1, n2, s5, q1, q2⟩ := new2 (u := .tup [.ref l, .non]) hnl ht
        exact k t l c.kl 0 0 0 0 _ (r0.new s5 hnl q1) (hi.im (Im.of_same s5)) q2 (hrw.im (Im.of_same s5))
      · rw [decide_eq_false e]
        exact iteF ⟨rfl, rfl, e⟩
    rintro σ' H1 ⟨rfl, e, h4⟩
    obtain rfl : H = H1 := e.symm
    have e1 : ∀ wa wx ka kt, takeC c M n now wa wx ka kt = finC c M now wa wx ka kt := fun wa wx ka kt => by unfold takeC; rw [if_neg h1, if_neg h2', if_neg h3', if_neg h4]
    have e2 : takeO c M n = [(c.pl, tx (keepL c.L M.ttag))] := by unfold takeO; rw [if_neg h1, if_neg h2', if_neg h3', if_neg h4]
    have e3 : takeV c n = .int n := by unfold takeV; rw [if_neg h1, if_neg h2', if_neg h3', if_neg h4]
    simp only [e1, e2, e3] at k
    clear e1 e2 e3
    -- a new wait, the KEEP
    refine ⟨_, rfl, c.p, c.dx, _, rfl, hp, sm, ?_⟩
    rw [show putF "state" (V.str "final") (clfl c.la c.pl c.st.s c.f c.wa c.ka) = clfl c.la c.pl CS.fn.s c.f c.wa c.ka from rfl]
    refine ⟨_, rfl, _, rfl, c.p, c.dx, _, _, rfl, upd_same, rfl, fun x dx' hx hdx hne => ?_⟩
    obtain ⟨q1, r1⟩ := Run.wait (st := .fn) (now := now) r0 hx hdx hne
    refine ⟨x, dx', now, c.f, rfl, upd_same, ?_⟩
    rw [upd_upd]
    refine ⟨rfl, _, rfl, c.p, c.dx, _, rfl, q1, sm, ?_⟩
    rw [show putF "_wait" (V.ref x) (clfl c.la c.pl CS.fn.s c.f c.wa c.ka) = clfl c.la c.pl CS.fn.s c.f x c.ka from rfl]
    generalize upd _ c.p (.ins (He.ga K "Client") c.dx (clfl c.la c.pl CS.fn.s c.f x c.ka)) = H1 at r1 ⊢
    have hb1 := hb.im r1.im
    have hl1 := hi.lt.im r1.im
    have hp1 := r1.c.get (a := c.p) (o := .ins (He.ga K "Client") c.dx (clfl c.la c.pl CS.fn.s c.f x c.ka)) (by simp [clM, clO])
    refine ⟨_, rfl, c.p, c.dx, _, _, rfl, hp1, rfl, _, rfl, c.p, c.dx, _, rfl, hp1, rfl, _, rfl, { c with st := .fn, wa := x, wx := dx', b := now, g := c.f, d := now + c.f }, b, M, rfl, hp1, hl1, hb1, fun y H2 s2 hy => ?_⟩
    refine ⟨y, keepL c.L M.ttag, rfl, hy, keepL_ok hi.lk lm, none, rfl, keepL_x _ _, fun H3 s3 => ⟨by show 2 ≤ sizeLine; decide, fun t ht => ⟨by show 1 ≤ sizeLine; decide, fun l hnl => ?_⟩⟩⟩
    obtain ⟨n1, n2, s5, g1, g2⟩ := new2 (o := .tup [.str c.pl, .str (tx (keepL c.L M.ttag))]) (u := .lst [.ref t]) ht hnl
    have s15 := (s2.trans s3).trans s5
    have r5 := r1.new s15 ((s2.trans s3).free n2) g2
    have g1' := g1
    refine ⟨_, rfl, c.p, c.dx, _, rfl, s15 _ _ hp1, sm, ?_⟩
    rw [show putF "_keep" (V.ref l) (clfl c.la c.pl CS.fn.s c.f x c.ka) = clfl c.la c.pl CS.fn.s c.f x l from rfl]
    have r6 := r5.set (A := [(l, .lst [.ref t])]) (B := [(x, .ins (He.ga K "Wait") dx' (wfl now c.f c.f (now + c.f))), (c.ka, .lst (c.kl.map V.ref))]) (o' := .ins (He.ga K "Client") c.dx (clfl c.la c.pl CS.fn.s c.f x l)) rfl
    have g1' := r6.im
    have gt : (upd (upd (upd H3 t (.tup [.str c.pl, .str (tx (keepL c.L M.ttag))])) l (.lst [.ref t])) c.p (.ins (He.ga K "Client") c.dx (clfl c.la c.pl CS.fn.s c.f x l))) t = some (.tup [.str c.pl, .str (tx (keepL c.L M.ttag))]) := by
      rw [upd_ne (ne_of g1 (s15 _ _ hp1) (by intro z; cases z))]
      exact g1
    generalize (upd (upd (upd H3 t (.tup [.str c.pl, .str (tx (keepL c.L M.ttag))])) l (.lst [.ref t])) c.p (.ins (He.ga K "Client") c.dx (clfl c.la c.pl CS.fn.s c.f x l))) = H6 at r6 gt g1' ⊢
    have r7 : Run H (clM K c) H6 (clM K (finC c M now x dx' l t)) := (r6.sub (sub4 _ _ _ _)).perm (perm_of3 _ _ _)
    have hp6 := r7.c.get (a := c.p) (o := .ins (He.ga K "Client") c.dx (clfl c.la c.pl CS.fn.s c.f x l)) (by simp [clM, clO, finC])
    have hk6 : H6 l = some (.lst [.ref t]) := r7.c.get (by simp [clM, finC])
    refine ⟨_, rfl, c.p, c.dx, _, _, rfl, hp6, rfl, l, _, rfl, .inl (SqL.of hk6), fun r hnr => ?_⟩
    have s7 := same_upd (o := .lst [.ref t]) hnr
    have r8 := r7.add (o := .lst [.ref t]) hnr
    refine ⟨_, rfl, b, dm, _, _, rfl, s7 _ _ (r7.im _ _ hm rfl), rfl, by show 2 ≤ sizeLine; decide, fun t2 ht2 => ?_⟩
    rw [em]
    have s8 := same_upd (o := .tup [.ref r, .int n]) ht2
    have r9 := r8.same s8
    have h := hi.im r9.im
    have gt9 := (s7.trans s8) _ _ gt
    exact k t2 r [t] x dx' l t _ r9 ⟨h.lt, h.of, h.lk, h.xk, Nat.le_refl 1, fun y m => by rw [List.mem_singleton.mp m]; exact gt9⟩ upd_same (RwI.one gt9)

end K19
set_option maxHeartbeats 4000000
set_option pp.maxSteps 400
namespace K19
open PySem PySem.Spec PyProof.Rows L2 SX TK TKS TKC
open C8 (pe_c)
/-! ### servers -/
inductive SS where | opn | snt | kpt | ovr
  deriving DecidableEq
def SS.s : SS → Str | .opn => "open" | .snt => "sent" | .kpt => "kept" | .ovr => "over"
structure WtR where
  a : Addr
  x : Addr
  b : Int
  g : Int
  d : Int
structure SvR where
  p : Addr
  dx : Addr
  la : Addr
  al : Addr
  L : Ltr
  o : Option Off
  pl : Str
  f : Int
  st : SS
  code : V
  w : Option WtR
  tl : List Addr
  tz : Str
def wvO : Option WtR → V
  | none => .non
  | some w => .ref w.a
def wM (K : PySem.W.Frag) (f : Int) : Option WtR → List Cell
  | none => []
  | some w => [(w.a, .ins (He.ga K "Wait") w.x (wfl w.b f w.g w.d))]
def svfl (la : Addr) (pl st : Str) (code : V) (f : Int) (wv : V) (al : Addr) : List (Str × V) := [("letter", .ref la), ("place", .str pl), ("state", .str st), ("code", code), ("_first", .int f), ("_wait", wv), ("_latest", .ref al)]
instance {la : Addr} {pl st : Str} {code : V} {f : Int} {wv : V} {al : Addr} : SmallF (svfl la pl st code f wv al) 7 := ⟨Nat.le_refl _⟩
def svO (K : PySem.W.Frag) (s : SvR) : HO := .ins (He.ga K "Server") s.dx (svfl s.la s.pl s.st.s s.code s.f (wvO s.w) s.al)
def svM (K : PySem.W.Frag) (s : SvR) : List Cell := (s.p, svO K s) :: (s.al, .lst (s.tl.map V.ref)) :: wM K s.f s.w
structure SvI (K : PySem.W.Frag) (H : Hp) (s : SvR) : Prop where
  lt : LetAt K H s.la s.L
  of : OffO H s.L.offer s.o
  lk : LOk s.L
  kn : s.tl.length ≤ 1
  kt : ∀ t ∈ s.tl, H t = some (.tup [.str s.pl, .str s.tz])
theorem SvI.im {K : PySem.W.Frag} {H H' : Hp} {s : SvR} (h : SvI K H s) (i : Im H H') : SvI K H' s := ⟨h.lt.im i, h.of.im i, h.lk, h.kn, fun t m => i _ _ (h.kt t m) rfl⟩
theorem row_same {H : Hp} {pl z : Str} {kl : List Addr} (h : ∀ t ∈ kl, H t = some (.tup [.str pl, .str z])) : RwI H kl (kl.map fun _ => (pl, z)) := by
  induction kl with
  | nil => trivial
  | cons t r ih => exact ⟨h t (List.mem_cons_self ..), ih fun x m => h x (List.mem_cons_of_mem _ m)⟩
theorem ss_is (a : SS) (b : SS) : decide (V.str a.s = V.str b.s) = decide (a = b) := by cases a <;> cases b <;> rfl
def newS (p dx la al : Addr) (L : Ltr) (o : Option Off) (pl : Str) (f : Int) : SvR := ⟨p, dx, la, al, L, o, pl, f, .opn, .non, none, [], ""⟩
def sv6 (la : Addr) (pl : Str) (f : Int) : List (Str × V) := [("letter", .ref la), ("place", .str pl), ("state", .str "open"), ("code", .non), ("_first", .int f), ("_wait", .non)]
instance {la : Addr} {pl : Str} {f : Int} : SmallF (sv6 la pl f) 6 := ⟨Nat.le_refl _⟩
def spSvInit (K : PySem.W.Frag) : Sp := fun vs H Q _ => ∃ (p dx la : Addr) (pl : Str) (f : Int), vs = [.ref p, .ref la, .str pl, .int f] ∧ H p = some (.ins (He.ga K "Server") dx []) ∧
  ∀ al H', (∀ L o, Run H [(p, .ins (He.ga K "Server") dx [])] H' (svM K (newS p dx la al L o pl f))) → Q .non H'
theorem ok_Server___init {P : Program} {w : World} {K : PySem.W.Frag} {mg : Str → Option Value} {base : Heap} {f : Addr} {fd : FuncData} (T : Tx K mg) 
    (F : FunD K "__init__" "Server.__init__" (defArgs s_Server___init) (defBody s_Server___init) (defScope s_Server___init) [] [] f fd) : FnOk P w K mg base CX0 1 f fd ["self", "letter", "place", "first"] (spSvInit K) := by
  refine F.ok sc_Server___init (fun vs H Q E h => ?_) (fun cdv A outer s H vs Q E hr h => ?_)
  · obtain ⟨p, dx, la, pl, f, rfl, _⟩ := h
    rfl
  · obtain ⟨p, dx, la, pl, f, rfl, hp, k⟩ := h
    refine ⟨_, PSs.nox (pss_cons (ps_fldC rfl T.cl_Server T.na_Server_letter (pv 0) (pv 1) rfl) (pss_cons (ps_fldC rfl T.cl_Server T.na_Server_place (pv 0) (pv 2) rfl) (pss_cons (ps_fldC rfl T.cl_Server T.na_Server_state (pv 0) pe_str rfl) (pss_cons (ps_fldC rfl T.cl_Server T.na_Server_code (pv 0) pe_non rfl) (pss_cons (ps_fldC rfl T.cl_Server T.na_Server__first (pv 0) (pv 3) rfl) (pss_cons (ps_fldC rfl T.cl_Server T.na_Server__wait (pv 0) pe_non rfl) (pss_one (ps_fldC rfl T.cl_Server T.na_Server__latest (pv 0) (pe_lst pa_nil) rfl)))))))), ?_⟩
    refine ⟨_, rfl, _, rfl, p, dx, _, rfl, hp, sm, ?_⟩
    refine ⟨_, rfl, _, rfl, p, dx, _, rfl, upd_same, sm, ?_⟩
    refine ⟨_, rfl, p, dx, _, rfl, upd_same, sm, ?_⟩
    refine ⟨_, rfl, p, dx, _, rfl, upd_same, sm, ?_⟩
    refine ⟨_, rfl, _, rfl, p, dx, _, rfl, upd_same, sm, ?_⟩
    refine ⟨_, rfl, p, dx, _, rfl, upd_same, sm, ?_⟩
    simp only [upd_upd]
    rw [show putF "_wait" V.non (putF "_first" (V.int f) (putF "code" V.non (putF "state" (V.str "open") (putF "place" (V.str pl) (putF "letter" (V.ref la) []))))) = (sv6 la pl f) from rfl]
    have r1 := (Run.refl (cells1 hp)).set (A := []) (B := []) (o' := .ins (He.ga K "Server") dx (sv6 la pl f)) rfl
    generalize upd H p (.ins (He.ga K "Server") dx (sv6 la pl f)) = H1 at r1 ⊢
    refine ⟨by show 0 ≤ sizeLine; decide, fun al hal => ?_⟩
    have r2 := r1.add (o := .lst []) hal
    refine ⟨_, rfl, p, dx, _, rfl, r2.c.get (o := .ins (He.ga K "Server") dx (sv6 la pl f)) (by simp), sm, ?_⟩
    have r3 := r2.set (A := [(al, .lst [])]) (B := []) (o' := .ins (He.ga K "Server") dx (svfl la pl "open" .non f .non al)) rfl
    exact k al _ fun L o => r3.perm (List.Perm.swap _ _ _)
def spSvOver (K : PySem.W.Frag) : Sp := fun vs H Q _ => ∃ s : SvR, vs = [.ref s.p] ∧ H s.p = some (svO K s) ∧ Q (.bl (decide (s.st = .ovr))) H
theorem ok_Server_is_over {P : Program} {w : World} {K : PySem.W.Frag} {mg : Str → Option Value} {base : Heap} {f : Addr} {fd : FuncData} (T : Tx K mg) 
    (F : FunD K "is_over" "Server.is_over" (defArgs s_Server_is_over) (defBody s_Server_is_over) (defScope s_Server_is_over) [] [] f fd) : FnOk P w K mg base CX0 1 f fd ["self"] (spSvOver K) := by
  refine F.ok sc_Server_is_over (fun vs H Q E h => ?_) (fun cdv A outer s0 H vs Q E hr h => ?_)
  · obtain ⟨s, rfl, _⟩ := h
    rfl
  · obtain ⟨s, rfl, hp, k⟩ := h
    refine ⟨_, PSs.nox (pss_one (ps_ret (pe_cmpR op_eq (pe_fldC rfl T.cl_Server T.na_Server_state (pv 0) rfl) pe_str (nomark _)))), ?_⟩
    refine ⟨_, rfl, s.p, s.dx, _, _, rfl, hp, rfl, rfl, ?_⟩
    have e : decide (V.str s.st.s = V.str "over") = decide (s.st = .ovr) := by cases s.st <;> rfl
    rw [e]
    exact k
def againL (s : SvR) : List Addr := if (decide (s.st = .opn) || decide (s.st = .snt)) = true then s.tl else []
def againO (s : SvR) : List (Str × Str) := (againL s).map fun _ => (s.pl, s.tz)
def spSvAgain (K : PySem.W.Frag) : Sp := fun vs H Q _ => ∃ s : SvR, vs = [.ref s.p] ∧ Cells H (svM K s) ∧ SvI K H s ∧ ∀ r ts H', Same H H' → H r = none → H' r = some (.lst (ts.map V.ref)) → RwI H' ts (againO s) → Q (.ref r) H'
theorem ok_Server_again {P : Program} {w : World} {K : PySem.W.Frag} {mg : Str → Option Value} {base : Heap} {f : Addr} {fd : FuncData} (T : Tx K mg) 
    (F : FunD K "again" "Server.again" (defArgs s_Server_again) (defBody s_Server_again) (defScope s_Server_again) [] [] f fd) : FnOk P w K mg base CX0 1 f fd ["self"] (spSvAgain K) := by
  refine F.ok sc_Server_again (fun vs H Q E h => ?_) (fun cdv A outer s0 H vs Q E hr h => ?_)
  · obtain ⟨s, rfl, _⟩ := h
    rfl
  · obtain ⟨s, rfl, hc, hi, k⟩ := h
    have hp : H s.p = some (svO K s) := hc.get (by simp [svM])
    have hl : H s.al = some (.lst (s.tl.map V.ref)) := hc.get (by simp [svM])
    refine ⟨_, PSs.nox (pss_one (ps_ret (pe_ifExp (pt_cmpR op_in_seq (pe_fldC rfl T.cl_Server T.na_Server_state (pv 0) rfl) (pe_tup (pa_cons pe_str (pa_cons pe_str pa_nil))) (by with_unfolding_all rfl)) (pe_callTy call_list_of rfl T.f_list (by decide +kernel) (pa_cons (pe_fldC rfl T.cl_Server T.na_Server__latest (pv 0) rfl) pa_nil)) (pe_lst pa_nil)))), ?_⟩
    refine ⟨_, rfl, s.p, s.dx, _, _, rfl, hp, rfl, by show 2 ≤ sizeLine; decide, fun t hnt => ?_⟩
    have st := same_upd (o := .tup [.str "open", .str "sent"]) hnt
    refine ⟨t, _, rfl, .inr (SqT.of upd_same), rfl, rfl, _, rfl, ?_⟩
    have e1 : inV (V.str s.st.s) [.str "open", .str "sent"] = (decide (s.st = .opn) || decide (s.st = .snt)) := by cases s.st <;> rfl
    show (if inV (V.str s.st.s) [.str "open", .str "sent"] = true then _ else _)
    rw [e1]
    have hrw : RwI H (againL s) (againO s) := by
      unfold againO againL
      split
      · exact row_same hi.kt
      · trivial
    cases e : (decide (s.st = .opn) || decide (s.st = .snt)) with
    | true =>
      have e2 : againL s = s.tl := if_pos e
      refine iteT ⟨_, rfl, s.p, s.dx, _, _, rfl, st _ _ hp, rfl, s.al, _, rfl, .inl (SqL.of (st _ _ hl)), fun r hr => ?_⟩
      have sr := st.trans (same_upd (o := .lst (s.tl.map V.ref)) hr)
      exact k r (againL s) _ sr (st.free hr) (by rw [e2]; exact upd_same) (hrw.im (Im.of_same sr))
    | false =>
      have e2 : againL s = [] := if_neg (by rw [e]; exact Bool.false_ne_true)
      refine iteF ⟨by show 0 ≤ sizeLine; decide, fun r hr => ?_⟩
      have sr := st.trans (same_upd (o := .lst []) hr)
      exact k r (againL s) _ sr (st.free hr) (by rw [e2]; exact upd_same) (hrw.im (Im.of_same sr))
/-! reply, keep -/
def replyS (s : SvR) (text : Str) (n now : Int) (al t wa wx : Addr) : SvR :=
  if s.st = .opn then (if 20 ≤ n then { s with st := .snt, code := .int n, al := al, tl := [t], tz := text, w := some ⟨wa, wx, now, s.f, now + s.f⟩ } else { s with code := .int n, al := al, tl := [t], tz := text }) else s
def replyO (s : SvR) (text : Str) : List (Str × Str) := if s.st = .opn then [(s.pl, text)] else []
def spSvReply (K : PySem.W.Frag) : Sp := fun vs H Q _ => ∃ (s : SvR) (b : Addr) (M : Ltr) (o : Option Off) (n now : Int), vs = [.ref s.p, .ref b, .int now] ∧ Cells H (svM K s) ∧ SvI K H s ∧ LetAt K H b M ∧ LOk M ∧ OffO H M.offer o ∧ XOk M o ∧ M.code = .int n ∧
  ∀ r ts al t wa wx H', Run H (svM K s) H' ((r, .lst (ts.map V.ref)) :: svM K (replyS s (textOf (linesX M o)) n now al t wa wx)) → SvI K H' (replyS s (textOf (linesX M o)) n now al t wa wx) → RwI H' ts (replyO s (textOf (linesX M o))) → Q (.ref r) H'
theorem ok_Server_reply {P : Program} {w : World} {K : PySem.W.Frag} {mg : Str → Option Value} {base : Heap} {f : Addr} {fd : FuncData} (T : Tx K mg) (c_write : C8.Cal P w K mg base 2 "write" (spWrite1 K) []) (c_is_final : C8.Cal P w K mg base 1 "is_final" spFinal []) (c_mk_Wait : C8.Mak P w K mg base 1 "Wait" (He.ga K "Wait") (spWaitInit K) [])
    (F : FunD K "reply" "Server.reply" (defArgs s_Server_reply) (defBody s_Server_reply) (defScope s_Server_reply) [] [] f fd) : FnOk P w K mg base CX0 3 f fd ["self", "letter", "now"] (spSvReply K) := by
  refine F.ok sc_Server_reply (fun vs H Q E h => ?_) (fun cdv A outer s0 H vs Q E hr h => ?_)
  · obtain ⟨s, b, M, o, n, now, rfl, _⟩ := h
    rfl
  · obtain ⟨s, b, M, o, n, now, rfl, hc, hi, hb, lm, om, xm, em, k⟩ := h
    have hp : H s.p = some (svO K s) := hc.get (by simp [svM])
    have r0 := Run.refl hc
    obtain ⟨dm, hm⟩ := id hb
    generalize htx : textOf (linesX M o) = text at *
    refine ⟨_, PSs.nox (C8.pss_cut (ps_if (pt_cmpR op_ne (pe_fldC rfl T.cl_Server T.na_Server_state (pv 0) rfl) pe_str (nomark _)) (pss_one (ps_ret (pe_lst pa_nil))) pss_nil) (pss_cons (ps_fldC rfl T.cl_Server T.na_Server_code (pv 0) (pe_fldC rfl T.cl_Letter T.na_Letter_code (pv 1) rfl) rfl) (pss_cons (ps_fldC rfl T.cl_Server T.na_Server__latest (pv 0) (pe_lst (pa_cons (pe_tup (pa_cons (pe_fldC rfl T.cl_Server T.na_Server_place (pv 0) rfl) (pa_cons (pe_c c_write hr (by decide) rfl (pa_cons (pv 1) pa_nil)) pa_nil))) pa_nil)) rfl) (C8.pss_cut (ps_if (pt_val (pe_c c_is_final hr (by decide) rfl (pa_cons (pe_fldC rfl T.cl_Letter T.na_Letter_code (pv 1) rfl) pa_nil))) (pss_cons (ps_fldC rfl T.cl_Server T.na_Server_state (pv 0) pe_str rfl) (pss_one (ps_fldC rfl T.cl_Server T.na_Server__wait (pv 0) (C8.pe_mk c_mk_Wait hr (by decide) rfl (pa_cons (pv 2) (pa_cons (pe_fldC rfl T.cl_Server T.na_Server__first (pv 0) rfl) pa_nil))) rfl))) pss_nil) (pss_one (ps_ret (pe_callTy call_list_of rfl T.f_list (by decide +kernel) (pa_cons (pe_fldC rfl T.cl_Server T.na_Server__latest (pv 0) rfl) pa_nil)))))))), ?_⟩
    refine ⟨fun σ' H' => σ' = [some (.ref s.p), some (.ref b), some (.int now)] ∧ H' = H ∧ s.st = .opn, ?_, ?_⟩
    · refine ⟨_, rfl, s.p, s.dx, _, _, rfl, hp, rfl, rfl, _, rfl, ?_⟩
      show (if (!decide (V.str s.st.s = V.str SS.opn.s)) = true then _ else _)
      rw [ss_is]
      by_cases e : s.st = .opn
      · rw [decide_eq_true e]
        exact iteF ⟨rfl, rfl, e⟩
      · rw [decide_eq_false e]
        have e1 : ∀ al t wa wx, replyS s text n now al t wa wx = s := fun al t wa wx => if_neg e
        have e2 : replyO s text = [] := if_neg e
        simp only [e1, e2] at k
        refine iteT ⟨by show 0 ≤ sizeLine; decide, fun l hl => ?_⟩
        exact k l [] 0 0 0 0 _ (r0.add hl) (hi.im (Im.of_same (same_upd hl))) trivial
    rintro σ' H1 ⟨rfl, e9, hst⟩
    obtain rfl : H = H1 := e9.symm
    have e2 : replyO s text = [(s.pl, text)] := if_pos hst
    rw [e2] at k
    refine ⟨_, rfl, b, dm, _, _, rfl, hm, rfl, _, rfl, s.p, s.dx, _, rfl, hp, sm, ?_⟩
    rw [em, show putF "code" (V.int n) (svfl s.la s.pl s.st.s s.code s.f (wvO s.w) s.al) = svfl s.la s.pl s.st.s (.int n) s.f (wvO s.w) s.al from rfl]
    have r1 := r0.set (A := []) (B := (s.al, .lst (s.tl.map V.ref)) :: wM K s.f s.w) (o' := .ins (He.ga K "Server") s.dx (svfl s.la s.pl s.st.s (.int n) s.f (wvO s.w) s.al)) rfl
    generalize upd H s.p (.ins (He.ga K "Server") s.dx (svfl s.la s.pl s.st.s (.int n) s.f (wvO s.w) s.al)) = H1 at r1 ⊢
    have hp1 := r1.c.get (a := s.p) (o := .ins (He.ga K "Server") s.dx (svfl s.la s.pl s.st.s (.int n) s.f (wvO s.w) s.al)) (by simp)
    have hb1 := hb.im r1.im
    refine ⟨_, rfl, s.p, s.dx, _, _, rfl, hp1, rfl, _, rfl, b, M, rfl, hb1, lm, o, om.im r1.im, xm, fun H2 s2 => ⟨by show 2 ≤ sizeLine; decide, fun t hnt => ⟨by show 1 ≤ sizeLine; decide, fun l hnl => ?_⟩⟩⟩
    rw [htx] at hnl ⊢
    obtain ⟨n1, n2, s5, g1, g2⟩ := new2 (o := .tup [.str s.pl, .str text]) (u := .lst [.ref t]) hnt hnl
    have s25 := s2.trans s5
    have r2 := r1.new s25 (s2.free n2) g2
    have hp2 := s25 _ _ hp1
    have hb2 := hb1.same s25
    generalize (upd (upd H2 t (.tup [.str s.pl, .str text])) l (.lst [.ref t])) = H3 at r2 g1 hp2 hb2 ⊢
    refine ⟨_, rfl, s.p, s.dx, _, rfl, hp2, sm, ?_⟩
    rw [show putF "_latest" (V.ref l) (svfl s.la s.pl s.st.s (.int n) s.f (wvO s.w) s.al) = svfl s.la s.pl s.st.s (.int n) s.f (wvO s.w) l from rfl]
    have r3 := r2.set (A := [(l, .lst [.ref t])]) (B := (s.al, .lst (s.tl.map V.ref)) :: wM K s.f s.w) (o' := .ins (He.ga K "Server") s.dx (svfl s.la s.pl s.st.s (.int n) s.f (wvO s.w) l)) rfl
    have g3 := (r3.im) 
    have g4 : (upd H3 s.p (.ins (He.ga K "Server") s.dx (svfl s.la s.pl s.st.s (.int n) s.f (wvO s.w) l))) t = some (.tup [.str s.pl, .str text]) := (upd_ne (ne_of g1 hp2 (by intro z; cases z))).trans g1
    have r4 : Run H (svM K s) (upd H3 s.p (.ins (He.ga K "Server") s.dx (svfl s.la s.pl s.st.s (.int n) s.f (wvO s.w) l))) (svM K { s with code := .int n, al := l, tl := [t], tz := text }) :=
      (r3.sub (M2 := (l, .lst [.ref t]) :: (s.p, .ins (He.ga K "Server") s.dx (svfl s.la s.pl s.st.s (.int n) s.f (wvO s.w) l)) :: wM K s.f s.w) (((List.Sublist.cons _ (List.Sublist.refl _)).cons₂ _).cons₂ _)).perm (List.Perm.swap _ _ _)
    generalize upd H3 s.p (.ins (He.ga K "Server") s.dx (svfl s.la s.pl s.st.s (.int n) s.f (wvO s.w) l)) = H4 at r4 g4 ⊢
    clear r3 r2 r1 g1 g2 g3 hp1 hp2
    -- final
    refine ⟨fun σ' H' => σ' = [some (.ref s.p), some (.ref b), some (.int now)] ∧ ∃ wa wx, Run H (svM K s) H' (svM K (replyS s text n now l t wa wx)) ∧ H' t = some (.tup [.str s.pl, .str text]), ?_, ?_⟩
    · have hb4 := hb.im r4.im
      obtain ⟨dm4, hm4⟩ := hb4
      refine ⟨_, rfl, b, dm4, _, _, rfl, hm4, rfl, n, congrArg (fun v => [v]) em, _, rfl, ?_⟩
      by_cases e : 20 ≤ n
      · rw [decide_eq_true (show n ≥ 20 from e)]
        have e1 : ∀ wa wx, replyS s text n now l t wa wx = { s with st := .snt, code := .int n, al := l, tl := [t], tz := text, w := some ⟨wa, wx, now, s.f, now + s.f⟩ } := fun wa wx => by unfold replyS; rw [if_pos hst, if_pos e]
        have hp4 := r4.c.get (a := s.p) (o := .ins (He.ga K "Server") s.dx (svfl s.la s.pl s.st.s (.int n) s.f (wvO s.w) l)) (by simp [svM, svO])
        refine iteT ⟨_, rfl, s.p, s.dx, _, rfl, hp4, sm, ?_⟩
        rw [show putF "state" (V.str "sent") (svfl s.la s.pl s.st.s (.int n) s.f (wvO s.w) l) = svfl s.la s.pl "sent" (.int n) s.f (wvO s.w) l from rfl]
        have r5 := r4.set (A := []) (B := (l, .lst [.ref t]) :: wM K s.f s.w) (o' := .ins (He.ga K "Server") s.dx (svfl s.la s.pl "sent" (.int n) s.f (wvO s.w) l)) rfl
        have g5 : (upd H4 s.p (.ins (He.ga K "Server") s.dx (svfl s.la s.pl "sent" (.int n) s.f (wvO s.w) l))) t = some (.tup [.str s.pl, .str text]) := (upd_ne (ne_of g4 hp4 (by intro z; cases z))).trans g4
        generalize upd H4 s.p (.ins (He.ga K "Server") s.dx (svfl s.la s.pl "sent" (.int n) s.f (wvO s.w) l)) = H5 at r5 g5 ⊢
        have hp5 := r5.c.get (a := s.p) (o := .ins (He.ga K "Server") s.dx (svfl s.la s.pl "sent" (.int n) s.f (wvO s.w) l)) (by simp)
        refine ⟨_, rfl, _, rfl, s.p, s.dx, _, _, rfl, hp5, rfl, fun x dx' hx hdx hne => ?_⟩
        refine ⟨x, dx', now, s.f, rfl, upd_same, ?_⟩
        rw [upd_upd]
        have r6 := r5.own (o := .ins (He.ga K "Wait") dx' (wfl now s.f s.f (now + s.f))) hx hdx hne.symm
        have g6 := (same_own (C := He.ga K "Wait") (fs := wfl now s.f s.f (now + s.f)) hx hdx) _ _ g5
        generalize upd (upd H5 dx' (.own x)) x (.ins (He.ga K "Wait") dx' (wfl now s.f s.f (now + s.f))) = H6 at r6 g6 ⊢
        have hp6 := r6.c.get (a := s.p) (o := .ins (He.ga K "Server") s.dx (svfl s.la s.pl "sent" (.int n) s.f (wvO s.w) l)) (by simp)
        refine ⟨rfl, _, rfl, s.p, s.dx, _, rfl, hp6, sm, rfl, x, dx', ?_, ?_⟩
        · rw [e1, show putF "_wait" (V.ref x) (svfl s.la s.pl "sent" (.int n) s.f (wvO s.w) l) = svfl s.la s.pl "sent" (.int n) s.f (.ref x) l from rfl]
          have r7 := r6.set (A := [(x, .ins (He.ga K "Wait") dx' (wfl now s.f s.f (now + s.f)))]) (B := (l, .lst [.ref t]) :: wM K s.f s.w) (o' := .ins (He.ga K "Server") s.dx (svfl s.la s.pl "sent" (.int n) s.f (.ref x) l)) rfl
          exact (r7.sub (List.sublist_append_left [(x, HO.ins (He.ga K "Wait") dx' (wfl now s.f s.f (now + s.f))), (s.p, .ins (He.ga K "Server") s.dx (svfl s.la s.pl "sent" (.int n) s.f (.ref x) l)), (l, .lst [.ref t])] (wM K s.f s.w))).perm (perm_of3 _ _ _)
        · exact (upd_ne (ne_of g6 hp6 (by intro z; cases z))).trans g6
      · rw [decide_eq_false (show ¬ n ≥ 20 from e)]
        have e1 : ∀ wa wx, replyS s text n now l t wa wx = { s with code := .int n, al := l, tl := [t], tz := text } := fun wa wx => by unfold replyS; rw [if_pos hst, if_neg e]
        exact iteF ⟨rfl, 0, 0, by rw [e1]; exact r4, g4⟩
    rintro σ' H5 ⟨rfl, wa, wx, r5, g5⟩
    have e3 : (replyS s text n now l t wa wx).p = s.p ∧ (replyS s text n now l t wa wx).al = l ∧ (replyS s text n now l t wa wx).tl = [t] ∧ (replyS s text n now l t wa wx).dx = s.dx ∧ SvI K H5 (replyS s text n now l t wa wx) := by
      have h := hi.im r5.im
      unfold replyS
      rw [if_pos hst]
      split
      · exact ⟨rfl, rfl, rfl, rfl, h.lt, h.of, h.lk, Nat.le_refl 1, fun y m => by rw [List.mem_singleton.mp m]; exact g5⟩
      · exact ⟨rfl, rfl, rfl, rfl, h.lt, h.of, h.lk, Nat.le_refl 1, fun y m => by rw [List.mem_singleton.mp m]; exact g5⟩
    have k9 := fun r H' => k r [t] l t wa wx H'
    generalize replyS s text n now l t wa wx = s' at *
    obtain ⟨e4, e5, e6, e7, hi5⟩ := e3
    have hp5 : H5 s'.p = some (svO K s') := r5.c.get (by simp [svM])
    have hl5 : H5 s'.al = some (.lst (s'.tl.map V.ref)) := r5.c.get (by simp [svM])
    rw [e4] at hp5
    rw [e6] at hl5
    refine ⟨_, rfl, s.p, s'.dx, _, _, rfl, hp5, rfl, s'.al, _, rfl, .inl (SqL.of hl5), fun r hnr => ?_⟩
    have r6 := r5.add (o := .lst (([t] : List Addr).map V.ref)) hnr
    have s6 := same_upd (o := .lst (([t] : List Addr).map V.ref)) hnr
    exact k9 r _ r6 (hi5.im (Im.of_same s6)) (RwI.one (s6 _ _ g5))

end K19
set_option maxHeartbeats 4000000
set_option pp.maxSteps 400
namespace K19
open PySem PySem.Spec PyProof.Rows L2 SX TK TKS TKC
open C8 (pe_c)
/-! ### servers: keep, matches -/
def keepB (s : SvR) : Bool := decide (s.st = .snt) && isC s.L
def keepS (s : SvR) (now : Int) (wa wx : Addr) : SvR := if keepB s = true then { s with st := .kpt, w := some ⟨wa, wx, now, s.f, now + s.f⟩ } else s
def spSvKeep (K : PySem.W.Frag) : Sp := fun vs H Q _ => ∃ (s : SvR) (now : Int), vs = [.ref s.p, .int now] ∧ Cells H (svM K s) ∧ LetAt K H s.la s.L ∧ ∀ wa wx H', Run H (svM K s) H' (svM K (keepS s now wa wx)) → Q (.bl (keepB s)) H'
theorem ok_Server_keep {P : Program} {w : World} {K : PySem.W.Frag} {mg : Str → Option Value} {base : Heap} {f : Addr} {fd : FuncData} (T : Tx K mg) (c_mk_Wait : C8.Mak P w K mg base 1 "Wait" (He.ga K "Wait") (spWaitInit K) [])
    (F : FunD K "keep" "Server.keep" (defArgs s_Server_keep) (defBody s_Server_keep) (defScope s_Server_keep) [] [] f fd) : FnOk P w K mg base CX0 3 f fd ["self", "now"] (spSvKeep K) := by
  refine F.ok sc_Server_keep (fun vs H Q E h => ?_) (fun cdv A outer s0 H vs Q E hr h => ?_)
  · obtain ⟨s, now, rfl, _⟩ := h
    rfl
  · obtain ⟨s, now, rfl, hc, ⟨dl, hl⟩, k⟩ := h
    have hp : H s.p = some (svO K s) := hc.get (by simp [svM])
    have r0 := Run.refl hc
    have eK : keepB s = (decide (s.st = .snt) && decide (s.L.verb = "CALL")) := rfl
    refine ⟨_, PSs.nox (C8.pss_cut (ps_if (PW.pt (pw_or (pt_cmpR op_ne (pe_fldC rfl T.cl_Server T.na_Server_state (pv 0) rfl) pe_str (nomark _)) (pw_or1 (pt_cmpR op_ne (pe_fldC rfl T.cl_Letter T.na_Letter_verb (pe_fldC rfl T.cl_Server T.na_Server_letter (pv 0) rfl) rfl) pe_str (nomark _))))) (pss_one (ps_ret pe_bl)) pss_nil) (pss_cons (ps_fldC rfl T.cl_Server T.na_Server_state (pv 0) pe_str rfl) (pss_cons (ps_fldC rfl T.cl_Server T.na_Server__wait (pv 0) (C8.pe_mk c_mk_Wait hr (by decide) rfl (pa_cons (pv 1) (pa_cons (pe_fldC rfl T.cl_Server T.na_Server__first (pv 0) rfl) pa_nil))) rfl) (pss_one (ps_ret pe_bl))))), ?_⟩
    refine ⟨fun σ' H' => σ' = [some (.ref s.p), some (.int now)] ∧ H' = H ∧ keepB s = true, ?_, ?_⟩
    · have no : keepB s = false → Q (.bl false) H := fun e => by
        have e1 : ∀ wa wx, keepS s now wa wx = s := fun wa wx => if_neg (by rw [e]; exact Bool.false_ne_true)
        have q := k 0 0 H (by rw [e1]; exact r0)
        rw [e] at q
        exact q
      refine ⟨_, rfl, s.p, s.dx, _, _, rfl, hp, rfl, rfl, _, rfl, ?_⟩
      show (if (!decide (V.str s.st.s = V.str SS.snt.s)) = true then _ else _)
      rw [ss_is]
      cases e : decide (s.st = .snt) with
      | false => exact iteT (iteT (no (by rw [eK, e]; rfl)))
      | true =>
        refine iteF ⟨_, rfl, s.p, s.dx, _, _, rfl, hp, rfl, s.la, dl, _, _, rfl, hl, rfl, rfl, _, rfl, ?_⟩
        rw [vstr]
        cases e1 : decide (s.L.verb = "CALL") with
        | false => exact iteT (no (by rw [eK, e, e1]; rfl))
        | true => exact iteF ⟨rfl, rfl, by rw [eK, e, e1]; rfl⟩
    rintro σ' H1 ⟨rfl, e9, eB⟩
    obtain rfl : H = H1 := e9.symm
    refine ⟨_, rfl, s.p, s.dx, _, rfl, hp, sm, ?_⟩
    rw [show putF "state" (V.str "kept") (svfl s.la s.pl s.st.s s.code s.f (wvO s.w) s.al) = svfl s.la s.pl "kept" s.code s.f (wvO s.w) s.al from rfl]
    have r5 := r0.set (A := []) (B := (s.al, .lst (s.tl.map V.ref)) :: wM K s.f s.w) (o' := .ins (He.ga K "Server") s.dx (svfl s.la s.pl "kept" s.code s.f (wvO s.w) s.al)) rfl
    generalize upd H s.p (.ins (He.ga K "Server") s.dx (svfl s.la s.pl "kept" s.code s.f (wvO s.w) s.al)) = H5 at r5 ⊢
    have hp5 := r5.c.get (a := s.p) (o := .ins (He.ga K "Server") s.dx (svfl s.la s.pl "kept" s.code s.f (wvO s.w) s.al)) (by simp)
    refine ⟨_, rfl, _, rfl, s.p, s.dx, _, _, rfl, hp5, rfl, fun x dx' hx hdx hne => ?_⟩
    refine ⟨x, dx', now, s.f, rfl, upd_same, ?_⟩
    rw [upd_upd]
    have r6 := r5.own (o := .ins (He.ga K "Wait") dx' (wfl now s.f s.f (now + s.f))) hx hdx hne.symm
    generalize upd (upd H5 dx' (.own x)) x (.ins (He.ga K "Wait") dx' (wfl now s.f s.f (now + s.f))) = H6 at r6 ⊢
    have hp6 := r6.c.get (a := s.p) (o := .ins (He.ga K "Server") s.dx (svfl s.la s.pl "kept" s.code s.f (wvO s.w) s.al)) (by simp)
    refine ⟨rfl, _, rfl, s.p, s.dx, _, rfl, hp6, sm, ?_⟩
    rw [show putF "_wait" (V.ref x) (svfl s.la s.pl "kept" s.code s.f (wvO s.w) s.al) = svfl s.la s.pl "kept" s.code s.f (.ref x) s.al from rfl]
    have r7 := r6.set (A := [(x, .ins (He.ga K "Wait") dx' (wfl now s.f s.f (now + s.f)))]) (B := (s.al, .lst (s.tl.map V.ref)) :: wM K s.f s.w) (o' := .ins (He.ga K "Server") s.dx (svfl s.la s.pl "kept" s.code s.f (.ref x) s.al)) rfl
    have r8 := (r7.sub (List.sublist_append_left [(x, HO.ins (He.ga K "Wait") dx' (wfl now s.f s.f (now + s.f))), (s.p, .ins (He.ga K "Server") s.dx (svfl s.la s.pl "kept" s.code s.f (.ref x) s.al)), (s.al, .lst (s.tl.map V.ref))] (wM K s.f s.w))).perm (perm_of3 _ _ _)
    have q := k x dx' _ (by rw [show keepS s now x dx' = _ from if_pos eB]; exact r8)
    rw [eB] at q
    exact q
def keyD (L : Ltr) : PyData := .tuple [.str L.call, .str L.otag, .int L.seq, .str L.way]
theorem keyD_ok {L : Ltr} (h : LOk L) : SeqAt.shaped (keyD L) = true := by
  obtain ⟨_, h1, _, h2, _, _, h3⟩ := h.oks
  have q : (keyD L).canLay0 = true := by simp [keyD, PyData.canLay0, PyData.canLayAll0, show PyData.strOk L.call = true from h1, show PyData.strOk L.otag = true from h2, show PyData.strOk L.way = true from h3]
  unfold SeqAt.shaped
  rw [q, Bool.true_and, decide_eq_true_eq]
  simp [keyD, PyData.depth, PyData.depthAll]
/-- the same request -/
def sameB (O M : Ltr) : Bool := decide (M.call = O.call) && (decide (M.otag = O.otag) && (decide (M.seq = O.seq) && decide (M.way = O.way)))
theorem sameB_eq (O M : Ltr) : PyData.eqv (keyD M) (keyD O) = sameB O M := by
  simp only [keyD, PyData.eqv, PyData.eqvAll, Bool.and_true]
  rfl
def matchB (O M : Ltr) (opl pl : Str) : Bool :=
  if (!decide (M.code = .non)) = true then false else if (!decide (pl = opl)) = true then false
  else if (!decide (M.verb = O.verb) && !(decide (M.verb = "KEEP") && decide (O.verb = "CALL"))) = true then false else sameB O M
def spSvMatch (K : PySem.W.Frag) : Sp := fun vs H Q _ => ∃ (s : SvR) (b : Addr) (M : Ltr) (pl : Str), vs = [.ref s.p, .ref b, .str pl] ∧ H s.p = some (svO K s) ∧ LetAt K H s.la s.L ∧ LetAt K H b M ∧ LOk M ∧ LOk s.L ∧ ∀ H', Same H H' → Q (.bl (matchB s.L M s.pl pl)) H'
theorem ok_Server_matches {P : Program} {w : World} {K : PySem.W.Frag} {mg : Str → Option Value} {base : Heap} {f : Addr} {fd : FuncData} (T : Tx K mg) 
    (F : FunD K "matches" "Server.matches" (defArgs s_Server_matches) (defBody s_Server_matches) (defScope s_Server_matches) [] [] f fd) : FnOk P w K mg base CX0 1 f fd ["self", "letter", "place"] (spSvMatch K) := by
  refine F.ok sc_Server_matches (fun vs H Q E h => ?_) (fun cdv A outer s0 H vs Q E hr h => ?_)
  · obtain ⟨s, b, M, pl, rfl, _⟩ := h
    rfl
  · obtain ⟨s, b, M, pl, rfl, hp, ⟨dl, hl⟩, ⟨db, hb⟩, kM, kL, k⟩ := h
    refine ⟨_, PSs.nox (pss_cons (ps_set (i := 3) sc_Server_matches.nd rfl (Or.inl rfl) (pe_fldC rfl T.cl_Server T.na_Server_letter (pv 0) rfl)) (C8.pss_cut (ps_if (PW.pt (pw_or (pt_cmpR op_notN (pe_fldC rfl T.cl_Letter T.na_Letter_code (pv 1) rfl) pe_non (nomark _)) (pw_or1 (pt_cmpR op_ne (pv 2) (pe_fldC rfl T.cl_Server T.na_Server_place (pv 0) rfl) (nomark _))))) (pss_one (ps_ret pe_bl)) pss_nil) (C8.pss_cut (ps_if (PW.pt (pw_and (pt_cmpR op_ne (pe_fldC rfl T.cl_Letter T.na_Letter_verb (pv 1) rfl) (pe_fldC rfl T.cl_Letter T.na_Letter_verb (pv 3) rfl) (nomark _)) (pw_and1 (pt_not (PW.pt (pw_and (pt_cmpR op_eq (pe_fldC rfl T.cl_Letter T.na_Letter_verb (pv 1) rfl) pe_str (nomark _)) (pw_and1 (pt_cmpR op_eq (pe_fldC rfl T.cl_Letter T.na_Letter_verb (pv 3) rfl) pe_str (nomark _))))))))) (pss_one (ps_ret pe_bl)) pss_nil) (pss_one (ps_ret (pe_cmpR (op_eqD hr.units) (pe_tup (pa_cons (pe_fldC rfl T.cl_Letter T.na_Letter_call (pv 1) rfl) (pa_cons (pe_fldC rfl T.cl_Letter T.na_Letter_origin_tag (pv 1) rfl) (pa_cons (pe_fldC rfl T.cl_Letter T.na_Letter_seq (pv 1) rfl) (pa_cons (pe_fldC rfl T.cl_Letter T.na_Letter_way (pv 1) rfl) pa_nil))))) (pe_tup (pa_cons (pe_fldC rfl T.cl_Letter T.na_Letter_call (pv 3) rfl) (pa_cons (pe_fldC rfl T.cl_Letter T.na_Letter_origin_tag (pv 3) rfl) (pa_cons (pe_fldC rfl T.cl_Letter T.na_Letter_seq (pv 3) rfl) (pa_cons (pe_fldC rfl T.cl_Letter T.na_Letter_way (pv 3) rfl) pa_nil))))) (nomark _))))))), ?_⟩
    refine ⟨_, rfl, s.p, s.dx, _, _, rfl, hp, rfl, ?_⟩
    have kS := k H (Same.refl _)
    unfold matchB at k kS
    refine ⟨fun σ' H' => σ' = [some (.ref s.p), some (.ref b), some (.str pl), some (.ref s.la)] ∧ H' = H ∧ (!decide (M.code = .non)) = false ∧ (!decide (pl = s.pl)) = false, ?_, ?_⟩
    · refine ⟨_, rfl, b, db, _, _, rfl, hb, rfl, rfl, _, rfl, ?_⟩
      cases e1 : (!decide (M.code = .non)) with
      | true =>
        rw [e1, if_pos rfl] at kS
        exact iteT (iteT kS)
      | false =>
        rw [e1, if_neg Bool.false_ne_true] at kS
        refine iteF ⟨_, rfl, _, rfl, s.p, s.dx, _, _, rfl, hp, rfl, rfl, _, rfl, ?_⟩
        rw [vstr]
        cases e2 : (!decide (pl = s.pl)) with
        | true =>
          rw [e2, if_pos rfl] at kS
          exact iteT kS
        | false => exact iteF ⟨rfl, rfl, rfl, rfl⟩
    rintro σ' H' ⟨rfl, e9, e1, e2⟩
    obtain rfl : H = H' := e9.symm
    rw [e1, if_neg Bool.false_ne_true, e2, if_neg Bool.false_ne_true] at k kS
    refine ⟨fun σ' H2 => σ' = [some (.ref s.p), some (.ref b), some (.str pl), some (.ref s.la)] ∧ H2 = H ∧ (!decide (M.verb = s.L.verb) && !(decide (M.verb = "KEEP") && decide (s.L.verb = "CALL"))) = false, ?_, ?_⟩
    · refine ⟨_, rfl, b, db, _, _, rfl, hb, rfl, _, rfl, s.la, dl, _, _, rfl, hl, rfl, rfl, _, rfl, ?_⟩
      rw [vstr]
      cases e3 : (!decide (M.verb = s.L.verb)) with
      | false => exact iteF (iteF ⟨rfl, rfl, rfl⟩)
      | true =>
        rw [e3] at kS
        refine iteT ⟨_, rfl, b, db, _, _, rfl, hb, rfl, rfl, _, rfl, ?_⟩
        rw [vstr]
        cases e4 : decide (M.verb = "KEEP") with
        | false =>
          rw [e4] at kS
          exact iteF (iteT kS)
        | true =>
          rw [e4] at kS
          refine iteT ⟨_, rfl, s.la, dl, _, _, rfl, hl, rfl, rfl, _, rfl, ?_⟩
          rw [vstr]
          cases e5 : decide (s.L.verb = "CALL") with
          | false =>
            rw [e5] at kS
            exact iteT kS
          | true => exact iteF ⟨rfl, rfl, rfl⟩
    rintro σ' H2 ⟨rfl, e9, e3⟩
    obtain rfl : H = H2 := e9.symm
    rw [e3, if_neg Bool.false_ne_true] at k
    refine ⟨_, rfl, b, db, _, _, rfl, hb, rfl, _, rfl, b, db, _, _, rfl, hb, rfl, _, rfl, b, db, _, _, rfl, hb, rfl, _, rfl, b, db, _, _, rfl, hb, rfl, by show 4 ≤ sizeLine; decide, fun t hnt => ?_⟩
    have s1 := same_upd (o := .tup [.str M.call, .str M.otag, .int M.seq, .str M.way]) hnt
    have hl1 := s1 _ _ hl
    refine ⟨_, rfl, s.la, dl, _, _, rfl, hl1, rfl, _, rfl, s.la, dl, _, _, rfl, hl1, rfl, _, rfl, s.la, dl, _, _, rfl, hl1, rfl, _, rfl, s.la, dl, _, _, rfl, hl1, rfl, by show 4 ≤ sizeLine; decide, fun t2 hnt2 => ?_⟩
    have s2 := same_upd (o := .tup [.str s.L.call, .str s.L.otag, .int s.L.seq, .str s.L.way]) hnt2
    refine ⟨keyD M, keyD s.L, .tup (SqT.of (s2 _ _ upd_same)) (.cons (.str _) (.cons (.str _) (.cons (.int _) (.cons (.str _) .nil)))), .tup (SqT.of upd_same) (.cons (.str _) (.cons (.str _) (.cons (.int _) (.cons (.str _) .nil)))), keyD_ok kM, keyD_ok kL, ?_⟩
    rw [sameB_eq]
    exact k _ (s1.trans s2)

end K19
set_option maxHeartbeats 4000000
set_option pp.maxSteps 400
namespace K19
open PySem PySem.Spec PyProof.Rows L2 SX TK TKS TKC
open C8 (pe_c)
/-! ### legs -/
structure LegR where
  p : Addr
  dx : Addr
  cl : Addr
  sv : Addr
  wt : Addr
  ev : Addr
  tag : Str
  call : Str
  own : Str
  other : Str
  place : Str
  ab : V
  able : Off
  first : Int
  check : Int
  ot : Str
  st : Str
  seq : Int
  req : Int
  took : Bool
  gt : Int
  live : Int
  cs : List ClR
  ss : List SvR
  ws : List (Addr × List V)
  es : List (Addr × List V)
def legfl (R : LegR) : List (Str × V) := [("tag", .str R.tag), ("call", .str R.call), ("own", .str R.own), ("other", .str R.other), ("place", .str R.place), ("able", R.ab), ("first", .int R.first), ("check", .int R.check), ("other_tag", .str R.ot), ("state", .str R.st), ("_seq", .int R.seq), ("_requests", .int R.req), ("took_call", .bl R.took), ("_greatest_taken", .int R.gt), ("_clients", .ref R.cl), ("_servers", .ref R.sv), ("_waiting", .ref R.wt), ("_live_due", .int R.live), ("_events", .ref R.ev)]
instance {R : LegR} : SmallF (legfl R) 19 := ⟨Nat.le_refl _⟩
def legO (K : PySem.W.Frag) (R : LegR) : HO := .ins (He.ga K "Leg") R.dx (legfl R)
def clL (R : LegR) : HO := .lst (R.cs.map fun c => V.ref c.p)
def svL (R : LegR) : HO := .lst (R.ss.map fun c => V.ref c.p)
def wtL (R : LegR) : HO := .lst (R.ws.map fun c => V.ref c.1)
def evL (R : LegR) : HO := .lst (R.es.map fun c => V.ref c.1)
def legM (K : PySem.W.Frag) (R : LegR) : List Cell := [(R.p, legO K R), (R.cl, clL R), (R.sv, svL R), (R.wt, wtL R), (R.ev, evL R)] ++ (R.cs.flatMap (clM K) ++ R.ss.flatMap (svM K))
/-- what a leg rests on that does not change -/
structure LegI (K : PySem.W.Frag) (H : Hp) (R : LegR) : Prop where
  ab : OffAt H R.ab R.able
  ci : ∀ c ∈ R.cs, ClI K H c
  si : ∀ s ∈ R.ss, SvI K H s
  wi : ∀ w ∈ R.ws, H w.1 = some (.tup w.2)
  ei : ∀ e ∈ R.es, H e.1 = some (.tup e.2)
theorem LegI.im {K : PySem.W.Frag} {H H' : Hp} {R : LegR} (h : LegI K H R) (i : Im H H') : LegI K H' R := ⟨h.ab.im i, fun c m => (h.ci c m).im i, fun c m => (h.si c m).im i, fun c m => i _ _ (h.wi c m) rfl, fun c m => i _ _ (h.ei c m) rfl⟩
/-- what a leg writes -/
structure LegW (R : LegR) : Prop where
  tag : TxOk R.tag ∧ R.tag.length ≤ 100
  call : TxOk R.call ∧ R.call.length ≤ 1000
  own : TxOk R.own ∧ R.own.length ≤ 1000
  other : TxOk R.other ∧ R.other.length ≤ 1000
  ot : TxOk R.ot ∧ R.ot.length ≤ 1000
  seq : 0 ≤ R.seq
  req : 0 ≤ R.req
section
variable {K : PySem.W.Frag} {H H1 : Hp} {M : List Cell} {R : LegR}
theorem leg_p (c : Cells H (legM K R)) : H R.p = some (.ins (He.ga K "Leg") R.dx (legfl R)) := c.get (o := legO K R) (by simp [legM])
theorem leg_cl (c : Cells H (legM K R)) : H R.cl = some (.lst (R.cs.map fun c => V.ref c.p)) := c.get (o := clL R) (by simp [legM])
theorem leg_sv (c : Cells H (legM K R)) : H R.sv = some (.lst (R.ss.map fun c => V.ref c.p)) := c.get (o := svL R) (by simp [legM])
theorem leg_wt (c : Cells H (legM K R)) : H R.wt = some (.lst (R.ws.map fun c => V.ref c.1)) := c.get (o := wtL R) (by simp [legM])
theorem leg_ev (c : Cells H (legM K R)) : H R.ev = some (.lst (R.es.map fun c => V.ref c.1)) := c.get (o := evL R) (by simp [legM])
theorem put_state (R : LegR) (z : Str) : putF "state" (.str z) (legfl R) = legfl { R with st := z } := rfl
theorem put_ot (R : LegR) (z : Str) : putF "other_tag" (.str z) (legfl R) = legfl { R with ot := z } := rfl
theorem put_took (R : LegR) (z : Bool) : putF "took_call" (.bl z) (legfl R) = legfl { R with took := z } := rfl
theorem put_seq (R : LegR) (z : Int) : putF "_seq" (.int z) (legfl R) = legfl { R with seq := z } := rfl
theorem put_req (R : LegR) (z : Int) : putF "_requests" (.int z) (legfl R) = legfl { R with req := z } := rfl
theorem put_gt (R : LegR) (z : Int) : putF "_greatest_taken" (.int z) (legfl R) = legfl { R with gt := z } := rfl
theorem put_live (R : LegR) (z : Int) : putF "_live_due" (.int z) (legfl R) = legfl { R with live := z } := rfl
theorem put_wt (R : LegR) (z : Addr) : putF "_waiting" (.ref z) (legfl R) = legfl { R with wt := z } := rfl
theorem put_ev (R : LegR) (z : Addr) : putF "_events" (.ref z) (legfl R) = legfl { R with ev := z } := rfl
theorem Run.fst {a : Addr} {o o' : HO} {B : List Cell} (r : Run H M H1 ((a, o) :: B)) (n : imm o = false) : Run H M (upd H1 a o') ((a, o') :: B) := r.set (A := []) n
theorem Run.leg (r : Run H M H1 (legM K R)) (R' : LegR) (hd : R'.dx = R.dx) (hM : legM K R' = (R.p, legO K R') :: (legM K R).tail) : Run H M (upd H1 R.p (.ins (He.ga K "Leg") R.dx (legfl R'))) (legM K R') := by
  rw [hM]
  have := Run.fst (o := legO K R) (o' := legO K R') (B := (legM K R).tail) r rfl
  unfold legO at this ⊢
  rw [hd] at this ⊢
  exact this
end
theorem perm_ins {α : Type} (C A B D : List α) : (C ++ (A ++ (B ++ D))).Perm (A ++ ((B ++ C) ++ D)) := by
  have h : (C ++ (A ++ B)).Perm ((A ++ B) ++ C) := List.perm_append_comm
  have h2 := h.append_right D
  simpa [List.append_assoc] using h2
theorem perm_last {α : Type} (C A B D : List α) : (C ++ (A ++ (B ++ D))).Perm (A ++ (B ++ (D ++ C))) := by
  have h : (C ++ (A ++ (B ++ D))).Perm ((A ++ (B ++ D)) ++ C) := List.perm_append_comm
  simpa [List.append_assoc] using h
/-! talk, end -/
def talkR (R : LegR) (now : Int) : LegR := { R with st := "talking", live := now + R.check }
def spTalk (K : PySem.W.Frag) : Sp := fun vs H Q _ => ∃ (R : LegR) (now : Int), vs = [.ref R.p, .int now] ∧ Cells H (legM K R) ∧ ∀ H', Run H (legM K R) H' (legM K (talkR R now)) → Q .non H'
theorem ok_Leg__talk {P : Program} {w : World} {K : PySem.W.Frag} {mg : Str → Option Value} {base : Heap} {f : Addr} {fd : FuncData} (T : Tx K mg) 
    (F : FunD K "_talk" "Leg._talk" (defArgs s_Leg__talk) (defBody s_Leg__talk) (defScope s_Leg__talk) [] [] f fd) : FnOk P w K mg base CX0 1 f fd ["self", "now"] (spTalk K) := by
  refine F.ok sc_Leg__talk (fun vs H Q E h => ?_) (fun cdv A outer s0 H vs Q E hr h => ?_)
  · obtain ⟨R, now, rfl, _⟩ := h
    rfl
  · obtain ⟨R, now, rfl, hc, k⟩ := h
    refine ⟨_, PSs.nox (pss_cons (ps_fldC rfl T.cl_Leg T.na_Leg_state (pv 0) pe_str rfl) (pss_one (ps_fldC rfl T.cl_Leg T.na_Leg__live_due (pv 0) (pe_op op_add (pv 1) (pe_fldC rfl T.cl_Leg T.na_Leg_check (pv 0) rfl)) rfl))), ?_⟩
    refine ⟨_, rfl, R.p, R.dx, _, rfl, leg_p hc, sm, ?_⟩
    rw [put_state]
    have r1 := Run.leg (Run.refl hc) { R with st := "talking" } rfl rfl
    have hp1 := leg_p r1.c
    refine ⟨_, rfl, _, rfl, R.p, R.dx, _, _, rfl, hp1, rfl, _, _, rfl, rfl, _, rfl, R.p, R.dx, _, rfl, hp1, sm, ?_⟩
    exact k _ (Run.leg (R := { R with st := "talking" }) r1 (talkR R now) rfl rfl)
def overR (R : LegR) (wt t : Addr) (why : Str) (code : Int) : LegR := { R with st := "over", wt := wt, ws := [], es := R.es ++ [(t, [.str "over", .str why, .int code])] }
def spEnd (K : PySem.W.Frag) : Sp := fun vs H Q _ => ∃ (R : LegR) (why : Str) (code : Int), vs = [.ref R.p, .str why, .int code] ∧ Cells H (legM K R) ∧ LegI K H R ∧ R.es.length < 100000 ∧ ∀ wt t H', Run H (legM K R) H' (legM K (overR R wt t why code)) → LegI K H' (overR R wt t why code) → Q .non H'
/-- an event more -/
theorem Run.event {K : PySem.W.Frag} {H H1 : Hp} {M : List Cell} {R : LegR} {t : Addr} {xs : List V} (r : Run H M H1 (legM K R)) (hi : LegI K H1 R) (ht : H1 t = some (.tup xs)) :
    Run H M (upd H1 R.ev (.lst ((R.es.map fun c => V.ref c.1) ++ [.ref t]))) (legM K { R with es := R.es ++ [(t, xs)] }) ∧ LegI K (upd H1 R.ev (.lst ((R.es.map fun c => V.ref c.1) ++ [.ref t]))) { R with es := R.es ++ [(t, xs)] } := by
  have r2 := r.set (A := [(R.p, legO K R), (R.cl, clL R), (R.sv, svL R), (R.wt, wtL R)]) (a := R.ev) (o := evL R) (B := R.cs.flatMap (clM K) ++ R.ss.flatMap (svM K)) (o' := .lst ((R.es.map fun c => V.ref c.1) ++ [.ref t])) rfl
  have e : legM K { R with es := R.es ++ [(t, xs)] } = [(R.p, legO K R), (R.cl, clL R), (R.sv, svL R), (R.wt, wtL R)] ++ (R.ev, .lst ((R.es.map fun c => V.ref c.1) ++ [.ref t])) :: (R.cs.flatMap (clM K) ++ R.ss.flatMap (svM K)) := by
    unfold legM evL
    simp only [List.map_append]
    rfl
  have i : Im H1 (upd H1 R.ev (.lst ((R.es.map fun c => V.ref c.1) ++ [.ref t]))) := fun b o eb ib => by
    by_cases q : b = R.ev
    · rw [q, leg_ev r.c] at eb
      cases eb
      cases ib
    · rw [upd_ne q]
      exact eb
  refine ⟨by rw [e]; exact r2, ?_⟩
  have h := hi.im i
  refine ⟨h.ab, h.ci, h.si, h.wi, fun x m => ?_⟩
  rcases List.mem_append.mp m with m | m
  · exact h.ei x m
  · rw [List.mem_singleton.mp m]
    exact i _ _ ht rfl
theorem ok_Leg__end {P : Program} {w : World} {K : PySem.W.Frag} {mg : Str → Option Value} {base : Heap} {f : Addr} {fd : FuncData} (T : Tx K mg) 
    (F : FunD K "_end" "Leg._end" (defArgs s_Leg__end) (defBody s_Leg__end) (defScope s_Leg__end) [] [] f fd) : FnOk P w K mg base CX0 1 f fd ["self", "why", "code"] (spEnd K) := by
  refine F.ok sc_Leg__end (fun vs H Q E h => ?_) (fun cdv A outer s0 H vs Q E hr h => ?_)
  · obtain ⟨R, why, code, rfl, _⟩ := h
    rfl
  · obtain ⟨R, why, code, rfl, hc, hi, hn, k⟩ := h
    refine ⟨_, PSs.nox (pss_cons (ps_fldC rfl T.cl_Leg T.na_Leg_state (pv 0) pe_str rfl) (pss_cons (ps_fldC rfl T.cl_Leg T.na_Leg__waiting (pv 0) (pe_lst pa_nil) rfl) (pss_one (ps_expr (pe_bm PySem.F.plainAttrs_list PySem.F.slot_list_append PySem.F.type_list_append mt_append (pe_fldC rfl T.cl_Leg T.na_Leg__events (pv 0) rfl) (pa_cons (pe_tup (pa_cons pe_str (pa_cons (pv 1) (pa_cons (pv 2) pa_nil)))) pa_nil)))))), ?_⟩
    refine ⟨_, rfl, R.p, R.dx, _, rfl, leg_p hc, sm, ?_⟩
    rw [put_state]
    have r1 := Run.leg (Run.refl hc) { R with st := "over" } rfl rfl
    generalize upd H R.p (.ins (He.ga K "Leg") R.dx (legfl { R with st := "over" })) = H1 at r1 ⊢
    refine ⟨by show 0 ≤ sizeLine; decide, fun w hw => ?_⟩
    have r2 := r1.add (o := .lst []) hw
    have hp2 := leg_p (Cells.right (A := [(w, .lst [])]) r2.c)
    refine ⟨_, rfl, R.p, R.dx, _, rfl, hp2, sm, ?_⟩
    rw [show putF "_waiting" (V.ref w) (legfl { R with st := "over" }) = legfl { R with st := "over", wt := w } from rfl]
    have r3 := r2.set (A := [(w, .lst [])]) (a := R.p) (o := legO K { R with st := "over" }) (B := (R.cl, clL R) :: (R.sv, svL R) :: (R.wt, wtL R) :: (R.ev, evL R) :: (R.cs.flatMap (clM K) ++ R.ss.flatMap (svM K))) (o' := .ins (He.ga K "Leg") R.dx (legfl { R with st := "over", wt := w })) rfl
    have r4 : Run H (legM K R) _ (legM K { R with st := "over", wt := w, ws := [] }) := (r3.sub (M2 := (w, .lst []) :: ([(R.p, .ins (He.ga K "Leg") R.dx (legfl { R with st := "over", wt := w })), (R.cl, clL R), (R.sv, svL R)] ++ ((R.ev, evL R) :: (R.cs.flatMap (clM K) ++ R.ss.flatMap (svM K))))) (((((List.Sublist.refl _).cons _).cons₂ _).cons₂ _).cons₂ _ |>.cons₂ _)).perm List.perm_middle.symm
    generalize upd _ R.p (.ins (He.ga K "Leg") R.dx (legfl { R with st := "over", wt := w })) = H2 at r4 ⊢
    clear r3 r2 r1
    have hi4 : LegI K H2 { R with st := "over", wt := w, ws := [] } := by
      have h := hi.im r4.im
      exact ⟨h.ab, h.ci, h.si, fun _ m => (nomatch m), h.ei⟩
    have hp4 := leg_p r4.c
    have he4 := leg_ev r4.c
    refine ⟨_, rfl, R.p, R.dx, _, _, rfl, hp4, rfl, .inl ⟨rfl, _, SqL.of he4⟩, _, rfl, _, rfl, by show 3 ≤ sizeLine; decide, fun t ht => ?_⟩
    have st := same_upd (o := .tup [.str "over", .str why, .int code]) ht
    obtain ⟨r5, hi5⟩ := Run.event (r4.same st) (hi4.im (Im.of_same st)) (t := t) (xs := [.str "over", .str why, .int code]) upd_same
    exact ⟨R.ev, _, _, rfl, rfl, st _ _ he4, by rw [List.length_map]; exact Nat.lt_of_lt_of_le hn (by decide), k w t _ r5 hi5⟩

end K19
set_option maxHeartbeats 4000000
set_option pp.maxSteps 400
namespace K19
open PySem PySem.Spec PyProof.Rows L2 SX TK TKS TKC
open C8 (pe_c)
/-! send -/
def wayS (tag : Str) (n : Int) : Str := Str.empty ++ tag ++ "w" ++ numS n
def sendL (R : LegR) (verb : Str) (xo xg : V) : Ltr := ⟨verb, R.call, R.own, R.tag, R.other, R.ot, R.seq + 1, wayS R.tag (R.req + 1), .non, xo, .non, xg⟩
theorem w_len : ("w" : Str).length = 1 := by decide +kernel
theorem way_len {tag : Str} {n : Int} (ht : tag.length ≤ 100) (hn : n.natAbs < 1000000000) : (wayS tag n).length ≤ 200 := by
  have := numS_len hn
  unfold wayS
  rw [cat_len, cat_len, cat_len, emp_len, w_len]
  omega
theorem way_ok {tag : Str} {n : Int} (ht : TxOk tag) (hn : 0 ≤ n) : TxOk (wayS tag n) := by
  have e0 : PyData.strOk Str.empty = true := by decide +kernel
  exact ok_cat (ok_cat (ok_cat e0 ht) (by decide +kernel)) (ok_num hn)
structure SndOk (R : LegR) (verb : Str) (xg : V) : Prop where
  w : LegW R
  v : TxOk verb ∧ verb.length ≤ 1000
  g : xg = .non ∨ ∃ z : Str, xg = .str z ∧ TxOk z ∧ z.length ≤ 1000
  s : R.seq + 1 < 1000000000
  r : R.req + 1 < 1000000000
theorem SndOk.lok {R : LegR} {verb : Str} {xo xg : V} (h : SndOk R verb xg) : LOk (sendL R verb xo xg) := by
  have w := h.w
  have := h.s
  have := h.r
  have := w.seq
  have := w.req
  exact ⟨⟨h.v.1, w.call.1, w.own.1, w.tag.1, w.other.1, w.ot.1, way_ok w.tag.1 (by omega)⟩, by show 0 ≤ R.seq + 1; omega, h.v.2, w.call.2, w.own.2, Nat.le_trans w.tag.2 (by decide), w.other.2, w.ot.2, by show (R.seq + 1).natAbs < 1000000000; omega, Nat.le_trans (way_len w.tag.2 (by omega)) (by decide), .inl rfl⟩
/-- offers that can be written -/
def OffX (H : Hp) (x : V) (o : Option Off) : Prop := OffO H x o ∧ (∀ u, o = some u → OffOk u) ∧ ∀ u, o = some u → TxOk (wordsS u)
theorem SndOk.xok {R : LegR} {verb : Str} {xo xg : V} {o : Option Off} {H : Hp} (h : SndOk R verb xg) (x : OffX H xo o) : XOk (sendL R verb xo xg) o := ⟨x.2.1, x.2.2, .inl rfl, h.g⟩
def sentR (R : LegR) (c : ClR) : LegR := { R with seq := R.seq + 1, req := R.req + 1, cs := R.cs ++ [c] }
def spSend (K : PySem.W.Frag) : Sp := fun vs H Q _ => ∃ (R : LegR) (verb : Str) (now : Int) (xo xg : V) (o : Option Off), vs = [.ref R.p, .str verb, .int now, xo, xg] ∧ Cells H (legM K R) ∧ LegI K H R ∧ OffX H xo o ∧ SndOk R verb xg ∧ R.cs.length < 100000 ∧
  ∀ cp cdx la wa wx ka r ts H', Run H (legM K R) H' ((r, .lst (ts.map V.ref)) :: legM K (sentR R (newC cp cdx la wa wx ka (sendL R verb xo xg) o R.place R.first now))) →
    LegI K H' (sentR R (newC cp cdx la wa wx ka (sendL R verb xo xg) o R.place R.first now)) → RwI H' ts [(R.place, textOf (linesX (sendL R verb xo xg) o))] → Q (.ref r) H'
theorem ok_Leg__send {P : Program} {w : World} {K : PySem.W.Frag} {mg : Str → Option Value} {base : Heap} {f : Addr} {fd : FuncData} (T : Tx K mg) (c_mk_Letter_d : MakK P w K mg base 1 "Letter" (He.ga K "Letter") (spLetInit K) 0 ["verb", "call", "origin", "origin_tag", "target", "target_tag", "seq", "way", "offer", "goal"] (fun vs zs => vs ++ ((((zs.drop 0).take 8) ++ (((([(V.non), (V.non)] : List V).drop 0).take 1) ++ (((zs.drop 8).take 1) ++ (((([(V.non), (V.non)] : List V).drop 1).take 1) ++ ((zs.drop 9).take 1)))))))) (c_mk_Client : C8.Mak P w K mg base 3 "Client" (He.ga K "Client") (spClInit K) []) (c_Client_sending : C8.Met P w K mg base 3 (He.ga K "Client") "sending" (spSending K) [])
    (F : FunD K "_send" "Leg._send" (defArgs s_Leg__send) (defBody s_Leg__send) (defScope s_Leg__send) [(V.non), (V.non)] [] f fd) : FnOk P w K mg base CX0 5 f fd ["self", "verb", "now", "offer", "goal"] (spSend K) := by
  refine F.ok sc_Leg__send (fun vs H Q E h => ?_) (fun cdv A outer s0 H vs Q E hr h => ?_)
  · obtain ⟨R, verb, now, xo, xg, o, rfl, _⟩ := h
    rfl
  · obtain ⟨R, verb, now, xo, xg, o, rfl, hc, hi, hx, sk, hn, k⟩ := h
    have w := sk.w
    have s1 := sk.s
    have s2 := sk.r
    have w1 := w.seq
    have w2 := w.req
    have w3 := w.tag.2
    refine ⟨_, PSs.nox (pss_cons (ps_fldaug (pv 0) pe_int in_add) (pss_cons (ps_fldaug (pv 0) pe_int in_add) (pss_cons (ps_set (i := 5) sc_Leg__send.nd rfl (Or.inl rfl) (pe_mkK0 c_mk_Letter_d hr (by decide) rfl (pk_cons (pv 1) (pk_cons (pe_fldC rfl T.cl_Leg T.na_Leg_call (pv 0) rfl) (pk_cons (pe_fldC rfl T.cl_Leg T.na_Leg_own (pv 0) rfl) (pk_cons (pe_fldC rfl T.cl_Leg T.na_Leg_tag (pv 0) rfl) (pk_cons (pe_fldC rfl T.cl_Leg T.na_Leg_other (pv 0) rfl) (pk_cons (pe_fldC rfl T.cl_Leg T.na_Leg_other_tag (pv 0) rfl) (pk_cons (pe_fldC rfl T.cl_Leg T.na_Leg__seq (pv 0) rfl) (pk_cons (pe_joined (PJ.cons (pe_fmt (pe_fldC rfl T.cl_Leg T.na_Leg_tag (pv 0) rfl)) (PJ.cons pe_str (PJ.cons (pe_fmt (pe_fldC rfl T.cl_Leg T.na_Leg__requests (pv 0) rfl)) PJ.nil)))) (pk_cons (pv 3) (pk_cons (pv 4) pk_nil)))))))))))) (pss_cons (ps_set (i := 6) sc_Leg__send.nd rfl (Or.inl rfl) (C8.pe_mk c_mk_Client hr (by decide) rfl (pa_cons (pv 5) (pa_cons (pe_fldC rfl T.cl_Leg T.na_Leg_place (pv 0) rfl) (pa_cons (pv 2) (pa_cons (pe_fldC rfl T.cl_Leg T.na_Leg_first (pv 0) rfl) pa_nil)))))) (pss_cons (ps_expr (pe_bm PySem.F.plainAttrs_list PySem.F.slot_list_append PySem.F.type_list_append mt_append (pe_fldC rfl T.cl_Leg T.na_Leg__clients (pv 0) rfl) (pa_cons (pv 6) pa_nil))) (pss_one (ps_ret (C8.pe_mt0 c_Client_sending hr (by decide) (pv 6))))))))), ?_⟩
    have hp0 := leg_p hc
    refine ⟨_, rfl, R.p, _, R.dx, _, _, rfl, hp0, T.cl_Leg, T.na_Leg__seq, rfl, _, _, rfl, rfl, R.dx, _, hp0, sm, ?_⟩
    rw [put_seq]
    have r1 := Run.leg (Run.refl hc) { R with seq := R.seq + 1 } rfl rfl
    generalize upd H R.p (.ins (He.ga K "Leg") R.dx (legfl { R with seq := R.seq + 1 })) = H1 at r1 ⊢
    have hp1 := leg_p r1.c
    refine ⟨_, rfl, R.p, _, R.dx, _, _, rfl, hp1, T.cl_Leg, T.na_Leg__requests, rfl, _, _, rfl, rfl, R.dx, _, hp1, sm, ?_⟩
    rw [show putF "_requests" (V.int (R.req + 1)) (legfl { R with seq := R.seq + 1 }) = legfl { R with seq := R.seq + 1, req := R.req + 1 } from rfl]
    have r2 := Run.leg (R := { R with seq := R.seq + 1 }) r1 { R with seq := R.seq + 1, req := R.req + 1 } rfl rfl
    dsimp only at r2
    generalize upd H1 R.p (.ins (He.ga K "Leg") R.dx (legfl { R with seq := R.seq + 1, req := R.req + 1 })) = H2 at r2 ⊢
    have hp2 := leg_p r2.c
    clear hp0 hp1 r1
    refine ⟨_, rfl, _, rfl, R.p, R.dx, _, _, rfl, hp2, rfl, _, rfl, R.p, R.dx, _, _, rfl, hp2, rfl, _, rfl, R.p, R.dx, _, _, rfl, hp2, rfl, _, rfl, R.p, R.dx, _, _, rfl, hp2, rfl, _, rfl, R.p, R.dx, _, _, rfl, hp2, rfl, _, rfl, R.p, R.dx, _, _, rfl, hp2, rfl, ?_⟩
    have n1 := numS_len (i := R.req + 1) (by omega)
    refine ⟨_, rfl, R.p, R.dx, _, _, rfl, hp2, rfl, .inl ⟨_, rfl, szl (show R.tag.length ≤ 100000 by omega), _, rfl, szl (by rw [cat_len, emp_len]; show 0 + R.tag.length ≤ 100000; omega), ?_⟩⟩
    refine ⟨_, rfl, szl (by rw [cat_len, cat_len, emp_len, w_len]; show 0 + R.tag.length + 1 ≤ 100000; omega), ?_⟩
    refine ⟨_, rfl, R.p, R.dx, _, _, rfl, hp2, rfl, .inr ⟨R.req + 1, rfl, numS_log (by omega), _, rfl, szl (by show (_ ++ _ ++ _ ++ numS (R.req + 1)).length ≤ _; rw [cat_len, cat_len, cat_len, emp_len, w_len]; show 0 + R.tag.length + 1 + (numS (R.req + 1)).length ≤ 100000; omega), ?_⟩⟩
    refine ⟨_, rfl, _, rfl, rfl, rfl, fun x dy hx1 hdy hne => ?_⟩
    refine ⟨x, dy, sendL R verb xo xg, rfl, upd_same, rfl, ?_⟩
    rw [upd_upd]
    have r3 := r2.same (same_own (C := He.ga K "Letter") (fs := (sendL R verb xo xg).fl) hx1 hdy)
    have hl3 : LetAt K (upd (upd H2 dy (.own x)) x (.ins (He.ga K "Letter") dy (sendL R verb xo xg).fl)) x (sendL R verb xo xg) := ⟨dy, upd_same⟩
    generalize upd (upd H2 dy (.own x)) x (.ins (He.ga K "Letter") dy (sendL R verb xo xg).fl) = H3 at r3 hl3 ⊢
    have hp3 := leg_p r3.c
    refine ⟨_, rfl, _, rfl, R.p, R.dx, _, _, rfl, hp3, rfl, _, rfl, _, rfl, R.p, R.dx, _, _, rfl, hp3, rfl, fun cp cdx hcp hcdx hne2 => ?_⟩
    refine ⟨cp, cdx, x, R.place, now, R.first, rfl, upd_same, fun wa wx ka H4 rI => ⟨rfl, ?_⟩⟩
    have q4 := Run.frameL (B := legM K { R with seq := R.seq + 1, req := R.req + 1 }) ((Run.refl r3.c).own (o := .ins (He.ga K "Client") cdx []) hcp hcdx hne2.symm) (rI (sendL R verb xo xg) o)
    clear hcp hcdx hne2 rI hp3 hp2 hx1 hdy hne
    have hp4 := leg_p (Cells.right q4.c)
    have hl4 := leg_cl (Cells.right q4.c)
    refine ⟨_, rfl, R.p, R.dx, _, _, rfl, hp4, rfl, .inl ⟨rfl, _, SqL.of hl4⟩, _, rfl, R.cl, _, _, rfl, rfl, hl4, by rw [List.length_map]; exact Nat.lt_of_lt_of_le hn (by decide), ?_⟩
    have q5 := Run.set (A := [(cp, clO K (newC cp cdx x wa wx ka (sendL R verb xo xg) o R.place R.first now)), (wa, wtO K (newC cp cdx x wa wx ka (sendL R verb xo xg) o R.place R.first now)), (ka, .lst []), (R.p, legO K { R with seq := R.seq + 1, req := R.req + 1 })]) (a := R.cl) (o := clL R) (B := (R.sv, svL R) :: (R.wt, wtL R) :: (R.ev, evL R) :: (R.cs.flatMap (clM K) ++ R.ss.flatMap (svM K))) (o' := .lst ((R.cs.map fun c => V.ref c.p) ++ [.ref cp])) q4 rfl
    have hcp5 : (upd H4 R.cl (.lst ((R.cs.map fun c => V.ref c.p) ++ [.ref cp]))) cp = some (clO K (newC cp cdx x wa wx ka (sendL R verb xo xg) o R.place R.first now)) := q5.c.get (by simp)
    have e : legM K (sentR R (newC cp cdx x wa wx ka (sendL R verb xo xg) o R.place R.first now)) = [(R.p, legO K { R with seq := R.seq + 1, req := R.req + 1 }), (R.cl, .lst ((R.cs.map fun c => V.ref c.p) ++ [.ref cp])), (R.sv, svL R), (R.wt, wtL R), (R.ev, evL R)] ++ ((R.cs.flatMap (clM K) ++ clM K (newC cp cdx x wa wx ka (sendL R verb xo xg) o R.place R.first now)) ++ R.ss.flatMap (svM K)) := by
      unfold legM clL
      simp only [sentR, List.map_append, List.flatMap_append, List.flatMap_cons, List.flatMap_nil, List.append_nil]
      rfl
    have q6 : Run H3 (legM K { R with seq := R.seq + 1, req := R.req + 1 }) (upd H4 R.cl (.lst ((R.cs.map fun c => V.ref c.p) ++ [.ref cp]))) (legM K (sentR R (newC cp cdx x wa wx ka (sendL R verb xo xg) o R.place R.first now))) := by
      rw [e]
      exact Run.perm (M1 := clM K (newC cp cdx x wa wx ka (sendL R verb xo xg) o R.place R.first now) ++ ([(R.p, legO K { R with seq := R.seq + 1, req := R.req + 1 }), (R.cl, .lst ((R.cs.map fun c => V.ref c.p) ++ [V.ref cp])), (R.sv, svL R), (R.wt, wtL R), (R.ev, evL R)] ++ (R.cs.flatMap (clM K) ++ R.ss.flatMap (svM K)))) q5 (perm_ins _ _ _ _)
    generalize (upd H4 R.cl (.lst ((R.cs.map fun c => V.ref c.p) ++ [.ref cp]))) = H6 at q6 hcp5 ⊢
    clear q5 q4 e hp4 hl4
    have r6 := r3.trans q6
    have hx6 := hx.1.im r6.im
    have hc6 : ClI K H6 (newC cp cdx x wa wx ka (sendL R verb xo xg) o R.place R.first now) := ⟨hl3.im q6.im, hx6, sk.lok, sk.xok hx, Nat.zero_le _, fun _ m => (nomatch m)⟩
    refine ⟨_, rfl, cp, cdx, _, rfl, hcp5, rfl, newC cp cdx x wa wx ka (sendL R verb xo xg) o R.place R.first now, rfl, hcp5, hc6, fun r t H7 s7 hr7 e7 rw7 => ?_⟩
    have r7 := r6.new s7 hr7 e7
    have h := hi.im r7.im
    refine k cp cdx x wa wx ka r [t] H7 r7 ⟨h.ab, fun c m => ?_, h.si, h.wi, h.ei⟩ rw7
    rcases List.mem_append.mp m with m | m
    · exact h.ci c m
    · rw [List.mem_singleton.mp m]
      exact hc6.im (Im.of_same s7)

end K19
set_option maxHeartbeats 4000000
set_option pp.maxSteps 400
namespace K19
open PySem PySem.Spec PyProof.Rows L2 SX TK TKS TKC
open C8 (pe_c)
/-! one server or client of a leg -/
theorem leg_ss {K : PySem.W.Frag} {R : LegR} {pre post : List SvR} {s : SvR} (e : R.ss = pre ++ s :: post) : legM K R = ([(R.p, legO K R), (R.cl, clL R), (R.sv, svL R), (R.wt, wtL R), (R.ev, evL R)] ++ (R.cs.flatMap (clM K) ++ pre.flatMap (svM K))) ++ svM K s ++ post.flatMap (svM K) := by
  unfold legM
  rw [e]
  simp only [List.flatMap_append, List.flatMap_cons, List.append_assoc]
theorem leg_cs {K : PySem.W.Frag} {R : LegR} {pre post : List ClR} {c : ClR} (e : R.cs = pre ++ c :: post) : legM K R = ([(R.p, legO K R), (R.cl, clL R), (R.sv, svL R), (R.wt, wtL R), (R.ev, evL R)] ++ pre.flatMap (clM K)) ++ clM K c ++ (post.flatMap (clM K) ++ R.ss.flatMap (svM K)) := by
  unfold legM
  rw [e]
  simp only [List.flatMap_append, List.flatMap_cons, List.append_assoc]
theorem svL_swap {R : LegR} {pre post : List SvR} {s s' : SvR} (e : R.ss = pre ++ s :: post) (h : s'.p = s.p) : svL { R with ss := pre ++ s' :: post } = svL R := by
  unfold svL
  rw [e]
  simp only [List.map_append, List.map_cons, h]
theorem clL_swap {R : LegR} {pre post : List ClR} {c c' : ClR} (e : R.cs = pre ++ c :: post) (h : c'.p = c.p) : clL { R with cs := pre ++ c' :: post } = clL R := by
  unfold clL
  rw [e]
  simp only [List.map_append, List.map_cons, h]
section
variable {K : PySem.W.Frag} {H H1 H2 : Hp} {M X : List Cell} {R : LegR}
theorem perm_X (X A N B : List Cell) : (A ++ (X ++ N) ++ B).Perm (X ++ (A ++ N ++ B)) := by
  have h : (A ++ X).Perm (X ++ A) := List.perm_append_comm
  have h2 := h.append_right (N ++ B)
  simpa [List.append_assoc] using h2
theorem Run.srv {pre post : List SvR} {s s' : SvR} (r : Run H M H1 (legM K R)) (e : R.ss = pre ++ s :: post) (h : s'.p = s.p) (t : Run H1 (svM K s) H2 (X ++ svM K s')) : Run H M H2 (X ++ legM K { R with ss := pre ++ s' :: post }) := by
  rw [leg_ss e] at r
  have q := (Run.frame r t).perm (perm_X X _ _ _)
  rw [leg_ss (R := { R with ss := pre ++ s' :: post }) (pre := pre) (post := post) (s := s') rfl, svL_swap e h]
  exact q
theorem Run.cli {pre post : List ClR} {c c' : ClR} (r : Run H M H1 (legM K R)) (e : R.cs = pre ++ c :: post) (h : c'.p = c.p) (t : Run H1 (clM K c) H2 (X ++ clM K c')) : Run H M H2 (X ++ legM K { R with cs := pre ++ c' :: post }) := by
  rw [leg_cs e] at r
  have q := (Run.frame r t).perm (perm_X X _ _ _)
  rw [leg_cs (R := { R with cs := pre ++ c' :: post }) (pre := pre) (post := post) (c := c') rfl, clL_swap e h]
  exact q
theorem Cells.srv {pre post : List SvR} {s : SvR} (c : Cells H (legM K R)) (e : R.ss = pre ++ s :: post) : Cells H (svM K s) := by
  rw [leg_ss e] at c
  exact (c.left).right
theorem Cells.cli {pre post : List ClR} {x : ClR} (c : Cells H (legM K R)) (e : R.cs = pre ++ x :: post) : Cells H (clM K x) := by
  rw [leg_cs e] at c
  exact (c.left).right
end
/-! serve, reply -/
def servedR (R : LegR) (s : SvR) : LegR := { R with gt := s.L.seq, ss := R.ss ++ [s] }
def spServe (K : PySem.W.Frag) : Sp := fun vs H Q _ => ∃ (R : LegR) (la : Addr) (pl : Str) (L : Ltr) (o : Option Off), vs = [.ref R.p, .ref la, .str pl] ∧ Cells H (legM K R) ∧ LegI K H R ∧ LetAt K H la L ∧ OffO H L.offer o ∧ LOk L ∧ R.ss.length < 100000 ∧
  ∀ sp sdx al H', Run H (legM K R) H' (legM K (servedR R (newS sp sdx la al L o pl R.first))) → LegI K H' (servedR R (newS sp sdx la al L o pl R.first)) → Q (.ref sp) H'
theorem ok_Leg__serve {P : Program} {w : World} {K : PySem.W.Frag} {mg : Str → Option Value} {base : Heap} {f : Addr} {fd : FuncData} (T : Tx K mg) (c_mk_Server : C8.Mak P w K mg base 1 "Server" (He.ga K "Server") (spSvInit K) [])
    (F : FunD K "_serve" "Leg._serve" (defArgs s_Leg__serve) (defBody s_Leg__serve) (defScope s_Leg__serve) [] [] f fd) : FnOk P w K mg base CX0 3 f fd ["self", "letter", "place"] (spServe K) := by
  refine F.ok sc_Leg__serve (fun vs H Q E h => ?_) (fun cdv A outer s0 H vs Q E hr h => ?_)
  · obtain ⟨R, la, pl, L, o, rfl, _⟩ := h
    rfl
  · obtain ⟨R, la, pl, L, o, rfl, hc, hi, hl, ho, lk, hn, k⟩ := h
    obtain ⟨dl, hl0⟩ := id hl
    refine ⟨_, PSs.nox (pss_cons (ps_fldC rfl T.cl_Leg T.na_Leg__greatest_taken (pv 0) (pe_fldC rfl T.cl_Letter T.na_Letter_seq (pv 1) rfl) rfl) (pss_cons (ps_set (i := 3) sc_Leg__serve.nd rfl (Or.inl rfl) (C8.pe_mk c_mk_Server hr (by decide) rfl (pa_cons (pv 1) (pa_cons (pv 2) (pa_cons (pe_fldC rfl T.cl_Leg T.na_Leg_first (pv 0) rfl) pa_nil))))) (pss_cons (ps_expr (pe_bm PySem.F.plainAttrs_list PySem.F.slot_list_append PySem.F.type_list_append mt_append (pe_fldC rfl T.cl_Leg T.na_Leg__servers (pv 0) rfl) (pa_cons (pv 3) pa_nil))) (pss_one (ps_ret (pv 3)))))), ?_⟩
    have hp0 := leg_p hc
    refine ⟨_, rfl, la, dl, _, _, rfl, hl0, rfl, _, rfl, R.p, R.dx, _, rfl, hp0, sm, ?_⟩
    rw [show putF "_greatest_taken" (V.int L.seq) (legfl R) = legfl { R with gt := L.seq } from rfl]
    have r1 := Run.leg (Run.refl hc) { R with gt := L.seq } rfl rfl
    generalize upd H R.p (.ins (He.ga K "Leg") R.dx (legfl { R with gt := L.seq })) = H1 at r1 ⊢
    have hp1 := leg_p r1.c
    refine ⟨_, rfl, _, rfl, _, rfl, R.p, R.dx, _, _, rfl, hp1, rfl, fun sp sdx hsp hsdx hne => ?_⟩
    refine ⟨sp, sdx, la, pl, R.first, rfl, upd_same, fun al H4 rI => ⟨rfl, ?_⟩⟩
    have q4 := Run.frameL (B := legM K { R with gt := L.seq }) (r1.own (o := .ins (He.ga K "Server") sdx []) hsp hsdx hne.symm) (rI L o)
    have hp4 := leg_p (Cells.right q4.c)
    have hl4 := leg_sv (Cells.right q4.c)
    refine ⟨_, rfl, R.p, R.dx, _, _, rfl, hp4, rfl, .inl ⟨rfl, _, SqL.of hl4⟩, _, rfl, R.sv, _, _, rfl, rfl, hl4, by rw [List.length_map]; exact Nat.lt_of_lt_of_le hn (by decide), ?_⟩
    have q5 := Run.set (A := [(sp, svO K (newS sp sdx la al L o pl R.first)), (al, .lst []), (R.p, legO K { R with gt := L.seq }), (R.cl, clL R)]) (a := R.sv) (o := svL R) (B := (R.wt, wtL R) :: (R.ev, evL R) :: (R.cs.flatMap (clM K) ++ R.ss.flatMap (svM K))) (o' := .lst ((R.ss.map fun c => V.ref c.p) ++ [V.ref sp])) q4 rfl
    have e : legM K (servedR R (newS sp sdx la al L o pl R.first)) = [(R.p, legO K { R with gt := L.seq }), (R.cl, clL R), (R.sv, .lst ((R.ss.map fun c => V.ref c.p) ++ [V.ref sp])), (R.wt, wtL R), (R.ev, evL R)] ++ (R.cs.flatMap (clM K) ++ (R.ss.flatMap (svM K) ++ svM K (newS sp sdx la al L o pl R.first))) := by
      unfold legM svL
      simp only [servedR, List.map_append, List.flatMap_append, List.flatMap_cons, List.flatMap_nil, List.append_nil]
      rfl
    have r6 : Run H (legM K R) (upd H4 R.sv (.lst ((R.ss.map fun c => V.ref c.p) ++ [V.ref sp]))) (legM K (servedR R (newS sp sdx la al L o pl R.first))) := by
      rw [e]
      exact Run.perm (M1 := svM K (newS sp sdx la al L o pl R.first) ++ ([(R.p, legO K { R with gt := L.seq }), (R.cl, clL R), (R.sv, .lst ((R.ss.map fun c => V.ref c.p) ++ [V.ref sp])), (R.wt, wtL R), (R.ev, evL R)] ++ (R.cs.flatMap (clM K) ++ R.ss.flatMap (svM K)))) q5 (perm_last _ _ _ _)
    have h := hi.im r6.im
    refine ⟨_, rfl, k sp sdx al _ r6 ⟨h.ab, h.ci, fun c m => ?_, h.wi, h.ei⟩⟩
    rcases List.mem_append.mp m with m | m
    · exact h.si c m
    · rw [List.mem_singleton.mp m]
      exact ⟨hl.im r6.im, ho.im r6.im, lk, Nat.zero_le _, fun _ m => (nomatch m)⟩
def repL (R : LegR) (s : SvR) (n : Int) (xo : V) : Ltr := s.L.reply (.int n) R.tag xo .non
theorem repL_ok {R : LegR} {s : SvR} {n : Int} {xo : V} (w : LegW R) (g : LOk s.L) (h0 : 0 ≤ n) (h1 : n ≤ 99) : LOk (repL R s n xo) := by
  obtain ⟨g1, g2, g3, g4, g5, _, g7⟩ := g.oks
  exact ⟨⟨g1, g2, g3, g4, g5, w.tag.1, g7⟩, g.seq0, g.verb, g.call, g.origin, g.otag, g.target, Nat.le_trans w.tag.2 (by decide), g.seq, g.way, .inr ⟨n, rfl, h0, by omega⟩⟩
theorem repL_x {R : LegR} {s : SvR} {n : Int} {xo : V} {o : Option Off} {H : Hp} (x : OffX H xo o) : XOk (repL R s n xo) o := ⟨x.2.1, x.2.2, .inl rfl, .inl rfl⟩
theorem OffX.im {H H' : Hp} {x : V} {o : Option Off} (h : OffX H x o) (i : Im H H') : OffX H' x o := ⟨h.1.im i, h.2⟩
def repS (R : LegR) (s : SvR) (n now : Int) (xo : V) (o : Option Off) (al t wa wx : Addr) : SvR := replyS s (textOf (linesX (repL R s n xo) o)) n now al t wa wx
def repO (R : LegR) (s : SvR) (n : Int) (xo : V) (o : Option Off) : List (Str × Str) := replyO s (textOf (linesX (repL R s n xo) o))
theorem repS_p (R : LegR) (s : SvR) (n now : Int) (xo : V) (o : Option Off) (al t wa wx : Addr) : (repS R s n now xo o al t wa wx).p = s.p := by
  unfold repS replyS
  split
  · split <;> rfl
  · rfl
def RepR (R : LegR) (pre post : List SvR) (s : SvR) (now n : Int) (xo : V) (o : Option Off) (R' : LegR) (rows : List (Str × Str)) : Prop :=
  ∃ al t wa wx, R' = { R with ss := pre ++ repS R s n now xo o al t wa wx :: post } ∧ rows = repO R s n xo o
theorem RepR.eq {R R' : LegR} {pre post : List SvR} {s : SvR} {now n : Int} {xo : V} {o : Option Off} {rows : List (Str × Str)} (h : RepR R pre post s now n xo o R' rows) : ∃ s', R' = { R with ss := pre ++ s' :: post } ∧ s'.p = s.p := by
  obtain ⟨al, t, wa, wx, e, _⟩ := h
  exact ⟨_, e, repS_p ..⟩
theorem RepR.p {R R' : LegR} {pre post : List SvR} {s : SvR} {now n : Int} {xo : V} {o : Option Off} {rows : List (Str × Str)} (h : RepR R pre post s now n xo o R' rows) : R'.p = R.p ∧ R'.dx = R.dx := by
  obtain ⟨s', rfl, _⟩ := h.eq
  exact ⟨rfl, rfl⟩
theorem RepR.w {R R' : LegR} {pre post : List SvR} {s : SvR} {now n : Int} {xo : V} {o : Option Off} {rows : List (Str × Str)} (h : RepR R pre post s now n xo o R' rows) (w : LegW R) : LegW R' := by
  obtain ⟨s', rfl, _⟩ := h.eq
  exact ⟨w.tag, w.call, w.own, w.other, w.ot, w.seq, w.req⟩
theorem RepR.ss {R R' : LegR} {pre post : List SvR} {s : SvR} {now n : Int} {xo : V} {o : Option Off} {rows : List (Str × Str)} (h : RepR R pre post s now n xo o R' rows) : ∃ s', R'.ss = pre ++ s' :: post ∧ s'.p = s.p := by
  obtain ⟨s', rfl, e⟩ := h.eq
  exact ⟨s', rfl, e⟩
def spReplyL (K : PySem.W.Frag) : Sp := fun vs H Q _ => ∃ (R : LegR) (pre post : List SvR) (s : SvR) (now n : Int) (xo : V) (o : Option Off), vs = [.ref R.p, .ref s.p, .int now, .int n, xo] ∧ Cells H (legM K R) ∧ LegI K H R ∧ LegW R ∧ OffX H xo o ∧ R.ss = pre ++ s :: post ∧ 0 ≤ n ∧ n ≤ 99 ∧
  ∀ R' rows r ts H', RepR R pre post s now n xo o R' rows → Run H (legM K R) H' ((r, .lst (ts.map V.ref)) :: legM K R') → LegI K H' R' → RwI H' ts rows → Q (.ref r) H'
theorem ok_Leg__reply {P : Program} {w : World} {K : PySem.W.Frag} {mg : Str → Option Value} {base : Heap} {f : Addr} {fd : FuncData} (T : Tx K mg) (c_Letter_reply_d1 : C8.Met P w K mg base 3 (He.ga K "Letter") "reply" (spLReply K) [(V.non)]) (c_Server_reply : C8.Met P w K mg base 3 (He.ga K "Server") "reply" (spSvReply K) [])
    (F : FunD K "_reply" "Leg._reply" (defArgs s_Leg__reply) (defBody s_Leg__reply) (defScope s_Leg__reply) [(V.non)] [] f fd) : FnOk P w K mg base CX0 4 f fd ["self", "server", "now", "code", "offer"] (spReplyL K) := by
  refine F.ok sc_Leg__reply (fun vs H Q E h => ?_) (fun cdv A outer s0 H vs Q E hr h => ?_)
  · obtain ⟨R, pre, post, s, now, n, xo, o, rfl, _⟩ := h
    rfl
  · obtain ⟨R, pre, post, s, now, n, xo, o, rfl, hc, hi, hw, hx, es, n0, n1, k⟩ := h
    have hs := Cells.srv hc es
    have his := hi.si s (by rw [es]; simp)
    have hp := leg_p hc
    have hsp : H s.p = some (svO K s) := hs.get (by simp [svM])
    obtain ⟨dl, hl0⟩ := id his.lt
    refine ⟨_, PSs.nox (pss_one (ps_ret (C8.pe_mt c_Server_reply hr (by decide) (pv 1) (pa_cons (C8.pe_mt c_Letter_reply_d1 hr (by decide) (pe_fldC rfl T.cl_Server T.na_Server_letter (pv 1) rfl) (pa_cons (pv 3) (pa_cons (pe_fldC rfl T.cl_Leg T.na_Leg_tag (pv 0) rfl) (pa_cons (pv 4) pa_nil)))) (pa_cons (pv 2) pa_nil))))), ?_⟩
    refine ⟨_, rfl, s.p, s.dx, _, rfl, hsp, rfl, _, rfl, s.p, s.dx, _, _, rfl, hsp, rfl, s.la, dl, _, rfl, hl0, rfl, _, rfl, _, rfl, R.p, R.dx, _, _, rfl, hp, rfl, _, rfl, s.la, s.L, .int n, R.tag, xo, .non, rfl, his.lt, fun b H1 s1 hb hlb => ?_⟩
    have r1 := (Run.refl hc).same s1
    refine ⟨_, rfl, s, b, repL R s n xo, o, n, now, rfl, Cells.srv r1.c es, his.im r1.im, hlb, repL_ok hw his.lk n0 n1, hx.1.im r1.im, repL_x hx, rfl, fun r ts al t wa wx H2 r2 i2 w2 => ?_⟩
    have r3 := Run.srv (X := [(r, .lst (ts.map V.ref))]) (s' := repS R s n now xo o al t wa wx) r1 es (repS_p ..) r2
    have h := hi.im r3.im
    refine k _ _ r ts H2 ⟨al, t, wa, wx, rfl, rfl⟩ r3 ⟨h.ab, h.ci, fun x m => ?_, h.wi, h.ei⟩ w2
    have m : x ∈ pre ++ repS R s n now xo o al t wa wx :: post := m
    rcases List.mem_append.mp m with m | m
    · exact h.si x (by rw [es]; exact List.mem_append_left _ m)
    · rcases List.mem_cons.mp m with rfl | m
      · exact i2
      · exact h.si x (by rw [es]; exact List.mem_append_right _ (List.mem_cons_of_mem _ m))
def spRepCall (K : PySem.W.Frag) : Sp := fun vs H Q _ => ∃ (R : LegR) (post : List SvR) (s : SvR) (now n : Int) (xo : V) (o : Option Off), vs = [.ref R.p, .int now, .int n, xo] ∧ Cells H (legM K R) ∧ LegI K H R ∧ LegW R ∧ OffX H xo o ∧ R.ss = s :: post ∧ 0 ≤ n ∧ n ≤ 99 ∧
  ∀ R' rows r ts H', RepR R [] post s now n xo o R' rows → Run H (legM K R) H' ((r, .lst (ts.map V.ref)) :: legM K R') → LegI K H' R' → RwI H' ts rows → Q (.ref r) H'
theorem ok_Leg__reply_to_call {P : Program} {w : World} {K : PySem.W.Frag} {mg : Str → Option Value} {base : Heap} {f : Addr} {fd : FuncData} (T : Tx K mg) (c_Leg__reply_d1 : C8.Met P w K mg base 4 (He.ga K "Leg") "_reply" (spReplyL K) [])
    (F : FunD K "_reply_to_call" "Leg._reply_to_call" (defArgs s_Leg__reply_to_call) (defBody s_Leg__reply_to_call) (defScope s_Leg__reply_to_call) [(V.non)] [] f fd) : FnOk P w K mg base CX0 5 f fd ["self", "now", "code", "offer"] (spRepCall K) := by
  refine F.ok sc_Leg__reply_to_call (fun vs H Q E h => ?_) (fun cdv A outer s0 H vs Q E hr h => ?_)
  · obtain ⟨R, post, s, now, n, xo, o, rfl, _⟩ := h
    rfl
  · obtain ⟨R, post, s, now, n, xo, o, rfl, hc, hi, hw, hx, es, n0, n1, k⟩ := h
    have hp := leg_p hc
    have hsv := leg_sv hc
    have hat : atI (R.ss.map fun c => V.ref c.p) 0 = some (.ref s.p) := by
      rw [es]
      exact atC _ _
    refine ⟨_, PSs.nox (pss_one (ps_ret (C8.pe_mt c_Leg__reply_d1 hr (by decide) (pv 0) (pa_cons (pe_ix ix_list (pe_fldC rfl T.cl_Leg T.na_Leg__servers (pv 0) rfl) pe_int (fun _ _ => rfl)) (pa_cons (pv 1) (pa_cons (pv 2) (pa_cons (pv 3) pa_nil))))))), ?_⟩
    refine ⟨_, rfl, R.p, R.dx, _, rfl, hp, rfl, _, rfl, R.p, R.dx, _, _, rfl, hp, rfl, R.sv, _, 0, .ref s.p, rfl, rfl, SqL.of hsv, hat, _, rfl, _, rfl, _, rfl, R, [], post, s, now, n, xo, o, rfl, hc, hi, hw, hx, es, n0, n1, k⟩

end K19
set_option maxHeartbeats 4000000
set_option pp.maxSteps 400
namespace K19
open PySem PySem.Spec PyProof.Rows L2 SX TK TKS TKC
open C8 (pe_c)
/-! stop_call -/
inductive All2 {α β : Type} (P : α → β → Prop) : List α → List β → Prop
  | nil : All2 P [] []
  | snoc {a : α} {b : β} {as : List α} {bs : List β} (h : All2 P as bs) (p : P a b) : All2 P (as ++ [a]) (bs ++ [b])
/-- what stopping the CALLs makes of a client -/
def StopI (now : Int) (c c' : ClR) : Prop := if c.L.verb = "CALL" then ∃ wa wx, c' = stopC c now wa wx else c' = c
theorem stopC_same (c : ClR) (now : Int) (wa wx : Addr) : (stopC c now wa wx).p = c.p ∧ (stopC c now wa wx).la = c.la ∧ (stopC c now wa wx).L = c.L ∧ (stopC c now wa wx).o = c.o ∧ (stopC c now wa wx).kl = c.kl ∧ (stopC c now wa wx).kz = c.kz ∧ (stopC c now wa wx).pl = c.pl := by
  unfold stopC
  split <;> exact ⟨rfl, rfl, rfl, rfl, rfl, rfl, rfl⟩
theorem stopC_I {K : PySem.W.Frag} {H : Hp} {c : ClR} {now : Int} {wa wx : Addr} (h : ClI K H c) : ClI K H (stopC c now wa wx) := by
  obtain ⟨_, e2, e3, e4, e5, e6, e7⟩ := stopC_same c now wa wx
  exact ⟨by rw [e2, e3]; exact h.lt, by rw [e3, e4]; exact h.of, by rw [e3]; exact h.lk, by rw [e3, e4]; exact h.xk, by rw [e5]; exact h.kn, by rw [e5, e6, e7]; exact h.kt⟩
theorem StopI.p {now : Int} {c c' : ClR} (h : StopI now c c') : c'.p = c.p := by
  unfold StopI at h
  split at h
  · obtain ⟨wa, wx, rfl⟩ := h
    exact (stopC_same c now wa wx).1
  · rw [h]
theorem All2.ps {now : Int} {cs cs' : List ClR} (h : All2 (StopI now) cs cs') : cs'.map (fun c => V.ref c.p) = cs.map (fun c => V.ref c.p) := by
  induction h with
  | nil => rfl
  | snoc _ p ih =>
    rw [List.map_append, List.map_append, ih]
    show _ ++ [V.ref _] = _ ++ [V.ref _]
    rw [p.p]
def spStopCall (K : PySem.W.Frag) : Sp := fun vs H Q _ => ∃ (R : LegR) (now : Int), vs = [.ref R.p, .int now] ∧ Cells H (legM K R) ∧ LegI K H R ∧
  ∀ cs H', All2 (StopI now) R.cs cs → Run H (legM K R) H' (legM K { R with cs := cs }) → LegI K H' { R with cs := cs } → Q .non H'
theorem ok_Leg__stop_call {P : Program} {w : World} {K : PySem.W.Frag} {mg : Str → Option Value} {base : Heap} {f : Addr} {fd : FuncData} (T : Tx K mg) (c_Client_stop : C8.Met P w K mg base 3 (He.ga K "Client") "stop" (spStop K) [])
    (F : FunD K "_stop_call" "Leg._stop_call" (defArgs s_Leg__stop_call) (defBody s_Leg__stop_call) (defScope s_Leg__stop_call) [] [] f fd) : FnOk P w K mg base CX0 4 f fd ["self", "now"] (spStopCall K) := by
  refine F.ok sc_Leg__stop_call (fun vs H Q E h => ?_) (fun cdv A outer s0 H vs Q E hr h => ?_)
  · obtain ⟨R, now, rfl, _⟩ := h
    rfl
  · obtain ⟨R, now, rfl, hc, hi, k⟩ := h
    have hp := leg_p hc
    have hcl := leg_cl hc
    refine ⟨_, PSs.nox (pss_one (ps_for PassesOwn.never rfl (pi_list (pe_fldC rfl T.cl_Leg T.na_Leg__clients (pv 0) rfl)) (pg_name (i := 2) sc_Leg__stop_call.nd rfl (Or.inl rfl)) (pss_one (ps_if (pt_cmpR op_eq (pe_fldC rfl T.cl_Letter T.na_Letter_verb (pe_fldC rfl T.cl_Client T.na_Client_letter (pv 2) rfl) rfl) pe_str (nomark _)) (pss_one (ps_expr (C8.pe_mt c_Client_stop hr (by decide) (pv 2) (pa_cons (pv 1) pa_nil)))) pss_nil)))), ?_⟩
    refine ⟨_, rfl, R.p, R.dx, _, _, rfl, hp, rfl, R.cl, rfl, ⟨_, SqL.of hcl⟩, for_list (K := K) (a := R.cl) (xs := R.cs.map fun c => V.ref c.p) (fun i σ H' => ∃ (cs1 : List ClR) (v : Option V), σ = [some (.ref R.p), some (.int now), v] ∧ All2 (StopI now) (R.cs.take i) cs1 ∧ Run H (legM K R) H' (legM K { R with cs := cs1 ++ R.cs.drop i }) ∧ LegI K H' { R with cs := cs1 ++ R.cs.drop i }) ⟨[], none, rfl, .nil, Run.refl hc, hi⟩ ?_ ?_ ?_⟩
    · rintro i σ H' _ ⟨cs1, v, rfl, ha, r, _⟩
      have q := leg_cl r.c
      dsimp only at q
      rw [List.map_append, ha.ps, ← List.map_append, List.take_append_drop] at q
      exact SqL.of q
    · rintro i x σ H1 hi1 ⟨cs1, v, rfl, ha, r, ii⟩
      rw [List.getElem?_map] at hi1
      obtain ⟨c, hci, rfl⟩ := Option.map_eq_some_iff.mp hi1
      obtain ⟨hlt, rfl⟩ := List.getElem?_eq_some_iff.mp hci
      have ed : R.cs.drop i = R.cs[i] :: R.cs.drop (i + 1) := List.drop_eq_getElem_cons hlt
      have et : R.cs.take (i + 1) = R.cs.take i ++ [R.cs[i]] := by
        rw [List.take_succ_eq_append_getElem hlt]
      have es : (LegR.cs { R with cs := cs1 ++ R.cs.drop i }) = cs1 ++ R.cs[i] :: R.cs.drop (i + 1) := by rw [← ed]
      have cc := Cells.cli r.c es
      generalize R.cs[i] = c at *
      have ic := ii.ci c (by rw [es]; simp)
      have hcp : H1 c.p = some (clO K c) := cc.get (by simp [clM])
      obtain ⟨dl, hl⟩ := id ic.lt
      refine ⟨_, rfl, c.p, c.dx, _, _, rfl, hcp, rfl, c.la, dl, _, _, rfl, hl, rfl, rfl, _, rfl, ?_⟩
      rw [vstr, et]
      by_cases e : c.L.verb = "CALL"
      · rw [decide_eq_true e]
        refine iteT ⟨_, rfl, c.p, c.dx, _, rfl, hcp, rfl, _, rfl, c, now, rfl, cc, fun wa wx H2 r2 => ?_⟩
        have r3 := Run.cli (X := []) r es (stopC_same c now wa wx).1 r2
        have i3 := ii.im r2.im
        refine ⟨cs1 ++ [stopC c now wa wx], _, rfl, ha.snoc (by unfold StopI; rw [if_pos e]; exact ⟨wa, wx, rfl⟩), by rw [List.append_assoc]; exact r3, i3.ab, fun y m => ?_, i3.si, i3.wi, i3.ei⟩
        have m : y ∈ (cs1 ++ [stopC c now wa wx]) ++ R.cs.drop (i + 1) := m
        rw [List.append_assoc] at m
        rcases List.mem_append.mp m with m | m
        · exact i3.ci y (by rw [es]; exact List.mem_append_left _ m)
        · rcases List.mem_cons.mp m with rfl | m
          · exact stopC_I (ic.im r2.im)
          · exact i3.ci y (by rw [es]; exact List.mem_append_right _ (List.mem_cons_of_mem _ m))
      · rw [decide_eq_false e]
        refine iteF ⟨cs1 ++ [c], _, rfl, ha.snoc (by unfold StopI; rw [if_neg e]), ?_, ?_⟩
        · rw [List.append_assoc]
          show Run H (legM K R) H1 (legM K { R with cs := cs1 ++ (c :: R.cs.drop (i + 1)) })
          rw [← ed]
          exact r
        · rw [List.append_assoc]
          show LegI K H1 { R with cs := cs1 ++ (c :: R.cs.drop (i + 1)) }
          rw [← ed]
          exact ii
    · rintro σ H1 ⟨cs1, v, rfl, ha, r, ii⟩
      rw [List.length_map] at ha r ii
      rw [List.drop_length, List.append_nil] at r ii
      rw [List.take_length] at ha
      exact k cs1 H1 ha r ii
/-! take_events -/
theorem perm_ev {α : Type} (w p cl sv wt ev : α) (X : List α) : (w :: p :: cl :: sv :: wt :: ev :: X).Perm (ev :: p :: cl :: sv :: wt :: w :: X) := by
  have h1 : ([w, p, cl, sv, wt] ++ ev :: X).Perm (ev :: ([w, p, cl, sv, wt] ++ X)) := List.perm_middle
  have h2 : ([p, cl, sv, wt] ++ w :: X).Perm (w :: ([p, cl, sv, wt] ++ X)) := List.perm_middle
  exact h1.trans (h2.symm.cons ev)
def spTakeEv (K : PySem.W.Frag) : Sp := fun vs H Q _ => ∃ R : LegR, vs = [.ref R.p] ∧ Cells H (legM K R) ∧ LegI K H R ∧ ∀ ev H', Run H (legM K R) H' ((R.ev, evL R) :: legM K { R with ev := ev, es := [] }) → LegI K H' { R with ev := ev, es := [] } → Q (.ref R.ev) H'
theorem ok_Leg_take_events {P : Program} {w : World} {K : PySem.W.Frag} {mg : Str → Option Value} {base : Heap} {f : Addr} {fd : FuncData} (T : Tx K mg) 
    (F : FunD K "take_events" "Leg.take_events" (defArgs s_Leg_take_events) (defBody s_Leg_take_events) (defScope s_Leg_take_events) [] [] f fd) : FnOk P w K mg base CX0 1 f fd ["self"] (spTakeEv K) := by
  refine F.ok sc_Leg_take_events (fun vs H Q E h => ?_) (fun cdv A outer s0 H vs Q E hr h => ?_)
  · obtain ⟨R, rfl, _⟩ := h
    rfl
  · obtain ⟨R, rfl, hc, hi, k⟩ := h
    have hp := leg_p hc
    refine ⟨_, PSs.nox (pss_cons (ps_set (i := 1) sc_Leg_take_events.nd rfl (Or.inl rfl) (pe_fldC rfl T.cl_Leg T.na_Leg__events (pv 0) rfl)) (pss_cons (ps_fldC rfl T.cl_Leg T.na_Leg__events (pv 0) (pe_lst pa_nil) rfl) (pss_one (ps_ret (pv 1))))), ?_⟩
    refine ⟨_, rfl, R.p, R.dx, _, _, rfl, hp, rfl, by show 0 ≤ sizeLine; decide, fun w hw => ?_⟩
    have r2 := (Run.refl hc).add (o := .lst []) hw
    have hp2 := leg_p (Cells.right (A := [(w, .lst [])]) r2.c)
    refine ⟨_, rfl, R.p, R.dx, _, rfl, hp2, sm, ?_⟩
    rw [show putF "_events" (V.ref w) (legfl R) = legfl { R with ev := w } from rfl]
    have r3 := r2.set (A := [(w, .lst [])]) (a := R.p) (o := legO K R) (B := (R.cl, clL R) :: (R.sv, svL R) :: (R.wt, wtL R) :: (R.ev, evL R) :: (R.cs.flatMap (clM K) ++ R.ss.flatMap (svM K))) (o' := .ins (He.ga K "Leg") R.dx (legfl { R with ev := w })) rfl
    have r4 : Run H (legM K R) _ ((R.ev, evL R) :: legM K { R with ev := w, es := [] }) := r3.perm (perm_ev _ _ _ _ _ _ _)
    have h := hi.im r4.im
    exact ⟨_, rfl, k w _ r4 ⟨h.ab, h.ci, h.si, h.wi, fun _ m => (nomatch m)⟩⟩

end K19
set_option maxHeartbeats 4000000
set_option pp.maxSteps 400
namespace K19
open PySem PySem.Spec PyProof.Rows L2 SX TK TKS TKC
open C8 (pe_c)
/-! has_most_servers -/
def openB (R : LegR) (i : Nat) : Bool := match R.ss[i]? with
  | some s => !decide (s.st = .ovr)
  | none => false
def openN (R : LegR) : Nat := ((List.range R.ss.length).filter (openB R)).length
theorem openN_le (R : LegR) : openN R ≤ R.ss.length := by
  have h := List.length_filter_le (openB R) (List.range R.ss.length)
  rw [List.length_range] at h
  exact h
def spMost (K : PySem.W.Frag) : Sp := fun vs H Q _ => ∃ R : LegR, vs = [.ref R.p] ∧ Cells H (legM K R) ∧ R.ss.length < 100000 ∧ ∀ H', Same H H' → Q (.bl (decide (16 ≤ openN R))) H'
theorem ok_Leg__has_most_servers {P : Program} {w : World} {K : PySem.W.Frag} {mg : Str → Option Value} {base : Heap} {f : Addr} {fd : FuncData} (T : Tx K mg) (c_Server_is_over : C8.Met P w K mg base 1 (He.ga K "Server") "is_over" (spSvOver K) [])
    (F : FunD K "_has_most_servers" "Leg._has_most_servers" (defArgs s_Leg__has_most_servers) (defBody s_Leg__has_most_servers) (defScope s_Leg__has_most_servers) [] [] f fd) : FnOk P w K mg base CX0 2 f fd ["self"] (spMost K) := by
  refine F.ok sc_Leg__has_most_servers (fun vs H Q E h => ?_) (fun cdv A outer s0 H vs Q E hr h => ?_)
  · obtain ⟨R, rfl, _⟩ := h
    rfl
  · obtain ⟨R, rfl, hc, hn, k⟩ := h
    have hp := leg_p hc
    have hsv := leg_sv hc
    refine ⟨_, PSs.nox (pss_one (ps_ret (pe_cmpR op_ge (pe_callB call_len_seq rfl T.f_len PySem.boot_len (pa_cons (pe_lc (own := [("server", 1)]) (g := gName 1) rfl sc_Leg__has_most_servers.nd (pi_list (pe_fldC rfl T.cl_Leg T.na_Leg__servers (pv 0) rfl)) (blkOk_by (own := [("server", 1)]) (N := ["self", "server"]) (sc := defScope s_Leg__has_most_servers) (by decide +kernel)) (fun _ _ _ _ _ => pg_name (i := 1) sc_Leg__has_most_servers.nd rfl (Or.inl rfl)) (fun _ _ _ _ _ => pts_one (pt_not (pt_val (C8.pe_mt0 c_Server_is_over hr (by decide) (pv 1))))) (fun _ _ _ _ _ => (pv 1))) pa_nil)) (pgI T.g_MOST_SERVERS) (nomark _)))), ?_⟩
    refine ⟨_, rfl, R.p, R.dx, _, _, rfl, hp, rfl, R.sv, rfl, ⟨_, SqL.of hsv⟩, fun D hD => ?_⟩
    have sS : ∀ o, SqL K (upd H D o) R.sv (R.ss.map fun c => V.ref c.p) := fun o => SqL.of ((same_upd hD) _ _ hsv)
    have at_ : ∀ i x, (R.ss.map fun c => V.ref c.p)[i]? = some x → ∃ s ∈ R.ss, R.ss[i]? = some s ∧ x = V.ref s.p := fun i x hx => by
      rw [List.getElem?_map] at hx
      obtain ⟨s, hs, rfl⟩ := Option.map_eq_some_iff.mp hx
      exact ⟨s, List.mem_of_getElem? hs, hs, rfl⟩
    refine lc_filt walk_list (fun i => (R.ss.map fun c => V.ref c.p).getD i .non) (openB R) (by rw [List.length_map]; exact Nat.le_trans (Nat.le_of_lt hn) (by decide)) (fun _ _ => sS _) (fun i x H1 kk hi y qq => ?_) (fun i x H1 kk hi hb y qq => ?_) ?_
    · obtain ⟨rfl, hx⟩ := y
      obtain ⟨s, ms, es, rfl⟩ := at_ i x hx
      have hsp : H s.p = some (svO K s) := by
        obtain ⟨pre, post, e⟩ := List.append_of_mem ms
        exact (Cells.srv hc e).get (by simp [svM])
      have hsp1 := (same_upd (o := .lst (((List.range i).filter (openB R)).map fun i => (R.ss.map fun c => V.ref c.p).getD i .non)) hD) _ _ hsp
      refine ⟨rfl, _, rfl, s.p, s.dx, _, rfl, hsp1, rfl, s, rfl, hsp1, _, rfl, ?_⟩
      have eb : openB R i = !decide (s.st = .ovr) := by
        unfold openB
        rw [es]
      rw [eb] at qq
      exact qq
    · obtain ⟨rfl, hx⟩ := y
      refine ⟨_, rfl, ?_⟩
      rw [show (R.ss.map fun c => V.ref c.p).getD i .non = x by rw [List.getD_eq_getElem?_getD, hx]; rfl] at qq
      exact qq
    · refine ⟨D, _, rfl, .inl (SqL.of upd_same), _, _, rfl, rfl, ?_⟩
      rw [List.length_map, List.length_map]
      have e : decide ((16 : Int) ≤ (((List.range R.ss.length).filter (openB R)).length : Nat)) = decide (16 ≤ openN R) := by
        by_cases h : 16 ≤ openN R
        · rw [decide_eq_true h, decide_eq_true]
          have : 16 ≤ ((List.range R.ss.length).filter (openB R)).length := h
          omega
        · rw [decide_eq_false h, decide_eq_false]
          have : ¬ 16 ≤ ((List.range R.ss.length).filter (openB R)).length := h
          omega
      show Q (.bl (decide ((16 : Int) ≤ (((List.range R.ss.length).filter (openB R)).length : Nat)))) _
      rw [e]
      exact k _ (same_upd hD)

end K19
set_option maxHeartbeats 4000000
set_option pp.maxSteps 400
namespace K19
open PySem PySem.Spec PyProof.Rows L2 SX TK TKS TKC
open C8 (pe_c)
/-! ### asking -/
def askB (c : ClR) : Bool := decide (c.L.verb ∈ (["TURN", "MOVE", "LIVE"] : List Str)) && !decide (c.st = .ov)
def spIsAsking (K : PySem.W.Frag) : Sp := fun vs H Q _ => ∃ R : LegR, vs = [.ref R.p] ∧ Cells H (legM K R) ∧ LegI K H R ∧ R.cs.length < 100000 ∧ ∀ H', Same H H' → Q (.bl (R.cs.any askB)) H'
theorem ok_Leg__is_asking {P : Program} {w : World} {K : PySem.W.Frag} {mg : Str → Option Value} {base : Heap} {f : Addr} {fd : FuncData} (T : Tx K mg) (c_Client_is_over : C8.Met P w K mg base 1 (He.ga K "Client") "is_over" (spClOver K) [])
    (F : FunD K "_is_asking" "Leg._is_asking" (defArgs s_Leg__is_asking) (defBody s_Leg__is_asking) (defScope s_Leg__is_asking) [] [] f fd) : FnOk P w K mg base CX0 2 f fd ["self"] (spIsAsking K) := by
  refine F.ok sc_Leg__is_asking (fun vs H Q E h => ?_) (fun cdv A outer s0 H vs Q E hr h => ?_)
  · obtain ⟨R, rfl, _⟩ := h
    rfl
  · obtain ⟨R, rfl, hc, hi, hn, k⟩ := h
    have hp := leg_p hc
    have hcl := leg_cl hc
    refine ⟨_, PSs.nox (pss_one (ps_ret (pe_callB (cr_any rfl) rfl T.f_any (by decide +kernel) (pa_cons (pe_lc (own := [("client", 1)]) (g := gName 1) rfl sc_Leg__is_asking.nd (pi_list (pe_fldC rfl T.cl_Leg T.na_Leg__clients (pv 0) rfl)) (blkOk_by (own := [("client", 1)]) (N := ["self", "client"]) (sc := defScope s_Leg__is_asking) (by decide +kernel)) (fun _ _ _ _ _ => pg_name (i := 1) sc_Leg__is_asking.nd rfl (Or.inl rfl)) (fun _ _ _ _ _ => pts_nil) (fun _ _ _ _ _ => (pe_and (pe_cmpR (inSeqK K rfl) (pe_fldC rfl T.cl_Letter T.na_Letter_verb (pe_fldC rfl T.cl_Client T.na_Client_letter (pv 1) rfl) rfl) (pgR T.g_ASKING) (by with_unfolding_all rfl)) (pe_one (pe_not (C8.pe_mt0 c_Client_is_over hr (by decide) (pv 1))))))) pa_nil)))), ?_⟩
    refine ⟨_, rfl, R.p, R.dx, _, _, rfl, hp, rfl, R.cl, rfl, ⟨_, SqL.of hcl⟩, fun D hD => ?_⟩
    refine lc_it walk_list (fun i H' => H' = upd H D (.lst ((R.cs.take i).map fun c => V.bl (askB c)))) rfl (fun i H' _ e => by rw [e]; exact SqL.of ((same_upd hD) _ _ hcl)) (fun i x H1 H2 hi1 e y => ?_) (fun H1 e => ?_)
    · subst e
      obtain ⟨rfl, hx⟩ := y
      rw [List.getElem?_map] at hx
      obtain ⟨c, hci, rfl⟩ := Option.map_eq_some_iff.mp hx
      obtain ⟨hlt, ec⟩ := List.getElem?_eq_some_iff.mp hci
      have mc : c ∈ R.cs := List.mem_of_getElem? hci
      have s1 := same_upd (o := .lst ((R.cs.take i).map fun c => V.bl (askB c))) hD
      have hcp : H c.p = some (clO K c) := by
        obtain ⟨pre, post, e⟩ := List.append_of_mem mc
        exact (Cells.cli (Run.refl hc).c e).get (by simp [clM])
      obtain ⟨dl, hyl⟩ := id (hi.ci c mc).lt
      have hcp1 := s1 _ _ hcp
      have hyl1 := s1 _ _ hyl
      have et : R.cs.take (i + 1) = R.cs.take i ++ [c] := by rw [List.take_succ_eq_append_getElem hlt, ec]
      have fin : ∀ b : Bool, b = askB c → ∃ acc, (upd H D (.lst ((R.cs.take i).map fun c => V.bl (askB c)))) D = some (.lst acc) ∧ acc.length < sizeLine ∧ (upd (upd H D (.lst ((R.cs.take i).map fun c => V.bl (askB c)))) D (.lst (acc ++ [V.bl b])) = upd H D (.lst ((R.cs.take (i + 1)).map fun c => V.bl (askB c)))) := by
        rintro b rfl
        refine ⟨_, upd_same, ?_, ?_⟩
        · rw [List.length_map]
          have := List.length_take_le i R.cs
          have : i < R.cs.length := hlt
          exact Nat.lt_of_le_of_lt (by omega : _ ≤ 100000) (by decide)
        · rw [upd_upd, et, List.map_append]
          rfl
      refine ⟨rfl, ?_⟩
      refine ⟨_, rfl, c.p, c.dx, _, _, rfl, hcp1, rfl, c.la, dl, _, _, rfl, hyl1, rfl, ?_⟩
      refine ⟨_, _, rfl, .inr (T.v_ASKING _), rfl, rfl, _, rfl, ?_⟩
      have e1 : inV (V.str c.L.verb) [.str "TURN", .str "MOVE", .str "LIVE"] = decide (c.L.verb ∈ (["TURN", "MOVE", "LIVE"] : List Str)) := inV_strs c.L.verb ["TURN", "MOVE", "LIVE"]
      show (if inV (V.str c.L.verb) [.str "TURN", .str "MOVE", .str "LIVE"] = true then _ else _)
      rw [e1]
      cases e2 : decide (c.L.verb ∈ (["TURN", "MOVE", "LIVE"] : List Str)) with
      | false => exact iteF (fin false (by unfold askB; rw [e2]; rfl))
      | true =>
        refine iteT ⟨_, rfl, c.p, c.dx, _, rfl, hcp1, rfl, c, rfl, hcp1, ?_⟩
        exact ⟨_, rfl, fin _ (by unfold askB; rw [e2]; rfl)⟩
    · subst e
      rw [List.length_map, List.take_length]
      refine ⟨D, R.cs.map askB, rfl, ?_, ?_⟩
      · rw [List.map_map]
        exact SqL.of upd_same
      · have e : (R.cs.map askB).any id = R.cs.any askB := by rw [List.any_map]; rfl
        first | rw [e] | skip
        exact k _ (same_upd hD)

end K19
set_option maxHeartbeats 4000000
set_option pp.maxSteps 400
namespace K19
open PySem PySem.Spec PyProof.Rows L2 SX TK TKS TKC
open C8 (pe_c)
/-! ### ask -/
theorem OffX.same {H H' : Hp} {x : V} {o : Option Off} (h : OffX H x o) (s : Same H H') : OffX H' x o := ⟨h.1.same s, h.2⟩
/-- one more that waits -/
theorem Run.waits {K : PySem.W.Frag} {H H1 : Hp} {M : List Cell} {R : LegR} {t : Addr} {xs : List V} (r : Run H M H1 (legM K R)) (hi : LegI K H1 R) (ht : H1 t = some (.tup xs)) :
    Run H M (upd H1 R.wt (.lst ((R.ws.map fun c => V.ref c.1) ++ [.ref t]))) (legM K { R with ws := R.ws ++ [(t, xs)] }) ∧ LegI K (upd H1 R.wt (.lst ((R.ws.map fun c => V.ref c.1) ++ [.ref t]))) { R with ws := R.ws ++ [(t, xs)] } := by
  have r2 := r.set (A := [(R.p, legO K R), (R.cl, clL R), (R.sv, svL R)]) (a := R.wt) (o := wtL R) (B := (R.ev, evL R) :: (R.cs.flatMap (clM K) ++ R.ss.flatMap (svM K))) (o' := .lst ((R.ws.map fun c => V.ref c.1) ++ [.ref t])) rfl
  have e : legM K { R with ws := R.ws ++ [(t, xs)] } = [(R.p, legO K R), (R.cl, clL R), (R.sv, svL R)] ++ (R.wt, .lst ((R.ws.map fun c => V.ref c.1) ++ [.ref t])) :: (R.ev, evL R) :: (R.cs.flatMap (clM K) ++ R.ss.flatMap (svM K)) := by
    unfold legM wtL
    simp only [List.map_append]
    rfl
  have i : Im H1 (upd H1 R.wt (.lst ((R.ws.map fun c => V.ref c.1) ++ [.ref t]))) := fun b o eb ib => by
    by_cases q : b = R.wt
    · rw [q, leg_wt r.c] at eb
      cases eb
      cases ib
    · rw [upd_ne q]
      exact eb
  refine ⟨by rw [e]; exact r2, ?_⟩
  have h := hi.im i
  refine ⟨h.ab, h.ci, h.si, fun x m => ?_, h.ei⟩
  rcases List.mem_append.mp m with m | m
  · exact h.wi x m
  · rw [List.mem_singleton.mp m]
    exact i _ _ ht rfl
/-- what an empty answer is -/
theorem Run.nil_ {K : PySem.W.Frag} {H H1 : Hp} {M : List Cell} {R : LegR} {r : Addr} (q : Run H M H1 (legM K R)) (h : H1 r = none) : Run H M (upd H1 r (.lst [])) ((r, .lst []) :: legM K R) := q.add h
def AskK (K : PySem.W.Frag) (R : LegR) (verb : Str) (now : Int) (xo xg : V) (o : Option Off) (H : Hp) (Q : VK) : Prop :=
  (¬ (R.st = "talking" ∧ (R.cs.any askB = false ∨ R.ws.length < 8)) ∧ ∀ r H', Run H (legM K R) H' ((r, .lst []) :: legM K R) → LegI K H' R → Q (.ref r) H') ∨
  (R.st = "talking" ∧ R.cs.any askB = false ∧ ∀ cp cdx la wa wx ka r ts H', Run H (legM K R) H' ((r, .lst (ts.map V.ref)) :: legM K (sentR R (newC cp cdx la wa wx ka (sendL R verb xo xg) o R.place R.first now))) →
    LegI K H' (sentR R (newC cp cdx la wa wx ka (sendL R verb xo xg) o R.place R.first now)) → RwI H' ts [(R.place, textOf (linesX (sendL R verb xo xg) o))] → Q (.ref r) H') ∨
  (R.st = "talking" ∧ R.cs.any askB = true ∧ R.ws.length < 8 ∧ ∀ t r H', Run H (legM K R) H' ((r, .lst []) :: legM K { R with ws := R.ws ++ [(t, [.str verb, xo, xg])] }) → LegI K H' { R with ws := R.ws ++ [(t, [.str verb, xo, xg])] } → Q (.ref r) H')
def spAsk (K : PySem.W.Frag) : Sp := fun vs H Q _ => ∃ (R : LegR) (verb : Str) (now : Int) (xo xg : V) (o : Option Off), vs = [.ref R.p, .str verb, .int now, xo, xg] ∧ Cells H (legM K R) ∧ LegI K H R ∧ OffX H xo o ∧ SndOk R verb xg ∧ R.cs.length < 100000 ∧ R.ws.length < 100000 ∧ AskK K R verb now xo xg o H Q
theorem ok_Leg__ask {P : Program} {w : World} {K : PySem.W.Frag} {mg : Str → Option Value} {base : Heap} {f : Addr} {fd : FuncData} (T : Tx K mg) (c_Leg__is_asking : C8.Met P w K mg base 2 (He.ga K "Leg") "_is_asking" (spIsAsking K) []) (c_Leg__send_d2 : C8.Met P w K mg base 5 (He.ga K "Leg") "_send" (spSend K) [])
    (F : FunD K "_ask" "Leg._ask" (defArgs s_Leg__ask) (defBody s_Leg__ask) (defScope s_Leg__ask) [] [] f fd) : FnOk P w K mg base CX0 6 f fd ["self", "verb", "now", "offer", "goal"] (spAsk K) := by
  refine F.ok sc_Leg__ask (fun vs H Q E h => ?_) (fun cdv A outer s0 H vs Q E hr h => ?_)
  · obtain ⟨R, verb, now, xo, xg, o, rfl, _⟩ := h
    rfl
  · obtain ⟨R, verb, now, xo, xg, o, rfl, hc, hi, hx, sk, hn, hw, k⟩ := h
    have hp := leg_p hc
    refine ⟨_, PSs.nox (C8.pss_cut (ps_if (pt_cmpR op_ne (pe_fldC rfl T.cl_Leg T.na_Leg_state (pv 0) rfl) pe_str (nomark _)) (pss_one (ps_ret (pe_lst pa_nil))) pss_nil) (C8.pss_cut (ps_if (pt_not (pt_val (C8.pe_mt0 c_Leg__is_asking hr (by decide) (pv 0)))) (pss_one (ps_ret (C8.pe_mt c_Leg__send_d2 hr (by decide) (pv 0) (pa_cons (pv 1) (pa_cons (pv 2) (pa_cons (pv 3) (pa_cons (pv 4) pa_nil))))))) pss_nil) (C8.pss_cut (ps_if (pt_cmpR op_lt (pe_callB call_len_seq rfl T.f_len PySem.boot_len (pa_cons (pe_fldC rfl T.cl_Leg T.na_Leg__waiting (pv 0) rfl) pa_nil)) (pgI T.g_MOST_WAITING) (nomark _)) (pss_one (ps_expr (pe_bm PySem.F.plainAttrs_list PySem.F.slot_list_append PySem.F.type_list_append mt_append (pe_fldC rfl T.cl_Leg T.na_Leg__waiting (pv 0) rfl) (pa_cons (pe_tup (pa_cons (pv 1) (pa_cons (pv 3) (pa_cons (pv 4) pa_nil)))) pa_nil)))) pss_nil) (pss_one (ps_ret (pe_lst pa_nil)))))), ?_⟩
    refine ⟨fun σ' H' => σ' = [some (.ref R.p), some (.str verb), some (.int now), some xo, some xg] ∧ H' = H ∧ R.st = "talking", ⟨_, rfl, R.p, R.dx, _, _, rfl, hp, rfl, rfl, _, rfl, ?_⟩, ?_⟩
    · rw [vstr]
      by_cases e : R.st = "talking"
      · rw [decide_eq_true e]
        exact iteF ⟨rfl, rfl, e⟩
      · rw [decide_eq_false e]
        refine iteT ⟨by show 0 ≤ sizeLine; decide, fun r hr0 => ?_⟩
        have r1 := Run.nil_ (Run.refl hc) hr0
        rcases k with ⟨_, k⟩ | ⟨st, _⟩ | ⟨st, _⟩
        · exact k r _ r1 (hi.im r1.im)
        · exact absurd st e
        · exact absurd st e
    rintro σ' H1 ⟨rfl, e9, st⟩
    obtain rfl : H = H1 := e9.symm
    refine ⟨fun σ' H' => σ' = [some (.ref R.p), some (.str verb), some (.int now), some xo, some xg] ∧ Same H H' ∧ R.cs.any askB = true, ⟨_, rfl, R.p, R.dx, _, rfl, hp, rfl, R, rfl, hc, hi, hn, fun H1 s1 => ⟨_, rfl, ?_⟩⟩, ?_⟩
    · cases e : R.cs.any askB with
      | true => exact iteF ⟨rfl, s1, rfl⟩
      | false =>
        have r1 := (Run.refl hc).same s1
        have hp1 := leg_p r1.c
        refine iteT ⟨_, rfl, R.p, R.dx, _, rfl, hp1, rfl, _, rfl, _, rfl, _, rfl, _, rfl, R, verb, now, xo, xg, o, rfl, r1.c, hi.im r1.im, hx.same s1, sk, hn, fun cp cdx la wa wx ka r ts H3 r3 i3 w3 => ?_⟩
        rcases k with ⟨k1, _⟩ | ⟨_, _, k⟩ | ⟨_, e2, _⟩
        · exact absurd ⟨st, .inl e⟩ k1
        · exact k cp cdx la wa wx ka r ts H3 (r1.trans r3) i3 w3
        · rw [e] at e2; cases e2
    rintro σ' H1 ⟨rfl, s1, ea⟩
    have r1 := (Run.refl hc).same s1
    have hi1 := hi.im r1.im
    have hp1 := leg_p r1.c
    have hw1 := leg_wt r1.c
    have fin : ∀ H2, (R.ws.length < 8 → False) → Run H (legM K R) H2 (legM K R) → ∀ r, H2 r = none → Q (.ref r) (upd H2 r (.lst [])) := fun H2 h8 r2 r hr0 => by
      have r3 := Run.nil_ r2 hr0
      rcases k with ⟨_, k⟩ | ⟨_, e2, _⟩ | ⟨_, _, e8, _⟩
      · exact k r _ r3 (hi.im r3.im)
      · rw [ea] at e2; cases e2
      · exact (h8 e8).elim
    refine ⟨fun σ' H' => σ' = [some (.ref R.p), some (.str verb), some (.int now), some xo, some xg] ∧ ((R.ws.length < 8 → False) ∧ Run H (legM K R) H' (legM K R) ∨ R.ws.length < 8 ∧ ∃ t, Run H (legM K R) H' (legM K { R with ws := R.ws ++ [(t, [.str verb, xo, xg])] }) ∧ LegI K H' { R with ws := R.ws ++ [(t, [.str verb, xo, xg])] }), ⟨_, rfl, R.p, R.dx, _, _, rfl, hp1, rfl, R.wt, _, rfl, .inl (SqL.of hw1), _, _, rfl, rfl, _, rfl, ?_⟩, ?_⟩
    · rw [List.length_map]
      by_cases e : R.ws.length < 8
      · rw [decide_eq_true (by omega : ((R.ws.length : Nat) : Int) < 8)]
        refine iteT ⟨_, rfl, R.p, R.dx, _, _, rfl, hp1, rfl, .inl ⟨rfl, _, SqL.of hw1⟩, _, rfl, _, rfl, _, rfl, by show 3 ≤ sizeLine; decide, fun t ht => ?_⟩
        have s2 := same_upd (o := .tup [.str verb, xo, xg]) ht
        obtain ⟨r5, hi5⟩ := Run.waits (r1.same s2) (hi1.im (Im.of_same s2)) (t := t) (xs := [.str verb, xo, xg]) upd_same
        exact ⟨R.wt, _, _, rfl, rfl, s2 _ _ hw1, by rw [List.length_map]; exact Nat.lt_of_lt_of_le hw (by decide), rfl, .inr ⟨e, t, r5, hi5⟩⟩
      · rw [decide_eq_false (by omega : ¬ ((R.ws.length : Nat) : Int) < 8)]
        exact iteF ⟨rfl, .inl ⟨e, r1⟩⟩
    rintro σ' H2 ⟨rfl, h2⟩
    refine ⟨by show 0 ≤ sizeLine; decide, fun r hr0 => ?_⟩
    rcases h2 with ⟨e, r2⟩ | ⟨e, t, r2, i2⟩
    · exact fin H2 e r2 r hr0
    · have r3 := Run.nil_ r2 hr0
      rcases k with ⟨k1, _⟩ | ⟨_, e2, _⟩ | ⟨_, _, _, k⟩
      · exact absurd ⟨st, .inr e⟩ k1
      · rw [ea] at e2; cases e2
      · exact k t r _ r3 (i2.im (Im.of_same (same_upd hr0)))
/-! turn, move -/
def spTurn (K : PySem.W.Frag) : Sp := fun vs H Q _ => ∃ (R : LegR) (now : Int) (xo : V) (o : Option Off), vs = [.ref R.p, xo, .int now] ∧ Cells H (legM K R) ∧ LegI K H R ∧ OffX H xo o ∧ SndOk R "TURN" .non ∧ R.cs.length < 100000 ∧ R.ws.length < 100000 ∧ AskK K R "TURN" now xo .non o H Q
theorem ok_Leg_turn {P : Program} {w : World} {K : PySem.W.Frag} {mg : Str → Option Value} {base : Heap} {f : Addr} {fd : FuncData} (T : Tx K mg) (c_Leg__ask : C8.Met P w K mg base 6 (He.ga K "Leg") "_ask" (spAsk K) [])
    (F : FunD K "turn" "Leg.turn" (defArgs s_Leg_turn) (defBody s_Leg_turn) (defScope s_Leg_turn) [] [] f fd) : FnOk P w K mg base CX0 7 f fd ["self", "offer", "now"] (spTurn K) := by
  refine F.ok sc_Leg_turn (fun vs H Q E h => ?_) (fun cdv A outer s0 H vs Q E hr h => ?_)
  · obtain ⟨R, now, xo, o, rfl, _⟩ := h
    rfl
  · obtain ⟨R, now, xo, o, rfl, hc, hi, hx, sk, hn, hw, k⟩ := h
    refine ⟨_, PSs.nox (pss_one (ps_ret (C8.pe_mt c_Leg__ask hr (by decide) (pv 0) (pa_cons pe_str (pa_cons (pv 2) (pa_cons (pv 1) (pa_cons pe_non pa_nil))))))), ?_⟩
    exact ⟨_, rfl, R.p, R.dx, _, rfl, leg_p hc, rfl, _, rfl, _, rfl, R, "TURN", now, xo, .non, o, rfl, hc, hi, hx, sk, hn, hw, k⟩
def spMove (K : PySem.W.Frag) : Sp := fun vs H Q _ => ∃ (R : LegR) (now : Int) (g : Str), vs = [.ref R.p, .str g, .int now] ∧ Cells H (legM K R) ∧ LegI K H R ∧ SndOk R "MOVE" (.str g) ∧ R.cs.length < 100000 ∧ R.ws.length < 100000 ∧ AskK K R "MOVE" now .non (.str g) none H Q
theorem ok_Leg_move {P : Program} {w : World} {K : PySem.W.Frag} {mg : Str → Option Value} {base : Heap} {f : Addr} {fd : FuncData} (T : Tx K mg) (c_Leg__ask : C8.Met P w K mg base 6 (He.ga K "Leg") "_ask" (spAsk K) [])
    (F : FunD K "move" "Leg.move" (defArgs s_Leg_move) (defBody s_Leg_move) (defScope s_Leg_move) [] [] f fd) : FnOk P w K mg base CX0 7 f fd ["self", "goal", "now"] (spMove K) := by
  refine F.ok sc_Leg_move (fun vs H Q E h => ?_) (fun cdv A outer s0 H vs Q E hr h => ?_)
  · obtain ⟨R, now, g, rfl, _⟩ := h
    rfl
  · obtain ⟨R, now, g, rfl, hc, hi, sk, hn, hw, k⟩ := h
    refine ⟨_, PSs.nox (pss_one (ps_ret (C8.pe_mt c_Leg__ask hr (by decide) (pv 0) (pa_cons pe_str (pa_cons (pv 2) (pa_cons pe_non (pa_cons (pv 1) pa_nil))))))), ?_⟩
    exact ⟨_, rfl, R.p, R.dx, _, rfl, leg_p hc, rfl, _, rfl, _, rfl, R, "MOVE", now, .non, .str g, none, rfl, hc, hi, ⟨rfl, (fun _ e => nomatch e), fun _ e => nomatch e⟩, sk, hn, hw, k⟩

end K19
set_option maxHeartbeats 4000000
set_option pp.maxSteps 400
namespace K19
open PySem PySem.Spec PyProof.Rows L2 SX TK TKS TKC
open C8 (pe_c)
/-! ### what waits, LIVE, lost -/
def spSendWaiting (K : PySem.W.Frag) : Sp := fun vs H Q _ => ∃ (R : LegR) (now : Int), vs = [.ref R.p, .int now] ∧ Cells H (legM K R) ∧ LegI K H R ∧
  ((R.ws = [] ∧ ∀ r H', Run H (legM K R) H' ((r, .lst []) :: legM K R) → LegI K H' R → Q (.ref r) H') ∨
  (∃ (t : Addr) (verb : Str) (xo xg : V) (o : Option Off) (ws : List (Addr × List V)), R.ws = (t, [.str verb, xo, xg]) :: ws ∧ OffX H xo o ∧ SndOk R verb xg ∧ R.cs.length < 100000 ∧
    ∀ cp cdx la wa wx ka r ts H', Run H (legM K R) H' ((r, .lst (ts.map V.ref)) :: legM K (sentR { R with ws := ws } (newC cp cdx la wa wx ka (sendL R verb xo xg) o R.place R.first now))) →
      LegI K H' (sentR { R with ws := ws } (newC cp cdx la wa wx ka (sendL R verb xo xg) o R.place R.first now)) → RwI H' ts [(R.place, textOf (linesX (sendL R verb xo xg) o))] → Q (.ref r) H'))
theorem Run.pop {K : PySem.W.Frag} {H H1 : Hp} {M : List Cell} {R : LegR} {q : Addr × List V} {ws : List (Addr × List V)} (r : Run H M H1 (legM K R)) (hi : LegI K H1 R) (e : R.ws = q :: ws) :
    Run H M (upd H1 R.wt (.lst (ws.map fun c => V.ref c.1))) (legM K { R with ws := ws }) ∧ LegI K (upd H1 R.wt (.lst (ws.map fun c => V.ref c.1))) { R with ws := ws } := by
  have r2 := r.set (A := [(R.p, legO K R), (R.cl, clL R), (R.sv, svL R)]) (a := R.wt) (o := wtL R) (B := (R.ev, evL R) :: (R.cs.flatMap (clM K) ++ R.ss.flatMap (svM K))) (o' := .lst (ws.map fun c => V.ref c.1)) rfl
  have i : Im H1 (upd H1 R.wt (.lst (ws.map fun c => V.ref c.1))) := fun b o eb ib => by
    by_cases q : b = R.wt
    · rw [q, leg_wt r.c] at eb
      cases eb
      cases ib
    · rw [upd_ne q]
      exact eb
  have h := hi.im i
  exact ⟨r2, h.ab, h.ci, h.si, fun x m => h.wi x (by rw [e]; exact List.mem_cons_of_mem _ m), h.ei⟩
theorem ok_Leg__send_waiting {P : Program} {w : World} {K : PySem.W.Frag} {mg : Str → Option Value} {base : Heap} {f : Addr} {fd : FuncData} (T : Tx K mg) (c_Leg__send_d2 : C8.Met P w K mg base 5 (He.ga K "Leg") "_send" (spSend K) [])
    (F : FunD K "_send_waiting" "Leg._send_waiting" (defArgs s_Leg__send_waiting) (defBody s_Leg__send_waiting) (defScope s_Leg__send_waiting) [] [] f fd) : FnOk P w K mg base CX0 6 f fd ["self", "now"] (spSendWaiting K) := by
  refine F.ok sc_Leg__send_waiting (fun vs H Q E h => ?_) (fun cdv A outer s0 H vs Q E hr h => ?_)
  · obtain ⟨R, now, rfl, _⟩ := h
    rfl
  · obtain ⟨R, now, rfl, hc, hi, k⟩ := h
    have hp := leg_p hc
    have hw := leg_wt hc
    refine ⟨_, PSs.nox (C8.pss_cut (ps_if (pt_not (pt_truth (pe_fldC rfl T.cl_Leg T.na_Leg__waiting (pv 0) rfl) (fun _ => rfl))) (pss_one (ps_ret (pe_lst pa_nil))) pss_nil) (pss_cons (ps_asg (pe_bm PySem.F.plainAttrs_list PySem.F.slot_list_pop PySem.F.type_list_pop mt_popAt (pe_fldC rfl T.cl_Leg T.na_Leg__waiting (pv 0) rfl) (pa_cons pe_int pa_nil)) (pg_tup rfl (pgs_cons (pg_name (i := 2) sc_Leg__send_waiting.nd rfl (Or.inl rfl)) (pgs_cons (pg_name (i := 3) sc_Leg__send_waiting.nd rfl (Or.inl rfl)) (pgs_cons (pg_name (i := 4) sc_Leg__send_waiting.nd rfl (Or.inl rfl)) pgs_nil))))) (pss_one (ps_ret (C8.pe_mt c_Leg__send_d2 hr (by decide) (pv 0) (pa_cons (pv 2) (pa_cons (pv 1) (pa_cons (pv 3) (pa_cons (pv 4) pa_nil))))))))), ?_⟩
    refine ⟨fun σ' H' => σ' = [some (.ref R.p), some (.int now), none, none, none] ∧ H' = H ∧ R.ws ≠ [], ⟨_, rfl, R.p, R.dx, _, _, rfl, hp, rfl, _, .inl ⟨_, SqL.of hw, rfl⟩, ?_⟩, ?_⟩
    · cases e : R.ws with
      | nil =>
        refine iteT ⟨by show 0 ≤ sizeLine; decide, fun r hr0 => ?_⟩
        have r1 := Run.nil_ (Run.refl hc) hr0
        rcases k with ⟨_, k⟩ | ⟨t, verb, xo, xg, o, ws, e2, _⟩
        · exact k r _ r1 (hi.im r1.im)
        · rw [e] at e2; cases e2
      | cons q ws => exact iteF ⟨rfl, rfl, fun z => nomatch z⟩
    rintro σ' H1 ⟨rfl, e9, ne⟩
    obtain rfl : H = H1 := e9.symm
    rcases k with ⟨e, _⟩ | ⟨t, verb, xo, xg, o, ws, e, hx, sk, hn, k⟩
    · exact absurd e ne
    have ht := hi.wi (t, [.str verb, xo, xg]) (by rw [e]; simp)
    obtain ⟨r1, hi1⟩ := Run.pop (Run.refl hc) hi e
    rw [e] at hw
    have hx1 := hx.im r1.im
    have ht1 := r1.im _ _ ht rfl
    have hp1 := leg_p r1.c
    refine ⟨_, rfl, R.p, R.dx, _, _, rfl, hp, rfl, .inl ⟨rfl, _, SqL.of hw⟩, R.wt, _, 0, 0, V.ref t, rfl, rfl, hw, by decide, by decide, sqC _ _, rfl, ?_⟩
    refine ⟨t, _, rfl, SqT.of ht1, rfl, _, _, rfl, _, _, rfl, _, _, rfl, rfl, ?_⟩
    exact ⟨_, rfl, R.p, R.dx, _, rfl, hp1, rfl, _, rfl, _, rfl, _, rfl, _, rfl, { R with ws := ws }, verb, now, xo, xg, o, rfl, r1.c, hi1, hx1, ⟨⟨sk.w.tag, sk.w.call, sk.w.own, sk.w.other, sk.w.ot, sk.w.seq, sk.w.req⟩, sk.v, sk.g, sk.s, sk.r⟩, hn, fun cp cdx la wa wx ka r ts H3 r3 i3 w3 => k cp cdx la wa wx ka r ts H3 (r1.trans r3) i3 w3⟩
/-! LIVE -/
def spSendLive (K : PySem.W.Frag) : Sp := fun vs H Q _ => ∃ (R : LegR) (now : Int), vs = [.ref R.p, .int now] ∧ Cells H (legM K R) ∧ LegI K H R ∧ SndOk R "LIVE" .non ∧ R.cs.length < 100000 ∧
  ((¬ (R.st = "talking" ∧ R.live ≤ now ∧ R.cs.any askB = false) ∧ ∀ r H', Run H (legM K R) H' ((r, .lst []) :: legM K R) → LegI K H' R → Q (.ref r) H') ∨
  (R.st = "talking" ∧ R.live ≤ now ∧ R.cs.any askB = false ∧ ∀ cp cdx la wa wx ka r ts H', Run H (legM K R) H' ((r, .lst (ts.map V.ref)) :: legM K (sentR R (newC cp cdx la wa wx ka (sendL R "LIVE" .non .non) none R.place R.first now))) →
      LegI K H' (sentR R (newC cp cdx la wa wx ka (sendL R "LIVE" .non .non) none R.place R.first now)) → RwI H' ts [(R.place, textOf (linesX (sendL R "LIVE" .non .non) none))] → Q (.ref r) H'))
theorem ok_Leg__send_live {P : Program} {w : World} {K : PySem.W.Frag} {mg : Str → Option Value} {base : Heap} {f : Addr} {fd : FuncData} (T : Tx K mg) (c_Leg__is_asking : C8.Met P w K mg base 2 (He.ga K "Leg") "_is_asking" (spIsAsking K) []) (c_Leg__send : C8.Met P w K mg base 5 (He.ga K "Leg") "_send" (spSend K) [(V.non), (V.non)])
    (F : FunD K "_send_live" "Leg._send_live" (defArgs s_Leg__send_live) (defBody s_Leg__send_live) (defScope s_Leg__send_live) [] [] f fd) : FnOk P w K mg base CX0 6 f fd ["self", "now"] (spSendLive K) := by
  refine F.ok sc_Leg__send_live (fun vs H Q E h => ?_) (fun cdv A outer s0 H vs Q E hr h => ?_)
  · obtain ⟨R, now, rfl, _⟩ := h
    rfl
  · obtain ⟨R, now, rfl, hc, hi, sk, hn, k⟩ := h
    have hp := leg_p hc
    refine ⟨_, PSs.nox (C8.pss_cut (ps_if (PW.pt (pw_or (pt_cmpR op_ne (pe_fldC rfl T.cl_Leg T.na_Leg_state (pv 0) rfl) pe_str (nomark _)) (pw_or (pt_cmpR op_lt (pv 1) (pe_fldC rfl T.cl_Leg T.na_Leg__live_due (pv 0) rfl) (nomark _)) (pw_or1 (pt_val (C8.pe_mt0 c_Leg__is_asking hr (by decide) (pv 0))))))) (pss_one (ps_ret (pe_lst pa_nil))) pss_nil) (pss_one (ps_ret (C8.pe_mt c_Leg__send hr (by decide) (pv 0) (pa_cons pe_str (pa_cons (pv 1) pa_nil)))))), ?_⟩
    have out : ∀ H1, ¬ (R.st = "talking" ∧ R.live ≤ now ∧ R.cs.any askB = false) → Same H H1 → ∀ r, H1 r = none → Q (.ref r) (upd H1 r (.lst [])) := fun H1 e s1 r hr0 => by
      have r1 := Run.nil_ ((Run.refl hc).same s1) hr0
      rcases k with ⟨_, k⟩ | ⟨k1, k2, k3, _⟩
      · exact k r _ r1 (hi.im r1.im)
      · exact absurd ⟨k1, k2, k3⟩ e
    refine ⟨fun σ' H' => σ' = [some (.ref R.p), some (.int now)] ∧ Same H H' ∧ R.st = "talking" ∧ R.live ≤ now ∧ R.cs.any askB = false, ⟨_, rfl, R.p, R.dx, _, _, rfl, hp, rfl, rfl, _, rfl, ?_⟩, ?_⟩
    · rw [vstr]
      by_cases e : R.st = "talking"
      · rw [decide_eq_true e]
        refine iteF ⟨_, rfl, _, rfl, R.p, R.dx, _, _, rfl, hp, rfl, _, _, rfl, rfl, _, rfl, ?_⟩
        by_cases e2 : now < R.live
        · rw [decide_eq_true e2]
          exact iteT ⟨by show 0 ≤ sizeLine; decide, out H (fun q => by have := q.2.1; omega) (Same.refl H)⟩
        · rw [decide_eq_false e2]
          refine iteF ⟨_, rfl, R.p, R.dx, _, rfl, hp, rfl, R, rfl, hc, hi, hn, fun H1 s1 => ⟨_, rfl, ?_⟩⟩
          cases e3 : R.cs.any askB with
          | true => exact iteT ⟨by show 0 ≤ sizeLine; decide, out H1 (fun q => by have := q.2.2; rw [e3] at this; cases this) s1⟩
          | false => exact iteF ⟨rfl, s1, e, by omega, rfl⟩
      · rw [decide_eq_false e]
        exact iteT ⟨by show 0 ≤ sizeLine; decide, out H (fun q => e q.1) (Same.refl H)⟩
    rintro σ' H1 ⟨rfl, s1, e1, e2, e3⟩
    have r1 := (Run.refl hc).same s1
    have hp1 := leg_p r1.c
    rcases k with ⟨k1, _⟩ | ⟨_, _, _, k⟩
    · exact absurd ⟨e1, e2, e3⟩ k1
    · exact ⟨_, rfl, R.p, R.dx, _, rfl, hp1, rfl, _, rfl, R, "LIVE", now, .non, .non, none, rfl, r1.c, hi.im r1.im, ⟨rfl, (fun _ e => nomatch e), fun _ e => nomatch e⟩, sk, hn, fun cp cdx la wa wx ka r ts H3 r3 i3 w3 => k cp cdx la wa wx ka r ts H3 (r1.trans r3) i3 w3⟩

end K19
set_option maxHeartbeats 4000000
set_option pp.maxSteps 400
namespace K19
open PySem PySem.Spec PyProof.Rows L2 SX TK TKS TKC
open C8 (pe_c)
def before (st : Str) : Bool := decide (st = "calling") || decide (st = "ringing")
theorem inV_before (st : Str) : inV (.str st) [.str "calling", .str "ringing"] = before st := by
  have h := inV_strs st ["calling", "ringing"]
  have e : (([("calling" : Str), "ringing"] : List Str).map V.str) = [.str "calling", .str "ringing"] := rfl
  rw [e] at h
  rw [h]
  unfold before
  by_cases h1 : st = "calling"
  · rw [decide_eq_true h1, decide_eq_true (by rw [h1]; simp)]
    rfl
  · rw [decide_eq_false h1, Bool.false_or]
    refine decide_eq_decide.mpr ?_
    simp [h1]
inductive FcRel (R : LegR) (M : Ltr) (n now : Int) : LegR → Prop
  | rang {t : Addr} (e : n = 18) (st : R.st = "calling") : FcRel R M n now { R with st := "ringing", es := R.es ++ [(t, [.str "rang"])] }
  | rang2 (e : n = 18) (st : R.st ≠ "calling") : FcRel R M n now R
  | yes {t : Addr} (e : n = 20) : FcRel R M n now { talkR { R with ot := M.ttag } now with es := R.es ++ [(t, [.str "answered", M.offer])] }
  | failed {wt t : Addr} (e : n ≠ 18) (e2 : n ≠ 20) : FcRel R M n now (overR R wt t "failed" n)
def spFollowCall (K : PySem.W.Frag) : Sp := fun vs H Q _ => ∃ (R : LegR) (b : Addr) (M : Ltr) (n now : Int), vs = [.ref R.p, .ref b, .int now] ∧ Cells H (legM K R) ∧ LegI K H R ∧ LetAt K H b M ∧ M.code = .int n ∧ before R.st = true ∧ R.es.length < 100000 ∧
  ∀ R' r H', FcRel R M n now R' → Run H (legM K R) H' ((r, .lst []) :: legM K R') → LegI K H' R' → Q (.ref r) H'
theorem dcode (n m : Int) : decide (V.int n = V.int m) = decide (n = m) := by
  by_cases h : n = m
  · rw [h, decide_eq_true rfl, decide_eq_true rfl]
  · rw [decide_eq_false h, decide_eq_false fun e => h (V.int.inj e)]
theorem ok_Leg__follow_call {P : Program} {w : World} {K : PySem.W.Frag} {mg : Str → Option Value} {base : Heap} {f : Addr} {fd : FuncData} (T : Tx K mg) (c_Leg__send : C8.Met P w K mg base 5 (He.ga K "Leg") "_send" (spSend K) [(V.non), (V.non)]) (c_Leg__talk : C8.Met P w K mg base 1 (He.ga K "Leg") "_talk" (spTalk K) []) (c_Leg__end : C8.Met P w K mg base 1 (He.ga K "Leg") "_end" (spEnd K) [])
    (F : FunD K "_follow_call" "Leg._follow_call" (defArgs s_Leg__follow_call) (defBody s_Leg__follow_call) (defScope s_Leg__follow_call) [] [] f fd) : FnOk P w K mg base CX0 6 f fd ["self", "reply", "now"] (spFollowCall K) := by
  refine F.ok sc_Leg__follow_call (fun vs H Q E h => ?_) (fun cdv A outer s0 H vs Q E hr h => ?_)
  · obtain ⟨R, b, M, n, now, rfl, _⟩ := h
    rfl
  · obtain ⟨R, b, M, n, now, rfl, hc, hi, hb, em, hst, hn, k⟩ := h
    obtain ⟨dm, hm⟩ := id hb
    have hp := leg_p hc
    refine ⟨_, PSs.nox (C8.pss_cut (ps_if (pt_cmpR op_eq (pe_fldC rfl T.cl_Letter T.na_Letter_code (pv 1) rfl) (pgI T.g_RINGS) (nomark _)) (C8.pss_cut (ps_if (pt_cmpR op_eq (pe_fldC rfl T.cl_Leg T.na_Leg_state (pv 0) rfl) pe_str (nomark _)) (pss_cons (ps_fldC rfl T.cl_Leg T.na_Leg_state (pv 0) pe_str rfl) (pss_one (ps_expr (pe_bm PySem.F.plainAttrs_list PySem.F.slot_list_append PySem.F.type_list_append mt_append (pe_fldC rfl T.cl_Leg T.na_Leg__events (pv 0) rfl) (pa_cons (pe_tup (pa_cons pe_str pa_nil)) pa_nil))))) pss_nil) (pss_one (ps_ret (pe_lst pa_nil)))) pss_nil) (C8.pss_cut (ps_if (pt_cmpR op_eq (pe_fldC rfl T.cl_Letter T.na_Letter_code (pv 1) rfl) (pgI T.g_YES) (nomark _)) (pss_one (ps_fldC rfl T.cl_Leg T.na_Leg_other_tag (pv 0) (pe_fldC rfl T.cl_Letter T.na_Letter_target_tag (pv 1) rfl) rfl)) pss_nil) (C8.pss_cut (ps_if (pt_cmpR op_notIn_seq (pe_fldC rfl T.cl_Leg T.na_Leg_state (pv 0) rfl) (pgR T.g_BEFORE_TALKING) (by with_unfolding_all rfl)) (pss_one (ps_ret (pe_ifExp (pt_cmpR op_eq (pe_fldC rfl T.cl_Letter T.na_Letter_code (pv 1) rfl) (pgI T.g_YES) (nomark _)) (C8.pe_mt c_Leg__send hr (by decide) (pv 0) (pa_cons pe_str (pa_cons (pv 2) pa_nil))) (pe_lst pa_nil)))) pss_nil) (C8.pss_cut (ps_if (pt_cmpR op_eq (pe_fldC rfl T.cl_Letter T.na_Letter_code (pv 1) rfl) (pgI T.g_YES) (nomark _)) (pss_cons (ps_expr (C8.pe_mt c_Leg__talk hr (by decide) (pv 0) (pa_cons (pv 2) pa_nil))) (pss_one (ps_expr (pe_bm PySem.F.plainAttrs_list PySem.F.slot_list_append PySem.F.type_list_append mt_append (pe_fldC rfl T.cl_Leg T.na_Leg__events (pv 0) rfl) (pa_cons (pe_tup (pa_cons pe_str (pa_cons (pe_fldC rfl T.cl_Letter T.na_Letter_offer (pv 1) rfl) pa_nil))) pa_nil))))) (pss_one (ps_expr (C8.pe_mt c_Leg__end hr (by decide) (pv 0) (pa_cons pe_str (pa_cons (pe_fldC rfl T.cl_Letter T.na_Letter_code (pv 1) rfl) pa_nil)))))) (pss_one (ps_ret (pe_lst pa_nil))))))), ?_⟩
    -- it rings
    refine ⟨fun σ' H' => σ' = [some (.ref R.p), some (.ref b), some (.int now)] ∧ H' = H ∧ n ≠ 18, ?_, ?_⟩
    · refine ⟨_, rfl, b, dm, _, _, rfl, hm, rfl, (by rw [em]; rfl), _, rfl, ?_⟩
      rw [em, dcode]
      by_cases e : n = 18
      · rw [decide_eq_true e]
        refine iteT ⟨fun σ' H' => σ' = [some (.ref R.p), some (.ref b), some (.int now)] ∧ ∃ R', FcRel R M n now R' ∧ Run H (legM K R) H' (legM K R') ∧ LegI K H' R', ?_, ?_⟩
        · refine ⟨_, rfl, R.p, R.dx, _, _, rfl, hp, rfl, rfl, _, rfl, ?_⟩
          rw [vstr]
          by_cases e1 : R.st = "calling"
          · rw [decide_eq_true e1]
            refine iteT ⟨_, rfl, R.p, R.dx, _, rfl, hp, sm, ?_⟩
            rw [put_state]
            have r1 := Run.leg (Run.refl hc) { R with st := "ringing" } rfl rfl
            generalize upd H R.p (.ins (He.ga K "Leg") R.dx (legfl { R with st := "ringing" })) = H1 at r1 ⊢
            have i1 : LegI K H1 { R with st := "ringing" } := by
              have h := hi.im r1.im
              exact ⟨h.ab, h.ci, h.si, h.wi, h.ei⟩
            have hp1 := leg_p r1.c
            have hev := leg_ev r1.c
            refine ⟨_, rfl, R.p, R.dx, _, _, rfl, hp1, rfl, .inl ⟨rfl, _, SqL.of hev⟩, by show 1 ≤ sizeLine; decide, fun t ht => ?_⟩
            have st1 := same_upd (o := .tup [.str "rang"]) ht
            obtain ⟨r4, i4⟩ := Run.event (r1.same st1) (i1.im (Im.of_same st1)) (t := t) (xs := [.str "rang"]) upd_same
            exact ⟨R.ev, _, _, rfl, rfl, st1 _ _ hev, by rw [List.length_map]; exact Nat.lt_of_lt_of_le hn (by decide), rfl, _, .rang e e1, r4, i4⟩
          · rw [decide_eq_false e1]
            exact iteF ⟨rfl, R, .rang2 e e1, Run.refl hc, hi⟩
        · rintro σ' H2 ⟨rfl, R', fr, r2, i2⟩
          refine ⟨by show 0 ≤ sizeLine; decide, fun r hnr => ?_⟩
          exact k R' r _ fr (r2.add hnr) (i2.im (Im.of_same (same_upd hnr)))
      · rw [decide_eq_false e]
        exact iteF ⟨rfl, rfl, e⟩
    rintro σ' H1 ⟨rfl, e9, n18⟩
    obtain rfl : H = H1 := e9.symm
    -- the other side's tag
    refine ⟨fun σ' H' => σ' = [some (.ref R.p), some (.ref b), some (.int now)] ∧ ∃ R1, Run H (legM K R) H' (legM K R1) ∧ LegI K H' R1 ∧ R1 = (if n = 20 then { R with ot := M.ttag } else R), ?_, ?_⟩
    · refine ⟨_, rfl, b, dm, _, _, rfl, hm, rfl, (by rw [em]; rfl), _, rfl, ?_⟩
      rw [em, dcode]
      by_cases e : n = 20
      · rw [decide_eq_true e]
        refine iteT ⟨_, rfl, b, dm, _, _, rfl, hm, rfl, _, rfl, R.p, R.dx, _, rfl, hp, sm, ?_⟩
        rw [show putF "other_tag" (V.str M.ttag) (legfl R) = legfl { R with ot := M.ttag } from rfl]
        have r1 := Run.leg (Run.refl hc) { R with ot := M.ttag } rfl rfl
        have h := hi.im r1.im
        exact ⟨rfl, _, r1, ⟨h.ab, h.ci, h.si, h.wi, h.ei⟩, by rw [if_pos e]⟩
      · rw [decide_eq_false e]
        exact iteF ⟨rfl, R, Run.refl hc, hi, by rw [if_neg e]⟩
    rintro σ' H1 ⟨rfl, R1, r1, i1, eR⟩
    have ep : R1.p = R.p ∧ R1.dx = R.dx ∧ R1.st = R.st ∧ R1.es = R.es ∧ R1.ev = R.ev := by
      rw [eR]
      split <;> exact ⟨rfl, rfl, rfl, rfl, rfl⟩
    obtain ⟨ep1, ep2, ep3, ep4, ep5⟩ := ep
    have hp1 := leg_p r1.c
    rw [ep1] at hp1
    have hm1 := r1.im _ _ hm rfl
    refine ⟨fun σ' H' => σ' = [some (.ref R.p), some (.ref b), some (.int now)] ∧ H' = H1, ?_, ?_⟩
    · refine ⟨_, rfl, R.p, R1.dx, _, _, rfl, hp1, rfl, _, _, rfl, .inr (T.v_BEFORE_TALKING H1), rfl, rfl, _, rfl, ?_⟩
      show (if (!inV (V.str R1.st) [.str "calling", .str "ringing"]) = true then _ else _)
      rw [inV_before, ep3, hst]
      exact iteF ⟨rfl, rfl⟩
    rintro σ' H2 ⟨rfl, e9⟩
    obtain rfl : H1 = H2 := e9.symm
    refine ⟨fun σ' H' => σ' = [some (.ref R.p), some (.ref b), some (.int now)] ∧ ∃ R', FcRel R M n now R' ∧ Run H (legM K R) H' (legM K R') ∧ LegI K H' R', ?_, ?_⟩
    · refine ⟨_, rfl, b, dm, _, _, rfl, hm1, rfl, (by rw [em]; rfl), _, rfl, ?_⟩
      rw [em, dcode]
      by_cases e : n = 20
      · rw [decide_eq_true e]
        rw [if_pos e] at eR
        subst eR
        refine iteT ⟨_, rfl, R.p, R.dx, _, rfl, hp1, rfl, _, rfl, { R with ot := M.ttag }, now, rfl, r1.c, fun H3 r3 => ?_⟩
        have i3 : LegI K H3 (talkR { R with ot := M.ttag } now) := by
          have h := i1.im r3.im
          exact ⟨h.ab, h.ci, h.si, h.wi, h.ei⟩
        have hp3 := leg_p r3.c
        have hev := leg_ev r3.c
        have hm3 := r3.im _ _ hm1 rfl
        refine ⟨_, rfl, R.p, R.dx, _, _, rfl, hp3, rfl, .inl ⟨rfl, _, SqL.of hev⟩, _, rfl, b, dm, _, _, rfl, hm3, rfl, by show 2 ≤ sizeLine; decide, fun t ht => ?_⟩
        have st1 := same_upd (o := .tup [.str "answered", M.offer]) ht
        obtain ⟨r4, i4⟩ := Run.event ((r1.trans r3).same st1) (i3.im (Im.of_same st1)) (t := t) (xs := [.str "answered", M.offer]) upd_same
        exact ⟨R.ev, _, _, rfl, rfl, st1 _ _ hev, by rw [List.length_map]; exact Nat.lt_of_lt_of_le hn (by decide), rfl, _, .yes e, r4, i4⟩
      · rw [decide_eq_false e]
        rw [if_neg e] at eR
        subst eR
        exact iteF ⟨_, rfl, R1.p, R1.dx, _, rfl, hp1, rfl, _, rfl, b, dm, _, _, rfl, hm1, rfl, R1, "failed", n, (by rw [em]; rfl), r1.c, i1, hn, fun wt t H3 r3 i3 => ⟨rfl, _, .failed n18 e, r1.trans r3, i3⟩⟩
    rintro σ' H2 ⟨rfl, R', fr, r2, i2⟩
    refine ⟨by show 0 ≤ sizeLine; decide, fun r hnr => ?_⟩
    exact k R' r _ fr (r2.add hnr) (i2.im (Im.of_same (same_upd hnr)))

end K19
set_option maxHeartbeats 4000000
set_option pp.maxSteps 400
namespace K19
open PySem PySem.Spec PyProof.Rows L2 SX TK TKS TKC
open C8 (pe_c)
/-! ### replies to requests -/
/-- the leg that a reply to TURN, MOVE or LIVE makes, before what waits is sent -/
def repliedR (R : LegR) (M : Ltr) (n now : Int) (t : Addr) : LegR :=
  if M.verb = "LIVE" then { R with live := now + R.check } else if M.verb = "TURN" then { R with es := R.es ++ [(t, [.str "turn replied", .int n, M.offer])] } else { R with es := R.es ++ [(t, [.str "move replied", .int n])] }
inductive FwRel (R : LegR) (M : Ltr) (n now : Int) : LegR → List (Str × Str) → Prop
  | quiet (st : R.st ≠ "talking") : FwRel R M n now R []
  | lost {wt t : Addr} (st : R.st = "talking") (e : n = 41) : FwRel R M n now (overR R wt t "lost" 41) []
  | last {t : Addr} (st : R.st = "talking") (e : n ≠ 41) (w : R.ws = []) : FwRel R M n now (repliedR R M n now t) []
  | next {t tw cp cdx la wa wx ka : Addr} {verb : Str} {xo xg : V} {o : Option Off} {ws : List (Addr × List V)} (st : R.st = "talking") (e : n ≠ 41) (w : R.ws = (tw, [.str verb, xo, xg]) :: ws) :
      FwRel R M n now (sentR { repliedR R M n now t with ws := ws } (newC cp cdx la wa wx ka (sendL R verb xo xg) o R.place R.first now)) [(R.place, textOf (linesX (sendL R verb xo xg) o))]
/-- what waits can be sent -/
def WsOk (H : Hp) (R : LegR) : Prop := ∀ w ∈ R.ws, ∃ (verb : Str) (xo xg : V) (o : Option Off), w.2 = [.str verb, xo, xg] ∧ OffX H xo o ∧ SndOk R verb xg
def FollowK (K : PySem.W.Frag) (vs : List V) (H : Hp) (Q : VK) : Prop := ∃ (R : LegR) (b : Addr) (M : Ltr) (n now : Int), vs = [.ref R.p, .ref b, .int now] ∧ M.verb ≠ "CALL" ∧ Cells H (legM K R) ∧ LegI K H R ∧ LetAt K H b M ∧ M.code = .int n ∧ R.es.length < 100000 ∧ R.cs.length < 100000 ∧ WsOk H R ∧
  ∀ R' rows r ts H', FwRel R M n now R' rows → Run H (legM K R) H' ((r, .lst (ts.map V.ref)) :: legM K R') → LegI K H' R' → RwI H' ts rows → Q (.ref r) H'
def spFollow8 (K : PySem.W.Frag) : Sp := fun vs H Q E => ((∃ (R : LegR) (b : Addr) (M : Ltr) (now : Int), vs = [.ref R.p, .ref b, .int now] ∧ LetAt K H b M ∧ M.verb = "CALL") ∧ spFollowCall K vs H Q E) ∨ FollowK K vs H Q
theorem ok_Leg__follow {P : Program} {w : World} {K : PySem.W.Frag} {mg : Str → Option Value} {base : Heap} {f : Addr} {fd : FuncData} (T : Tx K mg) (c_Leg__follow_call : C8.Met P w K mg base 6 (He.ga K "Leg") "_follow_call" (spFollowCall K) []) (c_Leg__end : C8.Met P w K mg base 1 (He.ga K "Leg") "_end" (spEnd K) []) (c_Leg__send_waiting : C8.Met P w K mg base 6 (He.ga K "Leg") "_send_waiting" (spSendWaiting K) [])
    (F : FunD K "_follow" "Leg._follow" (defArgs s_Leg__follow) (defBody s_Leg__follow) (defScope s_Leg__follow) [] [] f fd) : FnOk P w K mg base CX0 7 f fd ["self", "reply", "now"] (spFollow8 K) := by
  refine F.ok sc_Leg__follow (fun vs H Q E h => ?_) (fun cdv A outer s0 H vs Q E hr h => ?_)
  · rcases h with ⟨⟨R, b, M, now, rfl, _⟩, _⟩ | ⟨R, b, M, n, now, rfl, _⟩ <;> rfl
  · refine ⟨_, PSs.nox (C8.pss_cut (ps_if (pt_cmpR op_eq (pe_fldC rfl T.cl_Letter T.na_Letter_verb (pv 1) rfl) pe_str (nomark _)) (pss_one (ps_ret (C8.pe_mt c_Leg__follow_call hr (by decide) (pv 0) (pa_cons (pv 1) (pa_cons (pv 2) pa_nil))))) pss_nil) (C8.pss_cut (ps_if (pt_cmpR op_ne (pe_fldC rfl T.cl_Leg T.na_Leg_state (pv 0) rfl) pe_str (nomark _)) (pss_one (ps_ret (pe_lst pa_nil))) pss_nil) (C8.pss_cut (ps_if (pt_cmpR op_eq (pe_fldC rfl T.cl_Letter T.na_Letter_code (pv 1) rfl) (pgI T.g_NO_CALL) (nomark _)) (pss_cons (ps_expr (C8.pe_mt c_Leg__end hr (by decide) (pv 0) (pa_cons pe_str (pa_cons (pgI T.g_NO_CALL) pa_nil)))) (pss_one (ps_ret (pe_lst pa_nil)))) pss_nil) (C8.pss_cut (ps_if (pt_cmpR op_eq (pe_fldC rfl T.cl_Letter T.na_Letter_verb (pv 1) rfl) pe_str (nomark _)) (pss_one (ps_fldC rfl T.cl_Leg T.na_Leg__live_due (pv 0) (pe_op op_add (pv 2) (pe_fldC rfl T.cl_Leg T.na_Leg_check (pv 0) rfl)) rfl)) (pss_one (ps_if (pt_cmpR op_eq (pe_fldC rfl T.cl_Letter T.na_Letter_verb (pv 1) rfl) pe_str (nomark _)) (pss_one (ps_expr (pe_bm PySem.F.plainAttrs_list PySem.F.slot_list_append PySem.F.type_list_append mt_append (pe_fldC rfl T.cl_Leg T.na_Leg__events (pv 0) rfl) (pa_cons (pe_tup (pa_cons pe_str (pa_cons (pe_fldC rfl T.cl_Letter T.na_Letter_code (pv 1) rfl) (pa_cons (pe_fldC rfl T.cl_Letter T.na_Letter_offer (pv 1) rfl) pa_nil)))) pa_nil)))) (pss_one (ps_expr (pe_bm PySem.F.plainAttrs_list PySem.F.slot_list_append PySem.F.type_list_append mt_append (pe_fldC rfl T.cl_Leg T.na_Leg__events (pv 0) rfl) (pa_cons (pe_tup (pa_cons pe_str (pa_cons (pe_fldC rfl T.cl_Letter T.na_Letter_code (pv 1) rfl) pa_nil))) pa_nil))))))) (pss_one (ps_ret (C8.pe_mt c_Leg__send_waiting hr (by decide) (pv 0) (pa_cons (pv 2) pa_nil)))))))), ?_⟩
    rcases h with ⟨⟨R, b, M, now, rfl, hb, v⟩, h2⟩ | ⟨R, b, M, n, now, rfl, v, hc, hi, hb, em, hn, hcn, hws, k⟩
    · obtain ⟨dm, hm⟩ := id hb
      obtain ⟨R2, b2, M2, n2, now2, e2, hc, h3⟩ := id h2
      injection e2 with e3 e4
      injection e3 with e3
      have hp := leg_p hc
      rw [← e3] at hp
      refine ⟨fun _ _ => False, ⟨_, rfl, b, dm, _, _, rfl, hm, rfl, rfl, _, rfl, ?_⟩, fun _ _ z => z.elim⟩
      rw [vstr, decide_eq_true v]
      exact iteT ⟨_, rfl, R.p, R2.dx, _, rfl, hp, rfl, _, rfl, _, rfl, h2⟩
    · obtain ⟨dm, hm⟩ := id hb
      have hp := leg_p hc
      refine ⟨fun σ' H' => σ' = [some (.ref R.p), some (.ref b), some (.int now)] ∧ H' = H, ⟨_, rfl, b, dm, _, _, rfl, hm, rfl, rfl, _, rfl, ?_⟩, ?_⟩
      · rw [vstr, decide_eq_false v]
        exact iteF ⟨rfl, rfl⟩
      rintro σ' H1 ⟨rfl, e9⟩
      obtain rfl : H = H1 := e9.symm
      refine ⟨fun σ' H' => σ' = [some (.ref R.p), some (.ref b), some (.int now)] ∧ H' = H ∧ R.st = "talking", ⟨_, rfl, R.p, R.dx, _, _, rfl, hp, rfl, rfl, _, rfl, ?_⟩, ?_⟩
      · rw [vstr]
        by_cases e : R.st = "talking"
        · rw [decide_eq_true e]
          exact iteF ⟨rfl, rfl, e⟩
        · rw [decide_eq_false e]
          refine iteT ⟨by show 0 ≤ sizeLine; decide, fun r hr0 => ?_⟩
          have r1 := Run.nil_ (Run.refl hc) hr0
          exact k R [] r [] _ (.quiet e) r1 (hi.im r1.im) trivial
      rintro σ' H1 ⟨rfl, e9, st⟩
      obtain rfl : H = H1 := e9.symm
      -- 41
      refine ⟨fun σ' H' => σ' = [some (.ref R.p), some (.ref b), some (.int now)] ∧ H' = H ∧ n ≠ 41, ⟨_, rfl, b, dm, _, _, rfl, hm, rfl, (by rw [em]; rfl), _, rfl, ?_⟩, ?_⟩
      · rw [em, dcode]
        by_cases e : n = 41
        · rw [decide_eq_true e]
          refine iteT ⟨_, rfl, R.p, R.dx, _, rfl, hp, rfl, R, "lost", 41, rfl, hc, hi, hn, fun wt t H2 r2 i2 => ⟨by show 0 ≤ sizeLine; decide, fun r hr0 => ?_⟩⟩
          have r3 := r2.add (o := .lst []) hr0
          exact k _ [] r [] _ (.lost st e) r3 (i2.im (Im.of_same (same_upd hr0))) trivial
        · rw [decide_eq_false e]
          exact iteF ⟨rfl, rfl, e⟩
      rintro σ' H1 ⟨rfl, e9, n41⟩
      obtain rfl : H = H1 := e9.symm
      -- what is told
      refine ⟨fun σ' H' => σ' = [some (.ref R.p), some (.ref b), some (.int now)] ∧ ∃ t, Run H (legM K R) H' (legM K (repliedR R M n now t)) ∧ LegI K H' (repliedR R M n now t), ⟨_, rfl, b, dm, _, _, rfl, hm, rfl, rfl, _, rfl, ?_⟩, ?_⟩
      · rw [vstr]
        by_cases e : M.verb = "LIVE"
        · rw [decide_eq_true e]
          refine iteT ⟨_, rfl, _, rfl, R.p, R.dx, _, _, rfl, hp, rfl, _, _, rfl, rfl, _, rfl, R.p, R.dx, _, rfl, hp, sm, ?_⟩
          rw [put_live]
          have r1 := Run.leg (Run.refl hc) { R with live := now + R.check } rfl rfl
          have h := hi.im r1.im
          refine ⟨rfl, 0, ?_⟩
          rw [show repliedR R M n now 0 = { R with live := now + R.check } from if_pos e]
          exact ⟨r1, h.ab, h.ci, h.si, h.wi, h.ei⟩
        · rw [decide_eq_false e]
          refine iteF ⟨_, rfl, b, dm, _, _, rfl, hm, rfl, rfl, _, rfl, ?_⟩
          rw [vstr]
          have hev := leg_ev hc
          by_cases e2 : M.verb = "TURN"
          · rw [decide_eq_true e2]
            refine iteT ⟨_, rfl, R.p, R.dx, _, _, rfl, hp, rfl, .inl ⟨rfl, _, SqL.of hev⟩, _, rfl, b, dm, _, _, rfl, hm, rfl, _, rfl, b, dm, _, _, rfl, hm, rfl, by show 3 ≤ sizeLine; decide, fun t ht => ?_⟩
            rw [em]
            have s2 := same_upd (o := .tup [.str "turn replied", .int n, M.offer]) ht
            obtain ⟨r5, hi5⟩ := Run.event ((Run.refl hc).same s2) (hi.im (Im.of_same s2)) (t := t) (xs := [.str "turn replied", .int n, M.offer]) upd_same
            refine ⟨R.ev, _, _, rfl, rfl, s2 _ _ hev, by rw [List.length_map]; exact Nat.lt_of_lt_of_le hn (by decide), rfl, t, ?_⟩
            rw [show repliedR R M n now t = { R with es := R.es ++ [(t, [.str "turn replied", .int n, M.offer])] } from (if_neg e).trans (if_pos e2)]
            exact ⟨r5, hi5⟩
          · rw [decide_eq_false e2]
            refine iteF ⟨_, rfl, R.p, R.dx, _, _, rfl, hp, rfl, .inl ⟨rfl, _, SqL.of hev⟩, _, rfl, b, dm, _, _, rfl, hm, rfl, by show 2 ≤ sizeLine; decide, fun t ht => ?_⟩
            rw [em]
            have s2 := same_upd (o := .tup [.str "move replied", .int n]) ht
            obtain ⟨r5, hi5⟩ := Run.event ((Run.refl hc).same s2) (hi.im (Im.of_same s2)) (t := t) (xs := [.str "move replied", .int n]) upd_same
            refine ⟨R.ev, _, _, rfl, rfl, s2 _ _ hev, by rw [List.length_map]; exact Nat.lt_of_lt_of_le hn (by decide), rfl, t, ?_⟩
            rw [show repliedR R M n now t = { R with es := R.es ++ [(t, [.str "move replied", .int n])] } from (if_neg e).trans (if_neg e2)]
            exact ⟨r5, hi5⟩
      rintro σ' H1 ⟨rfl, t, r1, i1⟩
      have eq0 : (repliedR R M n now t).p = R.p ∧ (repliedR R M n now t).dx = R.dx ∧ (repliedR R M n now t).ws = R.ws ∧ (repliedR R M n now t).cs = R.cs ∧ (repliedR R M n now t).place = R.place ∧ (repliedR R M n now t).first = R.first ∧ (∀ verb xo xg, sendL (repliedR R M n now t) verb xo xg = sendL R verb xo xg) ∧ ∀ verb xg, SndOk R verb xg → SndOk (repliedR R M n now t) verb xg := by
        unfold repliedR
        split
        · exact ⟨rfl, rfl, rfl, rfl, rfl, rfl, fun _ _ _ => rfl, fun _ _ h => ⟨⟨h.w.tag, h.w.call, h.w.own, h.w.other, h.w.ot, h.w.seq, h.w.req⟩, h.v, h.g, h.s, h.r⟩⟩
        · split
          · exact ⟨rfl, rfl, rfl, rfl, rfl, rfl, fun _ _ _ => rfl, fun _ _ h => ⟨⟨h.w.tag, h.w.call, h.w.own, h.w.other, h.w.ot, h.w.seq, h.w.req⟩, h.v, h.g, h.s, h.r⟩⟩
          · exact ⟨rfl, rfl, rfl, rfl, rfl, rfl, fun _ _ _ => rfl, fun _ _ h => ⟨⟨h.w.tag, h.w.call, h.w.own, h.w.other, h.w.ot, h.w.seq, h.w.req⟩, h.v, h.g, h.s, h.r⟩⟩
      obtain ⟨q1, q2, q3, q4, q5, q6, q7, q8⟩ := eq0
      have hp1 := leg_p r1.c
      rw [q1] at hp1
      cases ew : R.ws with
      | nil =>
        refine ⟨_, rfl, R.p, _, _, rfl, hp1, rfl, _, rfl, repliedR R M n now t, now, by rw [q1]; rfl, r1.c, i1, .inl ⟨q3.trans ew, fun r H2 r2 i2 => ?_⟩⟩
        exact k _ [] r [] _ (.last st n41 ew) (r1.trans r2) i2 trivial
      | cons w ws =>
        obtain ⟨tw, xs⟩ := w
        obtain ⟨verb, xo, xg, o, exs, hx, sk⟩ := hws (tw, xs) (by rw [ew]; simp)
        obtain rfl : xs = [.str verb, xo, xg] := exs
        refine ⟨_, rfl, R.p, _, _, rfl, hp1, rfl, _, rfl, repliedR R M n now t, now, by rw [q1]; rfl, r1.c, i1, .inr ⟨tw, verb, xo, xg, o, ws, q3.trans ew, hx.im r1.im, q8 _ _ sk, by rw [q4]; exact hcn, fun cp cdx la wa wx ka r ts H2 r2 i2 w2 => ?_⟩⟩
        have en : newC cp cdx la wa wx ka (sendL (repliedR R M n now t) verb xo xg) o (repliedR R M n now t).place (repliedR R M n now t).first now = newC cp cdx la wa wx ka (sendL R verb xo xg) o R.place R.first now := by rw [q5, q6, q7]
        rw [en] at r2 i2
        rw [q5, q7] at w2
        exact k _ _ r ts _ (.next st n41 ew) (r1.trans r2) i2 w2

end K19
set_option maxHeartbeats 4000000
set_option pp.maxSteps 400
namespace K19
open PySem PySem.Spec PyProof.Rows L2 SX TK TKS TKC
open C8 (pe_c)
/-! ### clients: tick -/
def tickC (c : ClR) (now : Int) (wx : Addr) : ClR :=
  if c.st = .wt ∨ c.st = .ov then c else if 32 * c.f ≤ now - c.b then { c with st := .ov } else if c.st = .cl ∧ ¬ now < c.d then { c with wx := wx, g := minI (2 * c.g) (8 * c.f), d := now + minI (2 * c.g) (8 * c.f) } else c
def tickO (c : ClR) (now : Int) : List (Str × Str) :=
  if c.st = .wt ∨ c.st = .ov then [] else if 32 * c.f ≤ now - c.b then [] else if c.st = .cl ∧ ¬ now < c.d then [(c.pl, textOf (linesX c.L c.o))] else []
def tickG (c : ClR) (now : Int) : Bool :=
  if c.st = .wt ∨ c.st = .ov then false else if 32 * c.f ≤ now - c.b then !decide (c.st = .fn) else false
def spClTick (K : PySem.W.Frag) : Sp := fun vs H Q _ => ∃ (c : ClR) (now : Int), vs = [.ref c.p, .int now] ∧ Cells H (clM K c) ∧ ClI K H c ∧
  ∀ t r ts wx H', Run H (clM K c) H' ((r, .lst (ts.map V.ref)) :: clM K (tickC c now wx)) → ClI K H' (tickC c now wx) → H' t = some (.tup [.ref r, .bl (tickG c now)]) → RwI H' ts (tickO c now) → Q (.ref t) H'
theorem ClI.put {K : PySem.W.Frag} {H : Hp} {c : ClR} (h : ClI K H c) (st : CS) (wx : Addr) (g d : Int) : ClI K H { c with st := st, wx := wx, g := g, d := d } := ⟨h.lt, h.of, h.lk, h.xk, h.kn, h.kt⟩
theorem ok_Client_tick {P : Program} {w : World} {K : PySem.W.Frag} {mg : Str → Option Value} {base : Heap} {f : Addr} {fd : FuncData} (T : Tx K mg) (c_Wait_is_up : C8.Met P w K mg base 1 (He.ga K "Wait") "is_up" (spIsUp K) []) (c_Wait_repeats : C8.Met P w K mg base 1 (He.ga K "Wait") "repeats" (spRepeats K) []) (c_Client_sending : C8.Met P w K mg base 3 (He.ga K "Client") "sending" (spSending K) [])
    (F : FunD K "tick" "Client.tick" (defArgs s_Client_tick) (defBody s_Client_tick) (defScope s_Client_tick) [] [] f fd) : FnOk P w K mg base CX0 4 f fd ["self", "now"] (spClTick K) := by
  refine F.ok sc_Client_tick (fun vs H Q E h => ?_) (fun cdv A outer s0 H vs Q E hr h => ?_)
  · obtain ⟨c, now, rfl, _⟩ := h
    rfl
  · obtain ⟨c, now, rfl, hc, hi, k⟩ := h
    have hp : H c.p = some (clO K c) := hc.get (by simp [clM])
    refine ⟨_, PSs.nox (C8.pss_cut (ps_if (pt_cmpR op_in_seq (pe_fldC rfl T.cl_Client T.na_Client_state (pv 0) rfl) (pe_tup (pa_cons pe_str (pa_cons pe_str pa_nil))) (by with_unfolding_all rfl)) (pss_one (ps_ret (pe_tup (pa_cons (pe_lst pa_nil) (pa_cons pe_bl pa_nil))))) pss_nil) (C8.pss_cut (ps_if (pt_val (C8.pe_mt c_Wait_is_up hr (by decide) (pe_fldC rfl T.cl_Client T.na_Client__wait (pv 0) rfl) (pa_cons (pv 1) pa_nil))) (pss_cons (ps_set (i := 2) sc_Client_tick.nd rfl (Or.inl rfl) (pe_cmpR op_ne (pe_fldC rfl T.cl_Client T.na_Client_state (pv 0) rfl) pe_str (nomark _))) (pss_cons (ps_fldC rfl T.cl_Client T.na_Client_state (pv 0) pe_str rfl) (pss_one (ps_ret (pe_tup (pa_cons (pe_lst pa_nil) (pa_cons (pv 2) pa_nil))))))) pss_nil) (C8.pss_cut (ps_if (PW.pt (pw_and (pt_cmpR op_eq (pe_fldC rfl T.cl_Client T.na_Client_state (pv 0) rfl) pe_str (nomark _)) (pw_and1 (pt_val (C8.pe_mt c_Wait_repeats hr (by decide) (pe_fldC rfl T.cl_Client T.na_Client__wait (pv 0) rfl) (pa_cons (pv 1) pa_nil)))))) (pss_one (ps_ret (pe_tup (pa_cons (C8.pe_mt0 c_Client_sending hr (by decide) (pv 0)) (pa_cons pe_bl pa_nil))))) pss_nil) (pss_one (ps_ret (pe_tup (pa_cons (pe_lst pa_nil) (pa_cons pe_bl pa_nil)))))))), ?_⟩
    refine ⟨fun σ' H' => σ' = [some (.ref c.p), some (.int now), none] ∧ Same H H' ∧ ¬ (c.st = .wt ∨ c.st = .ov), ⟨_, rfl, c.p, c.dx, _, _, rfl, hp, rfl, by show 2 ≤ sizeLine; decide, fun t hnt => ?_⟩, ?_⟩
    · have s1 := same_upd (o := .tup [.str "waiting", .str "over"]) hnt
      refine ⟨t, _, rfl, .inr (SqT.of upd_same), rfl, rfl, _, rfl, ?_⟩
      have e1 : inV (V.str c.st.s) [.str "waiting", .str "over"] = (decide (c.st = .wt) || decide (c.st = .ov)) := by cases c.st <;> rfl
      show (if inV (V.str c.st.s) [.str "waiting", .str "over"] = true then _ else _)
      rw [e1]
      by_cases e : c.st = .wt ∨ c.st = .ov
      · have eb : (decide (c.st = .wt) || decide (c.st = .ov)) = true := by rcases e with e | e <;> rw [e] <;> rfl
        rw [eb]
        refine iteT (pairR fun r t2 H2 s2 h0 e1 e2 => ?_)
        have r2 := ((Run.refl hc).same s1).new s2 h0 e1
        have ec : tickC c now 0 = c := if_pos e
        have eo : tickO c now = [] := if_pos e
        have eg : tickG c now = false := if_pos e
        exact k t2 r [] 0 H2 (by rw [ec]; exact r2) (by rw [ec]; exact hi.im r2.im) (by rw [eg]; exact e2) (by rw [eo]; trivial)
      · have eb : (decide (c.st = .wt) || decide (c.st = .ov)) = false := by
          cases q : (decide (c.st = .wt) || decide (c.st = .ov)) with
          | false => rfl
          | true =>
            rw [Bool.or_eq_true, decide_eq_true_eq, decide_eq_true_eq] at q
            exact absurd q e
        rw [eb]
        exact iteF ⟨rfl, s1, e⟩
    rintro σ' H1 ⟨rfl, s1, ne⟩
    have r1 := (Run.refl hc).same s1
    have i1 := hi.im r1.im
    have c1 := r1.c
    generalize hM : clM K c = M0 at r1
    have hp1 : H1 c.p = some (clO K c) := c1.get (by simp [clM])
    have hw1 : H1 c.wa = some (wtO K c) := c1.get (by simp [clM])
    refine ⟨fun σ' H' => σ' = [some (.ref c.p), some (.int now), none] ∧ H' = H1 ∧ ¬ 32 * c.f ≤ now - c.b, ⟨_, rfl, c.p, c.dx, _, _, rfl, hp1, rfl, c.wa, c.wx, _, rfl, hw1, rfl, _, rfl, c.wa, c.b, c.f, c.g, c.d, now, rfl, ⟨c.wx, hw1⟩, _, rfl, ?_⟩, ?_⟩
    · by_cases e : 32 * c.f ≤ now - c.b
      · rw [decide_eq_true e]
        refine iteT ⟨_, rfl, c.p, c.dx, _, _, rfl, hp1, rfl, rfl, ?_⟩
        refine ⟨_, rfl, c.p, c.dx, _, rfl, hp1, sm, ?_⟩
        rw [show putF "state" (V.str "over") (clfl c.la c.pl c.st.s c.f c.wa c.ka) = clfl c.la c.pl CS.ov.s c.f c.wa c.ka from rfl]
        rw [← hM] at r1
        have r2 := Run.st .ov r1
        refine ⟨by show 0 ≤ sizeLine; decide, fun r hr0 => ⟨_, rfl, by show 2 ≤ sizeLine; decide, fun t2 ht2 => ?_⟩⟩
        obtain ⟨_, _, s2, e2', e2⟩ := new2 (u := .tup [.ref r, .bl (!decide (V.str c.st.s = V.str "final"))]) hr0 ht2
        have r3 := r2.new s2 hr0 e2'
        have ec : tickC c now 0 = { c with st := .ov } := (if_neg ne).trans (if_pos e)
        have eo : tickO c now = [] := (if_neg ne).trans (if_pos e)
        have eg : tickG c now = !decide (c.st = .fn) := (if_neg ne).trans (if_pos e)
        have ef : (!decide (V.str c.st.s = V.str "final")) = !decide (c.st = .fn) := by cases c.st <;> rfl
        exact k t2 r [] 0 _ (by rw [ec]; exact r3) (by rw [ec]; exact (hi.im r3.im).put .ov c.wx c.g c.d) (by rw [eg, ← ef]; exact e2) (by rw [eo]; trivial)
      · rw [decide_eq_false e]
        exact iteF ⟨rfl, rfl, e⟩
    rintro σ' H9 ⟨rfl, e9, nu⟩
    obtain rfl : H1 = H9 := e9.symm
    rw [← hM] at r1
    have quiet : ¬ (c.st = .cl ∧ ¬ now < c.d) → tickC c now 0 = c ∧ tickO c now = [] ∧ tickG c now = false := fun q => ⟨(if_neg ne).trans ((if_neg nu).trans (if_neg q)), (if_neg ne).trans ((if_neg nu).trans (if_neg q)), (if_neg ne).trans (if_neg nu)⟩
    refine ⟨fun σ' H' => σ' = [some (.ref c.p), some (.int now), none] ∧ H' = H1 ∧ ¬ (c.st = .cl ∧ ¬ now < c.d), ⟨_, rfl, c.p, c.dx, _, _, rfl, hp1, rfl, rfl, _, rfl, ?_⟩, ?_⟩
    · have ef : decide (V.str c.st.s = V.str "calling") = decide (c.st = .cl) := by cases c.st <;> rfl
      rw [ef]
      by_cases e : c.st = .cl
      · rw [decide_eq_true e]
        refine iteT ⟨_, rfl, c.p, c.dx, _, _, rfl, hp1, rfl, c.wa, c.wx, _, rfl, hw1, rfl, _, rfl, c.wa, c.b, c.f, c.g, c.d, now, rfl, ⟨c.wx, hw1⟩, ?_⟩
        by_cases h1 : now < c.d
        · exact .inl ⟨h1, _, rfl, iteF ⟨rfl, rfl, fun q => q.2 h1⟩⟩
        · refine .inr ⟨h1, fun H2 ⟨wx, hw2⟩ fr => ⟨_, rfl, iteT ?_⟩⟩
          have ec : tickC c now wx = { c with wx := wx, g := minI (2 * c.g) (8 * c.f), d := now + minI (2 * c.g) (8 * c.f) } := (if_neg ne).trans ((if_neg nu).trans (if_pos ⟨e, h1⟩))
          have eo : tickO c now = [(c.pl, textOf (linesX c.L c.o))] := (if_neg ne).trans ((if_neg nu).trans (if_pos ⟨e, h1⟩))
          have eg : tickG c now = false := (if_neg ne).trans (if_neg nu)
          have c1' := r1.c
          have r2 : Run H1 (clM K c) H2 (clM K (tickC c now wx)) := by
            rw [ec]
            refine ⟨⟨c1'.nd, fun q m => ?_⟩, ⟨fun b o eb ib => ?_, fun x m => .inl m⟩⟩
            · have nd := c1'.nd
              simp only [clM, List.mem_cons, List.not_mem_nil, or_false] at m
              simp only [clM, keys, List.map_cons, List.map_nil, List.nodup_cons, List.mem_cons, List.not_mem_nil, or_false, not_or] at nd
              rcases m with rfl | rfl | rfl
              · exact fr _ _ hp1 nd.1.1
              · exact hw2
              · exact fr _ _ (c1'.get (by simp [clM])) (fun z => nd.2.1 z.symm)
            · refine fr b o eb fun z => ?_
              subst z
              have := ib (by simp [clM, keys])
              rw [hw1] at eb
              cases eb
              cases this
          have r3 := r1.trans r2
          have i3 := (hi.im r3.im).put c.st wx (minI (2 * c.g) (8 * c.f)) (now + minI (2 * c.g) (8 * c.f))
          have hp2 : H2 c.p = some (clO K { c with wx := wx, g := minI (2 * c.g) (8 * c.f), d := now + minI (2 * c.g) (8 * c.f) }) := by
            have := r2.c
            rw [ec] at this
            exact this.get (by simp [clM])
          refine ⟨_, rfl, c.p, c.dx, _, rfl, hp2, rfl, { c with wx := wx, g := minI (2 * c.g) (8 * c.f), d := now + minI (2 * c.g) (8 * c.f) }, rfl, hp2, i3, fun r t H3 s3 h0 e1 rw3 => ⟨by show 2 ≤ sizeLine; decide, fun t2 ht2 => ?_⟩⟩
          have s4 := same_upd (o := .tup [.ref r, .bl false]) ht2
          have r5 := (r3.new s3 h0 e1).same s4
          refine k t2 r [t] wx _ r5 (by rw [ec]; exact i3.im ((Im.of_same s3).trans (Im.of_same s4))) (by rw [eg]; exact upd_same) (by rw [eo]; exact rw3.im (Im.of_same s4))
      · rw [decide_eq_false e]
        exact iteF ⟨rfl, rfl, fun q => e q.1⟩
    rintro σ' H9 ⟨rfl, e9, nq⟩
    obtain rfl : H1 = H9 := e9.symm
    obtain ⟨ec, eo, eg⟩ := quiet nq
    refine pairR fun r t2 H2 s2 h0 e1 e2 => ?_
    have r3 := r1.new s2 h0 e1
    exact k t2 r [] 0 H2 (by rw [ec]; exact r3) (by rw [ec]; exact hi.im r3.im) (by rw [eg]; exact e2) (by rw [eo]; trivial)

end K19
set_option maxHeartbeats 4000000
set_option pp.maxSteps 400
namespace K19
open PySem PySem.Spec PyProof.Rows L2 SX TK TKS TKC
open C8 (pe_c)
/-! ### those over are forgotten -/
def liveC (c : ClR) : Bool := !decide (c.st = .ov)
def liveS (s : SvR) : Bool := !decide (s.st = .ovr)
def lt0 : Ltr := ⟨Str.empty, Str.empty, Str.empty, Str.empty, Str.empty, Str.empty, 0, Str.empty, .non, .non, .non, .non⟩
def cl0 : ClR := ⟨0, 0, 0, 0, 0, 0, lt0, none, Str.empty, 0, .cl, 0, 0, 0, [], Str.empty⟩
def sv0 : SvR := ⟨0, 0, 0, 0, lt0, none, Str.empty, 0, .opn, .non, none, [], Str.empty⟩
theorem flat_sub {α β : Type} (p : α → Bool) (f : α → List β) : ∀ l : List α, ((l.filter p).flatMap f).Sublist (l.flatMap f)
  | [] => List.Sublist.refl _
  | a :: l => by
    cases e : p a with
    | true =>
      rw [List.filter_cons_of_pos e, List.flatMap_cons, List.flatMap_cons]
      exact (List.Sublist.refl _).append (flat_sub p f l)
    | false =>
      rw [List.filter_cons_of_neg (by rw [e]; exact Bool.false_ne_true), List.flatMap_cons]
      exact (flat_sub p f l).trans (List.sublist_append_right _ _)
def forgC (R : LegR) (cl : Addr) : LegR := { R with cl := cl, cs := R.cs.filter liveC }
def forgS (R : LegR) (sv : Addr) : LegR := { R with sv := sv, ss := R.ss.filter liveS }
def spForget (K : PySem.W.Frag) : Sp := fun vs H Q _ => ∃ R : LegR, vs = [.ref R.p] ∧ Cells H (legM K R) ∧ LegI K H R ∧ R.cs.length < 100000 ∧ R.ss.length < 100000 ∧
  ∀ cl sv H', Run H (legM K R) H' (legM K (forgS (forgC R cl) sv)) → LegI K H' (forgS (forgC R cl) sv) → Q .non H'
theorem forg_C {K : PySem.W.Frag} {H H1 : Hp} {M : List Cell} {R : LegR} {D : Addr} (r : Run H M H1 (legM K R)) (i : LegI K H1 R) (h : H1 D = none) :
    Run H M (upd (upd H1 D (.lst ((R.cs.filter liveC).map fun c => V.ref c.p))) R.p (.ins (He.ga K "Leg") R.dx (legfl { R with cl := D }))) (legM K (forgC R D)) ∧ LegI K (upd (upd H1 D (.lst ((R.cs.filter liveC).map fun c => V.ref c.p))) R.p (.ins (He.ga K "Leg") R.dx (legfl { R with cl := D }))) (forgC R D) := by
  have r2 := r.add (o := .lst ((R.cs.filter liveC).map fun c => V.ref c.p)) h
  have r3 := Run.set (A := [(D, .lst ((R.cs.filter liveC).map fun c => V.ref c.p))]) (a := R.p) (o := legO K R) (B := (R.cl, clL R) :: (R.sv, svL R) :: (R.wt, wtL R) :: (R.ev, evL R) :: (R.cs.flatMap (clM K) ++ R.ss.flatMap (svM K))) (o' := .ins (He.ga K "Leg") R.dx (legfl { R with cl := D })) r2 rfl
  have im : Im H1 (upd (upd H1 D (.lst ((R.cs.filter liveC).map fun c => V.ref c.p))) R.p (.ins (He.ga K "Leg") R.dx (legfl { R with cl := D }))) := fun b o eb ib => by
    by_cases q : b = R.p
    · rw [q, leg_p r.c] at eb
      cases eb
      cases ib
    · rw [upd_ne q]
      exact (same_upd h) _ _ eb
  refine ⟨?_, ?_⟩
  · have r4 := r3.sub (M2 := (D, .lst ((R.cs.filter liveC).map fun c => V.ref c.p)) :: (R.p, .ins (He.ga K "Leg") R.dx (legfl { R with cl := D })) :: (R.sv, svL R) :: (R.wt, wtL R) :: (R.ev, evL R) :: ((R.cs.filter liveC).flatMap (clM K) ++ R.ss.flatMap (svM K)))
      (((((((flat_sub liveC (clM K) R.cs).append (List.Sublist.refl _)).cons₂ _).cons₂ _).cons₂ _).cons _).cons₂ _ |>.cons₂ _)
    exact r4.perm (List.Perm.swap _ _ _)
  · have h2 := i.im im
    exact ⟨h2.ab, fun c m => h2.ci c (List.mem_filter.mp m).1, h2.si, h2.wi, h2.ei⟩
theorem forg_S {K : PySem.W.Frag} {H H1 : Hp} {M : List Cell} {R : LegR} {D : Addr} (r : Run H M H1 (legM K R)) (i : LegI K H1 R) (h : H1 D = none) :
    Run H M (upd (upd H1 D (.lst ((R.ss.filter liveS).map fun c => V.ref c.p))) R.p (.ins (He.ga K "Leg") R.dx (legfl { R with sv := D }))) (legM K (forgS R D)) ∧ LegI K (upd (upd H1 D (.lst ((R.ss.filter liveS).map fun c => V.ref c.p))) R.p (.ins (He.ga K "Leg") R.dx (legfl { R with sv := D }))) (forgS R D) := by
  have r2 := r.add (o := .lst ((R.ss.filter liveS).map fun c => V.ref c.p)) h
  have r3 := Run.set (A := [(D, .lst ((R.ss.filter liveS).map fun c => V.ref c.p))]) (a := R.p) (o := legO K R) (B := (R.cl, clL R) :: (R.sv, svL R) :: (R.wt, wtL R) :: (R.ev, evL R) :: (R.cs.flatMap (clM K) ++ R.ss.flatMap (svM K))) (o' := .ins (He.ga K "Leg") R.dx (legfl { R with sv := D })) r2 rfl
  have im : Im H1 (upd (upd H1 D (.lst ((R.ss.filter liveS).map fun c => V.ref c.p))) R.p (.ins (He.ga K "Leg") R.dx (legfl { R with sv := D }))) := fun b o eb ib => by
    by_cases q : b = R.p
    · rw [q, leg_p r.c] at eb
      cases eb
      cases ib
    · rw [upd_ne q]
      exact (same_upd h) _ _ eb
  refine ⟨?_, ?_⟩
  · have r4 := r3.sub (M2 := (D, .lst ((R.ss.filter liveS).map fun c => V.ref c.p)) :: (R.p, .ins (He.ga K "Leg") R.dx (legfl { R with sv := D })) :: (R.cl, clL R) :: (R.wt, wtL R) :: (R.ev, evL R) :: (R.cs.flatMap (clM K) ++ (R.ss.filter liveS).flatMap (svM K)))
      (((((((List.Sublist.refl _).append (flat_sub liveS (svM K) R.ss)).cons₂ _).cons₂ _).cons _).cons₂ _).cons₂ _ |>.cons₂ _)
    exact r4.perm ((List.Perm.swap _ _ _).trans ((List.Perm.swap _ _ _).cons _))
  · have h2 := i.im im
    exact ⟨h2.ab, h2.ci, fun c m => h2.si c (List.mem_filter.mp m).1, h2.wi, h2.ei⟩
theorem ok_Leg__forget_those_over {P : Program} {w : World} {K : PySem.W.Frag} {mg : Str → Option Value} {base : Heap} {f : Addr} {fd : FuncData} (T : Tx K mg) (c_Client_is_over : C8.Met P w K mg base 1 (He.ga K "Client") "is_over" (spClOver K) []) (c_Server_is_over : C8.Met P w K mg base 1 (He.ga K "Server") "is_over" (spSvOver K) [])
    (F : FunD K "_forget_those_over" "Leg._forget_those_over" (defArgs s_Leg__forget_those_over) (defBody s_Leg__forget_those_over) (defScope s_Leg__forget_those_over) [] [] f fd) : FnOk P w K mg base CX0 2 f fd ["self"] (spForget K) := by
  refine F.ok sc_Leg__forget_those_over (fun vs H Q E h => ?_) (fun cdv A outer s0 H vs Q E hr h => ?_)
  · obtain ⟨R, rfl, _⟩ := h
    rfl
  · obtain ⟨R, rfl, hc, hi, hn, hm, k⟩ := h
    have hp := leg_p hc
    have hcl := leg_cl hc
    refine ⟨_, PSs.nox (pss_cons (ps_fldC rfl T.cl_Leg T.na_Leg__clients (pv 0) (pe_lc (own := [("client", 1)]) (g := gName 1) rfl sc_Leg__forget_those_over.nd (pi_list (pe_fldC rfl T.cl_Leg T.na_Leg__clients (pv 0) rfl)) (blkOk_by (own := [("client", 1)]) (N := ["self", "client", "server"]) (sc := defScope s_Leg__forget_those_over) (by decide +kernel)) (fun _ _ _ _ _ => pg_name (i := 1) sc_Leg__forget_those_over.nd rfl (Or.inl rfl)) (fun _ _ _ _ _ => pts_one (pt_not (pt_val (C8.pe_mt0 c_Client_is_over hr (by decide) (pv 1))))) (fun _ _ _ _ _ => (pv 1))) rfl) (pss_one (ps_fldC rfl T.cl_Leg T.na_Leg__servers (pv 0) (pe_lc (own := [("server", 2)]) (g := gName 2) rfl sc_Leg__forget_those_over.nd (pi_list (pe_fldC rfl T.cl_Leg T.na_Leg__servers (pv 0) rfl)) (blkOk_by (own := [("server", 2)]) (N := ["self", "client", "server"]) (sc := defScope s_Leg__forget_those_over) (by decide +kernel)) (fun _ _ _ _ _ => pg_name (i := 2) sc_Leg__forget_those_over.nd rfl (Or.inl rfl)) (fun _ _ _ _ _ => pts_one (pt_not (pt_val (C8.pe_mt0 c_Server_is_over hr (by decide) (pv 2))))) (fun _ _ _ _ _ => (pv 2))) rfl))), ?_⟩
    refine ⟨_, rfl, R.p, R.dx, _, _, rfl, hp, rfl, R.cl, rfl, ⟨_, SqL.of hcl⟩, fun D hD => ?_⟩
    have atc : ∀ i x, (R.cs.map fun c => V.ref c.p)[i]? = some x → ∃ c ∈ R.cs, R.cs.getD i cl0 = c ∧ x = V.ref c.p := fun i x hx => by
      rw [List.getElem?_map] at hx
      obtain ⟨s, hs, rfl⟩ := Option.map_eq_some_iff.mp hx
      exact ⟨s, List.mem_of_getElem? hs, getD_at _ hs, rfl⟩
    have fl : ((List.range R.cs.length).filter (fun i => liveC (R.cs.getD i cl0))).map (fun i => V.ref (R.cs.getD i cl0).p) = (R.cs.filter liveC).map fun c => V.ref c.p := range_filter_getD R.cs cl0 liveC fun c => V.ref c.p
    refine lc_filt walk_list (fun i => V.ref (R.cs.getD i cl0).p) (fun i => liveC (R.cs.getD i cl0)) (by rw [List.length_map]; exact Nat.le_trans (Nat.le_of_lt hn) (by decide)) (fun _ _ => SqL.of ((same_upd hD) _ _ hcl)) (fun i x H1 kk hi1 y qq => ?_) (fun i x H1 kk hi1 hb y qq => ?_) ?_
    · obtain ⟨rfl, hx⟩ := y
      obtain ⟨c, mc, ec, rfl⟩ := atc i x hx
      have hcp : H c.p = some (clO K c) := by
        obtain ⟨pre, post, e⟩ := List.append_of_mem mc
        exact (Cells.cli hc e).get (by simp [clM])
      have hcp1 := (same_upd (o := .lst (((List.range i).filter (fun i => liveC (R.cs.getD i cl0))).map fun i => V.ref (R.cs.getD i cl0).p)) hD) _ _ hcp
      refine ⟨rfl, _, rfl, c.p, c.dx, _, rfl, hcp1, rfl, c, rfl, hcp1, _, rfl, ?_⟩
      rw [ec] at qq
      exact qq
    · obtain ⟨rfl, hx⟩ := y
      obtain ⟨c, mc, ec, rfl⟩ := atc i x hx
      refine ⟨_, rfl, ?_⟩
      rw [ec] at qq
      exact qq
    · rw [List.length_map, fl]
      obtain ⟨r1, i1⟩ := forg_C (Run.refl hc) hi hD
      have hp1 : (upd H D (.lst ((R.cs.filter liveC).map fun c => V.ref c.p))) R.p = _ := (same_upd hD) _ _ hp
      refine ⟨_, rfl, R.p, R.dx, _, rfl, hp1, sm, ?_⟩
      rw [show putF "_clients" (V.ref D) (legfl R) = legfl { R with cl := D } from rfl]
      generalize (upd (upd H D (.lst ((R.cs.filter liveC).map fun c => V.ref c.p))) R.p (.ins (He.ga K "Leg") R.dx (legfl { R with cl := D }))) = H1 at r1 i1 ⊢
      have e1 : (forgC R D).p = R.p ∧ (forgC R D).dx = R.dx ∧ (forgC R D).sv = R.sv ∧ (forgC R D).ss = R.ss := ⟨rfl, rfl, rfl, rfl⟩
      generalize hR1 : forgC R D = R1 at r1 i1 e1
      obtain ⟨q1, q2, q3, q4⟩ := e1
      have c1 := r1.c
      have hp2 := leg_p c1
      have hsv := leg_sv c1
      rw [q1, q2] at hp2
      refine ⟨_, rfl, R.p, R.dx, _, _, rfl, hp2, rfl, R1.sv, rfl, ⟨_, SqL.of hsv⟩, fun D2 hD2 => ?_⟩
      have ats : ∀ i x, (R1.ss.map fun c => V.ref c.p)[i]? = some x → ∃ c ∈ R1.ss, R1.ss.getD i sv0 = c ∧ x = V.ref c.p := fun i x hx => by
        rw [List.getElem?_map] at hx
        obtain ⟨s, hs, rfl⟩ := Option.map_eq_some_iff.mp hx
        exact ⟨s, List.mem_of_getElem? hs, getD_at _ hs, rfl⟩
      have fl2 : ((List.range R1.ss.length).filter (fun i => liveS (R1.ss.getD i sv0))).map (fun i => V.ref (R1.ss.getD i sv0).p) = (R1.ss.filter liveS).map fun c => V.ref c.p := range_filter_getD R1.ss sv0 liveS fun c => V.ref c.p
      refine lc_filt walk_list (fun i => V.ref (R1.ss.getD i sv0).p) (fun i => liveS (R1.ss.getD i sv0)) (by rw [List.length_map, q4]; exact Nat.le_trans (Nat.le_of_lt hm) (by decide)) (fun _ _ => SqL.of ((same_upd hD2) _ _ hsv)) (fun i x H2 kk hi1 y qq => ?_) (fun i x H2 kk hi1 hb y qq => ?_) ?_
      · obtain ⟨rfl, hx⟩ := y
        obtain ⟨c, mc, ec, rfl⟩ := ats i x hx
        have hcp : H1 c.p = some (svO K c) := by
          obtain ⟨pre, post, e⟩ := List.append_of_mem mc
          exact (Cells.srv c1 e).get (by simp [svM])
        have hcp1 := (same_upd (o := .lst (((List.range i).filter (fun i => liveS (R1.ss.getD i sv0))).map fun i => V.ref (R1.ss.getD i sv0).p)) hD2) _ _ hcp
        refine ⟨rfl, _, rfl, c.p, c.dx, _, rfl, hcp1, rfl, c, rfl, hcp1, _, rfl, ?_⟩
        rw [ec] at qq
        exact qq
      · obtain ⟨rfl, hx⟩ := y
        obtain ⟨c, mc, ec, rfl⟩ := ats i x hx
        refine ⟨_, rfl, ?_⟩
        rw [ec] at qq
        exact qq
      · rw [List.length_map, fl2]
        obtain ⟨r2, i2⟩ := forg_S r1 i1 hD2
        have hp3 := (same_upd (o := .lst ((R1.ss.filter liveS).map fun c => V.ref c.p)) hD2) _ _ hp2
        refine ⟨_, rfl, R.p, R.dx, _, rfl, hp3, sm, ?_⟩
        subst hR1
        exact k D D2 _ r2 i2

end K19
set_option maxHeartbeats 4000000
set_option pp.maxSteps 400
namespace K19
open PySem PySem.Spec PyProof.Rows L2 SX TK TKS TKC
open C8 (pe_c)
/-! ### tick, where nothing is given up and nothing was taken -/
theorem run_out {H H' : Hp} {M M' : List Cell} {r : Addr} {o : HO} (t : Run H M H' M') (e : H r = some o) (n : r ∉ keys M) : H' r = some o ∧ r ∉ keys M' := ⟨t.u.fr _ _ e fun m => absurd m n, fun m => (t.u.nw _ m).elim n fun z => by rw [e] at z; cases z⟩
theorem ci_swap {K : PySem.W.Frag} {H : Hp} {ss pre post : List ClR} {s s' : ClR} (e : ss = pre ++ s :: post) (h : ∀ x ∈ ss, ClI K H x) (h' : ClI K H s') : ∀ x ∈ pre ++ s' :: post, ClI K H x := fun x m => by
  rcases List.mem_append.mp m with m | m
  · exact h x (by rw [e]; exact List.mem_append_left _ m)
  · rcases List.mem_cons.mp m with rfl | m
    · exact h'
    · exact h x (by rw [e]; exact List.mem_append_right _ (List.mem_cons_of_mem _ m))
def TickI (now : Int) (c c' : ClR) : Prop := ∃ wx, c' = tickC c now wx
theorem tickC_p (c : ClR) (now : Int) (wx : Addr) : (tickC c now wx).p = c.p := by
  unfold tickC
  split
  · rfl
  · split
    · rfl
    · split <;> rfl
theorem tickO_len (c : ClR) (now : Int) : (tickO c now).length ≤ 1 := by
  unfold tickO
  split
  · exact Nat.zero_le _
  · split
    · exact Nat.zero_le _
    · split
      · exact Nat.le_refl _
      · exact Nat.zero_le _
theorem flat_len {α β : Type} {f : α → List β} (h : ∀ a, (f a).length ≤ 1) : ∀ l : List α, (l.flatMap f).length ≤ l.length
  | [] => Nat.le_refl _
  | a :: l => by
    rw [List.flatMap_cons, List.length_append, List.length_cons]
    have := h a
    have := flat_len h l
    omega
theorem All2.len {α β : Type} {P : α → β → Prop} {as : List α} {bs : List β} (h : All2 P as bs) : bs.length = as.length := by
  induction h with
  | nil => rfl
  | snoc _ _ ih => rw [List.length_append, List.length_append, ih]; rfl
def LiveRel (R : LegR) (now : Int) (R' : LegR) (rows : List (Str × Str)) : Prop :=
  (¬ (R.st = "talking" ∧ R.live ≤ now ∧ R.cs.any askB = false) ∧ R' = R ∧ rows = []) ∨
  (R.st = "talking" ∧ R.live ≤ now ∧ R.cs.any askB = false ∧ (∃ cp cdx la wa wx ka, R' = sentR R (newC cp cdx la wa wx ka (sendL R "LIVE" .non .non) none R.place R.first now)) ∧ rows = [(R.place, textOf (linesX (sendL R "LIVE" .non .non) none))])
theorem live_any {K : PySem.W.Frag} {H : Hp} {R : LegR} {now : Int} {Q : Addr → Hp → Prop} (k : ∀ R' rows r ts H', LiveRel R now R' rows → Run H (legM K R) H' ((r, .lst (ts.map V.ref)) :: legM K R') → LegI K H' R' → RwI H' ts rows → Q r H') :
    ((¬ (R.st = "talking" ∧ R.live ≤ now ∧ R.cs.any askB = false) ∧ ∀ r H', Run H (legM K R) H' ((r, .lst []) :: legM K R) → LegI K H' R → Q r H') ∨
  (R.st = "talking" ∧ R.live ≤ now ∧ R.cs.any askB = false ∧ ∀ cp cdx la wa wx ka r ts H', Run H (legM K R) H' ((r, .lst (ts.map V.ref)) :: legM K (sentR R (newC cp cdx la wa wx ka (sendL R "LIVE" .non .non) none R.place R.first now))) →
      LegI K H' (sentR R (newC cp cdx la wa wx ka (sendL R "LIVE" .non .non) none R.place R.first now)) → RwI H' ts [(R.place, textOf (linesX (sendL R "LIVE" .non .non) none))] → Q r H')) := by
  by_cases e : R.st = "talking" ∧ R.live ≤ now ∧ R.cs.any askB = false
  · exact .inr ⟨e.1, e.2.1, e.2.2, fun cp cdx la wa wx ka r ts H' r1 i1 w1 => k _ _ r ts H' (.inr ⟨e.1, e.2.1, e.2.2, ⟨cp, cdx, la, wa, wx, ka, rfl⟩, rfl⟩) r1 i1 w1⟩
  · exact .inl ⟨e, fun r H' r1 i1 => k R [] r [] H' (.inl ⟨e, rfl, rfl⟩) r1 i1 trivial⟩
def spTick (K : PySem.W.Frag) : Sp := fun vs H Q _ => ∃ (R : LegR) (now : Int), vs = [.ref R.p, .int now] ∧ Cells H (legM K R) ∧ LegI K H R ∧ SndOk R "LIVE" .non ∧ R.cs.length < 10000 ∧ R.ss = [] ∧ (∀ c ∈ R.cs, tickG c now = false) ∧
  ∀ cs R2 rows2 cl sv r ts H', All2 (TickI now) R.cs cs → LiveRel { R with cs := cs } now R2 rows2 → Run H (legM K R) H' ((r, .lst (ts.map V.ref)) :: legM K (forgS (forgC R2 cl) sv)) → LegI K H' (forgS (forgC R2 cl) sv) → RwI H' ts ((R.cs.flatMap fun c => tickO c now) ++ rows2) → Q (.ref r) H'
theorem live_same {R R' : LegR} {now : Int} {rows : List (Str × Str)} (h : LiveRel R now R' rows) : R'.p = R.p ∧ R'.dx = R.dx ∧ R'.cs.length ≤ R.cs.length + 1 ∧ R'.ss = R.ss ∧ rows.length ≤ 1 := by
  rcases h with ⟨_, rfl, rfl⟩ | ⟨_, _, _, ⟨cp, cdx, la, wa, wx, ka, rfl⟩, rfl⟩
  · exact ⟨rfl, rfl, Nat.le_succ _, rfl, Nat.zero_le _⟩
  · exact ⟨rfl, rfl, by show (R.cs ++ [_]).length ≤ _; rw [List.length_append]; exact Nat.le_refl _, rfl, Nat.le_refl _⟩
theorem ok_Leg_tick {P : Program} {w : World} {K : PySem.W.Frag} {mg : Str → Option Value} {base : Heap} {f : Addr} {fd : FuncData} (T : Tx K mg) (c_Client_tick : C8.Met P w K mg base 4 (He.ga K "Client") "tick" (spClTick K) []) (c_Leg__give_up_request : C8.Met P w K mg base 7 (He.ga K "Leg") "_give_up_request" spNever []) (c_Server_tick : C8.Met P w K mg base 2 (He.ga K "Server") "tick" spNever []) (c_Leg__lose : C8.Met P w K mg base 6 (He.ga K "Leg") "_lose" spNever []) (c_Leg__send_live : C8.Met P w K mg base 6 (He.ga K "Leg") "_send_live" (spSendLive K) []) (c_Leg__forget_those_over : C8.Met P w K mg base 2 (He.ga K "Leg") "_forget_those_over" (spForget K) [])
    (F : FunD K "tick" "Leg.tick" (defArgs s_Leg_tick) (defBody s_Leg_tick) (defScope s_Leg_tick) [] [] f fd) : FnOk P w K mg base CX0 8 f fd ["self", "now"] (spTick K) := by
  refine F.ok sc_Leg_tick (fun vs H Q E h => ?_) (fun cdv A outer s0 H vs Q E hr h => ?_)
  · obtain ⟨R, now, rfl, _⟩ := h
    rfl
  · obtain ⟨R, now, rfl, hc, hi, sk, hn, hss, hg, k⟩ := h
    have hp := leg_p hc
    have hcl := leg_cl hc
    refine ⟨_, PSs.nox (pss_cons (ps_set (i := 2) sc_Leg_tick.nd rfl (Or.inl rfl) (pe_lst pa_nil)) (pss_cons (ps_for PassesOwn.never rfl (pi_list (pe_callTy call_list_of rfl T.f_list (by decide +kernel) (pa_cons (pe_fldC rfl T.cl_Leg T.na_Leg__clients (pv 0) rfl) pa_nil))) (pg_name (i := 3) sc_Leg_tick.nd rfl (Or.inl rfl)) (pss_cons (ps_asg (C8.pe_mt c_Client_tick hr (by decide) (pv 3) (pa_cons (pv 1) pa_nil)) (pg_tup rfl (pgs_cons (pg_name (i := 4) sc_Leg_tick.nd rfl (Or.inl rfl)) (pgs_cons (pg_name (i := 5) sc_Leg_tick.nd rfl (Or.inl rfl)) pgs_nil)))) (pss_cons (ps_expr (pe_bm PySem.F.plainAttrs_list PySem.F.slot_list_extend PySem.F.type_list_extend mt_extend (pv 2) (pa_cons (pv 4) pa_nil))) (pss_one (ps_if (pt_val (pv 5)) (pss_one (ps_expr (pe_bm PySem.F.plainAttrs_list PySem.F.slot_list_extend PySem.F.type_list_extend mt_extend (pv 2) (pa_cons (C8.pe_mt c_Leg__give_up_request hr (by decide) (pv 0) (pa_cons (pe_fldC rfl T.cl_Letter T.na_Letter_verb (pe_fldC rfl T.cl_Client T.na_Client_letter (pv 3) rfl) rfl) (pa_cons (pv 1) pa_nil))) pa_nil)))) pss_nil))))) (pss_cons (ps_for PassesOwn.never rfl (pi_list (pe_callTy call_list_of rfl T.f_list (by decide +kernel) (pa_cons (pe_fldC rfl T.cl_Leg T.na_Leg__servers (pv 0) rfl) pa_nil))) (pg_name (i := 6) sc_Leg_tick.nd rfl (Or.inl rfl)) (pss_cons (ps_asg (C8.pe_mt c_Server_tick hr (by decide) (pv 6) (pa_cons (pv 1) pa_nil)) (pg_tup rfl (pgs_cons (pg_name (i := 4) sc_Leg_tick.nd rfl (Or.inl rfl)) (pgs_cons (pg_name (i := 5) sc_Leg_tick.nd rfl (Or.inl rfl)) pgs_nil)))) (pss_cons (ps_expr (pe_bm PySem.F.plainAttrs_list PySem.F.slot_list_extend PySem.F.type_list_extend mt_extend (pv 2) (pa_cons (pv 4) pa_nil))) (pss_one (ps_if (PW.pt (pw_and (pt_val (pv 5)) (pw_and1 (pt_cmpR op_eq (pe_fldC rfl T.cl_Server T.na_Server_code (pv 6) rfl) (pgI T.g_YES) (nomark _))))) (pss_one (ps_expr (pe_bm PySem.F.plainAttrs_list PySem.F.slot_list_extend PySem.F.type_list_extend mt_extend (pv 2) (pa_cons (C8.pe_mt c_Leg__lose hr (by decide) (pv 0) (pa_cons (pv 1) pa_nil)) pa_nil)))) pss_nil))))) (pss_cons (ps_expr (pe_bm PySem.F.plainAttrs_list PySem.F.slot_list_extend PySem.F.type_list_extend mt_extend (pv 2) (pa_cons (C8.pe_mt c_Leg__send_live hr (by decide) (pv 0) (pa_cons (pv 1) pa_nil)) pa_nil))) (pss_cons (ps_expr (C8.pe_mt0 c_Leg__forget_those_over hr (by decide) (pv 0))) (pss_one (ps_ret (pv 2)))))))), ?_⟩
    refine ⟨by show 0 ≤ sizeLine; decide, fun S hS => ?_⟩
    have r0 := Run.nil_ (Run.refl hc) hS
    have hp0 := (same_upd (o := .lst []) hS) _ _ hp
    have hcl0 := (same_upd (o := .lst []) hS) _ _ hcl
    refine ⟨_, rfl, R.p, R.dx, _, _, rfl, hp0, rfl, R.cl, _, rfl, .inl (SqL.of hcl0), fun l hl => ?_⟩
    have s1 := same_upd (o := .lst (R.cs.map fun c => V.ref c.p)) hl
    have r1 := r0.same s1
    have hll : (upd (upd H S (.lst [])) l (.lst (R.cs.map fun c => V.ref c.p))) l = some (.lst (R.cs.map fun c => V.ref c.p)) := upd_same
    have hln : l ∉ keys ((S, HO.lst []) :: legM K R) := r0.c.fresh hl
    have i1 := hi.im r1.im
    generalize (upd (upd H S (.lst [])) l (.lst (R.cs.map fun c => V.ref c.p))) = H1 at r1 hll i1 ⊢
    clear r0 hp0 hcl0 s1 hl hS
    refine ⟨l, rfl, ⟨_, SqL.of hll⟩, for_list (K := K) (a := l) (xs := R.cs.map fun c => V.ref c.p) (fun i σ H' => ∃ (cs1 : List ClR) (ts : List Addr) (v3 v4 v5 : Option V), σ = [some (.ref R.p), some (.int now), some (.ref S), v3, v4, v5, none] ∧ All2 (TickI now) (R.cs.take i) cs1 ∧ Run H (legM K R) H' ((S, .lst (ts.map V.ref)) :: legM K { R with cs := cs1 ++ R.cs.drop i }) ∧ LegI K H' { R with cs := cs1 ++ R.cs.drop i } ∧ RwI H' ts ((R.cs.take i).flatMap fun c => tickO c now) ∧ H' l = some (.lst (R.cs.map fun c => V.ref c.p)) ∧ l ∉ keys ((S, HO.lst (ts.map V.ref)) :: legM K { R with cs := cs1 ++ R.cs.drop i })) ⟨[], [], none, none, none, rfl, .nil, r1, i1, trivial, hll, hln⟩ ?_ ?_ ?_⟩
    · rintro i σ H' _ ⟨cs1, ts, v3, v4, v5, rfl, ha, r, ii, w, el, nl⟩
      exact SqL.of el
    · rintro i x σ H2 hi1 ⟨cs1, ts, v3, v4, v5, rfl, ha, r, ii, w, el, nl⟩
      rw [List.getElem?_map] at hi1
      obtain ⟨c, hci, rfl⟩ := Option.map_eq_some_iff.mp hi1
      obtain ⟨hlt, rfl⟩ := List.getElem?_eq_some_iff.mp hci
      have hgc := hg _ (List.getElem_mem hlt)
      have ed : R.cs.drop i = R.cs[i] :: R.cs.drop (i + 1) := List.drop_eq_getElem_cons hlt
      have et : R.cs.take (i + 1) = R.cs.take i ++ [R.cs[i]] := by
        rw [List.take_succ_eq_append_getElem hlt]
      have es : (LegR.cs { R with cs := cs1 ++ R.cs.drop i }) = cs1 ++ R.cs[i] :: R.cs.drop (i + 1) := by rw [← ed]
      have cR := Cells.right (A := [(S, .lst (ts.map V.ref))]) r.c
      have cc := Cells.cli cR es
      rw [et]
      generalize R.cs[i] = c at *
      have ic := ii.ci c (by rw [es]; simp)
      have hcp : H2 c.p = some (clO K c) := cc.get (by simp [clM])
      refine ⟨_, rfl, c.p, c.dx, _, rfl, hcp, rfl, _, rfl, c, now, rfl, cc, ic, fun t r2 ts2 wx H3 q2 i2 ht w2 => ?_⟩
      have q3 := Run.cli (X := [(r2, .lst (ts2.map V.ref))]) (Run.refl cR) es (tickC_p c now wx) q2
      have q4 := Run.frameR (A := [(S, .lst (ts.map V.ref))]) r q3
      obtain ⟨el3, nl3⟩ := run_out (Run.frameR (A := [(S, .lst (ts.map V.ref))]) (Run.refl r.c) q3) el nl
      have ii3 := ii.im q3.im
      have w3 := w.im q3.im
      rw [hgc] at ht
      refine ⟨t, _, rfl, SqT.of ht, rfl, _, _, rfl, _, _, rfl, rfl, ?_⟩
      have eS : H3 S = some (.lst (ts.map V.ref)) := q4.c.get (by simp)
      have er : H3 r2 = some (.lst (ts2.map V.ref)) := q4.c.get (by simp)
      have lw := w3.len
      have lw2 := w2.len
      have b1 := flat_len (f := fun c => tickO c now) (fun c => tickO_len c now) (R.cs.take i)
      have b2 := tickO_len c now
      have b3 := List.length_take_le i R.cs
      refine ⟨_, rfl, .inl ⟨rfl, _, SqL.of eS⟩, _, rfl, S, r2, _, _, rfl, rfl, eS, er, ?_, ?_⟩
      · rw [List.length_map, List.length_map]
        exact Nat.le_trans (by omega : _ ≤ 100000) (by decide)
      have q5 := Run.set (A := []) (a := S) (o := .lst (ts.map V.ref)) (B := (r2, .lst (ts2.map V.ref)) :: legM K { R with cs := cs1 ++ tickC c now wx :: R.cs.drop (i + 1) }) (o' := .lst (ts.map V.ref ++ ts2.map V.ref)) q4 rfl
      have q6 := q5.sub (M2 := (S, .lst (ts.map V.ref ++ ts2.map V.ref)) :: legM K { R with cs := cs1 ++ tickC c now wx :: R.cs.drop (i + 1) }) (((List.Sublist.refl _).cons _).cons₂ _)
      have im6 : Im H3 (upd H3 S (.lst (ts.map V.ref ++ ts2.map V.ref))) := fun b o eb ib => by
        by_cases z : b = S
        · rw [z, eS] at eb
          cases eb
          cases ib
        · rw [upd_ne z]
          exact eb
      have lS : l ≠ S := fun z => nl3 (by rw [z]; simp [keys])
      refine ⟨_, rfl, _, rfl, iteF ⟨cs1 ++ [tickC c now wx], ts ++ ts2, _, _, _, rfl, ha.snoc ⟨wx, rfl⟩, ?_, ?_, ?_, ?_, ?_⟩⟩
      · rw [List.append_assoc, List.map_append]
        exact q6
      · have h := ii3.im im6
        rw [List.append_assoc]
        exact ⟨h.ab, ci_swap es h.ci (i2.im im6), h.si, h.wi, h.ei⟩
      · rw [List.flatMap_append, List.flatMap_cons, List.flatMap_nil, List.append_nil]
        exact (w3.app w2).im im6
      · rw [upd_ne lS]
        exact el3
      · intro m
        rw [List.append_assoc] at m
        refine nl3 ?_
        rcases List.mem_cons.mp m with m | m
        · rw [m]
          simp [keys]
        · exact List.mem_cons_of_mem _ (List.mem_cons_of_mem _ m)
    · rintro σ H2 ⟨cs1, ts, v3, v4, v5, rfl, ha, r, ii, w, el, nl⟩
      rw [List.length_map] at ha r ii w
      rw [List.drop_length, List.append_nil] at r ii
      rw [List.take_length] at ha w
      have hcs := ha.len
      have cR := Cells.right (A := [(S, .lst (ts.map V.ref))]) r.c
      have lw := w.len
      have b1 := flat_len (f := fun c => tickO c now) (fun c => tickO_len c now) R.cs
      clear el nl i1 r1 hll hln
      obtain ⟨R1, hR1⟩ : ∃ R1 : LegR, R1 = { R with cs := cs1 } := ⟨_, rfl⟩
      have k1 := fun R2 rows2 cl sv r ts H' => k cs1 R2 rows2 cl sv r ts H' ha
      rw [← hR1] at r ii cR k1
      have p1 : R1.p = R.p := by rw [hR1]
      have d1 : R1.dx = R.dx := by rw [hR1]
      have n1 : R1.cs.length < 100000 := by rw [hR1]; show cs1.length < _; omega
      have n1b : R1.cs.length < 99999 := by rw [hR1]; show cs1.length < _; omega
      have e1 : R1.ss = [] := by rw [hR1]; exact hss
      have sk1 : SndOk R1 "LIVE" .non := by rw [hR1]; exact ⟨⟨sk.w.tag, sk.w.call, sk.w.own, sk.w.other, sk.w.ot, sk.w.seq, sk.w.req⟩, sk.v, sk.g, sk.s, sk.r⟩
      have hp1 := leg_p cR
      have hsv : H2 R1.sv = some (.lst []) := by
        have z := leg_sv cR
        rw [e1] at z
        exact z
      rw [p1, d1] at hp1
      refine ⟨_, rfl, R.p, R.dx, _, _, rfl, hp1, rfl, R1.sv, _, rfl, .inl (SqL.of hsv), fun l2 hl2 => ?_⟩
      have r3 := r.same (same_upd (o := .lst []) hl2)
      have i3 := ii.im (Im.of_same (same_upd (o := .lst []) hl2))
      have w3 := w.im (Im.of_same (same_upd (o := .lst []) hl2))
      have e3 : (upd H2 l2 (.lst [])) l2 = some (.lst []) := upd_same
      generalize (upd H2 l2 (.lst [])) = H3 at r3 i3 w3 e3 ⊢
      refine ⟨l2, rfl, ⟨_, SqL.of e3⟩, for_list (K := K) (a := l2) (xs := []) (fun i σ H' => σ = [some (.ref R.p), some (.int now), some (.ref S), v3, v4, v5, none] ∧ H' = H3) ⟨rfl, rfl⟩ (fun i σ H' _ z => by rw [z.2]; exact SqL.of e3) (fun i x σ H' hx _ => by cases hx) ?_⟩
      rintro σ H9 ⟨rfl, e9⟩
      obtain rfl : H3 = H9 := e9.symm
      clear r w ii cR hp1 hsv e3 hl2
      have c3 := Cells.right (A := [(S, .lst (ts.map V.ref))]) r3.c
      have hp3 := leg_p c3
      rw [p1, d1] at hp3
      have eS : H3 S = some (.lst (ts.map V.ref)) := r3.c.get (by simp)
      refine ⟨_, rfl, .inl ⟨rfl, _, SqL.of eS⟩, _, rfl, R.p, R.dx, _, rfl, hp3, rfl, _, rfl, R1, now, by rw [p1]; rfl, c3, i3, sk1, n1, live_any fun R2 rows2 r4 ts4 H4 lr q4 i4 w4 => ?_⟩
      have q5 := Run.frameR (A := [(S, .lst (ts.map V.ref))]) r3 q4
      obtain ⟨p2, d2, n2, e2, l4⟩ := live_same lr
      have w5 := w3.im q4.im
      have eS4 : H4 S = some (.lst (ts.map V.ref)) := q5.c.get (by simp)
      have er4 : H4 r4 = some (.lst (ts4.map V.ref)) := q5.c.get (by simp)
      have lw4 := w4.len
      refine ⟨S, r4, _, _, rfl, rfl, eS4, er4, ?_, ?_⟩
      · rw [List.length_map, List.length_map]
        exact Nat.le_trans (by omega : _ ≤ 100000) (by decide)
      have q6 := (Run.set (A := []) (a := S) (o := .lst (ts.map V.ref)) (B := (r4, .lst (ts4.map V.ref)) :: legM K R2) (o' := .lst (ts.map V.ref ++ ts4.map V.ref)) q5 rfl).sub (M2 := (S, .lst (ts.map V.ref ++ ts4.map V.ref)) :: legM K R2) (((List.Sublist.refl _).cons _).cons₂ _)
      have im6 : Im H4 (upd H4 S (.lst (ts.map V.ref ++ ts4.map V.ref))) := fun b o eb ib => by
        by_cases z : b = S
        · rw [z, eS4] at eb
          cases eb
          cases ib
        · rw [upd_ne z]
          exact eb
      have i6 := i4.im im6
      have w6 := (w5.app w4).im im6
      generalize (upd H4 S (.lst (ts.map V.ref ++ ts4.map V.ref))) = H6 at q6 i6 w6 ⊢
      rw [← List.map_append] at q6
      have c6 := Cells.right (A := [(S, .lst ((ts ++ ts4).map V.ref))]) q6.c
      have hp6 := leg_p c6
      rw [p2, p1, d2, d1] at hp6
      refine ⟨_, rfl, R.p, R.dx, _, rfl, hp6, rfl, R2, by rw [p2, p1]; rfl, c6, i6, by omega, by rw [e2, e1]; decide, fun cl sv H7 q7 i7 => ⟨_, rfl, ?_⟩⟩
      exact k1 R2 rows2 cl sv S (ts ++ ts4) H7 lr (Run.frameR (A := [(S, .lst ((ts ++ ts4).map V.ref))]) q6 q7) i7 (w6.im q7.im)

end K19
set_option maxHeartbeats 4000000
set_option pp.maxSteps 400
namespace K19
open PySem PySem.Spec PyProof.Rows L2 SX TK TKS TKC
open C8 (pe_c)
/-! ### a reply, to any request -/
def matchC (c : ClR) (M : Ltr) : Bool := decide (c.L.way = M.way) && decide (c.L.verb = M.verb)
def TrRel0 (R : LegR) (pre post : List ClR) (c : ClR) (M : Ltr) (n now : Int) (R' : LegR) (rows : List (Str × Str)) : Prop :=
  ∃ wa wx ka kt, rows = takeO c M n ∧ ((takeV c n = .non ∧ R' = { R with cs := pre ++ takeC c M n now wa wx ka kt :: post }) ∨ (takeV c n = .int n ∧ FcRel { R with cs := pre ++ takeC c M n now wa wx ka kt :: post } M n now R'))
theorem takeC_p (c : ClR) (M : Ltr) (n now : Int) (wa wx ka kt : Addr) : (takeC c M n now wa wx ka kt).p = c.p := by
  unfold takeC
  split
  · rfl
  · split
    · unfold provC
      split <;> rfl
    · split
      · rfl
      · split <;> rfl
theorem takeV_or (c : ClR) (n : Int) : takeV c n = .non ∨ takeV c n = .int n := by
  unfold takeV
  split
  · exact .inl rfl
  · split
    · unfold provV
      split
      · exact .inr rfl
      · exact .inl rfl
    · split
      · exact .inr rfl
      · split
        · exact .inl rfl
        · exact .inr rfl
theorem takeO_len {c : ClR} {M : Ltr} {n : Int} (h : c.kl.length ≤ 1) : (takeO c M n).length ≤ 1 := by
  unfold takeO
  split
  · exact Nat.zero_le _
  · split
    · exact Nat.zero_le _
    · split
      · exact Nat.zero_le _
      · split
        · rw [List.length_map]
          exact h
        · exact Nat.le_refl 1
def TrRel8 (R : LegR) (pre post : List ClR) (c : ClR) (M : Ltr) (n now : Int) (R' : LegR) (rows : List (Str × Str)) : Prop :=
  ∃ wa wx ka kt, (takeV c n = .non ∧ R' = { R with cs := pre ++ takeC c M n now wa wx ka kt :: post } ∧ rows = takeO c M n) ∨
    (takeV c n = .int n ∧ M.verb = "CALL" ∧ FcRel { R with cs := pre ++ takeC c M n now wa wx ka kt :: post } M n now R' ∧ rows = takeO c M n) ∨
    (takeV c n = .int n ∧ M.verb ≠ "CALL" ∧ ∃ rows2, FwRel { R with cs := pre ++ takeC c M n now wa wx ka kt :: post } M n now R' rows2 ∧ rows = takeO c M n ++ rows2)
theorem fw_len {R R' : LegR} {M : Ltr} {n now : Int} {rows : List (Str × Str)} (h : FwRel R M n now R' rows) : rows.length ≤ 1 := by
  cases h with
  | quiet => exact Nat.zero_le _
  | lost => exact Nat.zero_le _
  | last => exact Nat.zero_le _
  | next => exact Nat.le_refl _
def spTakeReply8 (K : PySem.W.Frag) : Sp := fun vs H Q _ => ∃ (R : LegR) (b : Addr) (M : Ltr) (n now : Int), vs = [.ref R.p, .ref b, .int now] ∧ Cells H (legM K R) ∧ LegI K H R ∧ LetAt K H b M ∧ LOk M ∧ M.code = .int n ∧ (M.verb = "CALL" → before R.st = true) ∧ R.es.length < 100000 ∧ R.cs.length < 100000 ∧ WsOk H R ∧
  ((∀ x ∈ R.cs, matchC x M = false) → ∀ r H', Run H (legM K R) H' ((r, .lst []) :: legM K R) → LegI K H' R → Q (.ref r) H') ∧
  (∀ (pre post : List ClR) (c : ClR), R.cs = pre ++ c :: post → (∀ x ∈ pre, matchC x M = false) → matchC c M = true →
    ∀ R' rows r ts H', TrRel8 R pre post c M n now R' rows → Run H (legM K R) H' ((r, .lst (ts.map V.ref)) :: legM K R') → LegI K H' R' → RwI H' ts rows → Q (.ref r) H')
theorem ok_Leg__take_reply {P : Program} {w : World} {K : PySem.W.Frag} {mg : Str → Option Value} {base : Heap} {f : Addr} {fd : FuncData} (T : Tx K mg) (c_Client_take : C8.Met P w K mg base 4 (He.ga K "Client") "take" (spTake K) []) (c_Leg__follow : C8.Met P w K mg base 7 (He.ga K "Leg") "_follow" (spFollow8 K) [])
    (F : FunD K "_take_reply" "Leg._take_reply" (defArgs s_Leg__take_reply) (defBody s_Leg__take_reply) (defScope s_Leg__take_reply) [] [] f fd) : FnOk P w K mg base CX0 8 f fd ["self", "reply", "now"] (spTakeReply8 K) := by
  refine F.ok sc_Leg__take_reply (fun vs H Q E h => ?_) (fun cdv A outer s0 H vs Q E hr h => ?_)
  · obtain ⟨R, b, M, n, now, rfl, _⟩ := h
    rfl
  · obtain ⟨R, b, M, n, now, rfl, hc0, hi0, hb0, lk, em, hst, hn, hcn, hws0, kno, kyes⟩ := h
    have hp0 := leg_p hc0
    have hcl0 := leg_cl hc0
    refine ⟨_, PSs.nox (pss_cons (ps_for PassesOwn.never rfl (pi_list (pe_callTy call_list_of rfl T.f_list (by decide +kernel) (pa_cons (pe_fldC rfl T.cl_Leg T.na_Leg__clients (pv 0) rfl) pa_nil))) (pg_name (i := 3) sc_Leg__take_reply.nd rfl (Or.inl rfl)) (pss_one (ps_if (PW.pt (pw_and (pt_cmpR op_eq (pe_fldC rfl T.cl_Letter T.na_Letter_way (pe_fldC rfl T.cl_Client T.na_Client_letter (pv 3) rfl) rfl) (pe_fldC rfl T.cl_Letter T.na_Letter_way (pv 1) rfl) (nomark _)) (pw_and1 (pt_cmpR op_eq (pe_fldC rfl T.cl_Letter T.na_Letter_verb (pe_fldC rfl T.cl_Client T.na_Client_letter (pv 3) rfl) rfl) (pe_fldC rfl T.cl_Letter T.na_Letter_verb (pv 1) rfl) (nomark _))))) (pss_cons (ps_asg (C8.pe_mt c_Client_take hr (by decide) (pv 3) (pa_cons (pv 1) (pa_cons (pv 2) pa_nil))) (pg_tup rfl (pgs_cons (pg_name (i := 4) sc_Leg__take_reply.nd rfl (Or.inl rfl)) (pgs_cons (pg_name (i := 5) sc_Leg__take_reply.nd rfl (Or.inl rfl)) pgs_nil)))) (pss_one (ps_ret (pe_ifExp (pt_cmpR op_notN (pv 5) pe_non (nomark _)) (pe_op op_cat (pv 4) (C8.pe_mt c_Leg__follow hr (by decide) (pv 0) (pa_cons (pv 1) (pa_cons (pv 2) pa_nil)))) (pv 4))))) pss_nil))) (pss_one (ps_ret (pe_lst pa_nil)))), ?_⟩
    refine ⟨_, rfl, R.p, R.dx, _, _, rfl, hp0, rfl, R.cl, _, rfl, .inl (SqL.of hcl0), fun l hl => ?_⟩
    have s1 := same_upd (o := .lst (R.cs.map fun c => V.ref c.p)) hl
    have r0 := (Run.refl hc0).same s1
    have hi := hi0.im r0.im
    have hb := hb0.im r0.im
    have hws : WsOk (upd H l (.lst (R.cs.map fun c => V.ref c.p))) R := fun w mw => by
      obtain ⟨verb, xo, xg, o, e1, e2, e3⟩ := hws0 w mw
      exact ⟨verb, xo, xg, o, e1, e2.same s1, e3⟩
    have hll : (upd H l (.lst (R.cs.map fun c => V.ref c.p))) l = some (.lst (R.cs.map fun c => V.ref c.p)) := upd_same
    generalize upd H l (.lst (R.cs.map fun c => V.ref c.p)) = H1 at r0 hi hb hll hws ⊢
    clear hp0 hcl0 hc0 hi0 hb0 s1 hws0
    have hp := leg_p r0.c
    obtain ⟨dm, hm⟩ := id hb
    refine ⟨l, rfl, ⟨_, SqL.of hll⟩, for_list (K := K) (a := l) (xs := R.cs.map fun c => V.ref c.p) (fun i σ H' => H' = H1 ∧ (∀ x ∈ R.cs.take i, matchC x M = false) ∧ ∃ v3 : Option V, σ = [some (.ref R.p), some (.ref b), some (.int now), v3, none, none]) ⟨rfl, (fun x m => by cases m), none, rfl⟩ (fun _ _ _ _ q => q.1 ▸ SqL.of hll) ?_ ?_⟩
    · rintro i x σ H2 hi1 ⟨e9, hiP, v3, rfl⟩
      obtain rfl : H1 = H2 := e9.symm
      rw [List.getElem?_map] at hi1
      obtain ⟨y, hy, rfl⟩ := Option.map_eq_some_iff.mp hi1
      obtain ⟨hlt, ey⟩ := List.getElem?_eq_some_iff.mp hy
      have ecs : R.cs = R.cs.take i ++ y :: R.cs.drop (i + 1) := by
        have z : R.cs.drop i = R.cs[i] :: R.cs.drop (i + 1) := List.drop_eq_getElem_cons hlt
        rw [← ey, ← z, List.take_append_drop]
      have et : R.cs.take (i + 1) = R.cs.take i ++ [y] := by rw [List.take_succ_eq_append_getElem hlt, ey]
      have my : y ∈ R.cs := List.mem_of_getElem? hy
      have cy := Cells.cli r0.c ecs
      have iy := hi.ci y my
      have hyp : H1 y.p = some (clO K y) := cy.get (by simp [clM])
      obtain ⟨dl, hyl⟩ := id iy.lt
      refine ⟨_, rfl, y.p, y.dx, _, _, rfl, hyp, rfl, y.la, dl, _, _, rfl, hyl, rfl, _, rfl, b, dm, _, _, rfl, hm, rfl, rfl, _, rfl, ?_⟩
      rw [vstr]
      have second : decide (y.L.way = M.way) = true → matchC y M = decide (y.L.verb = M.verb) := fun e => by unfold matchC; rw [e, Bool.true_and]
      have goon : matchC y M = false → ∀ x ∈ R.cs.take (i + 1), matchC x M = false := fun hno x mx => by
        rw [et] at mx
        rcases List.mem_append.mp mx with m | m
        · exact hiP x m
        · rw [List.mem_singleton.mp m]; exact hno
      cases e : decide (y.L.way = M.way) with
      | false => exact iteF (iteF ⟨rfl, goon (by unfold matchC; rw [e]; rfl), _, rfl⟩)
      | true =>
        refine iteT ⟨_, rfl, y.p, y.dx, _, _, rfl, hyp, rfl, y.la, dl, _, _, rfl, hyl, rfl, _, rfl, b, dm, _, _, rfl, hm, rfl, rfl, _, rfl, ?_⟩
        rw [vstr, ← second e]
        cases hmc : matchC y M with
        | false => exact iteF ⟨rfl, goon hmc, _, rfl⟩
        | true =>
          have k := kyes _ _ y ecs hiP hmc
          generalize R.cs.take i = pre at *
          generalize R.cs.drop (i + 1) = post at *
          refine iteT ?_
          refine ⟨_, rfl, y.p, y.dx, _, rfl, hyp, rfl, _, rfl, _, rfl, y, b, n, now, M, rfl, cy, iy, hb, lk, em, fun t r ts wa wx ka kt H3 r3 i3 ht w3 => ?_⟩
          have r4 := Run.cli (X := [(r, .lst (ts.map V.ref))]) r0 ecs (takeC_p y M n now wa wx ka kt) r3
          have i4 : LegI K H3 { R with cs := pre ++ takeC y M n now wa wx ka kt :: post } := by
            have h := hi.im r3.im
            exact ⟨h.ab, ci_swap ecs h.ci i3, h.si, h.wi, h.ei⟩
          have c4 := Cells.right (A := [(r, .lst (ts.map V.ref))]) r4.c
          have hp4 := leg_p c4
          rcases takeV_or y n with ev | ev
          · rw [ev] at ht
            refine ⟨t, _, rfl, SqT.of ht, rfl, _, _, rfl, _, _, rfl, rfl, ?_⟩
            exact ⟨_, rfl, rfl, _, rfl, iteF ⟨_, rfl, k _ _ r ts H3 ⟨wa, wx, ka, kt, .inl ⟨ev, rfl, rfl⟩⟩ r4 i4 w3⟩⟩
          · rw [ev] at ht
            refine ⟨t, _, rfl, SqT.of ht, rfl, _, _, rfl, _, _, rfl, rfl, ?_⟩
            have hb4 := hb.im r3.im
            have cat : ∀ (R' : LegR) (r2 : Addr) (ts2 : List Addr) (rows2 : List (Str × Str)) (H4 : Hp), rows2.length ≤ 1 → Run H3 (legM K { R with cs := pre ++ takeC y M n now wa wx ka kt :: post }) H4 ((r2, .lst (ts2.map V.ref)) :: legM K R') → LegI K H4 R' → RwI H4 ts2 rows2 → TrRel8 R pre post y M n now R' (takeO y M n ++ rows2) →
                H4 r = some (.lst (ts.map V.ref)) ∧ H4 r2 = some (.lst (ts2.map V.ref)) ∧ (ts.map V.ref).length + (ts2.map V.ref).length ≤ sizeLine ∧ ∀ q, H4 q = none → Q (.ref q) (upd H4 q (.lst (ts.map V.ref ++ ts2.map V.ref))) := by
              intro R' r2 ts2 rows2 H4 hl2 r5 i5 w5 tr
              have r6 := Run.frameR (A := [(r, .lst (ts.map V.ref))]) r4 r5
              have ea : H4 r = some (.lst (ts.map V.ref)) := r6.c.get (by simp)
              have eb : H4 r2 = some (.lst (ts2.map V.ref)) := r6.c.get (by simp)
              have w4 := w3.im r5.im
              refine ⟨ea, eb, ?_, fun q hq => ?_⟩
              · rw [List.length_map, List.length_map, w3.len, w5.len]
                have := takeO_len (M := M) (n := n) iy.kn
                exact Nat.le_trans (by omega : _ ≤ 2) (by decide)
              · rw [← List.map_append]
                have r7 := (r6.add (o := .lst ((ts ++ ts2).map V.ref)) hq).sub (M2 := (q, .lst ((ts ++ ts2).map V.ref)) :: legM K R') (((List.Sublist.refl _).cons _ |>.cons _).cons₂ _)
                have s7 := same_upd (o := .lst ((ts ++ ts2).map V.ref)) hq
                exact k R' _ q (ts ++ ts2) _ tr r7 (i5.im (Im.of_same s7)) ((w4.app w5).im (Im.of_same s7))
            by_cases v : M.verb = "CALL"
            · refine ⟨_, rfl, rfl, _, rfl, iteT ⟨_, rfl, _, rfl, R.p, R.dx, _, rfl, hp4, rfl, _, rfl, _, rfl, .inl ⟨⟨R, b, M, now, rfl, hb4, v⟩, { R with cs := pre ++ takeC y M n now wa wx ka kt :: post }, b, M, n, now, rfl, c4, i4, hb4, em, hst v, hn, fun R' r2 H4 fr r5 i5 => ?_⟩⟩⟩
              obtain ⟨q1, q2, q3, q4⟩ := cat R' r2 [] [] H4 (Nat.zero_le _) r5 i5 trivial ⟨wa, wx, ka, kt, .inr (.inl ⟨ev, v, fr, List.append_nil _⟩)⟩
              exact ⟨r, r2, _, _, rfl, rfl, q1, q2, q3, q4⟩
            · have hw4 : WsOk H3 { R with cs := pre ++ takeC y M n now wa wx ka kt :: post } := fun w mw => by
                obtain ⟨verb, xo, xg, o, e1, e2, e3⟩ := hws w mw
                exact ⟨verb, xo, xg, o, e1, e2.im r3.im, ⟨⟨e3.w.tag, e3.w.call, e3.w.own, e3.w.other, e3.w.ot, e3.w.seq, e3.w.req⟩, e3.v, e3.g, e3.s, e3.r⟩⟩
              have hl4 : (LegR.cs { R with cs := pre ++ takeC y M n now wa wx ka kt :: post }).length < 100000 := by
                show (pre ++ takeC y M n now wa wx ka kt :: post).length < _
                rw [ecs] at hcn
                rw [List.length_append, List.length_cons] at hcn ⊢
                exact hcn
              refine ⟨_, rfl, rfl, _, rfl, iteT ⟨_, rfl, _, rfl, R.p, R.dx, _, rfl, hp4, rfl, _, rfl, _, rfl, .inr ⟨{ R with cs := pre ++ takeC y M n now wa wx ka kt :: post }, b, M, n, now, rfl, v, c4, i4, hb4, em, hn, hl4, hw4, fun R' rows2 r2 ts2 H4 fr r5 i5 w5 => ?_⟩⟩⟩
              obtain ⟨q1, q2, q3, q4⟩ := cat R' r2 ts2 rows2 H4 (fw_len fr) r5 i5 w5 ⟨wa, wx, ka, kt, .inr (.inr ⟨ev, v, rows2, fr, rfl⟩)⟩
              exact ⟨r, r2, _, _, rfl, rfl, q1, q2, q3, q4⟩
    · rintro σ H2 ⟨e9, hno, v3, rfl⟩
      obtain rfl : H1 = H2 := e9.symm
      rw [List.length_map, List.take_length] at hno
      refine ⟨by show 0 ≤ sizeLine; decide, fun r hr0 => ?_⟩
      have r5 := Run.nil_ r0 hr0
      exact kno hno r _ r5 (hi.im (Im.of_same (same_upd hr0)))

end K19
set_option maxHeartbeats 4000000
set_option pp.maxSteps 400
namespace K19
open PySem PySem.Spec PyProof.Rows L2 SX TK TKS TKC
open C8 (pe_c)
/-! ### receive, for replies -/
def spRecv8 (K : PySem.W.Frag) : Sp := fun vs H Q E => ∃ (p b : Addr) (pl : Str) (now n : Int) (M : Ltr), vs = [.ref p, .ref b, .str pl, .int now] ∧ LetAt K H b M ∧ M.code = .int n ∧ spTakeReply8 K [.ref p, .ref b, .int now] H Q E
theorem ok_Leg_receive {P : Program} {w : World} {K : PySem.W.Frag} {mg : Str → Option Value} {base : Heap} {f : Addr} {fd : FuncData} (T : Tx K mg) (c_Leg__take_reply : C8.Met P w K mg base 8 (He.ga K "Leg") "_take_reply" (spTakeReply8 K) []) (c_Server_matches : C8.Met P w K mg base 1 (He.ga K "Server") "matches" (spSvMatch K) []) (c_Leg__take_known : C8.Met P w K mg base 4 (He.ga K "Leg") "_take_known" spNever []) (c_Leg__has_most_servers : C8.Met P w K mg base 2 (He.ga K "Leg") "_has_most_servers" (spMost K) []) (c_Leg__serve : C8.Met P w K mg base 3 (He.ga K "Leg") "_serve" (spServe K) []) (c_Leg__take_new : C8.Met P w K mg base 7 (He.ga K "Leg") "_take_new" spNever [])
    (F : FunD K "receive" "Leg.receive" (defArgs s_Leg_receive) (defBody s_Leg_receive) (defScope s_Leg_receive) [] [] f fd) : FnOk P w K mg base CX0 9 f fd ["self", "letter", "place", "now"] (spRecv8 K) := by
  refine F.ok sc_Leg_receive (fun vs H Q E h => ?_) (fun cdv A outer s0 H vs Q E hr h => ?_)
  · obtain ⟨p, b, pl, now, n, M, rfl, _⟩ := h
    rfl
  · obtain ⟨p, b, pl, now, n, M, rfl, hb, em, h⟩ := h
    obtain ⟨dm, hm⟩ := id hb
    obtain ⟨R, b2, M2, n2, now2, e2, hc, _⟩ := id h
    injection e2 with e3 e4
    injection e3 with e3
    have hp := leg_p hc
    rw [← e3] at hp
    refine ⟨_, PSs.nox (C8.pss_cut (ps_if (pt_cmpR op_notN (pe_fldC rfl T.cl_Letter T.na_Letter_code (pv 1) rfl) pe_non (nomark _)) (pss_one (ps_ret (C8.pe_mt c_Leg__take_reply hr (by decide) (pv 0) (pa_cons (pv 1) (pa_cons (pv 3) pa_nil))))) pss_nil) (pss_cons (ps_for PassesOwn.never rfl (pi_list (pe_fldC rfl T.cl_Leg T.na_Leg__servers (pv 0) rfl)) (pg_name (i := 4) sc_Leg_receive.nd rfl (Or.inl rfl)) (pss_one (ps_if (pt_val (C8.pe_mt c_Server_matches hr (by decide) (pv 4) (pa_cons (pv 1) (pa_cons (pv 2) pa_nil)))) (pss_one (ps_ret (C8.pe_mt c_Leg__take_known hr (by decide) (pv 0) (pa_cons (pv 4) (pa_cons (pv 1) (pa_cons (pv 3) pa_nil)))))) pss_nil))) (C8.pss_cut (ps_if (PW.pt (pw_or (pt_cmpR op_eq (pe_fldC rfl T.cl_Letter T.na_Letter_verb (pv 1) rfl) pe_str (nomark _)) (pw_or (pt_cmpR op_le (pe_fldC rfl T.cl_Letter T.na_Letter_seq (pv 1) rfl) (pe_fldC rfl T.cl_Leg T.na_Leg__greatest_taken (pv 0) rfl) (nomark _)) (pw_or1 (pt_val (C8.pe_mt0 c_Leg__has_most_servers hr (by decide) (pv 0))))))) (pss_one (ps_ret (pe_lst pa_nil))) pss_nil) (pss_one (ps_ret (C8.pe_mt c_Leg__take_new hr (by decide) (pv 0) (pa_cons (C8.pe_mt c_Leg__serve hr (by decide) (pv 0) (pa_cons (pv 1) (pa_cons (pv 2) pa_nil))) (pa_cons (pv 3) pa_nil)))))))), ?_⟩
    refine ⟨fun _ _ => False, ⟨_, rfl, b, dm, _, _, rfl, hm, rfl, rfl, _, rfl, ?_⟩, fun _ _ z => z.elim⟩
    rw [em]
    exact iteT ⟨_, rfl, p, R.dx, _, rfl, hp, rfl, _, rfl, _, rfl, h⟩

end K19
set_option maxHeartbeats 4000000
set_option pp.maxSteps 400
namespace K19
open PySem PySem.Spec PyProof.Rows L2 SX TK TKS TKC
open C8 (pe_c)
/-! ### a leg's making and its user -/
def newR (p dx cl sv wt ev : Addr) (tag call own other place : Str) (ab : V) (able : Off) (first check seq : Int) : LegR := ⟨p, dx, cl, sv, wt, ev, tag, call, own, other, place, ab, able, first, check, "", "new", seq, 0, false, -1, 0, [], [], [], []⟩
instance {R : LegR} {k : Nat} : SmallF ((legfl R).take k) 19 := ⟨List.length_take_le' _ _⟩
def spLegInit (K : PySem.W.Frag) : Sp := fun vs H Q _ => ∃ (p dx : Addr) (tag call own other place : Str) (ab : V) (first check seq : Int), vs = [.ref p, .str tag, .str call, .str own, .str other, .str place, ab, .int first, .int check, .int seq] ∧ H p = some (.ins (He.ga K "Leg") dx []) ∧
  ∀ cl sv wt ev H', (∀ able, Run H [(p, .ins (He.ga K "Leg") dx [])] H' (legM K (newR p dx cl sv wt ev tag call own other place ab able first check seq))) → Q .non H'
theorem ok_Leg___init {P : Program} {w : World} {K : PySem.W.Frag} {mg : Str → Option Value} {base : Heap} {f : Addr} {fd : FuncData} (T : Tx K mg) 
    (F : FunD K "__init__" "Leg.__init__" (defArgs s_Leg___init) (defBody s_Leg___init) (defScope s_Leg___init) [] [("seq", (V.int 0))] f fd) : FnOk P w K mg base CX0 1 f fd ["self", "tag", "call", "own", "other", "place", "able", "first", "check", "seq"] (spLegInit K) := by
  refine F.ok sc_Leg___init (fun vs H Q E h => ?_) (fun cdv A outer s0 H vs Q E hr h => ?_)
  · obtain ⟨p, dx, tag, call, own, other, place, ab, first, check, seq, rfl, _⟩ := h
    rfl
  · obtain ⟨p, dx, tag, call, own, other, place, ab, first, check, seq, rfl, hp, k⟩ := h
    refine ⟨_, PSs.nox (pss_cons (ps_fldC rfl T.cl_Leg T.na_Leg_tag (pv 0) (pv 1) rfl) (pss_cons (ps_fldC rfl T.cl_Leg T.na_Leg_call (pv 0) (pv 2) rfl) (pss_cons (ps_fldC rfl T.cl_Leg T.na_Leg_own (pv 0) (pv 3) rfl) (pss_cons (ps_fldC rfl T.cl_Leg T.na_Leg_other (pv 0) (pv 4) rfl) (pss_cons (ps_fldC rfl T.cl_Leg T.na_Leg_place (pv 0) (pv 5) rfl) (pss_cons (ps_fldC rfl T.cl_Leg T.na_Leg_able (pv 0) (pv 6) rfl) (pss_cons (ps_fldC rfl T.cl_Leg T.na_Leg_first (pv 0) (pv 7) rfl) (pss_cons (ps_fldC rfl T.cl_Leg T.na_Leg_check (pv 0) (pv 8) rfl) (pss_cons (ps_fldC rfl T.cl_Leg T.na_Leg_other_tag (pv 0) pe_str rfl) (pss_cons (ps_fldC rfl T.cl_Leg T.na_Leg_state (pv 0) pe_str rfl) (pss_cons (ps_fldC rfl T.cl_Leg T.na_Leg__seq (pv 0) (pv 9) rfl) (pss_cons (ps_fldC rfl T.cl_Leg T.na_Leg__requests (pv 0) pe_int rfl) (pss_cons (ps_fldC rfl T.cl_Leg T.na_Leg_took_call (pv 0) pe_bl rfl) (pss_cons (ps_fldC rfl T.cl_Leg T.na_Leg__greatest_taken (pv 0) (pe_un un_neg pe_int) rfl) (pss_cons (ps_fldC rfl T.cl_Leg T.na_Leg__clients (pv 0) (pe_lst pa_nil) rfl) (pss_cons (ps_fldC rfl T.cl_Leg T.na_Leg__servers (pv 0) (pe_lst pa_nil) rfl) (pss_cons (ps_fldC rfl T.cl_Leg T.na_Leg__waiting (pv 0) (pe_lst pa_nil) rfl) (pss_cons (ps_fldC rfl T.cl_Leg T.na_Leg__live_due (pv 0) pe_int rfl) (pss_one (ps_fldC rfl T.cl_Leg T.na_Leg__events (pv 0) (pe_lst pa_nil) rfl)))))))))))))))))))), ?_⟩
    have rz := Run.refl (cells1 hp)
    obtain ⟨R0, hR0⟩ : ∃ R0 : Addr → Addr → Addr → Addr → LegR, R0 = fun cl sv wt ev => newR p dx cl sv wt ev tag call own other place ab ⟨0, "", []⟩ first check seq := ⟨_, rfl⟩
    have g14 : ∀ n, n = -1 → putF "_greatest_taken" (V.int n) (putF "took_call" (V.bl false) (putF "_requests" (V.int 0) (putF "_seq" (V.int seq) (putF "state" (V.str "new") (putF "other_tag" (V.str "") (putF "check" (V.int check) (putF "first" (V.int first) (putF "able" ab (putF "place" (V.str place) (putF "other" (V.str other) (putF "own" (V.str own) (putF "call" (V.str call) (putF "tag" (V.str tag) []))))))))))))) = (legfl (R0 0 0 0 0)).take 14 := fun n e => by subst e; rw [hR0]; rfl
    have g15 : ∀ cl, putF "_clients" (V.ref cl) ((legfl (R0 0 0 0 0)).take 14) = (legfl (R0 cl 0 0 0)).take 15 := fun cl => by rw [hR0]; rfl
    have g16 : ∀ cl sv, putF "_servers" (V.ref sv) ((legfl (R0 cl 0 0 0)).take 15) = (legfl (R0 cl sv 0 0)).take 16 := fun cl sv => by rw [hR0]; rfl
    have g17 : ∀ cl sv wt, putF "_waiting" (V.ref wt) ((legfl (R0 cl sv 0 0)).take 16) = (legfl (R0 cl sv wt 0)).take 17 := fun cl sv wt => by rw [hR0]; rfl
    have g18 : ∀ cl sv wt, putF "_live_due" (V.int 0) ((legfl (R0 cl sv wt 0)).take 17) = (legfl (R0 cl sv wt 0)).take 18 := fun cl sv wt => by rw [hR0]; rfl
    have g19 : ∀ cl sv wt ev, putF "_events" (V.ref ev) ((legfl (R0 cl sv wt 0)).take 18) = legfl (R0 cl sv wt ev) := fun cl sv wt ev => by rw [hR0]; rfl
    refine ⟨_, rfl, _, rfl, p, dx, _, rfl, hp, sm, ?_⟩
    refine ⟨_, rfl, _, rfl, p, dx, _, rfl, upd_same, sm, ?_⟩
    refine ⟨_, rfl, _, rfl, p, dx, _, rfl, upd_same, sm, ?_⟩
    refine ⟨_, rfl, _, rfl, p, dx, _, rfl, upd_same, sm, ?_⟩
    refine ⟨_, rfl, _, rfl, p, dx, _, rfl, upd_same, sm, ?_⟩
    refine ⟨_, rfl, _, rfl, p, dx, _, rfl, upd_same, sm, ?_⟩
    refine ⟨_, rfl, _, rfl, p, dx, _, rfl, upd_same, sm, ?_⟩
    refine ⟨_, rfl, _, rfl, p, dx, _, rfl, upd_same, sm, ?_⟩
    refine ⟨_, rfl, p, dx, _, rfl, upd_same, sm, ?_⟩
    refine ⟨_, rfl, p, dx, _, rfl, upd_same, sm, ?_⟩
    refine ⟨_, rfl, _, rfl, p, dx, _, rfl, upd_same, sm, ?_⟩
    refine ⟨_, rfl, p, dx, _, rfl, upd_same, sm, ?_⟩
    refine ⟨_, rfl, p, dx, _, rfl, upd_same, sm, ?_⟩
    refine ⟨_, rfl, _, rfl, p, dx, _, rfl, upd_same, sm, ?_⟩
    simp only [upd_upd]
    rw [g14 _ rfl]
    have r1 := rz.set (A := []) (B := []) (o' := .ins (He.ga K "Leg") dx ((legfl (R0 0 0 0 0)).take 14)) rfl
    generalize upd H p (.ins (He.ga K "Leg") dx ((legfl (R0 0 0 0 0)).take 14)) = H1 at r1 ⊢
    refine ⟨by show 0 ≤ sizeLine; decide, fun cl hcl => ?_⟩
    have r2 := r1.add (o := .lst []) hcl
    refine ⟨_, rfl, p, dx, _, rfl, r2.c.get (o := .ins (He.ga K "Leg") dx ((legfl (R0 0 0 0 0)).take 14)) (by simp), sm, ?_⟩
    rw [g15]
    have r3 := r2.set (A := [(cl, .lst [])]) (B := []) (o' := .ins (He.ga K "Leg") dx ((legfl (R0 cl 0 0 0)).take 15)) rfl
    generalize upd _ p (.ins (He.ga K "Leg") dx ((legfl (R0 cl 0 0 0)).take 15)) = H3 at r3 ⊢
    refine ⟨by show 0 ≤ sizeLine; decide, fun sv hsv => ?_⟩
    have r4 := r3.add (o := .lst []) hsv
    refine ⟨_, rfl, p, dx, _, rfl, r4.c.get (o := .ins (He.ga K "Leg") dx ((legfl (R0 cl 0 0 0)).take 15)) (by simp), sm, ?_⟩
    rw [g16]
    have r5 := r4.set (A := [(sv, .lst []), (cl, .lst [])]) (B := []) (o' := .ins (He.ga K "Leg") dx ((legfl (R0 cl sv 0 0)).take 16)) rfl
    generalize upd _ p (.ins (He.ga K "Leg") dx ((legfl (R0 cl sv 0 0)).take 16)) = H5 at r5 ⊢
    refine ⟨by show 0 ≤ sizeLine; decide, fun wt hwt => ?_⟩
    have r6 := r5.add (o := .lst []) hwt
    refine ⟨_, rfl, p, dx, _, rfl, r6.c.get (o := .ins (He.ga K "Leg") dx ((legfl (R0 cl sv 0 0)).take 16)) (by simp), sm, ?_⟩
    rw [g17]
    have r7 := r6.set (A := [(wt, .lst []), (sv, .lst []), (cl, .lst [])]) (B := []) (o' := .ins (He.ga K "Leg") dx ((legfl (R0 cl sv wt 0)).take 17)) rfl
    generalize upd _ p (.ins (He.ga K "Leg") dx ((legfl (R0 cl sv wt 0)).take 17)) = H7 at r7 ⊢
    refine ⟨_, rfl, p, dx, _, rfl, r7.c.get (o := .ins (He.ga K "Leg") dx ((legfl (R0 cl sv wt 0)).take 17)) (by simp), sm, ?_⟩
    rw [g18]
    have r8 := r7.set (A := [(wt, .lst []), (sv, .lst []), (cl, .lst [])]) (B := []) (o' := .ins (He.ga K "Leg") dx ((legfl (R0 cl sv wt 0)).take 18)) rfl
    generalize upd _ p (.ins (He.ga K "Leg") dx ((legfl (R0 cl sv wt 0)).take 18)) = H8 at r8 ⊢
    refine ⟨by show 0 ≤ sizeLine; decide, fun ev hev => ?_⟩
    have r9 := r8.add (o := .lst []) hev
    refine ⟨_, rfl, p, dx, _, rfl, r9.c.get (o := .ins (He.ga K "Leg") dx ((legfl (R0 cl sv wt 0)).take 18)) (by simp), sm, ?_⟩
    rw [g19]
    have ra := r9.set (A := [(ev, .lst []), (wt, .lst []), (sv, .lst []), (cl, .lst [])]) (B := []) (o' := .ins (He.ga K "Leg") dx (legfl (R0 cl sv wt ev))) rfl
    rw [hR0] at ra ⊢
    exact k cl sv wt ev _ fun able => ra.perm (List.reverse_perm [(p, HO.ins (He.ga K "Leg") dx (legfl (newR p dx cl sv wt ev tag call own other place ab ⟨0, "", []⟩ first check seq))), (cl, .lst []), (sv, .lst []), (wt, .lst []), (ev, .lst [])])
def spCallOut (K : PySem.W.Frag) : Sp := fun vs H Q _ => ∃ (R : LegR) (now : Int) (xo : V) (o : Option Off), vs = [.ref R.p, xo, .int now] ∧ Cells H (legM K R) ∧ LegI K H R ∧ OffX H xo o ∧ LegW R ∧ R.seq + 1 < 1000000000 ∧ R.req + 1 < 1000000000 ∧ R.cs.length < 100000 ∧
  ∀ cp cdx la wa wx ka r ts H', Run H (legM K R) H' ((r, .lst (ts.map V.ref)) :: legM K (sentR { R with st := "calling" } (newC cp cdx la wa wx ka (sendL R "CALL" xo .non) o R.place R.first now))) →
    LegI K H' (sentR { R with st := "calling" } (newC cp cdx la wa wx ka (sendL R "CALL" xo .non) o R.place R.first now)) → RwI H' ts [(R.place, textOf (linesX (sendL R "CALL" xo .non) o))] → Q (.ref r) H'
theorem k_call_ok : TxOk ("CALL" : Str) ∧ ("CALL" : Str).length ≤ 1000 := ⟨by show PyData.strOk "CALL" = true; decide +kernel, by decide +kernel⟩
theorem k_end_ok : TxOk ("END" : Str) ∧ ("END" : Str).length ≤ 1000 := ⟨by show PyData.strOk "END" = true; decide +kernel, by decide +kernel⟩
theorem ok_Leg_call_out {P : Program} {w : World} {K : PySem.W.Frag} {mg : Str → Option Value} {base : Heap} {f : Addr} {fd : FuncData} (T : Tx K mg) (c_Leg__send_d1 : C8.Met P w K mg base 5 (He.ga K "Leg") "_send" (spSend K) [(V.non)])
    (F : FunD K "call_out" "Leg.call_out" (defArgs s_Leg_call_out) (defBody s_Leg_call_out) (defScope s_Leg_call_out) [] [] f fd) : FnOk P w K mg base CX0 6 f fd ["self", "offer", "now"] (spCallOut K) := by
  refine F.ok sc_Leg_call_out (fun vs H Q E h => ?_) (fun cdv A outer s0 H vs Q E hr h => ?_)
  · obtain ⟨R, now, xo, o, rfl, _⟩ := h
    rfl
  · obtain ⟨R, now, xo, o, rfl, hc, hi, hx, hw, h1, h2, hn, k⟩ := h
    refine ⟨_, PSs.nox (pss_cons (ps_fldC rfl T.cl_Leg T.na_Leg_state (pv 0) pe_str rfl) (pss_one (ps_ret (C8.pe_mt c_Leg__send_d1 hr (by decide) (pv 0) (pa_cons pe_str (pa_cons (pv 2) (pa_cons (pv 1) pa_nil))))))), ?_⟩
    refine ⟨_, rfl, R.p, R.dx, _, rfl, leg_p hc, sm, ?_⟩
    rw [put_state]
    have r1 := Run.leg (Run.refl hc) { R with st := "calling" } rfl rfl
    generalize upd H R.p (.ins (He.ga K "Leg") R.dx (legfl { R with st := "calling" })) = H1 at r1 ⊢
    have h := hi.im r1.im
    have hp1 := leg_p r1.c
    refine ⟨_, rfl, R.p, R.dx, _, rfl, hp1, rfl, _, rfl, _, rfl, { R with st := "calling" }, "CALL", now, xo, .non, o, rfl, r1.c, ⟨h.ab, h.ci, h.si, h.wi, h.ei⟩, hx.im r1.im, ⟨⟨hw.tag, hw.call, hw.own, hw.other, hw.ot, hw.seq, hw.req⟩, k_call_ok, .inl rfl, h1, h2⟩, hn, fun cp cdx la wa wx ka r ts H2 r2 i2 w2 => ?_⟩
    exact k cp cdx la wa wx ka r ts H2 (r1.trans r2) i2 w2

end K19
set_option maxHeartbeats 4000000
set_option pp.maxSteps 400
namespace K19
open PySem PySem.Spec PyProof.Rows L2 SX TK TKS TKC
open C8 (pe_c)
/-- the offers that the law draws -/
structure GoodO (o : Off) : Prop where
  p0 : 0 ≤ o.port
  p1 : o.port ≤ 65535
  m : o.mode ∈ modesL
  ne : o.fs ≠ []
  n : o.fs.length ≤ 6
  nd : o.fs.Nodup
  f : ∀ z ∈ o.fs, nameB z = true
theorem nm_plain : ∀ c ∈ TL.tl zNM, c ≠ 44 := by decide +kernel
theorem name_nocomma {z : Str} (h : nameB z = true) : 44 ∉ TL.tl z := fun m => by
  unfold nameB at h
  rw [Bool.and_eq_true] at h
  exact nm_plain _ ((consB_len h.1).2.2 _ m) rfl
theorem name_ok {z : Str} (h : nameB z = true) : PyData.strOk z = true := ok_iff.mpr (name_okS h)
theorem modes_lenS : ∀ z ∈ modesL, z.length ≤ 16 ∧ 10 ∉ TL.tl z ∧ PyData.strOk z = true := by decide +kernel
theorem GoodO.ok {o : Off} (g : GoodO o) : OffOk o := ⟨g.p0, g.p1, (modes_lenS _ g.m).1, g.n, fun z h => (name_free (g.f z h)).2.2⟩
theorem fmt_goodO {o : Off} (g : GoodO o) : fmtO (Txt.join "," o.fs) = some o.fs := by
  have e : Txt.split (Txt.join "," o.fs) "," = o.fs := TL.split_join (y := ",") (s := 44) (S := []) (by decide +kernel) (by decide +kernel) g.ne fun p hp => name_nocomma (g.f p hp)
  unfold fmtO
  rw [e, if_pos ⟨g.n, g.nd⟩, if_pos (List.all_eq_true.mpr g.f)]
theorem fmt_free {o : Off} (g : GoodO o) : 32 ∉ TL.tl (Txt.join "," o.fs) ∧ 10 ∉ TL.tl (Txt.join "," o.fs) := by
  rw [show Txt.join "," o.fs = Str.join "," o.fs from TL.join_eq _ _, TL.tl_join]
  refine ⟨joinL_free (by decide +kernel) _ fun p hp => ?_, joinL_free (by decide +kernel) _ fun p hp => ?_⟩
  · obtain ⟨z, hz, rfl⟩ := List.mem_map.mp hp
    exact (name_free (g.f z hz)).1
  · obtain ⟨z, hz, rfl⟩ := List.mem_map.mp hp
    exact (name_free (g.f z hz)).2.1
theorem words_cutO {o : Off} (g : GoodO o) : Txt.split (wordsS o) " " = [Str.ofString (toString o.port), o.mode, Txt.join "," o.fs] := by
  refine cut_sp (by simp) fun p hp => ?_
  simp only [List.mem_cons, List.not_mem_nil, or_false] at hp
  rcases hp with rfl | rfl | rfl
  · exact str_noblank g.p0
  · exact modes_plain _ g.m
  · exact (fmt_free g).1
theorem GoodO.off {o : Off} (g : GoodO o) : readO (Txt.split (wordsS o) " ") = some o ∧ OffOk o ∧ 10 ∉ TL.tl (wordsS o) ∧ PyData.strOk (wordsS o) = true ∧ (∀ z ∈ Txt.split (wordsS o) " ", z.length ≤ 1000) ∧ (Txt.split (wordsS o) " ").length ≤ 999 := by
  have p1 := g.p1
  obtain ⟨j1, j2⟩ := g.ok.join
  obtain ⟨t1, t2⟩ := g.ok.str
  obtain ⟨m1, m2, m3⟩ := modes_lenS _ g.m
  rw [words_cutO g]
  refine ⟨by rw [readO_eq, fmt_goodO g, num_back g.p0 g.p1 (by omega), readP_ok, if_pos g.m], g.ok, ?_, ?_, ?_, by simp⟩
  · unfold wordsS
    rw [show ∀ l, Txt.join " " l = Str.join " " l from fun l => TL.join_eq _ _, TL.tl_join]
    refine joinL_free (by decide +kernel) _ fun p hp => ?_
    obtain ⟨z, hz, rfl⟩ := List.mem_map.mp hp
    simp only [List.mem_cons, List.not_mem_nil, or_false] at hz
    rcases hz with rfl | rfl | rfl
    · exact (num_free g.p0).2
    · exact m2
    · exact (fmt_free g).2
  · refine ok_join (by decide +kernel) fun z hz => ?_
    simp only [List.mem_cons, List.not_mem_nil, or_false] at hz
    rcases hz with rfl | rfl | rfl
    · exact ok_num g.p0
    · exact m3
    · exact ok_join (by decide +kernel) fun z hz => name_ok (g.f z hz)
  · intro z hz
    simp only [List.mem_cons, List.not_mem_nil, or_false] at hz
    rcases hz with rfl | rfl | rfl
    · omega
    · omega
    · omega
/-! ### the law: legs, letters, what is sent -/
theorem Keep.im {H H' : Hp} {s c : Addr} (st : StAt H s c) (k : Keep H H' s c) : Im H H' := fun b o e i => by
  obtain ⟨_, ⟨n, g1⟩, ns, g2, _⟩ := st
  exact k b o e (fun q => by rw [q, g1] at e; cases e; cases i) (fun q => by rw [q, g2] at e; cases e; cases i)
theorem Cells.keep {H H' : Hp} {s c : Addr} {M : List Cell} (h : Cells H M) (k : Keep H H' s c) (hs : s ∉ keys M) (hc : c ∉ keys M) : Cells H' M := ⟨h.nd, fun q m => k _ _ (h.at_ q m) (fun e => hs (e ▸ mem_keys m)) (fun e => hc (e ▸ mem_keys m))⟩
/-- the law's draws stand outside of the cells; what stood in H0 stands, but for them -/
structure StK (H0 H : Hp) (s c : Addr) (M : List Cell) : Prop where
  st : StAt H s c
  s_ : s ∉ keys M
  c_ : c ∉ keys M
  kp : Keep H0 H s c
  fr : ∀ x ∈ keys M, H0 x = none
theorem StK.run {H0 H H' : Hp} {s c : Addr} {M M' : List Cell} (h : StK H0 H s c M) (r : Run H M H' M') : StK H0 H' s c M' := by
  obtain ⟨ne, ⟨n, g1⟩, ns, g2, l⟩ := id h.st
  refine ⟨⟨ne, ⟨n, r.u.fr _ _ g1 fun m => absurd m h.s_⟩, ns, r.u.fr _ _ g2 fun m => absurd m h.c_, l⟩, fun m => ?_, fun m => ?_, fun b o e n1 n2 => ?_, fun x m => ?_⟩
  · rcases r.u.nw _ m with q | q
    · exact h.s_ q
    · rw [g1] at q; cases q
  · rcases r.u.nw _ m with q | q
    · exact h.c_ q
    · rw [g2] at q; cases q
  · refine r.u.fr _ _ (h.kp b o e n1 n2) fun m => ?_
    rw [h.fr b m] at e
    cases e
  · rcases r.u.nw _ m with q | q
    · exact h.fr x q
    · exact h.kp.none q (fun e => by rw [e, g1] at q; cases q) (fun e => by rw [e, g2] at q; cases q)
theorem StK.keep {H0 H H' : Hp} {s c : Addr} {M : List Cell} (h : StK H0 H s c M) (st : StAt H' s c) (k : Keep H H' s c) : StK H0 H' s c M := ⟨st, h.s_, h.c_, h.kp.trans k, h.fr⟩
theorem StK.cells {H0 H H' : Hp} {s c : Addr} {M : List Cell} (h : StK H0 H s c M) (k : Keep H H' s c) (d : Cells H M) : Cells H' M := Cells.keep d k h.s_ h.c_
theorem StK.same {H0 H H' : Hp} {s c : Addr} {M : List Cell} (h : StK H0 H s c M) (k : Same H H') : StK H0 H' s c M := h.keep (h.st.same k) (Keep.of_same k)
theorem StK.tail {H0 H : Hp} {s c : Addr} {q : Cell} {M : List Cell} (h : StK H0 H s c (q :: M)) : StK H0 H s c M := ⟨h.st, fun m => h.s_ (List.mem_cons_of_mem _ m), fun m => h.c_ (List.mem_cons_of_mem _ m), h.kp, fun x m => h.fr x (List.mem_cons_of_mem _ m)⟩
theorem Cells.tail {H : Hp} {q : Cell} {M : List Cell} (h : Cells H (q :: M)) : Cells H M := h.sub (List.sublist_cons_self _ _)
theorem GoodO.x {o : Off} (g : GoodO o) {H : Hp} {x : V} (h : OffAt H x o) : OffX H x (some o) := ⟨h, (fun u e => by cases e; exact g.ok), fun u e => by cases e; exact g.off.2.2.2.1⟩
theorem y1_ok : TxOk ("y1" : Str) ∧ ("y1" : Str).length ≤ 1000 := ⟨by show PyData.strOk "y1" = true; decide +kernel, by decide +kernel⟩
theorem reply_ok {L : Ltr} {n : Int} {tag : Str} {xo : V} (g : LOk L) (t : TxOk tag ∧ tag.length ≤ 1000) (h0 : 0 ≤ n) (h1 : n ≤ 99) : LOk (L.reply (.int n) tag xo .non) := by
  obtain ⟨g1, g2, g3, g4, g5, _, g7⟩ := g.oks
  exact ⟨⟨g1, g2, g3, g4, g5, t.1, g7⟩, g.seq0, g.verb, g.call, g.origin, g.otag, g.target, t.2, g.seq, g.way, .inr ⟨n, rfl, h0, by omega⟩⟩
theorem offer_ok {L : Ltr} {x : V} (g : LOk L) : LOk { L with offer := x } := ⟨g.oks, g.seq0, g.verb, g.call, g.origin, g.otag, g.target, g.ttag, g.seq, g.way, g.code⟩
theorem takeV_20 {c : ClR} (h : c.st = .cl) (v : c.L.verb = "CALL") : takeV c 20 = .int 20 := by
  unfold takeV
  rw [if_neg (by rw [h]; decide), if_neg (by decide), if_neg (by unfold isC; rw [decide_eq_true v]; decide), if_neg (by rw [h]; decide)]
theorem not_tail {a : Addr} {o : HO} {M : List Cell} {H : Hp} (c : Cells H ((a, o) :: M)) : a ∉ keys M := (List.nodup_cons.mp c.nd).1
/-! the law's leg -/
def oA (n : Int) : Off := ⟨n, "both", ["a"]⟩
theorem oA_good {n : Int} (h0 : 0 ≤ n) (h1 : n ≤ 65535) : GoodO (oA n) := ⟨h0, h1, by show ("both" : Str) ∈ modesL; decide +kernel, by simp [oA], by show 1 ≤ 6; decide, by simp [oA], by show ∀ z ∈ ([("a" : Str)] : List Str), nameB z = true; decide +kernel⟩
def legT0 (p dx cl sv wt ev : Addr) (ab : V) (check : Int) : LegR := newR p dx cl sv wt ev "x1" "c1" "ann@x" "bob@x" "q" ab (oA 40) 20 check 0
theorem legW_T {R : LegR} (h1 : R.tag = "x1") (h2 : R.call = "c1") (h3 : R.own = "ann@x") (h4 : R.other = "bob@x") (h5 : R.ot = "" ∨ R.ot = "y1") (h6 : 0 ≤ R.seq) (h7 : 0 ≤ R.req) : LegW R := by
  have hd : PyData.strOk "x1" = true ∧ PyData.strOk "c1" = true ∧ PyData.strOk "ann@x" = true ∧ PyData.strOk "bob@x" = true ∧ PyData.strOk "" = true ∧ PyData.strOk "y1" = true := by decide +kernel
  refine ⟨?_, ?_, ?_, ?_, ?_, h6, h7⟩
  · rw [h1]; exact ⟨hd.1, by decide +kernel⟩
  · rw [h2]; exact ⟨hd.2.1, by decide +kernel⟩
  · rw [h3]; exact ⟨hd.2.2.1, by decide +kernel⟩
  · rw [h4]; exact ⟨hd.2.2.2.1, by decide +kernel⟩
  · rcases h5 with h5 | h5 <;> rw [h5]
    · exact ⟨hd.2.2.2.2.1, by decide +kernel⟩
    · exact ⟨hd.2.2.2.2.2, by decide +kernel⟩
/-- a request that the law's leg sends -/
def askL (verb : Str) (n k : Int) (xo xg : V) : Ltr := ⟨verb, "c1", "ann@x", "x1", "bob@x", "y1", n, wayS "x1" k, .non, xo, .non, xg⟩

end K19
set_option maxHeartbeats 4000000
set_option pp.maxSteps 400
namespace K19
open PySem PySem.Spec PyProof.Rows L2 SX TK TKS TKC
open C8 (pe_c)
/-! ### the law's leg, talking -/
structure TalkR (check : Int) (R : LegR) : Prop where
  tag : R.tag = "x1"
  call : R.call = "c1"
  own : R.own = "ann@x"
  other : R.other = "bob@x"
  place : R.place = "q"
  first : R.first = 20
  chk : R.check = check
  ot : R.ot = "y1"
  st : R.st = "talking"
  seq : R.seq = 1
  req : R.req = 1
  live : R.live = check
  ws : R.ws = []
  es : R.es = []
  ss : R.ss = []
  cs : ∃ c, R.cs = [c] ∧ c.st = .fn ∧ c.L.verb = "CALL" ∧ c.f = 20 ∧ c.b = 0
def spTalking (K : PySem.W.Frag) : Sp := fun vs H Q _ => ∃ (s c : Addr) (check : Int), vs = [.ref s, .int check] ∧ StAt H s c ∧ 0 ≤ check ∧ check ≤ 30 ∧ ∀ R H', TalkR check R → Cells H' (legM K R) → LegI K H' R → StK H H' s c (legM K R) → Q (.ref R.p) H'
theorem ok_law_talking {P : Program} {w : World} {K : PySem.W.Frag} {mg : Str → Option Value} {base : Heap} {f : Addr} {fd : FuncData} (T : Tx K mg) (c_mk_Leg_f : MakK P w K mg base 1 "Leg" (He.ga K "Leg") (spLegInit K) 0 ["tag", "call", "own", "other", "place", "able", "first", "check"] (fun vs zs => vs ++ ((((zs.drop 0).take 8) ++ ((([(V.int 0)] : List V).drop 0).take 1))))) (c_Leg_call_out : C8.Met P w K mg base 6 (He.ga K "Leg") "call_out" (spCallOut K) []) (c_read : C8.Cal P w K mg base 7 "read" (spReadL K) []) (c_Letter_reply_o : TK.MetK P w K mg base 3 (He.ga K "Letter") "reply" (spLReply K) 2 ["offer"] (fun vs zs => vs ++ zs ++ [(V.non)])) (c_Leg_receive : C8.Met P w K mg base 9 (He.ga K "Leg") "receive" (spRecv8 K) []) (c_Leg_take_events : C8.Met P w K mg base 1 (He.ga K "Leg") "take_events" (spTakeEv K) [])
    (F : FunD K "_law_talking" "_law_talking" (defArgs s_law_talking) (defBody s_law_talking) (defScope s_law_talking) [] [] f fd) : FnOk P w K mg base CX0 10 f fd ["state", "check"] (spTalking K) := by
  refine F.ok sc_law_talking (fun vs H Q E h => ?_) (fun cdv A outer s0 H vs Q E hr h => ?_)
  · obtain ⟨s, c, check, rfl, _⟩ := h
    rfl
  · obtain ⟨s, c, check, rfl, st, k0, k9, k⟩ := h
    refine ⟨_, PSs.nox (pss_cons (ps_set (i := 2) sc_law_talking.nd rfl (Or.inl rfl) (pe_tup (pa_cons pe_int (pa_cons pe_str (pa_cons (pe_tup (pa_cons pe_str pa_nil)) pa_nil))))) (pss_cons (ps_set (i := 3) sc_law_talking.nd rfl (Or.inl rfl) (pe_mkK0 c_mk_Leg_f hr (by decide) rfl (pk_cons pe_str (pk_cons pe_str (pk_cons pe_str (pk_cons pe_str (pk_cons pe_str (pk_cons (pv 2) (pk_cons pe_int (pk_cons (pv 1) pk_nil)))))))))) (pss_cons (ps_set (i := 4) sc_law_talking.nd rfl (Or.inl rfl) (pe_c c_read hr (by decide) rfl (pa_cons (pe_ix ix_tup (pe_ix ix_list (C8.pe_mt c_Leg_call_out hr (by decide) (pv 3) (pa_cons (pe_tup (pa_cons pe_int (pa_cons pe_str (pa_cons (pe_tup (pa_cons pe_str pa_nil)) pa_nil)))) (pa_cons pe_int pa_nil))) pe_int (fun _ _ => rfl)) pe_int (fun _ _ => rfl)) pa_nil))) (pss_cons (ps_expr (C8.pe_mt c_Leg_receive hr (by decide) (pv 3) (pa_cons (TK.pe_mtK c_Letter_reply_o hr (by decide) (pv 4) (pa_cons pe_int (pa_cons pe_str pa_nil)) (pk_cons (pe_tup (pa_cons pe_int (pa_cons pe_str (pa_cons (pe_tup (pa_cons pe_str pa_nil)) pa_nil)))) pk_nil)) (pa_cons pe_str (pa_cons pe_int pa_nil))))) (pss_cons (ps_expr (C8.pe_mt0 c_Leg_take_events hr (by decide) (pv 3))) (pss_one (ps_ret (pv 3)))))))), ?_⟩
    refine ⟨by show 1 ≤ sizeLine; decide, fun f hf => ⟨by show 3 ≤ sizeLine; decide, fun o ho => ?_⟩⟩
    have s1 := (same_upd (o := .tup [.str "a"]) hf).trans (same_upd (o := .tup [.int 40, .str "both", .ref f]) ho)
    have fo : f ≠ o := fun e => by rw [← e, upd_same] at ho; cases ho
    have hab : OffAt (upd (upd H f (.tup [.str "a"])) o (.tup [.int 40, .str "both", .ref f])) (.ref o) (oA 40) := ⟨o, f, rfl, upd_same, (upd_ne fo).trans upd_same⟩
    have st1 := st.same s1
    generalize (upd (upd H f (.tup [.str "a"])) o (.tup [.int 40, .str "both", .ref f])) = H1 at s1 hab st1 ⊢
    refine ⟨_, rfl, _, rfl, rfl, rfl, fun x dy hx hdy hne => ?_⟩
    have so := same_own (C := He.ga K "Leg") (fs := []) hx hdy
    have ro := (Run.refl (Cells.nil H1)).own (o := .ins (He.ga K "Leg") dy []) hx hdy hne.symm
    refine ⟨x, dy, "x1", "c1", "ann@x", "bob@x", "q", .ref o, 20, check, 0, rfl, upd_same, fun cl sv wt ev H3 rI => ⟨rfl, ?_⟩⟩
    have r3 := ro.trans (rI (oA 40))
    have so3 : StK H H1 s c [] := ⟨st1, (fun m => nomatch m), (fun m => nomatch m), Keep.of_same s1, fun _ m => nomatch m⟩
    have k3 := so3.run r3
    have c3 := r3.c
    have i3 : LegI K H3 (legT0 x dy cl sv wt ev (.ref o) check) := ⟨hab.im r3.im, (fun _ m => nomatch m), (fun _ m => nomatch m), (fun _ m => nomatch m), fun _ m => nomatch m⟩
    change Cells H3 (legM K (legT0 x dy cl sv wt ev (.ref o) check)) at c3
    change StK H H3 s c (legM K (legT0 x dy cl sv wt ev (.ref o) check)) at k3
    clear r3 so3 rI ro so hab st1 s1 hx hdy hne hf ho fo
    have hp3 := leg_p c3
    refine ⟨_, rfl, x, dy, _, rfl, hp3, rfl, by show 1 ≤ sizeLine; decide, fun f2 hf2 => ⟨by show 3 ≤ sizeLine; decide, fun o2 ho2 => ?_⟩⟩
    have s4 := (same_upd (o := .tup [.str "a"]) hf2).trans (same_upd (o := .tup [.int 7, .str "both", .ref f2]) ho2)
    have fo : f2 ≠ o2 := fun e => by rw [← e, upd_same] at ho2; cases ho2
    have hof : OffAt (upd (upd H3 f2 (.tup [.str "a"])) o2 (.tup [.int 7, .str "both", .ref f2])) (.ref o2) (oA 7) := ⟨o2, f2, rfl, upd_same, (upd_ne fo).trans upd_same⟩
    have c4 := c3.same s4
    have i4 := i3.im (Im.of_same s4)
    have k4 := k3.same s4
    generalize (upd (upd H3 f2 (.tup [.str "a"])) o2 (.tup [.int 7, .str "both", .ref f2])) = H4 at hof c4 i4 k4 ⊢
    clear s4 c3 i3 k3 hp3 hf2 ho2 fo
    have w4 : LegW (legT0 x dy cl sv wt ev (.ref o) check) := legW_T rfl rfl rfl rfl (.inl rfl) (Int.le_refl 0) (Int.le_refl 0)
    refine ⟨legT0 x dy cl sv wt ev (.ref o) check, 0, .ref o2, some (oA 7), rfl, c4, i4, (oA_good (by decide) (by decide)).x hof, w4, by show (0 : Int) + 1 < 1000000000; decide, by show (0 : Int) + 1 < 1000000000; decide, by show 0 < 100000; decide, fun cp cdx la wa wx ka r ts H5 r5 i5 w5 => ?_⟩
    obtain ⟨L4, eL4⟩ : ∃ L4, L4 = sendL (legT0 x dy cl sv wt ev (.ref o) check) "CALL" (.ref o2) .non := ⟨_, rfl⟩
    have g4 : GLet L4 (some (oA 7)) none := by
      rw [eL4]
      exact ⟨by show ("CALL" : Str) ∈ verbsL; decide +kernel, rfl, (fun _ e => nomatch e), by show tagB "c1" = true; decide +kernel, by show (splitB "ann@x").isSome = true; decide +kernel, by show tagB "x1" = true; decide +kernel, by show (splitB "bob@x").isSome = true; decide +kernel, .inl rfl, by show (0 : Int) ≤ 0 + 1; decide, by show (0 : Int) + 1 ≤ 999999; decide, by show tagB (wayS "x1" 1) = true; decide +kernel, fun u e => by cases e; exact (oA_good (by decide) (by decide)).off, .inl rfl, .inl rfl⟩
    have v4 : L4.verb = "CALL" := by rw [eL4]; rfl
    rw [← eL4] at r5 i5 w5
    have k5 := (k4.run r5).tail
    have c5 := Cells.tail r5.c
    have er : H5 r = some (.lst (ts.map V.ref)) := r5.c.get (by simp)
    obtain ⟨t, rfl, et⟩ : ∃ t, ts = [t] ∧ H5 t = some (.tup [.str "q", .str (textOf (linesX L4 (some (oA 7))))]) := by
      match ts, w5 with
      | [t], ⟨h1, _⟩ => exact ⟨t, rfl, h1⟩
    refine ⟨r, _, 0, .ref t, rfl, rfl, SqL.of er, rfl, ?_⟩
    refine ⟨t, _, 1, .str (textOf (linesX L4 (some (oA 7)))), rfl, rfl, SqT.of et, rfl, ?_⟩
    refine ⟨L4, some (oA 7), none, rfl, g4, fun b xb H6 s6 hb hox hle => ?_⟩
    have c6 := c5.same s6
    have i6 := i5.im (Im.of_same s6)
    have k6 := k5.same s6
    obtain ⟨R1, hR1⟩ : ∃ R1, R1 = sentR { legT0 x dy cl sv wt ev (.ref o) check with st := "calling" } (newC cp cdx la wa wx ka L4 (some (oA 7)) "q" 20 0) := ⟨_, rfl⟩
    change Cells H6 (legM K (sentR { legT0 x dy cl sv wt ev (.ref o) check with st := "calling" } (newC cp cdx la wa wx ka L4 (some (oA 7)) "q" 20 0))) at c6
    change LegI K H6 (sentR { legT0 x dy cl sv wt ev (.ref o) check with st := "calling" } (newC cp cdx la wa wx ka L4 (some (oA 7)) "q" 20 0)) at i6
    change StK H H6 s c (legM K (sentR { legT0 x dy cl sv wt ev (.ref o) check with st := "calling" } (newC cp cdx la wa wx ka L4 (some (oA 7)) "q" 20 0))) at k6
    rw [← hR1] at c6 i6 k6
    clear r5 w5 i5 k5 c5 er et c4 i4 k4 hof hb s6
    have hp6 := leg_p c6
    have hpp : R1.p = x ∧ R1.dx = dy := by rw [hR1]; exact ⟨rfl, rfl⟩
    rw [hpp.1, hpp.2] at hp6
    have lok : LOk { L4 with offer := xb } := offer_ok g4.lok
    obtain ⟨db, hdb⟩ := id hle
    refine ⟨_, rfl, x, dy, _, rfl, hp6, rfl, _, rfl, b, db, _, rfl, hdb, rfl, by show 1 ≤ sizeLine; decide, fun f3 hf3 => ⟨by show 3 ≤ sizeLine; decide, fun o3 ho3 => ?_⟩⟩
    have s7 := (same_upd (o := .tup [.str "a"]) hf3).trans (same_upd (o := .tup [.int 8, .str "both", .ref f3]) ho3)
    have fo : f3 ≠ o3 := fun e => by rw [← e, upd_same] at ho3; cases ho3
    have hof : OffAt (upd (upd H6 f3 (.tup [.str "a"])) o3 (.tup [.int 8, .str "both", .ref f3])) (.ref o3) (oA 8) := ⟨o3, f3, rfl, upd_same, (upd_ne fo).trans upd_same⟩
    have c7 := c6.same s7
    have i7 := i6.im (Im.of_same s7)
    have k7 := k6.same s7
    have hle7 := hle.same s7
    generalize (upd (upd H6 f3 (.tup [.str "a"])) o3 (.tup [.int 8, .str "both", .ref f3])) = H7 at hof c7 i7 k7 hle7 ⊢
    clear s7 c6 i6 k6 hf3 ho3 fo hle hdb hp6 hox
    refine ⟨rfl, rfl, b, { L4 with offer := xb }, .int 20, "y1", .ref o3, .non, rfl, hle7, fun a H8 s8 ha hla => ?_⟩
    have c8 := c7.same s8
    have i8 := i7.im (Im.of_same s8)
    have k8 := k7.same s8
    clear c7 i7 k7 hle7 hof s8 ha
    have ecs : R1.cs = [newC cp cdx la wa wx ka L4 (some (oA 7)) "q" 20 0] := by rw [hR1]; rfl
    have hmc : matchC (newC cp cdx la wa wx ka L4 (some (oA 7)) "q" 20 0) (({ L4 with offer := xb } : Ltr).reply (.int 20) "y1" (.ref o3) .non) = true := by
      show (decide (L4.way = L4.way) && decide (L4.verb = L4.verb)) = true
      rw [decide_eq_true rfl, decide_eq_true rfl]
      all_goals rfl
    refine ⟨x, a, "q", 0, 20, _, rfl, hla, rfl, R1, a, _, 20, 0, (by rw [hpp.1] <;> rfl), c8, i8, hla, reply_ok lok y1_ok (by decide) (by decide), rfl, (fun _ => by rw [hR1]; show before "calling" = true; decide +kernel), by rw [hR1]; show 0 < 100000; decide, by rw [ecs]; show 1 < 100000; decide, (fun w mw => by rw [hR1] at mw; cases mw), (fun no => ?_), fun pre post c0 e hpre hm R' rows r9 ts9 H9 tr q9 i9 w9 => ?_⟩
    · have z := no _ (by rw [ecs]; exact List.mem_singleton.mpr rfl)
      rw [hmc] at z
      cases z
    rw [ecs] at e
    obtain ⟨rfl, rfl, rfl⟩ : pre = [] ∧ c0 = newC cp cdx la wa wx ka L4 (some (oA 7)) "q" 20 0 ∧ post = [] := by
      cases pre with
      | nil =>
        injection e with a1 a2
        exact ⟨rfl, a1.symm, a2.symm⟩
      | cons y ys =>
        injection e with a1 a2
        cases ys <;> cases a2
    have k9' := (k8.run q9).tail
    have c9 := Cells.tail q9.c
    clear q9 w9 c8 i8 k8
    obtain ⟨wa', wx', ka', kt', ⟨ev', _⟩ | ⟨_, _, fr, _⟩ | ⟨_, nv, _⟩⟩ := tr
    · rw [takeV_20 rfl v4] at ev'
      cases ev'
    · have eT : takeC (newC cp cdx la wa wx ka L4 (some (oA 7)) "q" 20 0) (({ L4 with offer := xb } : Ltr).reply (.int 20) "y1" (.ref o3) .non) 20 0 wa' wx' ka' kt' = finC (newC cp cdx la wa wx ka L4 (some (oA 7)) "q" 20 0) (({ L4 with offer := xb } : Ltr).reply (.int 20) "y1" (.ref o3) .non) 0 wa' wx' ka' kt' := by
        unfold takeC
        rw [if_neg (by show ¬ CS.cl = CS.ov; decide), if_neg (by decide), if_neg (by unfold isC; rw [decide_eq_true (show (newC cp cdx la wa wx ka L4 (some (oA 7)) "q" 20 0).L.verb = "CALL" from v4)]; decide), if_neg (by show ¬ CS.cl = CS.fn; decide)]
      rw [eT] at fr
      cases fr with
      | rang e => exact absurd e (by decide)
      | rang2 e => exact absurd e (by decide)
      | failed e e2 => exact absurd rfl e2
      | @yes t9 e =>
        have hp9 := leg_p c9
        have hk := fun R H' a b c d => k R H' a b c d
        subst hR1
        refine ⟨_, rfl, x, dy, _, rfl, hp9, rfl, _, rfl, c9, i9, fun ev H10 r10 i10 => ⟨_, rfl, ?_⟩⟩
        refine hk _ H10 ⟨rfl, rfl, rfl, rfl, rfl, rfl, rfl, rfl, rfl, rfl, rfl, ?_, rfl, rfl, rfl, _, rfl, rfl, v4, rfl, rfl⟩ (Cells.tail r10.c) i10 (k9'.run r10).tail
        show 0 + check = check
        omega
    · exact absurd v4 nv

end K19
set_option maxHeartbeats 4000000
set_option pp.maxSteps 400
namespace K19
open PySem PySem.Spec PyProof.Rows L2 SX TK TKS TKC
open C8 (pe_c)
/-! ### the law's world -/
structure Wd where
  w : Addr
  la : Addr
  lb : Addr
  g : Int
  ls : List Addr
  op : V
  ws : List V
  lv : V
  ov : Bool
def wdL (W : Wd) : List V := [.int W.g, .ref W.la, W.op, .ref W.lb, W.lv, .bl W.ov]
def wdM (W : Wd) : List Cell := [(W.w, .lst (wdL W)), (W.la, .lst (W.ls.map V.ref)), (W.lb, .lst W.ws)]
def nextW (W : Wd) : Wd := match W.ws with
  | [] => W
  | v :: r => if W.op = .non then { W with op := v, ws := r } else W
def nextD (W : Wd) : List V := match W.ws with
  | [] => []
  | v :: _ => if W.op = .non then [v] else []
theorem dnon (x : V) : decide (x = .non) = true ↔ x = .non := decide_eq_true_iff
def spNext (K : PySem.W.Frag) : Sp := fun vs H Q _ => ∃ (W : Wd) (dl : Addr) (ds : List V), vs = [.ref W.w, .ref dl] ∧ Cells H (wdM W ++ [(dl, .lst ds)]) ∧ ds.length < 100000 ∧ W.ws.length < 100000 ∧
  ∀ H', Run H (wdM W ++ [(dl, .lst ds)]) H' (wdM (nextW W) ++ [(dl, .lst (ds ++ nextD W))]) → Q .non H'
theorem ok_law_next {P : Program} {w : World} {K : PySem.W.Frag} {mg : Str → Option Value} {base : Heap} {f : Addr} {fd : FuncData} (T : Tx K mg) 
    (F : FunD K "_law_next" "_law_next" (defArgs s_law_next) (defBody s_law_next) (defScope s_law_next) [] [] f fd) : FnOk P w K mg base CX0 1 f fd ["world", "due"] (spNext K) := by
  refine F.ok sc_law_next (fun vs H Q E h => ?_) (fun cdv A outer s0 H vs Q E hr h => ?_)
  · obtain ⟨W, dl, ds, rfl, _⟩ := h
    rfl
  · obtain ⟨W, dl, ds, rfl, hc, hn, hm, k⟩ := h
    have hw : H W.w = some (.lst (wdL W)) := hc.get (by simp [wdM])
    have hb : H W.lb = some (.lst W.ws) := hc.get (by simp [wdM])
    have hd : H dl = some (.lst ds) := hc.get (by simp [wdM])
    have r0 := Run.refl hc
    refine ⟨_, PSs.nox (pss_one (ps_if (PW.pt (pw_and (pt_cmpR op_isN (pe_ix ix_list (pv 0) pe_int (fun _ _ => rfl)) pe_non (nomark _)) (pw_and1 (pt_cmpR op_gt (pe_callB call_len_seq rfl T.f_len PySem.boot_len (pa_cons (pe_ix ix_list (pv 0) pe_int (fun _ _ => rfl)) pa_nil)) pe_int (nomark _))))) (pss_cons (ps_asg (pe_bm PySem.F.plainAttrs_list PySem.F.slot_list_pop PySem.F.type_list_pop mt_popAt (pe_ix ix_list (pv 0) pe_int (fun _ _ => rfl)) (pa_cons pe_int pa_nil)) (pg_sub (pv 0) pe_int set_list)) (pss_one (ps_expr (pe_bm PySem.F.plainAttrs_list PySem.F.slot_list_append PySem.F.type_list_append mt_append (pv 1) (pa_cons (pe_ix ix_list (pv 0) pe_int (fun _ _ => rfl)) pa_nil))))) pss_nil)), ?_⟩
    refine ⟨_, rfl, W.w, _, 2, W.op, rfl, rfl, SqL.of hw, rfl, ?_⟩
    refine ⟨rfl, _, rfl, ?_⟩
    have stay : nextW W = W → nextD W = [] → Q .non H := fun e1 e2 => k H (by rw [e1, e2, List.append_nil]; exact r0)
    by_cases e : W.op = .non
    · rw [decide_eq_true e]
      refine iteT ⟨_, rfl, W.w, _, 3, .ref W.lb, rfl, rfl, SqL.of hw, rfl, W.lb, _, rfl, .inl (SqL.of hb), _, _, rfl, rfl, _, rfl, ?_⟩
      cases ew : W.ws with
      | nil => exact iteF (stay (by unfold nextW; rw [ew]) (by unfold nextD; rw [ew]))
      | cons v r =>
        rw [decide_eq_true (by rw [List.length_cons]; omega)]
        rw [ew] at hb
        refine iteT ⟨_, rfl, W.w, _, 3, .ref W.lb, rfl, rfl, SqL.of hw, rfl, .inl ⟨rfl, _, SqL.of hb⟩, W.lb, _, 0, 0, v, rfl, rfl, hb, by decide, by decide, sqC _ _, rfl, ?_⟩
        have r1 := Run.set (A := [(W.w, .lst (wdL W)), (W.la, .lst (W.ls.map V.ref))]) (a := W.lb) (o := .lst W.ws) (B := [(dl, .lst ds)]) (o' := .lst r) r0 rfl
        have hw1 : (upd H W.lb (.lst r)) W.w = some (.lst (wdL W)) := r1.c.get (by simp)
        refine ⟨_, rfl, W.w, _, 2, 2, rfl, rfl, hw1, rfl, ?_⟩
        have r2 := Run.set (A := []) (a := W.w) (o := .lst (wdL W)) (B := [(W.la, .lst (W.ls.map V.ref)), (W.lb, .lst r), (dl, .lst ds)]) (o' := .lst (wdL { W with op := v, ws := r })) r1 rfl
        change Run H _ (upd (upd H W.lb (.lst r)) W.w (.lst ((wdL W).set 2 v))) _ at r2
        have hd2 : (upd (upd H W.lb (.lst r)) W.w (.lst ((wdL W).set 2 v))) dl = some (.lst ds) := r2.c.get (by simp)
        have hw2 : (upd (upd H W.lb (.lst r)) W.w (.lst ((wdL W).set 2 v))) W.w = some (.lst (wdL { W with op := v, ws := r })) := r2.c.get (by simp)
        refine ⟨_, rfl, .inl ⟨rfl, _, SqL.of hd2⟩, _, rfl, W.w, _, 2, v, rfl, rfl, SqL.of hw2, rfl, dl, _, _, rfl, rfl, hd2, Nat.lt_of_lt_of_le hn (by decide), ?_⟩
        have r3 := Run.set (A := [(W.w, .lst (wdL { W with op := v, ws := r })), (W.la, .lst (W.ls.map V.ref)), (W.lb, .lst r)]) (a := dl) (o := .lst ds) (B := []) (o' := .lst (ds ++ [v])) r2 rfl
        have eW : nextW W = { W with op := v, ws := r } := by unfold nextW; rw [ew]; exact if_pos e
        have eD : nextD W = [v] := by unfold nextD; rw [ew]; exact if_pos e
        exact k _ (by rw [eW, eD]; exact r3)
    · rw [decide_eq_false e]
      refine iteF (iteF (stay ?_ ?_))
      · unfold nextW
        cases W.ws with
        | nil => rfl
        | cons v r => exact if_neg e
      · unfold nextD
        cases W.ws with
        | nil => rfl
        | cons v r => exact if_neg e

end K19
set_option maxHeartbeats 4000000
set_option pp.maxSteps 400
namespace K19
open PySem PySem.Spec PyProof.Rows L2 SX TK TKS TKC
open C8 (pe_c)
/-! ### what was sent is what was due -/
structure LR where
  a : Addr
  L : Ltr
  o : Option Off
theorem shaped_of {d : PyData} (h : d.canLay0 = true) (l : d.depth ≤ 9) : SeqAt.shaped d = true := by
  unfold SeqAt.shaped
  rw [h, Bool.true_and, decide_eq_true_eq]
  omega
/-- a letter's row -/
def rowV (x : LR) : Str × V :=
  if x.L.verb = "TURN" then ("TURN", match x.o with
    | some u => .int u.port
    | none => .non) else if x.L.verb = "MOVE" then ("MOVE", x.L.goal) else ("LIVE", .int 0)
structure LtA (K : PySem.W.Frag) (H : Hp) (x : LR) : Prop where
  at_ : LetAt K H x.a x.L
  of : OffO H x.L.offer x.o
  tn : x.L.verb = "TURN" → ∃ u, x.o = some u
theorem LtA.im {K : PySem.W.Frag} {H H' : Hp} {x : LR} (h : LtA K H x) (s : Im H H') : LtA K H' x := ⟨h.at_.im s, h.of.im s, h.tn⟩
def RwV (H : Hp) : List Addr → List (Str × V) → Prop
  | [], [] => True
  | t :: ts, z :: zs => H t = some (.tup [.str z.1, z.2]) ∧ RwV H ts zs
  | _, _ => False
theorem RwV.im {H H' : Hp} (s : Im H H') : ∀ {ts : List Addr} {zs : List (Str × V)}, RwV H ts zs → RwV H' ts zs
  | [], [], _ => trivial
  | _ :: _, _ :: _, h => ⟨s _ _ h.1 rfl, h.2.im s⟩
  | [], _ :: _, h => h.elim
  | _ :: _, [], h => h.elim
theorem RwV.len {H : Hp} : ∀ {ts : List Addr} {zs : List (Str × V)}, RwV H ts zs → ts.length = zs.length
  | [], [], _ => rfl
  | _ :: _, _ :: _, h => congrArg (· + 1) h.2.len
  | [], _ :: _, h => h.elim
  | _ :: _, [], h => h.elim
theorem RwV.snoc {H : Hp} {t : Addr} {z : Str × V} (e : H t = some (.tup [.str z.1, z.2])) : ∀ {ts : List Addr} {zs : List (Str × V)}, RwV H ts zs → RwV H (ts ++ [t]) (zs ++ [z])
  | [], [], _ => ⟨e, trivial⟩
  | _ :: _, _ :: _, h => ⟨h.1, RwV.snoc e h.2⟩
  | [], _ :: _, h => h.elim
  | _ :: _, [], h => h.elim
/-- the rows' values are plain data -/
def vD : V → PyData
  | .int i => .int i
  | .str z => .str z
  | _ => .none
def PlV (x : V) : Prop := (∃ i, x = .int i) ∨ (∃ z : Str, x = .str z ∧ PyData.strOk z = true)
def rowD (z : Str × V) : PyData := .tuple [.str z.1, vD z.2]
def RowOk (z : Str × V) : Prop := PyData.strOk z.1 = true ∧ PlV z.2
theorem PlV.ok {x : V} (h : PlV x) : (vD x).canLay0 = true ∧ (vD x).depth = 0 := by
  rcases h with ⟨i, rfl⟩ | ⟨z, rfl, h⟩
  · simp [vD, PyData.canLay0, PyData.depth]
  · simp [vD, PyData.canLay0, PyData.depth, h]
theorem rowsD_ok : ∀ {zs : List (Str × V)}, (∀ z ∈ zs, RowOk z) → PyData.canLayAll0 (zs.map rowD) = true ∧ PyData.depthAll (zs.map rowD) ≤ 1
  | [], _ => by simp [PyData.canLayAll0, PyData.depthAll]
  | z :: zs, h => by
    obtain ⟨a1, a2⟩ := rowsD_ok (fun y m => h y (List.mem_cons_of_mem _ m))
    obtain ⟨b1, b2⟩ := (h z (List.mem_cons_self ..)).2.ok
    have b3 := (h z (List.mem_cons_self ..)).1
    simp [PyData.canLayAll0, PyData.depthAll, rowD, PyData.canLay0, PyData.depth, a1, b1, b2, b3]
    omega
theorem RwV.dp {K : PySem.W.Frag} {H : Hp} : ∀ {ts : List Addr} {zs : List (Str × V)}, RwV H ts zs → (∀ z ∈ zs, RowOk z) → DpAll K H (ts.map V.ref) (zs.map rowD)
  | [], [], _, _ => .nil
  | t :: ts, z :: zs, h, hz => by
    refine .cons (.tup (SqT.of h.1) (.cons (.str _) (.cons ?_ .nil))) (RwV.dp h.2 fun y m => hz y (List.mem_cons_of_mem _ m))
    rcases (hz z (List.mem_cons_self ..)).2 with ⟨i, e⟩ | ⟨y, e, _⟩
    · rw [e]; exact .int i
    · rw [e]; exact .str y
  | [], _ :: _, h, _ => h.elim
  | _ :: _, [], h, _ => h.elim
/-- world[1] holds the letters xs, due the rows ds -/
def spSentRight (K : PySem.W.Frag) : Sp := fun vs H Q _ => ∃ (W : Wd) (xs : List LR) (dl : Addr) (ts : List Addr), vs = [.ref W.w, .ref dl] ∧ H W.w = some (.lst (wdL W)) ∧ H W.la = some (.lst (xs.map fun x => V.ref x.a)) ∧ (∀ x ∈ xs, LtA K H x) ∧ xs.length < 100000 ∧
  H dl = some (.lst (ts.map V.ref)) ∧ RwV H ts (xs.map rowV) ∧ (∀ x ∈ xs, RowOk (rowV x)) ∧ ∀ H', Same H H' → Q (.bl true) H'
theorem ok_law_sent_right {P : Program} {w : World} {K : PySem.W.Frag} {mg : Str → Option Value} {base : Heap} {f : Addr} {fd : FuncData} (T : Tx K mg) 
    (F : FunD K "_law_sent_right" "_law_sent_right" (defArgs s_law_sent_right) (defBody s_law_sent_right) (defScope s_law_sent_right) [] [] f fd) : FnOk P w K mg base CX0 1 f fd ["world", "due"] (spSentRight K) := by
  refine F.ok sc_law_sent_right (fun vs H Q E h => ?_) (fun cdv A outer s0 H vs Q E hr h => ?_)
  · obtain ⟨W, xs, dl, ts, rfl, _⟩ := h
    rfl
  · obtain ⟨W, xs, dl, ts, rfl, hw, hl, hx, hn, hd, hr_, hok, k⟩ := h
    refine ⟨_, PSs.nox (pss_cons (ps_set (i := 2) sc_law_sent_right.nd rfl (Or.inl rfl) (pe_lst pa_nil)) (pss_cons (ps_for PassesOwn.never rfl (pi_list (pe_ix ix_list (pv 0) pe_int (fun _ _ => rfl))) (pg_name (i := 3) sc_law_sent_right.nd rfl (Or.inl rfl)) (pss_one (ps_if (pt_cmpR op_eq (pe_fldC rfl T.cl_Letter T.na_Letter_verb (pv 3) rfl) pe_str (nomark _)) (pss_one (ps_expr (pe_bm PySem.F.plainAttrs_list PySem.F.slot_list_append PySem.F.type_list_append mt_append (pv 2) (pa_cons (pe_tup (pa_cons pe_str (pa_cons (pe_ix ix_tup (pe_fldC rfl T.cl_Letter T.na_Letter_offer (pv 3) rfl) pe_int (fun _ _ => rfl)) pa_nil))) pa_nil)))) (pss_one (ps_if (pt_cmpR op_eq (pe_fldC rfl T.cl_Letter T.na_Letter_verb (pv 3) rfl) pe_str (nomark _)) (pss_one (ps_expr (pe_bm PySem.F.plainAttrs_list PySem.F.slot_list_append PySem.F.type_list_append mt_append (pv 2) (pa_cons (pe_tup (pa_cons pe_str (pa_cons (pe_fldC rfl T.cl_Letter T.na_Letter_goal (pv 3) rfl) pa_nil))) pa_nil)))) (pss_one (ps_expr (pe_bm PySem.F.plainAttrs_list PySem.F.slot_list_append PySem.F.type_list_append mt_append (pv 2) (pa_cons (pe_tup (pa_cons pe_str (pa_cons pe_int pa_nil))) pa_nil))))))))) (pss_one (ps_ret (pe_cmpR (op_eqD hr.units) (pv 2) (pv 1) (nomark _)))))), ?_⟩
    refine ⟨by show 0 ≤ sizeLine; decide, fun S hS => ?_⟩
    have s1 := same_upd (o := .lst []) hS
    have e1 : (upd H S (.lst [])) S = some (.lst []) := upd_same
    generalize (upd H S (.lst [])) = H1 at s1 e1 ⊢
    refine ⟨_, rfl, W.w, _, 1, .ref W.la, rfl, rfl, SqL.of (s1 _ _ hw), rfl, W.la, rfl, ⟨_, SqL.of (s1 _ _ hl)⟩, for_list (K := K) (a := W.la) (xs := xs.map fun x => V.ref x.a) (fun i σ H' => ∃ (ss : List Addr) (v3 : Option V), σ = [some (.ref W.w), some (.ref dl), some (.ref S), v3] ∧ Same H H' ∧ H' S = some (.lst (ss.map V.ref)) ∧ RwV H' ss ((xs.take i).map rowV)) ⟨[], none, rfl, s1, e1, trivial⟩ (fun i σ H' _ ⟨ss, v3, _, s2, _⟩ => SqL.of (s2 _ _ hl)) ?_ ?_⟩
    · rintro i x σ H2 hi1 ⟨ss, v3, rfl, s2, e2, w2⟩
      rw [List.getElem?_map] at hi1
      obtain ⟨y, hy, rfl⟩ := Option.map_eq_some_iff.mp hi1
      obtain ⟨hlt, ey⟩ := List.getElem?_eq_some_iff.mp hy
      have my : y ∈ xs := List.mem_of_getElem? hy
      have et : xs.take (i + 1) = xs.take i ++ [y] := by rw [List.take_succ_eq_append_getElem hlt, ey]
      have hyl := (hx y my).im (Im.of_same s2)
      obtain ⟨dy, hya⟩ := id hyl.at_
      have lss := w2.len
      rw [List.length_map, List.length_take] at lss
      have fin : ∀ (t : Addr), H2 t = none → ∀ xv : List V, xv = [.str (rowV y).1, (rowV y).2] → (upd H2 t (.tup xv)) S = some (.lst (ss.map V.ref)) ∧ (ss.map V.ref).length < sizeLine ∧ (∃ (ss2 : List Addr), Same H (upd (upd H2 t (.tup xv)) S (.lst (ss.map V.ref ++ [.ref t]))) ∧ (upd (upd H2 t (.tup xv)) S (.lst (ss.map V.ref ++ [.ref t]))) S = some (.lst (ss2.map V.ref)) ∧ RwV (upd (upd H2 t (.tup xv)) S (.lst (ss.map V.ref ++ [.ref t]))) ss2 ((xs.take (i + 1)).map rowV)) := by
        rintro t ht xv rfl
        have s3 := same_upd (o := .tup [.str (rowV y).1, (rowV y).2]) ht
        have e3 := s3 _ _ e2
        have et3 : (upd H2 t (.tup [.str (rowV y).1, (rowV y).2])) t = some (.tup [.str (rowV y).1, (rowV y).2]) := upd_same
        refine ⟨e3, ?_, ss ++ [t], TK.Same.upd_of (s2.trans s3) hS, ?_, ?_⟩
        · rw [List.length_map]
          exact Nat.lt_of_le_of_lt (by omega : _ ≤ 100000) (by decide)
        · rw [upd_same, List.map_append]
          rfl
        · have im3 : Im (upd H2 t (.tup [.str (rowV y).1, (rowV y).2])) (upd (upd H2 t (.tup [.str (rowV y).1, (rowV y).2])) S (.lst (ss.map V.ref ++ [.ref t]))) := fun b o e i => by
            by_cases q : b = S
            · rw [q, e3] at e; cases e; cases i
            · rw [upd_ne q]; exact e
          rw [et, List.map_append]
          exact RwV.snoc (im3 _ _ et3 rfl) ((w2.im (Im.of_same s3)).im im3)
      refine ⟨_, rfl, y.a, dy, _, _, rfl, hya, rfl, rfl, _, rfl, ?_⟩
      rw [vstr]
      by_cases v1 : y.L.verb = "TURN"
      · rw [decide_eq_true v1]
        obtain ⟨u, eu⟩ := hyl.tn v1
        have hof := hyl.of
        rw [eu] at hof
        obtain ⟨p, f, eo, h1, h2⟩ := hof
        refine iteT ⟨_, rfl, .inl ⟨rfl, _, SqL.of e2⟩, _, rfl, y.a, dy, _, _, rfl, hya, rfl, p, _, 0, .int u.port, eo, rfl, SqT.of h1, rfl, by show 2 ≤ sizeLine; decide, fun t ht => ?_⟩
        obtain ⟨f1, f2, ss2, f3, f4, f5⟩ := fin t ht [.str "TURN", .int u.port] (by unfold rowV; rw [if_pos v1, eu])
        exact ⟨S, _, _, rfl, rfl, f1, f2, ss2, _, rfl, f3, f4, f5⟩
      · rw [decide_eq_false v1]
        refine iteF ⟨_, rfl, y.a, dy, _, _, rfl, hya, rfl, rfl, _, rfl, ?_⟩
        rw [vstr]
        by_cases v2 : y.L.verb = "MOVE"
        · rw [decide_eq_true v2]
          refine iteT ⟨_, rfl, .inl ⟨rfl, _, SqL.of e2⟩, _, rfl, y.a, dy, _, _, rfl, hya, rfl, by show 2 ≤ sizeLine; decide, fun t ht => ?_⟩
          obtain ⟨f1, f2, ss2, f3, f4, f5⟩ := fin t ht [.str "MOVE", y.L.goal] (by unfold rowV; rw [if_neg v1, if_pos v2])
          exact ⟨S, _, _, rfl, rfl, f1, f2, ss2, _, rfl, f3, f4, f5⟩
        · rw [decide_eq_false v2]
          refine iteF ⟨_, rfl, .inl ⟨rfl, _, SqL.of e2⟩, by show 2 ≤ sizeLine; decide, fun t ht => ?_⟩
          obtain ⟨f1, f2, ss2, f3, f4, f5⟩ := fin t ht [.str "LIVE", .int 0] (by unfold rowV; rw [if_neg v1, if_neg v2])
          exact ⟨S, _, _, rfl, rfl, f1, f2, ss2, _, rfl, f3, f4, f5⟩
    · rintro σ H2 ⟨ss, v3, rfl, s2, e2, w2⟩
      rw [List.length_map, List.take_length] at w2
      obtain ⟨c1, c2⟩ := rowsD_ok (zs := xs.map rowV) (fun z m => by obtain ⟨x, mx, rfl⟩ := List.mem_map.mp m; exact hok x mx)
      have dd : SeqAt.shaped (.list ((xs.map rowV).map rowD)) = true := shaped_of (by simp only [PyData.canLay0]; exact c1) (by simp only [PyData.depth]; omega)
      have hz : ∀ z ∈ xs.map rowV, RowOk z := fun z m => by obtain ⟨x, mx, rfl⟩ := List.mem_map.mp m; exact hok x mx
      refine ⟨_, rfl, _, rfl, _, _, .lst (SqL.of e2) (w2.dp hz), .lst (SqL.of (s2 _ _ hd)) ((hr_.im (Im.of_same s2)).dp hz), dd, dd, ?_⟩
      rw [SeqAt.eqv_refl _ (by simp only [PyData.canLay0]; exact c1)]
      exact k H2 s2

end K19
set_option maxHeartbeats 4000000
set_option pp.maxSteps 400
namespace K19
open PySem PySem.Spec PyProof.Rows L2 SX TK TKS TKC
open C8 (pe_c)
/-! ### the law takes what is sent -/
abbrev GL := Ltr × Option Off × Option Int
def rowG (g : GL) : Str × Str := ("q", textOf (linesX g.1 g.2.1))
def LtsI (K : PySem.W.Frag) (H : Hp) : List Addr → List GL → Prop
  | [], [] => True
  | b :: bs, g :: gs => (∃ x, LetAt K H b { g.1 with offer := x } ∧ OffO H x g.2.1) ∧ LtsI K H bs gs
  | _, _ => False
theorem LtsI.im {K : PySem.W.Frag} {H H' : Hp} (s : Im H H') : ∀ {bs : List Addr} {gs : List GL}, LtsI K H bs gs → LtsI K H' bs gs
  | [], [], _ => trivial
  | _ :: _, _ :: _, ⟨⟨x, h1, h2⟩, h⟩ => ⟨⟨x, h1.im s, h2.im s⟩, h.im s⟩
  | [], _ :: _, h => h.elim
  | _ :: _, [], h => h.elim
theorem LtsI.len {K : PySem.W.Frag} {H : Hp} : ∀ {bs : List Addr} {gs : List GL}, LtsI K H bs gs → bs.length = gs.length
  | [], [], _ => rfl
  | _ :: _, _ :: _, h => congrArg (· + 1) h.2.len
  | [], _ :: _, h => h.elim
  | _ :: _, [], h => h.elim
theorem LtsI.snoc {K : PySem.W.Frag} {H : Hp} {b : Addr} {g : GL} (k : ∃ x, LetAt K H b { g.1 with offer := x } ∧ OffO H x g.2.1) : ∀ {bs : List Addr} {gs : List GL}, LtsI K H bs gs → LtsI K H (bs ++ [b]) (gs ++ [g])
  | [], [], _ => ⟨k, trivial⟩
  | _ :: _, _ :: _, h => ⟨h.1, LtsI.snoc k h.2⟩
  | [], _ :: _, h => h.elim
  | _ :: _, [], h => h.elim
theorem RwI.at {H : Hp} : ∀ {ts : List Addr} {zs : List (Str × Str)} (i : Nat) (t : Addr), RwI H ts zs → ts[i]? = some t → ∃ z, zs[i]? = some z ∧ H t = some (.tup [.str z.1, .str z.2])
  | t' :: _, z :: _, 0, t, h, e => ⟨z, rfl, by cases e; exact h.1⟩
  | _ :: _, _ :: _, i + 1, t, h, e => RwI.at i t h.2 e
  | [], [], _, _, _, e => nomatch e
  | [], _ :: _, _, _, h, _ => h.elim
  | _ :: _, [], _, _, h, _ => h.elim
def asksL (L : Ltr) : Bool := decide (L.code = .non) && decide (L.verb ∈ (["TURN", "MOVE", "LIVE"] : List Str))
def stepT (p : Int × List GL) (x : GL) : Int × List GL := if asksL x.1 = true ∧ x.1.seq = p.1 + 1 then (p.1 + 1, p.2 ++ [x]) else p
def takeT (g : Int) (gs : List GL) : Int × List GL := gs.foldl stepT (g, [])
theorem takeT_snoc (g : Int) (gs : List GL) (x : GL) : takeT g (gs ++ [x]) = stepT (takeT g gs) x := List.foldl_append
def wayOk (L : Ltr) : Prop := L.way = "x1w" ++ numS L.seq
/-- each row is skipped, or the next one, or an old one -/
def TakeOk (g : Int) (gs : List GL) : Prop := ∀ i x, gs[i]? = some x → asksL x.1 = true → 0 ≤ x.1.seq ∧ x.1.seq < 1000000 ∧ wayOk x.1 ∧ x.1.seq ≤ (takeT g (gs.take i)).1 + 1
def spTakeW (K : PySem.W.Frag) : Sp := fun vs H Q _ => ∃ (W : Wd) (r : Addr) (ts : List Addr) (gs : List GL), vs = [.ref r, .ref W.w] ∧ H r = some (.lst (ts.map V.ref)) ∧ RwI H ts (gs.map rowG) ∧ (∀ g ∈ gs, GLet g.1 g.2.1 g.2.2) ∧ gs.length ≤ 10000 ∧ W.ls.length ≤ 10000 ∧ Cells H (wdM W) ∧ r ∉ keys (wdM W) ∧ TakeOk W.g gs ∧
  ∀ bs H', Run H (wdM W) H' (wdM { W with g := (takeT W.g gs).1, ls := W.ls ++ bs }) → LtsI K H' bs (takeT W.g gs).2 → Q (.bl true) H'
theorem ok_law_take {P : Program} {w : World} {K : PySem.W.Frag} {mg : Str → Option Value} {base : Heap} {f : Addr} {fd : FuncData} (T : Tx K mg) (c_read : C8.Cal P w K mg base 7 "read" (spReadL K) [])
    (F : FunD K "_law_take" "_law_take" (defArgs s_law_take) (defBody s_law_take) (defScope s_law_take) [] [] f fd) : FnOk P w K mg base CX0 8 f fd ["rows", "world"] (spTakeW K) := by
  refine F.ok sc_law_take (fun vs H Q E h => ?_) (fun cdv A outer s0 H vs Q E hr h => ?_)
  · obtain ⟨W, r, ts, gs, rfl, _⟩ := h
    rfl
  · obtain ⟨W, r, ts, gs, rfl, hr0, hw, hg, hn, hm, hc, hrk, hok, k⟩ := h
    have hl : ts.length = gs.length := by rw [hw.len, List.length_map]
    refine ⟨_, PSs.nox (pss_cons (ps_for PassesOwn.never rfl (pi_list (pv 0)) (pg_tup rfl (pgs_cons (pg_name (i := 2) sc_law_take.nd rfl (Or.inl rfl)) (pgs_cons (pg_name (i := 3) sc_law_take.nd rfl (Or.inl rfl)) pgs_nil))) (pss_cons (ps_set (i := 4) sc_law_take.nd rfl (Or.inl rfl) (pe_c c_read hr (by decide) rfl (pa_cons (pv 3) pa_nil))) (C8.pss_cut (ps_if (PW.pt (pw_or (pt_cmpR op_notN (pe_fldC rfl T.cl_Letter T.na_Letter_code (pv 4) rfl) pe_non (nomark _)) (pw_or1 (pt_cmpR op_notIn_seq (pe_fldC rfl T.cl_Letter T.na_Letter_verb (pv 4) rfl) (pe_lst (pa_cons pe_str (pa_cons pe_str (pa_cons pe_str pa_nil)))) (by with_unfolding_all rfl))))) (pss_one ps_continue) pss_nil) (pss_one (ps_if (PW.pt (pw_and (pt_cmpR op_eq (pe_fldC rfl T.cl_Letter T.na_Letter_seq (pv 4) rfl) (pe_op op_add (pe_ix ix_list (pv 1) pe_int (fun _ _ => rfl)) pe_int) (nomark _)) (pw_and1 (pt_cmpR op_eq (pe_fldC rfl T.cl_Letter T.na_Letter_way (pv 4) rfl) (pe_op op_add_str pe_str (pe_callTy call_str_int rfl T.f_str (by decide +kernel) (pa_cons (pe_fldC rfl T.cl_Letter T.na_Letter_seq (pv 4) rfl) pa_nil))) (nomark _))))) (pss_cons (ps_asg (pe_fldC rfl T.cl_Letter T.na_Letter_seq (pv 4) rfl) (pg_sub (pv 1) pe_int set_list)) (pss_cons (ps_set (i := 5) sc_law_take.nd rfl (Or.inl rfl) (pe_ix ix_list (pv 1) pe_int (fun _ _ => rfl))) (pss_one (ps_expr (pe_bm PySem.F.plainAttrs_list PySem.F.slot_list_append PySem.F.type_list_append mt_append (pv 5) (pa_cons (pv 4) pa_nil)))))) (pss_one (ps_if (pt_cmpR op_gt (pe_fldC rfl T.cl_Letter T.na_Letter_seq (pv 4) rfl) (pe_ix ix_list (pv 1) pe_int (fun _ _ => rfl)) (nomark _)) (pss_one (ps_ret pe_bl)) pss_nil))))))) (pss_one (ps_ret pe_bl))), ?_⟩
    refine ⟨_, rfl, r, rfl, ⟨_, SqL.of hr0⟩, for_list (K := K) (a := r) (xs := ts.map V.ref) (fun i σ H' => ∃ (bs : List Addr) (v2 v3 v4 v5 : Option V), σ = [some (.ref r), some (.ref W.w), v2, v3, v4, v5] ∧ bs.length ≤ i ∧ Run H (wdM W) H' (wdM { W with g := (takeT W.g (gs.take i)).1, ls := W.ls ++ bs }) ∧ LtsI K H' bs (takeT W.g (gs.take i)).2 ∧ H' r = some (.lst (ts.map V.ref)) ∧ r ∉ keys (wdM { W with g := (takeT W.g (gs.take i)).1, ls := W.ls ++ bs })) ⟨[], none, none, none, none, rfl, Nat.le_refl 0, by rw [List.append_nil]; exact Run.refl hc, trivial, hr0, hrk⟩ (fun i σ H' _ ⟨bs, v2, v3, v4, v5, _, _, _, _, e, _⟩ => SqL.of e) ?_ ?_⟩
    · rintro i x σ H2 hi1 ⟨bs, v2, v3, v4, v5, rfl, hb, r2, l2, er2, nr2⟩
      rw [List.getElem?_map] at hi1
      obtain ⟨t, ht, rfl⟩ := Option.map_eq_some_iff.mp hi1
      obtain ⟨z, hz, et⟩ := RwI.at i t hw ht
      rw [List.getElem?_map] at hz
      obtain ⟨y, hy, rfl⟩ := Option.map_eq_some_iff.mp hz
      obtain ⟨hlt, ey⟩ := List.getElem?_eq_some_iff.mp hy
      have my : y ∈ gs := List.mem_of_getElem? hy
      have ett : gs.take (i + 1) = gs.take i ++ [y] := by rw [List.take_succ_eq_append_getElem hlt, ey]
      have et1 := r2.im _ _ et rfl
      refine ⟨t, _, rfl, SqT.of et1, rfl, _, _, rfl, _, _, rfl, rfl, ?_⟩
      refine ⟨_, rfl, y.1, y.2.1, y.2.2, rfl, hg y my, fun a x H3 s3 ha ho hle => ?_⟩
      have r3 := r2.same s3
      have l3 := l2.im (Im.of_same s3)
      have er3 := s3 _ _ er2
      rw [ett, takeT_snoc]
      have hoky := hok i y hy
      generalize takeT W.g (gs.take i) = T0 at *
      obtain ⟨dy, hya⟩ := id hle
      have skip : ∀ H', Same H3 H' → (stepT T0 y = T0) → ∃ (bs : List Addr), bs.length ≤ i + 1 ∧ Run H (wdM W) H' (wdM { W with g := (stepT T0 y).1, ls := W.ls ++ bs }) ∧ LtsI K H' bs (stepT T0 y).2 ∧ H' r = some (.lst (ts.map V.ref)) ∧ r ∉ keys (wdM { W with g := (stepT T0 y).1, ls := W.ls ++ bs }) := fun H' s' e => by
        rw [e]
        exact ⟨bs, Nat.le_succ_of_le hb, r3.same s', l3.im (Im.of_same s'), s' _ _ er3, nr2⟩
      refine ⟨fun σ' H' => σ' = [some (.ref r), some (.ref W.w), some (.str (rowG y).1), some (.str (rowG y).2), some (.ref a), v5] ∧ Same H3 H' ∧ asksL y.1 = true, ⟨_, rfl, a, dy, _, _, rfl, hya, rfl, rfl, _, rfl, ?_⟩, ?_⟩
      · by_cases e : y.1.code = .non
        · have e1 : ({ y.1 with offer := x } : Ltr).code = .non := e
          rw [e1]
          refine iteF ⟨_, rfl, a, dy, _, _, rfl, hya, rfl, by show 3 ≤ sizeLine; decide, fun l hl => ⟨_, _, rfl, .inl (SqL.of upd_same), rfl, rfl, _, rfl, ?_⟩⟩
          have s4 := same_upd (o := .lst [.str "TURN", .str "MOVE", .str "LIVE"]) hl
          have e2 : inV (V.str y.1.verb) [.str "TURN", .str "MOVE", .str "LIVE"] = decide (y.1.verb ∈ (["TURN", "MOVE", "LIVE"] : List Str)) := inV_strs y.1.verb ["TURN", "MOVE", "LIVE"]
          show (if (!inV (V.str y.1.verb) [.str "TURN", .str "MOVE", .str "LIVE"]) = true then _ else _)
          rw [e2]
          cases e3 : decide (y.1.verb ∈ (["TURN", "MOVE", "LIVE"] : List Str)) with
          | true => exact iteF ⟨rfl, s4, by unfold asksL; rw [e3, decide_eq_true e]; rfl⟩
          | false =>
            obtain ⟨bs2, q⟩ := skip _ s4 (by unfold stepT asksL; rw [e3, Bool.and_false]; exact if_neg (fun q => nomatch q.1))
            exact iteT ⟨bs2, _, _, _, _, rfl, q⟩
        · have e1 : decide (({ y.1 with offer := x } : Ltr).code = .non) = false := decide_eq_false e
          rw [e1]
          obtain ⟨bs2, q⟩ := skip H3 (Same.refl H3) (by unfold stepT asksL; rw [decide_eq_false e, Bool.false_and]; exact if_neg (fun q => nomatch q.1))
          exact iteT (iteT ⟨bs2, _, _, _, _, rfl, q⟩)
      rintro σ' H4 ⟨rfl, s4, ea⟩
      obtain ⟨b0, b1, b2, b3⟩ := hoky ea
      have r4 := r3.same s4
      have l4 := l3.im (Im.of_same s4)
      have er4 := s4 _ _ er3
      have hya4 := s4 _ _ hya
      have hw4 : H4 W.w = some (.lst (wdL { W with g := T0.1, ls := W.ls ++ bs })) := r4.c.get (by simp [wdM])
      refine ⟨_, rfl, a, dy, _, _, rfl, hya4, rfl, _, rfl, W.w, _, 0, .int T0.1, rfl, rfl, SqL.of hw4, rfl, _, _, rfl, rfl, rfl, _, rfl, ?_⟩
      show (if decide (V.int y.1.seq = V.int (T0.1 + 1)) = true then _ else _)
      have dcI : ∀ p q : Int, decide (V.int p = V.int q) = decide (p = q) := dcode
      rw [dcI]
      by_cases es : y.1.seq = T0.1 + 1
      · have n1 := numS_len (i := y.1.seq) (by omega)
        rw [decide_eq_true es]
        refine iteT ⟨_, rfl, a, dy, _, _, rfl, hya4, rfl, _, rfl, a, dy, _, _, rfl, hya4, rfl, y.1.seq, rfl, numS_log (by omega), _, _, rfl, rfl, ?_, rfl, _, rfl, ?_⟩
        · show ("x1w" : Str).length + (numS y.1.seq).length ≤ sizeLine
          rw [show ("x1w" : Str).length = 3 by decide +kernel]
          exact Nat.le_trans (by omega : _ ≤ 20) (by decide)
        show (if decide (V.str y.1.way = V.str (("x1w" : Str) ++ numS y.1.seq)) = true then _ else _)
        have b2' : y.1.way = ("x1w" : Str) ++ numS y.1.seq := b2
        rw [vstr, decide_eq_true b2']
        refine iteT ⟨_, rfl, a, dy, _, _, rfl, hya4, rfl, _, rfl, W.w, _, 0, 0, rfl, rfl, hw4, rfl, ?_⟩
        have q1 := Run.set (A := []) (a := W.w) (o := .lst (wdL { W with g := T0.1, ls := W.ls ++ bs })) (B := [(W.la, .lst ((W.ls ++ bs).map V.ref)), (W.lb, .lst W.ws)]) (o' := .lst (wdL { W with g := y.1.seq, ls := W.ls ++ bs })) r4 rfl
        have hw5 : (upd H4 W.w (.lst (wdL { W with g := y.1.seq, ls := W.ls ++ bs }))) W.w = some (.lst (wdL { W with g := y.1.seq, ls := W.ls ++ bs })) := upd_same
        have hla5 : (upd H4 W.w (.lst (wdL { W with g := y.1.seq, ls := W.ls ++ bs }))) W.la = some (.lst ((W.ls ++ bs).map V.ref)) := q1.c.get (by simp)
        refine ⟨_, rfl, W.w, _, 1, .ref W.la, rfl, rfl, SqL.of hw5, rfl, ?_⟩
        refine ⟨_, rfl, .inl ⟨rfl, _, SqL.of hla5⟩, _, rfl, W.la, _, _, rfl, rfl, hla5, ?_, ?_⟩
        · rw [List.length_map, List.length_append]
          have : i < gs.length := hlt
          exact Nat.lt_of_le_of_lt (by omega : _ ≤ 100000) (by decide)
        have q2 := Run.set (A := [(W.w, .lst (wdL { W with g := y.1.seq, ls := W.ls ++ bs }))]) (a := W.la) (o := .lst ((W.ls ++ bs).map V.ref)) (B := [(W.lb, .lst W.ws)]) (o' := .lst ((W.ls ++ bs).map V.ref ++ [.ref a])) q1 rfl
        have eS : stepT T0 y = (T0.1 + 1, T0.2 ++ [y]) := if_pos ⟨ea, es⟩
        have rW : r ≠ W.w := fun z => nr2 (by rw [z]; simp [wdM, keys])
        have rA : r ≠ W.la := fun z => nr2 (by rw [z]; simp [wdM, keys])
        have imA : Im H4 (upd (upd H4 W.w (.lst (wdL { W with g := y.1.seq, ls := W.ls ++ bs }))) W.la (.lst ((W.ls ++ bs).map V.ref ++ [.ref a]))) := fun b o eb ib => by
          by_cases z1 : b = W.la
          · rw [z1] at eb
            have := r4.c.get (a := W.la) (o := .lst ((W.ls ++ bs).map V.ref)) (by simp [wdM])
            rw [this] at eb
            cases eb
            cases ib
          · rw [upd_ne z1]
            by_cases z2 : b = W.w
            · rw [z2, hw4] at eb
              cases eb
              cases ib
            · rw [upd_ne z2]
              exact eb
        rw [eS]
        refine ⟨bs ++ [a], _, _, _, _, rfl, ?_, ?_, ?_, ?_, ?_⟩
        · rw [List.length_append]
          exact Nat.add_le_add_right hb 1
        · have e1 : wdM { W with g := T0.1 + 1, ls := W.ls ++ (bs ++ [a]) } = [(W.w, .lst (wdL { W with g := y.1.seq, ls := W.ls ++ bs })), (W.la, .lst ((W.ls ++ bs).map V.ref ++ [.ref a])), (W.lb, .lst W.ws)] := by
            unfold wdM wdL
            rw [es, ← List.append_assoc, List.map_append (l₁ := W.ls ++ bs)]
            all_goals rfl
          show Run H (wdM W) _ (wdM { W with g := T0.1 + 1, ls := W.ls ++ (bs ++ [a]) })
          rw [e1]
          exact q2
        · exact LtsI.snoc ⟨x, (hle.im (Im.of_same s4)).im imA, (ho.im (Im.of_same s4)).im imA⟩ (l4.im imA)
        · rw [upd_ne rA, upd_ne rW]
          exact er4
        · exact nr2
      · rw [decide_eq_false es]
        refine iteF (iteF ⟨_, rfl, a, dy, _, _, rfl, hya4, rfl, _, rfl, W.w, _, 0, .int T0.1, rfl, rfl, SqL.of hw4, rfl, _, _, rfl, rfl, _, rfl, ?_⟩)
        show (if decide (T0.1 < y.1.seq) = true then _ else _)
        rw [decide_eq_false (by omega)]
        obtain ⟨bs2, q⟩ := skip H4 s4 (by unfold stepT; exact if_neg (fun q => es q.2))
        exact iteF ⟨bs2, _, _, _, _, rfl, q⟩
    · rintro σ H2 ⟨bs, v2, v3, v4, v5, rfl, hb, r2, l2, er2, nr2⟩
      rw [List.length_map, hl, List.take_length] at r2 l2
      exact k bs H2 r2 l2

end K19
set_option maxHeartbeats 4000000
set_option pp.maxSteps 400
namespace K19
open PySem PySem.Spec PyProof.Rows L2 SX TK TKS TKC
open C8 (pe_c)
/-! ### what is asked -/
inductive Ask where
  | turn (p : Int)
  | move (g : Str)
  | live
def Ask.verb : Ask → Str
  | .turn _ => "TURN"
  | .move _ => "MOVE"
  | .live => "LIVE"
def Ask.v : Ask → V
  | .turn p => .int p
  | .move g => .str g
  | .live => .int 0
def Ask.z (a : Ask) : Str × V := (a.verb, a.v)
def Ask.o : Ask → Option Off
  | .turn p => some (oA p)
  | _ => none
def Ask.xg : Ask → V
  | .move g => .str g
  | _ => .non
def AskOk : Ask → Prop
  | .turn p => 0 ≤ p ∧ p < 1000
  | .move g => g = "eve@x" ∨ g = "joe@x"
  | .live => True
def Ask.L (a : Ask) (n : Int) (xo : V) : Ltr := askL a.verb n n xo a.xg
/-! numbers and ways -/
theorem numS_inj {i j : Int} (h0 : 0 ≤ i) (h1 : 0 ≤ j) (h2 : i ≤ 999999) (h3 : j ≤ 999999) (h : numS i = numS j) : i = j := by
  have a := num_back h0 h2 (by omega)
  have b := num_back h1 h3 (by omega)
  have h' : Str.ofString (toString i) = Str.ofString (toString j) := h
  rw [h', b] at a
  cases a
  rfl
def wyS (n : Int) : Str := "x1w" ++ numS n
theorem way_x1 (n : Int) : wayS "x1" n = wyS n := by
  show (Str.empty ++ "x1" ++ "w") ++ numS n = _
  rw [show Str.empty ++ ("x1" : Str) ++ "w" = "x1w" by decide +kernel]
  rfl
theorem wyS_inj {i j : Int} (h0 : 0 ≤ i) (h1 : 0 ≤ j) (h2 : i ≤ 999999) (h3 : j ≤ 999999) (h : wyS i = wyS j) : i = j := by
  refine numS_inj h0 h1 h2 h3 (TL.ext_tl ?_)
  have e := congrArg TL.tl h
  unfold wyS at e
  rw [TL.tl_append, TL.tl_append] at e
  exact List.append_cancel_left e
theorem wyS_tag {n : Int} (h0 : 0 ≤ n) (h1 : n ≤ 999999) : tagB (wyS n) = true := by
  have hl := numS_len (i := n) (by omega)
  have hd : ∀ c ∈ TL.tl (numS n), c ∈ TL.tl zTM := fun c hc => by
    rw [numS_tl h0] at hc
    have hc2 := TL.numL_digits _ c hc
    have : ∀ k, k < 10 → 48 + k ∈ TL.tl zTM := by decide +kernel
    have := this (c - 48) (by omega)
    rwa [show 48 + (c - 48) = c by omega] at this
  have hx : ∀ c ∈ TL.tl ("x1w" : Str), c ∈ TL.tl zTM := by decide +kernel
  unfold tagB consB consL wyS
  rw [TL.tl_append, Bool.and_eq_true, Bool.and_eq_true, decide_eq_true_eq, decide_eq_true_eq, List.all_eq_true, List.length_append]
  rw [len_eq] at hl
  have l3 : (TL.tl ("x1w" : Str)).length = 3 := by decide +kernel
  refine ⟨⟨by omega, by omega⟩, fun c hc => decide_eq_true ?_⟩
  rcases List.mem_append.mp hc with m | m
  · exact hx c m
  · exact hd c m
theorem ask_g {a : Ask} (h : AskOk a) {n : Int} (h0 : 0 ≤ n) (h1 : n ≤ 999999) (xo : V) : GLet (a.L n xo) a.o none := by
  refine ⟨?_, rfl, (fun _ e => nomatch e), by show tagB "c1" = true; decide +kernel, by show (splitB "ann@x").isSome = true; decide +kernel, by show tagB "x1" = true; decide +kernel, by show (splitB "bob@x").isSome = true; decide +kernel, .inr ⟨by show ("y1" : Str).length ≠ 0; decide +kernel, by show tagB "y1" = true; decide +kernel⟩, h0, h1, by show tagB (wayS "x1" n) = true; rw [way_x1]; exact wyS_tag h0 h1, ?_, .inl rfl, ?_⟩
  · cases a with
    | turn p => show ("TURN" : Str) ∈ verbsL; decide +kernel
    | move g => show ("MOVE" : Str) ∈ verbsL; decide +kernel
    | live => show ("LIVE" : Str) ∈ verbsL; decide +kernel
  · intro u e
    cases a with
    | turn p => cases e; exact (oA_good h.1 (Int.le_trans (Int.le_of_lt h.2) (by decide))).off
    | move g => cases e
    | live => cases e
  · cases a with
    | turn p => exact .inl rfl
    | move g =>
      refine .inr ⟨g, rfl, ?_⟩
      rcases h with rfl | rfl <;> decide +kernel
    | live => exact .inl rfl
theorem ask_t (a : Ask) (h : a.verb = "TURN") : ∃ u, a.o = some u := by
  cases a with
  | turn p => exact ⟨_, rfl⟩
  | move g => exact absurd h (by show ¬ ("MOVE" : Str) = "TURN"; decide +kernel)
  | live => exact absurd h (by show ¬ ("LIVE" : Str) = "TURN"; decide +kernel)
theorem ask_asks (a : Ask) (n : Int) (xo : V) : asksL (a.L n xo) = true := by
  cases a with
  | turn p => show (decide (V.non = V.non) && decide (("TURN" : Str) ∈ (["TURN", "MOVE", "LIVE"] : List Str))) = true; decide +kernel
  | move g => show (decide (V.non = V.non) && decide (("MOVE" : Str) ∈ (["TURN", "MOVE", "LIVE"] : List Str))) = true; decide +kernel
  | live => show (decide (V.non = V.non) && decide (("LIVE" : Str) ∈ (["TURN", "MOVE", "LIVE"] : List Str))) = true; decide +kernel
theorem ask_way (a : Ask) (n : Int) (xo : V) : wayOk (a.L n xo) := way_x1 n
theorem vb_ne : ("TURN" : Str) ≠ "MOVE" ∧ ("LIVE" : Str) ≠ "TURN" ∧ ("LIVE" : Str) ≠ "MOVE" ∧ ("MOVE" : Str) ≠ "TURN" ∧ ("TURN" : Str) ≠ "CALL" ∧ ("MOVE" : Str) ≠ "CALL" ∧ ("LIVE" : Str) ≠ "CALL" := by decide +kernel
theorem ask_ncall (a : Ask) : a.verb ≠ "CALL" := by
  cases a
  · exact vb_ne.2.2.2.2.1
  · exact vb_ne.2.2.2.2.2.1
  · exact vb_ne.2.2.2.2.2.2
theorem ask_three (a : Ask) : a.verb ∈ (["TURN", "MOVE", "LIVE"] : List Str) := by cases a <;> simp [Ask.verb]
/-- a letter's row -/
def rowL (g : GL) : Str × V := rowV ⟨0, g.1, g.2.1⟩
theorem row_of (x : LR) (xo : V) : rowV ⟨x.a, { x.L with offer := xo }, x.o⟩ = rowV x := rfl
theorem row_ask (a : Ask) (n : Int) (xo : V) : rowL (a.L n xo, a.o, none) = a.z := by
  cases a with
  | turn p =>
    show rowV ⟨0, (Ask.turn p).L n xo, some (oA p)⟩ = (("TURN", V.int p) : Str × V)
    unfold rowV
    exact if_pos rfl
  | move g =>
    show rowV ⟨0, (Ask.move g).L n xo, none⟩ = (("MOVE", V.str g) : Str × V)
    unfold rowV
    exact (if_neg vb_ne.2.2.2.1).trans (if_pos rfl)
  | live =>
    show rowV ⟨0, Ask.live.L n xo, none⟩ = (("LIVE", V.int 0) : Str × V)
    unfold rowV
    exact (if_neg vb_ne.2.1).trans (if_neg vb_ne.2.2.1)
theorem row_verb {x : LR} (h : x.L.verb ∈ (["TURN", "MOVE", "LIVE"] : List Str)) : (rowV x).1 = x.L.verb := by
  unfold rowV
  simp only [List.mem_cons, List.not_mem_nil, or_false] at h
  rcases h with h | h | h
  · rw [if_pos h, h]
  · rw [if_neg (by rw [h]; exact vb_ne.2.2.2.1), if_pos h, h]
  · rw [if_neg (by rw [h]; exact vb_ne.2.1), if_neg (by rw [h]; exact vb_ne.2.2.1), h]
theorem ask_rok {a : Ask} (h : AskOk a) : RowOk a.z := by
  refine ⟨?_, ?_⟩
  · cases a
    · show PyData.strOk "TURN" = true; decide +kernel
    · show PyData.strOk "MOVE" = true; decide +kernel
    · show PyData.strOk "LIVE" = true; decide +kernel
  · cases a with
    | turn p => exact .inl ⟨_, rfl⟩
    | move g =>
      refine .inr ⟨g, rfl, ?_⟩
      rcases h with rfl | rfl <;> decide +kernel
    | live => exact .inl ⟨_, rfl⟩
/-! what is taken -/
theorem snocRec {α : Type} {P : List α → Prop} (nil : P []) (snoc : ∀ l x, P l → P (l ++ [x])) (l : List α) : P l := by
  have h : ∀ m : List α, P m.reverse := fun m => by
    induction m with
    | nil => exact nil
    | cons a r ih =>
      rw [List.reverse_cons]
      exact snoc _ _ ih
  have := h l.reverse
  rwa [List.reverse_reverse] at this

theorem stepT_le (p : Int × List GL) (x : GL) : p.1 ≤ (stepT p x).1 ∧ (stepT p x).1 ≤ p.1 + 1 := by
  unfold stepT
  split
  · exact ⟨by show p.1 ≤ p.1 + 1; omega, by show p.1 + 1 ≤ p.1 + 1; omega⟩
  · exact ⟨Int.le_refl _, by omega⟩
theorem takeT_inv (g : Int) (gs : List GL) : (takeT g gs).1 = g + (takeT g gs).2.length ∧ (takeT g gs).2.length ≤ gs.length ∧ (∀ (i : Nat) (y : GL), (takeT g gs).2[i]? = some y → y.1.seq = g + 1 + i) ∧ (∀ y ∈ (takeT g gs).2, y ∈ gs ∧ asksL y.1 = true) := by
  induction gs using snocRec with
  | nil => exact ⟨by show g = g + 0; omega, Nat.le_refl _, (fun i y e => nomatch e), fun y m => nomatch m⟩
  | snoc l x ih =>
    obtain ⟨h1, h2, h3, h4⟩ := ih
    rw [takeT_snoc]
    unfold stepT
    split
    · rename_i c
      refine ⟨?_, ?_, fun i y e => ?_, fun y m => ?_⟩
      · show (takeT g l).1 + 1 = g + (((takeT g l).2 ++ [x]).length : Nat)
        rw [List.length_append, List.length_singleton]
        omega
      · show ((takeT g l).2 ++ [x]).length ≤ (l ++ [x]).length
        rw [List.length_append, List.length_append]
        exact Nat.add_le_add_right h2 1
      · have e' : ((takeT g l).2 ++ [x])[i]? = some y := e
        by_cases hi : i < (takeT g l).2.length
        · rw [List.getElem?_append_left hi] at e'
          exact h3 i y e'
        · rw [List.getElem?_append_right (by omega)] at e'
          cases k : i - (takeT g l).2.length with
          | zero =>
            rw [k] at e'
            cases e'
            have := c.2
            omega
          | succ k' => rw [k] at e'; cases e'
      · have m' : y ∈ (takeT g l).2 ++ [x] := m
        rcases List.mem_append.mp m' with q | q
        · exact ⟨List.mem_append_left _ (h4 y q).1, (h4 y q).2⟩
        · rw [List.mem_singleton.mp q]
          exact ⟨List.mem_append_right _ (List.mem_singleton.mpr rfl), c.1⟩
    · refine ⟨h1, by rw [List.length_append]; exact Nat.le_trans h2 (Nat.le_add_right _ _), h3, fun y m => ⟨List.mem_append_left _ (h4 y m).1, (h4 y m).2⟩⟩
theorem TakeOk.snoc {g : Int} {gs : List GL} {x : GL} (h : TakeOk g gs) (k : asksL x.1 = true → 0 ≤ x.1.seq ∧ x.1.seq < 1000000 ∧ wayOk x.1 ∧ x.1.seq ≤ (takeT g gs).1 + 1) : TakeOk g (gs ++ [x]) := fun i y e a => by
  by_cases hi : i < gs.length
  · rw [List.getElem?_append_left hi] at e
    rw [List.take_append_of_le_length (Nat.le_of_lt hi)]
    exact h i y e a
  · rw [List.getElem?_append_right (by omega)] at e
    cases q : i - gs.length with
    | zero =>
      rw [q] at e
      cases e
      rw [show i = gs.length by omega, List.take_left']
      · exact k a
      · rfl
    | succ q' => rw [q] at e; cases e
/-- a new letter -/
theorem take_new {g : Int} {gs : List GL} {x : GL} {n : Int} (e : (takeT g gs).1 = n) (a : asksL x.1 = true) (s : x.1.seq = n + 1) : takeT g (gs ++ [x]) = (n + 1, (takeT g gs).2 ++ [x]) := by
  rw [takeT_snoc]
  unfold stepT
  rw [if_pos ⟨a, by rw [s, e]⟩, e]
/-- an old letter -/
theorem take_old {g : Int} {gs : List GL} {x : GL} {n : Int} (e : (takeT g gs).1 = n) (s : x.1.seq ≤ n) : takeT g (gs ++ [x]) = takeT g gs := by
  rw [takeT_snoc]
  unfold stepT
  rw [if_neg fun q => by have := q.2; omega]
/-! lists side by side -/
def Zp {α β : Type} (P : α → β → Prop) : List α → List β → Prop
  | [], [] => True
  | a :: as, b :: bs => P a b ∧ Zp P as bs
  | _, _ => False
theorem Zp.len {α β : Type} {P : α → β → Prop} : ∀ {as : List α} {bs : List β}, Zp P as bs → as.length = bs.length
  | [], [], _ => rfl
  | _ :: _, _ :: _, h => congrArg (· + 1) h.2.len
  | [], _ :: _, h => h.elim
  | _ :: _, [], h => h.elim
theorem Zp.mono {α β : Type} {P Q : α → β → Prop} (k : ∀ a b, P a b → Q a b) : ∀ {as : List α} {bs : List β}, Zp P as bs → Zp Q as bs
  | [], [], _ => trivial
  | _ :: _, _ :: _, h => ⟨k _ _ h.1, h.2.mono k⟩
  | [], _ :: _, h => h.elim
  | _ :: _, [], h => h.elim
theorem Zp.app {α β : Type} {P : α → β → Prop} {as' : List α} {bs' : List β} (k : Zp P as' bs') : ∀ {as : List α} {bs : List β}, Zp P as bs → Zp P (as ++ as') (bs ++ bs')
  | [], [], _ => k
  | _ :: _, _ :: _, h => ⟨h.1, Zp.app k h.2⟩
  | [], _ :: _, h => h.elim
  | _ :: _, [], h => h.elim
theorem Zp.one {α β : Type} {P : α → β → Prop} {a : α} {b : β} (h : P a b) : Zp P [a] [b] := ⟨h, trivial⟩
theorem Zp.mem {α β : Type} {P : α → β → Prop} {a : α} : ∀ {as : List α} {bs : List β}, Zp P as bs → a ∈ as → ∃ b ∈ bs, P a b
  | _ :: _, b :: _, h, m => by
    rcases List.mem_cons.mp m with rfl | m
    · exact ⟨b, List.mem_cons_self .., h.1⟩
    · obtain ⟨b, mb, p⟩ := Zp.mem h.2 m
      exact ⟨b, List.mem_cons_of_mem _ mb, p⟩
  | [], [], _, m => nomatch m
  | [], _ :: _, h, _ => h.elim
  | _ :: _, [], h, _ => h.elim
theorem Zp.of_all2 {α β : Type} {P : α → β → Prop} {as : List α} {bs : List β} (h : All2 P as bs) : Zp P as bs := by
  induction h with
  | nil => trivial
  | snoc _ p ih => exact Zp.app (Zp.one p) ih

end K19
set_option maxHeartbeats 4000000
set_option pp.maxSteps 400
namespace K19
open PySem PySem.Spec PyProof.Rows L2 SX TK TKS TKC
open C8 (pe_c)
/-! ### the law's state, all of it -/
inductive Ev where
  | lost
  | turn (n : Int) (o : Bool)
  | move (n : Int)
def oT : Off := ⟨9, "take", ["a"]⟩
def ofB (b : Bool) : Option Off := if b = true then some oT else none
def EvW (H : Hp) : Ev → List V → Prop
  | .lost, xs => xs = [.str "over", .str "lost", .int 41]
  | .turn n o, xs => ∃ x, xs = [.str "turn replied", .int n, x] ∧ OffO H x (ofB o)
  | .move n, xs => xs = [.str "move replied", .int n]
theorem EvW.im {H H' : Hp} {e : Ev} {xs : List V} (h : EvW H e xs) (s : Im H H') : EvW H' e xs := by
  cases e with
  | lost => exact h
  | turn n o =>
    obtain ⟨x, h1, h2⟩ := h
    exact ⟨x, h1, h2.im s⟩
  | move n => exact h
def EvR (H : Hp) (w : Addr × List V) (e : Ev) : Prop := EvW H e w.2
def EvAt (H : Hp) (v : V) (e : Ev) : Prop := ∃ t xs, v = .ref t ∧ H t = some (.tup xs) ∧ EvW H e xs
theorem EvAt.im {H H' : Hp} {e : Ev} {v : V} (h : EvAt H v e) (s : Im H H') : EvAt H' v e := by
  obtain ⟨t, xs, h1, h2, h3⟩ := h
  exact ⟨t, xs, h1, s _ _ h2 rfl, h3.im s⟩
def WaR (H : Hp) (w : Addr × List V) (a : Ask) : Prop := ∃ xo, w.2 = [.str a.verb, xo, a.xg] ∧ OffO H xo a.o
def MaR (H : Hp) (v : V) (a : Ask) : Prop := ∃ t, v = .ref t ∧ H t = some (.tup [.str a.verb, a.v])
theorem WaR.im {H H' : Hp} (s : Im H H') (w : Addr × List V) (a : Ask) (h : WaR H w a) : WaR H' w a := by
  obtain ⟨x, h1, h2⟩ := h
  exact ⟨x, h1, h2.im s⟩
theorem MaR.im {H H' : Hp} (s : Im H H') (v : V) (a : Ask) (h : MaR H v a) : MaR H' v a := by
  obtain ⟨t, h1, h2⟩ := h
  exact ⟨t, h1, s _ _ h2 rfl⟩
def OpR (H : Hp) (v : V) : Option Ask → Prop
  | none => v = .non
  | some a => MaR H v a
theorem OpR.im {H H' : Hp} (s : Im H H') {v : V} {a : Option Ask} (h : OpR H v a) : OpR H' v a := by
  cases a with
  | none => exact h
  | some a => exact MaR.im s _ _ h
theorem OpR.non_iff {H : Hp} {v : V} {a : Option Ask} (h : OpR H v a) : v = .non ↔ a = none := by
  cases a with
  | none => exact ⟨fun _ => rfl, fun _ => h⟩
  | some a =>
    obtain ⟨t, rfl, _⟩ := h
    exact ⟨(fun e => nomatch e), fun e => nomatch e⟩
structure S9 where
  s : Addr
  c : Addr
  n : Int
  ns : List Int
  W : Wd
  dl : Addr
  dv : List V
  R : LegR
  xs : List LR
  op : Option Ask
  as : List Ask
  da : List Ask
  ev : List Ev
  cc : ClR
  ovs : List ClR
  tl : List ClR
def sM (s c : Addr) (n : Int) (ns : List Int) : List Cell := [(s, .lst [.ref c, .int n]), (c, .lst (ns.map V.int))]
def cM (K : PySem.W.Frag) (S : S9) : List Cell := sM S.s S.c S.n S.ns ++ (wdM S.W ++ ((S.dl, .lst S.dv) :: legM K S.R))
structure Ji (K : PySem.W.Frag) (H : Hp) (S : S9) : Prop where
  li : LegI K H S.R
  wi : Zp (WaR H) S.R.ws S.as
  mi : Zp (MaR H) S.W.ws S.as
  oi : OpR H S.W.op S.op
  di : Zp (MaR H) S.dv S.da
  xi : ∀ x ∈ S.xs, LtA K H x
  ei : Zp (EvR H) S.R.es S.ev
theorem Ji.im {K : PySem.W.Frag} {H H' : Hp} {S : S9} (h : Ji K H S) (s : Im H H') : Ji K H' S :=
  ⟨h.li.im s, h.wi.mono (WaR.im s), h.mi.mono (MaR.im s), h.oi.im s, h.di.mono (MaR.im s), (fun x m => (h.xi x m).im s), h.ei.mono fun _ _ q => EvW.im q s⟩
structure TagR (check : Int) (R : LegR) : Prop where
  tag : R.tag = "x1"
  call : R.call = "c1"
  own : R.own = "ann@x"
  other : R.other = "bob@x"
  place : R.place = "q"
  first : R.first = 20
  chk : R.check = check
  ot : R.ot = "y1"
  ss : R.ss = []
  rq : R.req = R.seq
structure CallC (c : ClR) : Prop where
  st : c.st = .fn
  v : c.L.verb = "CALL"
  f : c.f = 20
  b : c.b = 0
structure AskC (c : ClR) (a : Ask) (n : Int) : Prop where
  st : c.st = .cl
  f : c.f = 20
  b : 0 ≤ c.b
  pl : c.pl = "q"
  o : c.o = a.o
  L : ∃ xo, c.L = a.L n xo
structure XsOk (xs : List LR) : Prop where
  q : ∀ (i : Nat) x, xs[i]? = some x → x.L.seq = 2 + i ∧ x.L.way = wyS (2 + i)
  v : ∀ x ∈ xs, x.L.verb ∈ (["TURN", "MOVE", "LIVE"] : List Str) ∧ LOk x.L
structure Jp (S : S9) (gs : List GL) (check : Int) : Prop where
  tg : TagR check S.R
  st : S.R.st = if S.W.ov = true then "over" else "talking"
  sq : (takeT S.W.g gs).1 = S.R.seq
  tk : TakeOk S.W.g gs
  gl : ∀ g ∈ gs, GLet g.1 g.2.1 g.2.2 ∧ (g.1.verb = "TURN" → ∃ u, g.2.1 = some u)
  ls : S.W.ls = S.xs.map (·.a)
  g_ : S.W.g = 1 + S.xs.length
  xo : XsOk S.xs
  rw_ : S.xs.map rowV ++ (takeT S.W.g gs).2.map rowL = S.da.map Ask.z
  opn : S.op = none → S.tl = []
  ops : ∀ a, S.op = some a → AskOk a ∧ (∃ d, S.da = d ++ [a]) ∧ ∃ ca, S.tl = [ca] ∧ AskC ca a S.R.seq
  ovr : S.W.ov = true → S.op = none
  aok : ∀ a ∈ S.as, AskOk a ∧ a ≠ .live
  dok : ∀ a ∈ S.da, AskOk a
  asl : S.as.length ≤ 8
  cs : S.R.cs = S.cc :: (S.ovs ++ S.tl)
  ccok : CallC S.cc
  ovok : ∀ c ∈ S.ovs, c.st = .ov
  ovl : S.ovs.length ≤ 3
  lv : S.W.ov = false → (S.op = some .live ∧ S.W.lv = .non) ∨ (S.op ≠ some .live ∧ S.W.lv = .int S.R.live)
  nl : S.ns.length ≤ 63
/-- nothing waits where nothing is open -/
def Jw (S : S9) : Prop := S.op = none → S.as = []
structure Sm (S S' : S9) : Prop where
  s : S'.s = S.s
  c : S'.c = S.c
  p : S'.R.p = S.R.p
  dx : S'.R.dx = S.R.dx
  w : S'.W.w = S.W.w
  dl : S'.dl = S.dl
  xs : S'.xs = S.xs
theorem Jp.seq {S : S9} {gs : List GL} {check : Int} (h : Jp S gs check) : 1 ≤ S.R.seq ∧ S.R.seq ≤ 1 + S.xs.length + gs.length := by
  obtain ⟨h1, h2, _⟩ := takeT_inv S.W.g gs
  have := h.sq
  have := h.g_
  omega
theorem Jp.dal {S : S9} {gs : List GL} {check : Int} (h : Jp S gs check) : S.da.length ≤ S.xs.length + gs.length := by
  have e := congrArg List.length h.rw_
  rw [List.length_append, List.length_map, List.length_map, List.length_map] at e
  have := (takeT_inv S.W.g gs).2.1
  omega
theorem nocall : ("CALL" : Str) ∉ (["TURN", "MOVE", "LIVE"] : List Str) := by decide +kernel
theorem askB_ov {c : ClR} (h : c.st = .ov) : askB c = false := by
  unfold askB
  rw [h, decide_eq_true (rfl : CS.ov = CS.ov), Bool.not_true, Bool.and_false]
theorem askB_call {c : ClR} (h : c.L.verb = "CALL") : askB c = false := by
  unfold askB
  rw [h, decide_eq_false nocall, Bool.false_and]
theorem AskC.ask {c : ClR} {a : Ask} {n : Int} (h : AskC c a n) : askB c = true := by
  obtain ⟨xo, e⟩ := h.L
  unfold askB
  rw [e, h.st, show (a.L n xo).verb = a.verb from rfl, decide_eq_true (ask_three a)]
  rfl
theorem Jp.any {S : S9} {gs : List GL} {check : Int} (h : Jp S gs check) : S.R.cs.any askB = S.op.isSome := by
  rw [h.cs, List.any_cons, List.any_append, askB_call h.ccok.v, Bool.false_or]
  have e : S.ovs.any askB = false := List.any_eq_false.mpr fun c m => by rw [askB_ov (h.ovok c m)]; exact Bool.false_ne_true
  rw [e, Bool.false_or]
  cases eo : S.op with
  | none => rw [h.opn eo]; rfl
  | some a =>
    obtain ⟨_, _, ca, et, hc⟩ := h.ops a eo
    rw [et, List.any_cons, hc.ask]
    rfl
theorem Jp.csl {S : S9} {gs : List GL} {check : Int} (h : Jp S gs check) : S.R.cs.length ≤ 6 := by
  rw [h.cs, List.length_cons, List.length_append]
  have := h.ovl
  cases eo : S.op with
  | none => rw [h.opn eo]; show _ + 0 + 1 ≤ 6; omega
  | some a =>
    obtain ⟨_, _, ca, et, _⟩ := h.ops a eo
    rw [et]
    show _ + 1 + 1 ≤ 6
    omega
theorem TagR.lw {check : Int} {R : LegR} (h : TagR check R) (h0 : 0 ≤ R.seq) : LegW R := legW_T h.tag h.call h.own h.other (.inr h.ot) h0 (by rw [h.rq]; exact h0)
theorem TagR.snd {check : Int} {R : LegR} (h : TagR check R) (h0 : 0 ≤ R.seq) (h1 : R.seq ≤ 900000) {a : Ask} (ok : AskOk a) : SndOk R a.verb a.xg := by
  refine ⟨h.lw h0, ?_, ?_, by omega, by rw [h.rq]; omega⟩
  · cases a
    · exact ⟨by show PyData.strOk "TURN" = true; decide +kernel, by show ("TURN" : Str).length ≤ 1000; decide +kernel⟩
    · exact ⟨by show PyData.strOk "MOVE" = true; decide +kernel, by show ("MOVE" : Str).length ≤ 1000; decide +kernel⟩
    · exact ⟨by show PyData.strOk "LIVE" = true; decide +kernel, by show ("LIVE" : Str).length ≤ 1000; decide +kernel⟩
  · cases a with
    | turn p => exact .inl rfl
    | move g =>
      refine .inr ⟨g, rfl, ?_⟩
      rcases ok with rfl | rfl
      · exact ⟨by show PyData.strOk "eve@x" = true; decide +kernel, by decide +kernel⟩
      · exact ⟨by show PyData.strOk "joe@x" = true; decide +kernel, by decide +kernel⟩
    | live => exact .inl rfl
theorem TagR.send {check : Int} {R : LegR} (h : TagR check R) (a : Ask) (xo : V) : sendL R a.verb xo a.xg = a.L (R.seq + 1) xo := by
  unfold sendL Ask.L askL
  rw [h.call, h.own, h.other, h.ot, h.tag, h.rq]
theorem ask_x {a : Ask} (ok : AskOk a) {H : Hp} {xo : V} (h : OffO H xo a.o) : OffX H xo a.o := by
  cases a with
  | turn p => exact (oA_good ok.1 (Int.le_trans (Int.le_of_lt ok.2) (by decide))).x h
  | move g => exact ⟨h, (fun _ e => nomatch e), fun _ e => nomatch e⟩
  | live => exact ⟨h, (fun _ e => nomatch e), fun _ e => nomatch e⟩
/-! draws -/
theorem sM_st {H : Hp} {s c : Addr} {n : Int} {ns : List Int} (h : Cells H (sM s c n ns)) (hl : ns.length ≤ 63) : StAt H s c :=
  ⟨fun e => (List.nodup_cons.mp h.nd).1 (by rw [e]; exact List.mem_singleton.mpr rfl), ⟨n, h.get (by simp [sM])⟩, ns, h.get (by simp [sM]), hl⟩
theorem sM_run {H H' : Hp} {s c : Addr} {n : Int} {ns : List Int} (h : Cells H (sM s c n ns)) (st : StAt H' s c) (k : Keep H H' s c) : ∃ n' ns', ns'.length ≤ 63 ∧ Run H (sM s c n ns) H' (sM s c n' ns') := by
  obtain ⟨ne, ⟨n', e1⟩, ns', e2, l⟩ := st
  refine ⟨n', ns', l, ⟨h.nd, fun q m => ?_⟩, fun b o e i => ?_, fun x m => .inl m⟩
  · simp only [sM, List.mem_cons, List.not_mem_nil, or_false] at m
    rcases m with rfl | rfl
    · exact e1
    · exact e2
  · have g1 : H s = _ := h.get (a := s) (o := .lst [.ref c, .int n]) (by simp [sM])
    have g2 : H c = _ := h.get (a := c) (o := .lst (ns.map V.int)) (by simp [sM])
    by_cases b1 : b = s
    · rw [b1, g1] at e
      cases e
      exact nomatch i (by rw [b1]; simp [sM, keys])
    · by_cases b2 : b = c
      · rw [b2, g2] at e
        cases e
        exact nomatch i (by rw [b2]; simp [sM, keys])
      · exact k b o e b1 b2
theorem S9.st {K : PySem.W.Frag} {H : Hp} {S : S9} (h : Cells H (cM K S)) (hl : S.ns.length ≤ 63) : StAt H S.s S.c := sM_st (Cells.left h) hl
theorem S9.draw {K : PySem.W.Frag} {H H1 H2 : Hp} {M : List Cell} {S : S9} (r : Run H M H1 (cM K S)) (st : StAt H2 S.s S.c) (k : Keep H1 H2 S.s S.c) : ∃ n ns, ns.length ≤ 63 ∧ Run H M H2 (cM K { S with n := n, ns := ns }) := by
  obtain ⟨n, ns, l, t⟩ := sM_run (Cells.left r.c) st k
  exact ⟨n, ns, l, Run.frameL r t⟩
/-- draws behind other cells -/
theorem S9.drawX {K : PySem.W.Frag} {H H1 H2 : Hp} {M X : List Cell} {S : S9} (r : Run H M H1 (X ++ cM K S)) (st : StAt H2 S.s S.c) (k : Keep H1 H2 S.s S.c) : ∃ n ns, ns.length ≤ 63 ∧ Run H M H2 (X ++ cM K { S with n := n, ns := ns }) := by
  obtain ⟨n, ns, l, t⟩ := sM_run (Cells.left (Cells.right r.c)) st k
  exact ⟨n, ns, l, Run.frameR r (Run.frameL (Run.refl (Cells.right r.c)) t)⟩
theorem Jp.setN {S : S9} {gs : List GL} {check : Int} (h : Jp S gs check) {n : Int} {ns : List Int} (l : ns.length ≤ 63) : Jp { S with n := n, ns := ns } gs check :=
  ⟨h.tg, h.st, h.sq, h.tk, h.gl, h.ls, h.g_, h.xo, h.rw_, h.opn, h.ops, h.ovr, h.aok, h.dok, h.asl, h.cs, h.ccok, h.ovok, h.ovl, h.lv, l⟩
theorem Ji.setN {K : PySem.W.Frag} {H : Hp} {S : S9} (h : Ji K H S) {n : Int} {ns : List Int} : Ji K H { S with n := n, ns := ns } := ⟨h.li, h.wi, h.mi, h.oi, h.di, h.xi, h.ei⟩
/-- the leg, in the whole -/
theorem S9.leg {K : PySem.W.Frag} {H H1 H2 : Hp} {M N : List Cell} {S : S9} (r : Run H M H1 (cM K S)) (t : Run H1 (legM K S.R) H2 N) : Run H M H2 (sM S.s S.c S.n S.ns ++ (wdM S.W ++ ((S.dl, .lst S.dv) :: N))) :=
  Run.frameR (A := sM S.s S.c S.n S.ns ++ (wdM S.W ++ [(S.dl, .lst S.dv)])) r t
theorem S9.legC {K : PySem.W.Frag} {H : Hp} {S : S9} (h : Cells H (cM K S)) : Cells H (legM K S.R) := Cells.right (A := sM S.s S.c S.n S.ns ++ (wdM S.W ++ [(S.dl, .lst S.dv)])) h
theorem S9.wdC {K : PySem.W.Frag} {H : Hp} {S : S9} (h : Cells H (cM K S)) : Cells H (wdM S.W) := Cells.left (Cells.right h)
theorem S9.front {K : PySem.W.Frag} {H H1 : Hp} {M : List Cell} {S : S9} {R : LegR} {q : Cell} (r : Run H M H1 (sM S.s S.c S.n S.ns ++ (wdM S.W ++ ((S.dl, .lst S.dv) :: (q :: legM K R))))) : Run H M H1 (q :: cM K { S with R := R }) := by
  refine r.perm ?_
  show (sM S.s S.c S.n S.ns ++ (wdM S.W ++ ((S.dl, .lst S.dv) :: (q :: legM K R)))).Perm (q :: (sM S.s S.c S.n S.ns ++ (wdM S.W ++ ((S.dl, .lst S.dv) :: legM K R))))
  have h : ∀ (A B : List Cell), (A ++ q :: B).Perm (q :: (A ++ B)) := fun A B => List.perm_middle
  have := h (sM S.s S.c S.n S.ns ++ (wdM S.W ++ [(S.dl, .lst S.dv)])) (legM K R)
  simpa [List.append_assoc] using this

end K19
set_option maxHeartbeats 4000000
set_option pp.maxSteps 400
namespace K19
open PySem PySem.Spec PyProof.Rows L2 SX TK TKS TKC
open C8 (pe_c)
/-! ### what sending and waiting make of it -/
theorem Jp.sent {S : S9} {gs : List GL} {check : Int} (h : Jp S gs check) (eo : S.op = none) (ov : S.W.ov = false) {a : Ask} (ok : AskOk a) (b : S.xs.length + gs.length ≤ 500000) {now : Int} (h0 : 0 ≤ now) {as' : List Ask} (aok' : ∀ x ∈ as', AskOk x ∧ x ≠ .live) (asl' : as'.length ≤ 8)
    {lv : V} (hlv : (a = .live ∧ lv = .non) ∨ (a ≠ .live ∧ lv = .int S.R.live)) (cp cdx la wa wx ka : Addr) (xo : V) (wr : List (Addr × List V)) (v : V) (ww : List V) :
    Jp { S with R := sentR { S.R with ws := wr } (newC cp cdx la wa wx ka (a.L (S.R.seq + 1) xo) a.o S.R.place S.R.first now), W := { S.W with op := v, ws := ww, lv := lv }, dv := S.dv ++ [v], da := S.da ++ [a], op := some a, as := as', tl := [newC cp cdx la wa wx ka (a.L (S.R.seq + 1) xo) a.o S.R.place S.R.first now] } (gs ++ [(a.L (S.R.seq + 1) xo, a.o, none)]) check := by
  have sq := h.seq
  have tg := h.tg
  have tn := take_new (x := (a.L (S.R.seq + 1) xo, a.o, none)) h.sq (ask_asks a _ xo) rfl
  refine ⟨⟨tg.tag, tg.call, tg.own, tg.other, tg.place, tg.first, tg.chk, tg.ot, tg.ss, ?_⟩, h.st, ?_, ?_, ?_, h.ls, h.g_, h.xo, ?_, (fun e => nomatch e), ?_, ?_, aok', ?_, asl', ?_, h.ccok, h.ovok, h.ovl, ?_, h.nl⟩
  · show S.R.req + 1 = S.R.seq + 1
    rw [tg.rq]
  · show (takeT S.W.g (gs ++ [_])).1 = S.R.seq + 1
    rw [tn]
  · refine h.tk.snoc fun _ => ⟨by show 0 ≤ S.R.seq + 1; omega, by show S.R.seq + 1 < 1000000; omega, ask_way _ _ _, ?_⟩
    show S.R.seq + 1 ≤ (takeT S.W.g gs).1 + 1
    rw [h.sq]
    exact Int.le_refl _
  · intro g m
    rcases List.mem_append.mp m with m | m
    · exact h.gl g m
    · rw [List.mem_singleton.mp m]
      exact ⟨ask_g ok (by omega) (by omega) xo, ask_t a⟩
  · show S.xs.map rowV ++ (takeT S.W.g (gs ++ [_])).2.map rowL = (S.da ++ [a]).map Ask.z
    rw [tn, List.map_append, List.map_append, ← List.append_assoc, h.rw_, List.map_singleton, List.map_singleton, row_ask]
  · rintro a' e
    obtain rfl : a = a' := Option.some.inj e
    exact ⟨ok, ⟨S.da, rfl⟩, _, rfl, rfl, tg.first, h0, tg.place, rfl, xo, rfl⟩
  · intro e
    exact absurd (ov.symm.trans e) Bool.false_ne_true
  · intro x m
    rcases List.mem_append.mp m with m | m
    · exact h.dok x m
    · rw [List.mem_singleton.mp m]
      exact ok
  · show S.R.cs ++ [_] = S.cc :: (S.ovs ++ [_])
    rw [h.cs, h.opn eo, List.append_nil]
    rfl
  · intro _
    rcases hlv with ⟨e1, e2⟩ | ⟨e1, e2⟩
    · exact .inl ⟨congrArg some e1, e2⟩
    · exact .inr ⟨fun q => e1 (Option.some.inj q), e2⟩
theorem Jp.wait {S : S9} {gs : List GL} {check : Int} (h : Jp S gs check) {a : Ask} (ok : AskOk a ∧ a ≠ .live) (l : S.as.length < 8) (wr : List (Addr × List V)) (ww : List V) :
    Jp { S with R := { S.R with ws := wr }, W := { S.W with ws := ww }, as := S.as ++ [a] } gs check := by
  have tg := h.tg
  refine ⟨⟨tg.tag, tg.call, tg.own, tg.other, tg.place, tg.first, tg.chk, tg.ot, tg.ss, tg.rq⟩, h.st, h.sq, h.tk, h.gl, h.ls, h.g_, h.xo, h.rw_, h.opn, h.ops, h.ovr, ?_, h.dok, ?_, h.cs, h.ccok, h.ovok, h.ovl, h.lv, h.nl⟩
  · intro x m
    rcases List.mem_append.mp m with m | m
    · exact h.aok x m
    · rw [List.mem_singleton.mp m]
      exact ok
  · show (S.as ++ [a]).length ≤ 8
    rw [List.length_append]
    exact l
/-! asking the leg -/
def AskR (H' : Hp) (S : S9) (a : Ask) (now : Int) (R' : LegR) (g : List GL) : Prop :=
  (S.op = none ∧ ∃ cp cdx la wa wx ka xo, R' = sentR S.R (newC cp cdx la wa wx ka (a.L (S.R.seq + 1) xo) a.o S.R.place S.R.first now) ∧ g = [(a.L (S.R.seq + 1) xo, a.o, none)]) ∨
  (S.op ≠ none ∧ S.as.length < 8 ∧ ∃ t xo, R' = { S.R with ws := S.R.ws ++ [(t, [.str a.verb, xo, a.xg])] } ∧ g = [] ∧ OffO H' xo a.o) ∨
  (S.op ≠ none ∧ ¬ S.as.length < 8 ∧ R' = S.R ∧ g = [])
theorem ask_k {K : PySem.W.Frag} {H : Hp} {S : S9} {gs : List GL} {check : Int} {a : Ask} {now : Int} {xo : V} {Q : VK} (h : Jp S gs check) (ov : S.W.ov = false) (lw : S.R.ws.length = S.as.length) (hx : OffO H xo a.o)
    (k : ∀ R' g r ts H', AskR H' S a now R' g → Run H (legM K S.R) H' ((r, .lst (ts.map V.ref)) :: legM K R') → LegI K H' R' → RwI H' ts (g.map rowG) → Q (.ref r) H') : AskK K S.R a.verb now xo a.xg a.o H Q := by
  have st : S.R.st = "talking" := by rw [h.st, ov]; rfl
  have ea := h.any
  cases eo : S.op with
  | none =>
    rw [eo] at ea
    refine .inr (.inl ⟨st, ea, fun cp cdx la wa wx ka r ts H' r1 i1 w1 => ?_⟩)
    rw [h.tg.send a xo] at r1 i1 w1
    rw [h.tg.place] at w1
    exact k _ _ r ts H' (.inl ⟨eo, cp, cdx, la, wa, wx, ka, xo, rfl, rfl⟩) r1 i1 w1
  | some a0 =>
    rw [eo] at ea
    have ne : S.op ≠ none := by rw [eo]; exact fun e => nomatch e
    by_cases l : S.as.length < 8
    · refine .inr (.inr ⟨st, ea, by rw [lw]; exact l, fun t r H' r1 i1 => ?_⟩)
      exact k _ [] r [] H' (.inr (.inl ⟨ne, l, t, xo, rfl, rfl, hx.im r1.im⟩)) r1 i1 trivial
    · refine .inl ⟨fun q => ?_, fun r H' r1 i1 => ?_⟩
      · rcases q.2 with e | e
        · rw [ea] at e
          cases e
        · exact l (by rw [← lw]; exact e)
      · exact k _ [] r [] H' (.inr (.inr ⟨ne, l, rfl, rfl⟩)) r1 i1 trivial
theorem next_some {W : Wd} (h : W.op ≠ .non) : nextW W = W ∧ nextD W = [] := by
  unfold nextW nextD
  cases W.ws with
  | nil => exact ⟨rfl, rfl⟩
  | cons v r => exact ⟨if_neg h, if_neg h⟩
theorem next_nil {W : Wd} (h : W.ws = []) : nextW W = W ∧ nextD W = [] := by
  unfold nextW nextD
  rw [h]
  exact ⟨rfl, rfl⟩
theorem next_none {W : Wd} {v : V} {r : List V} (h : W.op = .non) (e : W.ws = v :: r) : nextW W = { W with op := v, ws := r } ∧ nextD W = [v] := by
  unfold nextW nextD
  rw [e]
  exact ⟨if_pos h, if_pos h⟩
/-! ### the law asks -/
def spAsks (K : PySem.W.Frag) : Sp := fun vs H Q _ => ∃ (S : S9) (gs : List GL) (check now : Int), vs = [.ref S.s, .ref S.R.p, .ref S.W.w, .ref S.dl, .int now] ∧ Cells H (cM K S) ∧ Ji K H S ∧ Jp S gs check ∧ Jw S ∧ S.W.ov = false ∧ 0 ≤ now ∧ S.xs.length ≤ 5000 ∧ gs.length ≤ 1000 ∧
  ∀ S' g r ts H', Jp S' (gs ++ g) check → Jw S' → Sm S S' → S'.W.ov = false → S'.ev = S.ev → S'.ovs = S.ovs → g.length ≤ 1 → Run H (cM K S) H' ((r, .lst (ts.map V.ref)) :: cM K S') → Ji K H' S' → RwI H' ts (g.map rowG) → Q (.ref r) H'
theorem ok_law_asks {P : Program} {w : World} {K : PySem.W.Frag} {mg : Str → Option Value} {base : Heap} {f : Addr} {fd : FuncData} (T : Tx K mg) (c_law_draw : C8.Cal P w K mg base 1 "_law_draw" spDraw []) (c_law_pick : C8.Cal P w K mg base 2 "_law_pick" spPick []) (c_Leg_turn : C8.Met P w K mg base 7 (He.ga K "Leg") "turn" (spTurn K) []) (c_Leg_move : C8.Met P w K mg base 7 (He.ga K "Leg") "move" (spMove K) []) (c_law_next : C8.Cal P w K mg base 1 "_law_next" (spNext K) [])
    (F : FunD K "_law_asks" "_law_asks" (defArgs s_law_asks) (defBody s_law_asks) (defScope s_law_asks) [] [] f fd) : FnOk P w K mg base CX0 8 f fd ["state", "leg", "world", "due", "now"] (spAsks K) := by
  refine F.ok sc_law_asks (fun vs H Q E h => ?_) (fun cdv A outer s0 H vs Q E hr h => ?_)
  · obtain ⟨S, gs, check, now, rfl, _⟩ := h
    rfl
  · obtain ⟨S, gs, check, now, rfl, hc, hi, hp, hjw, ov, h0, nx, ng, k⟩ := h
    refine ⟨_, PSs.nox (pss_cons (ps_set (i := 5) sc_law_asks.nd rfl (Or.inl rfl) (pe_c c_law_draw hr (by decide) rfl (pa_cons (pv 0) (pa_cons pe_int pa_nil)))) (pss_cons (ps_set (i := 6) sc_law_asks.nd rfl (Or.inl rfl) (pe_c c_law_draw hr (by decide) rfl (pa_cons (pv 0) (pa_cons pe_int pa_nil)))) (pss_cons (ps_set (i := 7) sc_law_asks.nd rfl (Or.inl rfl) (pe_c c_law_pick hr (by decide) rfl (pa_cons (pv 0) (pa_cons (pe_lst (pa_cons pe_str (pa_cons pe_str pa_nil))) pa_nil)))) (C8.pss_cut (ps_if (pt_cmpR op_eq (pv 5) pe_int (nomark _)) (pss_cons (ps_set (i := 8) sc_law_asks.nd rfl (Or.inl rfl) (C8.pe_mt c_Leg_turn hr (by decide) (pv 1) (pa_cons (pe_tup (pa_cons (pv 6) (pa_cons pe_str (pa_cons (pe_tup (pa_cons pe_str pa_nil)) pa_nil)))) (pa_cons (pv 4) pa_nil)))) (pss_one (ps_set (i := 9) sc_law_asks.nd rfl (Or.inl rfl) (pe_tup (pa_cons pe_str (pa_cons (pv 6) pa_nil)))))) (pss_cons (ps_set (i := 8) sc_law_asks.nd rfl (Or.inl rfl) (C8.pe_mt c_Leg_move hr (by decide) (pv 1) (pa_cons (pv 7) (pa_cons (pv 4) pa_nil)))) (pss_one (ps_set (i := 9) sc_law_asks.nd rfl (Or.inl rfl) (pe_tup (pa_cons pe_str (pa_cons (pv 7) pa_nil))))))) (pss_cons (ps_set (i := 10) sc_law_asks.nd rfl (Or.inl rfl) (pe_ix ix_list (pv 2) pe_int (fun _ _ => rfl))) (C8.pss_cut (ps_if (PW.pt (pw_or (pt_cmpR op_isN (pe_ix ix_list (pv 2) pe_int (fun _ _ => rfl)) pe_non (nomark _)) (pw_or1 (pt_cmpR op_lt (pe_callB call_len_seq rfl T.f_len PySem.boot_len (pa_cons (pv 10) pa_nil)) pe_int (nomark _))))) (pss_one (ps_expr (pe_bm PySem.F.plainAttrs_list PySem.F.slot_list_append PySem.F.type_list_append mt_append (pv 10) (pa_cons (pv 9) pa_nil)))) pss_nil) (pss_cons (ps_expr (pe_c c_law_next hr (by decide) rfl (pa_cons (pv 2) (pa_cons (pv 3) pa_nil)))) (pss_one (ps_ret (pv 8)))))))))), ?_⟩
    -- draws
    refine ⟨_, rfl, S.s, S.c, 2, rfl, S9.st hc hp.nl, by decide, by decide, fun kind H1 _ _ st1 kp1 => ?_⟩
    obtain ⟨n1, m1, l1, r1⟩ := S9.draw (Run.refl hc) st1 kp1
    refine ⟨_, rfl, S.s, S.c, 1000, rfl, st1, by decide, by decide, fun port H2 p0 p1 st2 kp2 => ?_⟩
    obtain ⟨n2, m2, l2, r2⟩ := S9.draw r1 st2 kp2
    refine ⟨_, rfl, by show 2 ≤ sizeLine; decide, fun l hl => ?_⟩
    obtain ⟨ls, lc⟩ := st2.tracked hl
    have r2' := r2.same (same_upd (o := .lst [.str "eve@x", .str "joe@x"]) hl)
    refine ⟨S.s, S.c, _, rfl, st2.upd ls lc, .inr ⟨l, _, rfl, upd_same, ls, lc, by simp, by simp, fun v hv H3 st3 kp3 => ?_⟩⟩
    obtain ⟨goal, rfl, hgl⟩ : ∃ goal : Str, v = .str goal ∧ (goal = "eve@x" ∨ goal = "joe@x") := by
      simp only [List.mem_cons, List.not_mem_nil, or_false] at hv
      rcases hv with rfl | rfl
      · exact ⟨_, rfl, .inl rfl⟩
      · exact ⟨_, rfl, .inr rfl⟩
    obtain ⟨n3, m3, l3, r3⟩ := S9.draw (S := { S with n := n2, ns := m2 }) r2' st3 kp3
    clear r2' r2 r1 hl ls lc hv st1 kp1 st2 kp2 kp3 l1 l2
    have hp3 := hp.setN (n := n3) l3
    have hi3 := (hi.im r3.im).setN (n := n3) (ns := m3)
    have k3 := fun S' g r ts H' a1 a2 (a3 : Sm { S with n := n3, ns := m3 } S') a4 a5 a6 a7 a8 => k S' g r ts H' a1 a2 ⟨a3.s, a3.c, a3.p, a3.dx, a3.w, a3.dl, a3.xs⟩ a4 a5 a6 a7 (r3.trans a8)
    have c3 := r3.c
    have hjw3 : Jw { S with n := n3, ns := m3 } := hjw
    obtain ⟨S3, hS3⟩ : ∃ S3 : S9, S3 = { S with n := n3, ns := m3 } := ⟨_, rfl⟩
    have ee : S.s = S3.s ∧ S.R.p = S3.R.p ∧ S.W.w = S3.W.w ∧ S.dl = S3.dl ∧ S.ev = S3.ev ∧ S.ovs = S3.ovs ∧ S3.W.ov = false ∧ S3.xs.length ≤ 5000 := by rw [hS3]; exact ⟨rfl, rfl, rfl, rfl, rfl, rfl, ov, nx⟩
    rw [← hS3] at hp3 hi3 k3 c3 hjw3
    obtain ⟨e1, e2, e3, e4, e5, e6, ov3, nx3⟩ := ee
    rw [e5, e6] at k3
    rw [e1, e2, e3, e4]
    clear k hc hi hp st3 r3 hjw ov nx hS3 e1 e2 e3 e4 e5 e6
    have L := S9.legC c3
    have hp9 := leg_p L
    have lw : S3.R.ws.length = S3.as.length := hi3.wi.len
    have sq := hp3.seq
    -- turn or move
    refine ⟨fun σ' H' => ∃ (a : Ask) (R' : LegR) (g : List GL) (r t : Addr) (ts : List Addr), σ' = [some (.ref S3.s), some (.ref S3.R.p), some (.ref S3.W.w), some (.ref S3.dl), some (.int now), some (.int kind), some (.int port), some (.str goal), some (.ref r), some (.ref t), none] ∧ AskOk a ∧ a ≠ .live ∧ AskR H' S3 a now R' g ∧ Run H3 (cM K S3) H' ((r, .lst (ts.map V.ref)) :: cM K { S3 with R := R' }) ∧ LegI K H' R' ∧ RwI H' ts (g.map rowG) ∧ H' t = some (.tup [.str a.verb, a.v]), ⟨_, rfl, rfl, _, rfl, ?_⟩, ?_⟩
    · have fin : ∀ (a : Ask), AskOk a → a ≠ .live → ∀ R' g r ts H' H4, Same H3 H4 → AskR H' S3 a now R' g → Run H4 (legM K S3.R) H' ((r, .lst (ts.map V.ref)) :: legM K R') → LegI K H' R' → RwI H' ts (g.map rowG) → ∀ t, H' t = none → 
          AskR (upd H' t (.tup [.str a.verb, a.v])) S3 a now R' g ∧ Run H3 (cM K S3) (upd H' t (.tup [.str a.verb, a.v])) ((r, .lst (ts.map V.ref)) :: cM K { S3 with R := R' }) ∧ LegI K (upd H' t (.tup [.str a.verb, a.v])) R' ∧ RwI (upd H' t (.tup [.str a.verb, a.v])) ts (g.map rowG) ∧ (upd H' t (.tup [.str a.verb, a.v])) t = some (.tup [.str a.verb, a.v]) := by
        intro a _ _ R' g r ts H' H4 s4 ar r5 i5 w5 t ht
        have s6 := same_upd (o := .tup [.str a.verb, a.v]) ht
        have r6 := (S9.front (S9.leg ((Run.refl c3).same s4) r5)).same s6
        refine ⟨?_, r6, i5.im (Im.of_same s6), w5.im (Im.of_same s6), upd_same⟩
        rcases ar with q | ⟨q1, q2, t', xo, q3, q4, q5⟩ | q
        · exact .inl q
        · exact .inr (.inl ⟨q1, q2, t', xo, q3, q4, q5.same s6⟩)
        · exact .inr (.inr q)
      show (if decide (V.int kind = V.int 0) = true then _ else _)
      by_cases e : V.int kind = V.int 0
      · rw [decide_eq_true e]
        refine iteT ⟨_, rfl, S3.R.p, S3.R.dx, _, rfl, hp9, rfl, _, rfl, by show 1 ≤ sizeLine; decide, fun f hf => ⟨by show 3 ≤ sizeLine; decide, fun o ho => ⟨_, rfl, ?_⟩⟩⟩
        have s4 := (same_upd (o := .tup [.str "a"]) hf).trans (same_upd (o := .tup [.int port, .str "both", .ref f]) ho)
        have fo : f ≠ o := fun e => by rw [← e, upd_same] at ho; cases ho
        have hof : OffAt (upd (upd H3 f (.tup [.str "a"])) o (.tup [.int port, .str "both", .ref f])) (.ref o) (oA port) := ⟨o, f, rfl, upd_same, (upd_ne fo).trans upd_same⟩
        generalize (upd (upd H3 f (.tup [.str "a"])) o (.tup [.int port, .str "both", .ref f])) = H4 at s4 hof ⊢
        have ok : AskOk (.turn port) := ⟨p0, p1⟩
        have L4 := L.same s4
        refine ⟨S3.R, now, .ref o, some (oA port), rfl, L4, hi3.li.im (Im.of_same s4), ask_x ok hof, hp3.tg.snd (by omega) (by omega) ok, Nat.lt_of_le_of_lt hp3.csl (by decide), by rw [lw]; have := hp3.asl; omega, ?_⟩
        refine ask_k (a := .turn port) hp3 ov3 lw hof fun R' g r ts H' ar r5 i5 w5 => ⟨_, rfl, by show 2 ≤ sizeLine; decide, fun t ht => ?_⟩
        obtain ⟨z1, z2, z3, z4, z5⟩ := fin _ ok (fun e => nomatch e) R' g r ts H' H4 s4 ar r5 i5 w5 t ht
        exact ⟨.turn port, R', g, r, t, ts, rfl, ok, (fun e => nomatch e), z1, z2, z3, z4, z5⟩
      · rw [decide_eq_false e]
        have ok : AskOk (.move goal) := hgl
        refine iteF ⟨_, rfl, S3.R.p, S3.R.dx, _, rfl, hp9, rfl, _, rfl, _, rfl, S3.R, now, goal, rfl, L, hi3.li, hp3.tg.snd (a := .move goal) (by omega) (by omega) ok, Nat.lt_of_le_of_lt hp3.csl (by decide), by rw [lw]; have := hp3.asl; omega, ?_⟩
        refine ask_k (a := .move goal) (xo := .non) hp3 ov3 lw rfl fun R' g r ts H' ar r5 i5 w5 => ⟨_, rfl, by show 2 ≤ sizeLine; decide, fun t ht => ?_⟩
        obtain ⟨z1, z2, z3, z4, z5⟩ := fin _ ok (fun e => nomatch e) R' g r ts H' H3 (Same.refl H3) ar r5 i5 w5 t ht
        exact ⟨.move goal, R', g, r, t, ts, rfl, ok, (fun e => nomatch e), z1, z2, z3, z4, z5⟩
    rintro σ' H5 ⟨a, R', g, r, t, ts, rfl, ok, nlv, ar, r5, i5, w5, e5⟩
    have hi5 := hi3.im r5.im
    have hw5 : H5 S3.W.w = some (.lst (wdL S3.W)) := r5.c.get (by simp [cM, wdM])
    have hb5 : H5 S3.W.lb = some (.lst S3.W.ws) := r5.c.get (by simp [cM, wdM])
    have lws : S3.W.ws.length = S3.as.length := hi3.mi.len
    have asl := hp3.asl
    have opi := hi3.oi.non_iff
    refine ⟨_, rfl, S3.W.w, _, 3, .ref S3.W.lb, rfl, rfl, SqL.of hw5, rfl, ?_⟩
    refine ⟨fun σ' H' => ∃ ww, σ' = [some (.ref S3.s), some (.ref S3.R.p), some (.ref S3.W.w), some (.ref S3.dl), some (.int now), some (.int kind), some (.int port), some (.str goal), some (.ref r), some (.ref t), some (.ref S3.W.lb)] ∧ Run H3 (cM K S3) H' ((r, .lst (ts.map V.ref)) :: cM K { S3 with R := R', W := { S3.W with ws := ww } }) ∧ Im H5 H' ∧ ((S3.op = none ∨ S3.as.length < 8) ∧ ww = S3.W.ws ++ [.ref t] ∨ S3.op ≠ none ∧ ¬ S3.as.length < 8 ∧ ww = S3.W.ws), ⟨_, rfl, S3.W.w, _, 2, S3.W.op, rfl, rfl, SqL.of hw5, rfl, rfl, _, rfl, ?_⟩, ?_⟩
    · have add : (S3.op = none ∨ S3.as.length < 8) → ∃ ww, Run H3 (cM K S3) (upd H5 S3.W.lb (.lst (S3.W.ws ++ [.ref t]))) ((r, .lst (ts.map V.ref)) :: cM K { S3 with R := R', W := { S3.W with ws := ww } }) ∧ Im H5 (upd H5 S3.W.lb (.lst (S3.W.ws ++ [.ref t]))) ∧ ((S3.op = none ∨ S3.as.length < 8) ∧ ww = S3.W.ws ++ [.ref t] ∨ S3.op ≠ none ∧ ¬ S3.as.length < 8 ∧ ww = S3.W.ws) := fun q => by
        have q1 := Run.set (A := (r, .lst (ts.map V.ref)) :: (sM S3.s S3.c S3.n S3.ns ++ [(S3.W.w, .lst (wdL S3.W)), (S3.W.la, .lst (S3.W.ls.map V.ref))])) (a := S3.W.lb) (o := .lst S3.W.ws) (B := (S3.dl, .lst S3.dv) :: legM K R') (o' := .lst (S3.W.ws ++ [.ref t])) r5 rfl
        refine ⟨S3.W.ws ++ [V.ref t], q1, fun b o eb ib => ?_, .inl ⟨q, rfl⟩⟩
        by_cases z : b = S3.W.lb
        · rw [z, hb5] at eb
          cases eb
          cases ib
        · rw [upd_ne z]
          exact eb
      by_cases e : S3.W.op = .non
      · rw [decide_eq_true e]
        obtain ⟨ww, z1, z2, z3⟩ := add (.inl (opi.mp e))
        exact iteT (iteT ⟨_, rfl, .inl ⟨rfl, _, SqL.of hb5⟩, _, rfl, S3.W.lb, _, _, rfl, rfl, hb5, Nat.lt_of_le_of_lt (by omega : _ ≤ 8) (by decide), ww, rfl, z1, z2, z3⟩)
      · rw [decide_eq_false e]
        refine iteF ⟨_, rfl, S3.W.lb, _, rfl, .inl (SqL.of hb5), _, _, rfl, rfl, _, rfl, ?_⟩
        by_cases l : S3.as.length < 8
        · rw [decide_eq_true (by omega : ((S3.W.ws.length : Nat) : Int) < 8)]
          obtain ⟨ww, z1, z2, z3⟩ := add (.inr l)
          exact iteT ⟨_, rfl, .inl ⟨rfl, _, SqL.of hb5⟩, _, rfl, S3.W.lb, _, _, rfl, rfl, hb5, Nat.lt_of_le_of_lt (by omega : _ ≤ 8) (by decide), ww, rfl, z1, z2, z3⟩
        · rw [decide_eq_false (by omega : ¬ ((S3.W.ws.length : Nat) : Int) < 8)]
          exact iteF ⟨S3.W.ws, rfl, r5, Im.refl _, .inr ⟨fun q => e (opi.mpr q), l, rfl⟩⟩
    rintro σ' H6 ⟨ww, rfl, r6, im6, hww⟩
    have dal := hp3.dal
    have ldv : S3.dv.length = S3.da.length := hi3.di.len
    have c6 : Cells H6 (wdM { S3.W with ws := ww } ++ [(S3.dl, .lst S3.dv)]) := Cells.left (B := legM K R') (Cells.right (A := (r, .lst (ts.map V.ref)) :: sM S3.s S3.c S3.n S3.ns) r6.c)
    have lww : ww.length ≤ 9 := by
      rcases hww with ⟨_, e⟩ | ⟨_, _, e⟩
      · rw [e, List.length_append, List.length_singleton]; omega
      · rw [e]; omega
    refine ⟨_, rfl, _, rfl, { S3.W with ws := ww }, S3.dl, S3.dv, rfl, c6, by omega, by show ww.length < 100000; omega, fun H7 q7 => ⟨_, rfl, ?_⟩⟩
    have r7 := Run.frame (A := (r, .lst (ts.map V.ref)) :: sM S3.s S3.c S3.n S3.ns) (B := legM K R') r6 q7
    have im7 : Im H5 H7 := im6.trans q7.im
    have hi7 := hi5.im im7
    have i7 := i5.im im7
    have w7 := w5.im im7
    have e7 := im7 _ _ e5 rfl
    rcases ar with ⟨eo, cp, cdx, la, wa, wx, ka, xo, rfl, rfl⟩ | ⟨eo, l8, t', xo, rfl, rfl, hx⟩ | ⟨eo, l8, rfl, rfl⟩
    · have ww1 : ww = [.ref t] := by
        have a0 : S3.W.ws = [] := List.eq_nil_of_length_eq_zero (by rw [lws, hjw3 eo]; rfl)
        rcases hww with ⟨_, e⟩ | ⟨q, _⟩
        · rw [e, a0]; rfl
        · exact absurd eo q
      subst ww1
      obtain ⟨n1, n2⟩ := next_none (W := { S3.W with ws := [.ref t] }) (opi.mpr eo) rfl
      rw [n1, n2] at r7
      have lv3 : S3.W.lv = .int S3.R.live := by
        rcases hp3.lv ov3 with ⟨q, _⟩ | ⟨_, q⟩
        · rw [eo] at q; cases q
        · exact q
      have J := hp3.sent eo ov3 ok (by omega) h0 hp3.aok hp3.asl (lv := S3.W.lv) (.inr ⟨nlv, lv3⟩) cp cdx la wa wx ka xo S3.R.ws (.ref t) []
      refine k3 _ _ r ts H7 J (fun q => nomatch q) ⟨rfl, rfl, rfl, rfl, rfl, rfl, rfl⟩ ov3 rfl rfl (Nat.le_refl 1) r7 ⟨i7, hi7.wi, ?_, ⟨t, rfl, e7⟩, Zp.app (Zp.one ⟨t, rfl, e7⟩) hi7.di, hi7.xi, hi7.ei⟩ w7
      show Zp (MaR H7) [] S3.as
      rw [hjw3 eo]
      trivial
    · obtain ⟨n1, n2⟩ := next_some (W := { S3.W with ws := ww }) (fun q => eo (opi.mp q))
      have e : ww = S3.W.ws ++ [.ref t] := by
        rcases hww with ⟨_, e⟩ | ⟨_, q, _⟩
        · exact e
        · exact absurd l8 q
      rw [n1, n2, List.append_nil] at r7
      subst e
      have J := hp3.wait ⟨ok, nlv⟩ l8 (S3.R.ws ++ [(t', [.str a.verb, xo, a.xg])]) (S3.W.ws ++ [.ref t])
      rw [← List.append_nil gs] at J
      exact k3 _ [] r ts H7 J (fun q => absurd q eo) ⟨rfl, rfl, rfl, rfl, rfl, rfl, rfl⟩ ov3 rfl rfl (Nat.zero_le _) r7 ⟨i7, Zp.app (Zp.one ⟨xo, rfl, hx.im im7⟩) hi7.wi, Zp.app (Zp.one ⟨t, rfl, e7⟩) hi7.mi, hi7.oi, hi7.di, hi7.xi, hi7.ei⟩ w7
    · obtain ⟨n1, n2⟩ := next_some (W := { S3.W with ws := ww }) (fun q => eo (opi.mp q))
      have e : ww = S3.W.ws := by
        rcases hww with ⟨q | q, _⟩ | ⟨_, _, e⟩
        · exact absurd q eo
        · exact absurd q l8
        · exact e
      rw [n1, n2, List.append_nil] at r7
      subst e
      have J := hp3
      rw [← List.append_nil gs] at J
      exact k3 S3 [] r ts H7 J (fun q => absurd q eo) ⟨rfl, rfl, rfl, rfl, rfl, rfl, rfl⟩ ov3 rfl rfl (Nat.zero_le _) r7 hi7 w7

end K19
set_option maxHeartbeats 4000000
set_option pp.maxSteps 400
namespace K19
open PySem PySem.Spec PyProof.Rows L2 SX TK TKS TKC
open C8 (pe_c)
/-! ### a reply to what is open -/
def evA (a : Ask) (n : Int) (b : Bool) : List Ev := match a with
  | .turn _ => [.turn n b]
  | .move _ => [.move n]
  | .live => []
def livA (a : Ask) (now check old : Int) : Int := match a with
  | .live => now + check
  | _ => old
theorem livA_ne {a : Ask} (h : a ≠ .live) (now check old : Int) : livA a now check old = old := by
  cases a with
  | turn p => rfl
  | move g => rfl
  | live => exact absurd rfl h
def R2O (S : S9) (oc : ClR) (l : Int) (es' : List (Addr × List V)) : LegR := { S.R with cs := [S.cc, oc], live := l, es := es' }
def RpR9 (H' : Hp) (S : S9) (a : Ask) (n now : Int) (b : Bool) (R' : LegR) (g : List GL) : Prop := ∃ oc : ClR, oc.st = .ov ∧
  ((n = 41 ∧ g = [] ∧ ∃ wt t, R' = overR { S.R with cs := [S.cc, oc] } wt t "lost" 41) ∨
   (n ≠ 41 ∧ ∃ es', Zp (EvR H') es' (S.ev ++ evA a n b) ∧
     ((S.as = [] ∧ R' = R2O S oc (livA a now S.R.check S.R.live) es' ∧ g = []) ∨
      (∃ a1 as' w ws' cp cdx la wa wx ka xo, S.as = a1 :: as' ∧ S.R.ws = w :: ws' ∧ R' = sentR { R2O S oc (livA a now S.R.check S.R.live) es' with ws := ws' } (newC cp cdx la wa wx ka (a1.L (S.R.seq + 1) xo) a1.o S.R.place S.R.first now) ∧ g = [(a1.L (S.R.seq + 1) xo, a1.o, none)]))))
theorem OffO_inj {H : Hp} {x : V} {o o' : Option Off} (h : OffO H x o) (h' : OffO H x o') : o = o' := by
  have strs9 : ∀ {l m : List Str}, l.map V.str = m.map V.str → l = m := fun {l m} e => by
    induction l generalizing m with
    | nil => cases m with
      | nil => rfl
      | cons b r => cases e
    | cons a r ih => cases m with
      | nil => cases e
      | cons b q =>
        injection e with e1 e2
        injection e1 with e1
        rw [e1, ih e2]
  cases o with
  | none =>
    cases o' with
    | none => rfl
    | some u =>
      obtain ⟨p, f, e, _⟩ := h'
      rw [show x = .non from h] at e
      cases e
  | some u =>
    obtain ⟨p, f, e, h1, h2⟩ := h
    cases o' with
    | none =>
      rw [show x = .non from h'] at e
      cases e
    | some u' =>
      obtain ⟨p', f', e', h1', h2'⟩ := h'
      rw [e] at e'
      cases e'
      rw [h1] at h1'
      injection h1' with h1'
      injection h1' with h1'
      injection h1' with a1 h1'
      injection h1' with a2 h1'
      injection h1' with a3 h1'
      injection a1 with a1
      injection a2 with a2
      injection a3 with a3
      rw [← a3, h2] at h2'
      injection h2' with h2'
      injection h2' with h2'
      have a4 := strs9 h2'
      cases u
      cases u'
      dsimp only at a1 a2 a4
      rw [a1, a2, a4]
/-- the last letter is what is open -/
theorem Jp.last {S : S9} {check : Int} {a : Ask} (h : Jp S [] check) (eo : S.op = some a) : ∃ xi x, S.xs = xi ++ [x] ∧ rowV x = a.z ∧ x.L.verb = a.verb ∧ x.L.way = wyS S.R.seq ∧ LOk x.L := by
  obtain ⟨ok, ⟨d, ed⟩, _⟩ := h.ops a eo
  have e := h.rw_
  rw [show (takeT S.W.g []).2 = [] from rfl, List.map_nil, List.append_nil, ed, List.map_append] at e
  have ne : S.xs ≠ [] := fun q => by
    rw [q] at e
    have := congrArg List.length e
    rw [List.length_append] at this
    simp at this
  obtain ⟨xi, x, ex⟩ : ∃ xi x, S.xs = xi ++ [x] := ⟨_, _, (List.dropLast_concat_getLast ne).symm⟩
  rw [ex, List.map_append] at e
  have e2 := List.cons.inj (List.append_inj' e rfl).2 |>.1
  have mx : x ∈ S.xs := by rw [ex]; simp
  obtain ⟨v3, lk⟩ := h.xo.v x mx
  have e3 : (rowV x).1 = a.verb := by rw [e2]; rfl
  rw [row_verb v3] at e3
  have q := (h.xo.q xi.length x (by rw [ex]; simp)).2
  have sq : S.W.g = S.R.seq := h.sq
  have g_ := h.g_
  rw [ex, List.length_append, List.length_singleton] at g_
  refine ⟨xi, x, ex, e2, e3, ?_, lk⟩
  rw [q, ← sq, g_]
  congr 1
  omega
theorem rep_tail {S : S9} {check : Int} {a : Ask} (h : Jp S [] check) (eo : S.op = some a) (ho : S.ovs = []) : ∃ ca, S.tl = [ca] ∧ S.R.cs = [S.cc, ca] ∧ AskC ca a S.R.seq := by
  obtain ⟨_, _, ca, et, hc⟩ := h.ops a eo
  refine ⟨ca, et, ?_, hc⟩
  rw [h.cs, ho, et]
  rfl
theorem repliedR_eq {S : S9} {a : Ask} {M : Ltr} {oc : ClR} {n now : Int} {t : Addr} {H : Hp} {b : Bool} (hv : M.verb = a.verb) (hM : OffO H M.offer (ofB b)) (he : Zp (EvR H) S.R.es S.ev) :
    ∃ es', Zp (EvR H) es' (S.ev ++ evA a n b) ∧ repliedR { S.R with cs := [S.cc, oc] } M n now t = R2O S oc (livA a now S.R.check S.R.live) es' := by
  cases a with
  | turn p =>
    have hv' : M.verb = "TURN" := hv
    refine ⟨S.R.es ++ [(t, [.str "turn replied", .int n, M.offer])], Zp.app (Zp.one ⟨_, rfl, hM⟩) he, ?_⟩
    unfold repliedR
    rw [if_neg (by rw [hv']; exact vb_ne.2.1.symm), if_pos hv']
    rfl
  | move g =>
    have hv' : M.verb = "MOVE" := hv
    refine ⟨S.R.es ++ [(t, [.str "move replied", .int n])], Zp.app (Zp.one (P := EvR H) (show EvR H (t, [.str "move replied", .int n]) (.move n) from rfl)) he, ?_⟩
    unfold repliedR
    rw [if_neg (by rw [hv']; exact vb_ne.2.2.1.symm), if_neg (by rw [hv']; exact vb_ne.2.2.2.1)]
    rfl
  | live =>
    have hv' : M.verb = "LIVE" := hv
    refine ⟨S.R.es, ?_, ?_⟩
    · show Zp (EvR H) S.R.es (S.ev ++ [])
      rw [List.append_nil]
      exact he
    unfold repliedR
    rw [if_pos hv']
    rfl
theorem RpR9.im {H H' : Hp} {S : S9} {a : Ask} {n now : Int} {b : Bool} {R' : LegR} {g : List GL} (h : RpR9 H S a n now b R' g) (s : Im H H') : RpR9 H' S a n now b R' g := by
  obtain ⟨oc, h1, h2⟩ := h
  refine ⟨oc, h1, h2.imp id ?_⟩
  rintro ⟨h3, es', h4, h5⟩
  exact ⟨h3, es', h4.mono (fun _ _ q => EvW.im q s), h5⟩
theorem reply_k {K : PySem.W.Frag} {H : Hp} {S : S9} {check : Int} {a : Ask} {n now : Int} {xo : V} {b : Bool} {ba : Addr} {x : LR} {Q : VK} {E : XK} (h : Jp S [] check) (eo : S.op = some a) (ov : S.W.ov = false) (ho : S.ovs = []) (hi : Ji K H S) (hc : Cells H (legM K S.R)) (nx : S.xs.length ≤ 5000) (ne : S.ev.length ≤ 1000)
    (hv : x.L.verb = a.verb) (hw : x.L.way = wyS S.R.seq) (hl : LOk x.L) (hM : LetAt K H ba (x.L.reply (.int n) "y1" xo .non)) (hx : OffO H xo (ofB b)) (n0 : 20 ≤ n) (n1 : n ≤ 99)
    (k : ∀ R' g r ts H', RpR9 H' S a n now b R' g → Run H (legM K S.R) H' ((r, .lst (ts.map V.ref)) :: legM K R') → LegI K H' R' → RwI H' ts (g.map rowG) → Q (.ref r) H') : spTakeReply8 K [.ref S.R.p, .ref ba, .int now] H Q E := by
  have st : S.R.st = "talking" := by rw [h.st, ov]; rfl
  obtain ⟨ca, et, ecs, hca⟩ := rep_tail h eo ho
  have sq := h.seq
  have sl : S.R.seq ≤ 900000 := by
    have := sq.2
    have : ([] : List GL).length = 0 := rfl
    omega
  obtain ⟨xc, exc⟩ := hca.L
  have hnc : (x.L.reply (.int n) "y1" xo .non).verb ≠ "CALL" := by
    show x.L.verb ≠ "CALL"
    rw [hv]
    exact ask_ncall a
  have hmc : matchC ca (x.L.reply (.int n) "y1" xo .non) = true := by
    unfold matchC
    rw [show (x.L.reply (.int n) "y1" xo .non).way = x.L.way from rfl, show (x.L.reply (.int n) "y1" xo .non).verb = x.L.verb from rfl, hw, hv, exc, show (a.L S.R.seq xc).way = wayS "x1" S.R.seq from rfl, way_x1, show (a.L S.R.seq xc).verb = a.verb from rfl, decide_eq_true rfl, decide_eq_true rfl]
    all_goals rfl
  have les : S.R.es.length = S.ev.length := hi.ei.len
  refine ⟨S.R, ba, _, n, now, rfl, hc, hi.li, hM, reply_ok hl y1_ok (by omega) n1, rfl, (fun v => absurd v hnc), by omega, Nat.lt_of_le_of_lt h.csl (by decide), (fun w mw => ?_), (fun no => ?_), fun pre post c e hpre hm R' rows r ts H' tr r9 i9 w9 => ?_⟩
  · obtain ⟨a1, ma, xo1, e1, e2⟩ := Zp.mem hi.wi mw
    exact ⟨a1.verb, xo1, a1.xg, a1.o, e1, ask_x (h.aok a1 ma).1 e2, h.tg.snd (by omega) sl (h.aok a1 ma).1⟩
  · have := no ca (by rw [ecs]; simp)
    rw [hmc] at this
    cases this
  have ec : pre = [S.cc] ∧ c = ca ∧ post = [] := by
    rw [ecs] at e
    cases pre with
    | nil =>
      injection e with a1 a2
      unfold matchC at hm
      rw [← a1, Bool.and_eq_true, decide_eq_true_eq, decide_eq_true_eq] at hm
      exact absurd (hm.2.symm.trans h.ccok.v) hnc
    | cons y ys =>
      injection e with a1 a2
      cases ys with
      | nil =>
        injection a2 with a3 a4
        exact ⟨by rw [← a1], a3.symm, a4.symm⟩
      | cons z zs =>
        injection a2 with a3 a4
        cases zs <;> cases a4
  obtain ⟨rfl, rfl, rfl⟩ := ec
  have hov : ¬ c.st = .ov := by rw [hca.st]; decide
  have hisc : isC c.L = false := by
    unfold isC
    rw [exc]
    exact decide_eq_false (ask_ncall a)
  have tv : takeV c n = .int n := by
    unfold takeV
    rw [if_neg hov, if_neg (fun q => q n0), if_pos hisc]
  have tc : ∀ wa wx ka kt, takeC c (x.L.reply (.int n) "y1" xo .non) n now wa wx ka kt = { c with st := .ov } := fun wa wx ka kt => by
    unfold takeC
    rw [if_neg hov, if_neg (fun q => q n0), if_pos hisc]
  have to_ : takeO c (x.L.reply (.int n) "y1" xo .non) n = [] := by
    unfold takeO
    rw [if_neg hov, if_neg (fun q => q n0), if_pos hisc]
  obtain ⟨wa, wx, ka, kt, ⟨q, _⟩ | ⟨_, q, _⟩ | ⟨_, _, rows2, fr, er⟩⟩ := tr
  · rw [tv] at q
    cases q
  · exact absurd q hnc
  rw [to_, List.nil_append] at er
  subst er
  rw [tc] at fr
  have im9 := r9.im
  have ei9 : Zp (EvR H') S.R.es S.ev := (hi.im im9).ei
  have hx9 := hx.im im9
  change FwRel { S.R with cs := [S.cc, { c with st := .ov }] } (x.L.reply (.int n) "y1" xo .non) n now R' rows at fr
  generalize eoc : ({ c with st := .ov } : ClR) = oc at fr
  have oco : oc.st = .ov := by rw [← eoc]
  cases fr with
  | quiet q => exact absurd st q
  | @lost wt t _ e => exact k _ [] r ts H' ⟨oc, oco, .inl ⟨e, rfl, wt, t, rfl⟩⟩ r9 i9 w9
  | @last t _ e ews =>
    obtain ⟨es', z1, z2⟩ := repliedR_eq (S := S) (a := a) (M := x.L.reply (.int n) "y1" xo .non) (oc := oc) (n := n) (now := now) (t := t) (b := b) hv hx9 ei9
    have ea : S.as = [] := List.eq_nil_of_length_eq_zero (by rw [← hi.wi.len, show S.R.ws = [] from ews]; rfl)
    exact k _ [] r ts H' ⟨oc, oco, .inr ⟨e, es', z1, .inl ⟨ea, z2, rfl⟩⟩⟩ r9 i9 w9
  | @next t tw cp cdx la wa wx ka verb xo1 xg1 o1 ws' _ e ews =>
    obtain ⟨es', z1, z2⟩ := repliedR_eq (S := S) (a := a) (M := x.L.reply (.int n) "y1" xo .non) (oc := oc) (n := n) (now := now) (t := t) (b := b) hv hx9 ei9
    have hwi := hi.wi
    have ews' : S.R.ws = (tw, [.str verb, xo1, xg1]) :: ws' := ews
    rw [ews'] at hwi
    cases eas : S.as with
    | nil => rw [eas] at hwi; exact hwi.elim
    | cons a1 as' =>
      rw [eas] at hwi
      obtain ⟨⟨xo2, e1, e2⟩, _⟩ := hwi
      have e1' : ([.str verb, xo1, xg1] : List V) = [.str a1.verb, xo2, a1.xg] := e1
      injection e1' with b1 e1'
      injection b1 with b1
      injection e1' with b2 e1'
      injection e1' with b3 _
      subst b1 b2 b3
      have oc1 := (i9.ci (newC cp cdx la wa wx ka (sendL { S.R with cs := [S.cc, oc] } a1.verb xo1 a1.xg) o1 S.R.place S.R.first now) (by show _ ∈ _ ++ [_]; exact List.mem_append_right _ (List.mem_singleton.mpr rfl))).of
      obtain rfl : o1 = a1.o := OffO_inj oc1 (e2.im im9)
      have es1 : sendL { S.R with cs := [S.cc, oc] } a1.verb xo1 a1.xg = a1.L (S.R.seq + 1) xo1 := h.tg.send a1 xo1
      have epl : ({ S.R with cs := [S.cc, oc] } : LegR).place = "q" := h.tg.place
      rw [es1, epl] at w9
      rw [es1, z2] at r9 i9
      exact k _ [(a1.L (S.R.seq + 1) xo1, a1.o, none)] r ts H' ⟨oc, oco, .inr ⟨e, es', z1, .inr ⟨a1, as', _, ws', cp, cdx, la, wa, wx, ka, xo1, eas, ews', rfl, rfl⟩⟩⟩ r9 i9 w9

end K19
set_option maxHeartbeats 4000000
set_option pp.maxSteps 400
namespace K19
open PySem PySem.Spec PyProof.Rows L2 SX TK TKS TKC
open C8 (pe_c)
/-! ### what a reply makes of it -/
theorem Jp.replied {S : S9} {check : Int} (h : Jp S [] check) (ov : S.W.ov = false) {oc : ClR} (ho : oc.st = .ov) (l : Int) (es' : List (Addr × List V)) (ev' : List Ev) :
    Jp { S with R := R2O S oc l es', W := { S.W with op := .non, lv := .int l }, op := none, ovs := [oc], tl := [], ev := ev' } [] check := by
  have tg := h.tg
  refine ⟨⟨tg.tag, tg.call, tg.own, tg.other, tg.place, tg.first, tg.chk, tg.ot, tg.ss, tg.rq⟩, h.st, h.sq, h.tk, h.gl, h.ls, h.g_, h.xo, h.rw_, (fun _ => rfl), (fun _ e => nomatch e), (fun _ => rfl), h.aok, h.dok, h.asl, rfl, h.ccok, (fun c m => ?_), by show 1 ≤ 3; decide, (fun _ => .inr ⟨(fun e => nomatch e), rfl⟩), h.nl⟩
  rw [List.mem_singleton.mp m]
  exact ho
theorem Jp.lost {S : S9} {check : Int} (h : Jp S [] check) {oc : ClR} (ho : oc.st = .ov) (wt t lb : Addr) (ev' : List Ev) :
    Jp { S with R := overR { S.R with cs := [S.cc, oc] } wt t "lost" 41, W := { S.W with op := .non, ws := [], lb := lb, ov := true }, op := none, as := [], ovs := [oc], tl := [], ev := ev' } [] check := by
  have tg := h.tg
  refine ⟨⟨tg.tag, tg.call, tg.own, tg.other, tg.place, tg.first, tg.chk, tg.ot, tg.ss, tg.rq⟩, rfl, h.sq, h.tk, h.gl, h.ls, h.g_, h.xo, h.rw_, (fun _ => rfl), (fun _ e => nomatch e), (fun _ => rfl), (fun _ m => nomatch m), h.dok, Nat.zero_le _, rfl, h.ccok, (fun c m => ?_), by show 1 ≤ 3; decide, (fun e => nomatch e), h.nl⟩
  rw [List.mem_singleton.mp m]
  exact ho
theorem at_last {l : List V} {v : V} : atI (l ++ [v]) (((l ++ [v]).length : Nat) - 1 : Int) = some v := by
  rw [atN .non (by rw [List.length_append, List.length_singleton]; omega) (by omega)]
  rw [show ((((l ++ [v]).length : Nat) - 1 : Int)).toNat = l.length by rw [List.length_append, List.length_singleton]; omega]
  rw [List.getD_eq_getElem?_getD, List.getElem?_append_right (Nat.le_refl _), Nat.sub_self]
  rfl
/-! ### the law replies -/
def spReplies (K : PySem.W.Frag) : Sp := fun vs H Q _ => ∃ (S : S9) (a : Ask) (check now : Int) (el : Addr) (es : List V), vs = [.ref S.s, .ref S.R.p, .ref S.W.w, .ref S.dl, .ref el, .int now, .int check] ∧ Cells H ((el, .lst es) :: cM K S) ∧ Ji K H S ∧ Jp S [] check ∧ S.op = some a ∧ S.W.ov = false ∧ S.ovs = [] ∧ 0 ≤ now ∧ S.xs.length ≤ 5000 ∧ S.ev.length ≤ 1000 ∧ es.length ≤ 10000 ∧
  ∀ S' g r ts e es' H', Jp S' g check → Jw S' → Sm S S' → S'.ev = S.ev ++ e → e.length ≤ 1 → Zp (EvAt H') es' e → g.length ≤ 1 → Run H ((el, .lst es) :: cM K S) H' ((r, .lst (ts.map V.ref)) :: (el, .lst (es ++ es')) :: cM K S') → Ji K H' S' → RwI H' ts (g.map rowG) → Q (.ref r) H'
theorem ok_law_replies {P : Program} {w : World} {K : PySem.W.Frag} {mg : Str → Option Value} {base : Heap} {f : Addr} {fd : FuncData} (T : Tx K mg) (c_law_draw : C8.Cal P w K mg base 1 "_law_draw" spDraw []) (c_law_pick : C8.Cal P w K mg base 2 "_law_pick" spPick []) (c_Letter_reply_o : TK.MetK P w K mg base 3 (He.ga K "Letter") "reply" (spLReply K) 2 ["offer"] (fun vs zs => vs ++ zs ++ [(V.non)])) (c_Leg_receive : C8.Met P w K mg base 9 (He.ga K "Leg") "receive" (spRecv8 K) []) (c_law_next : C8.Cal P w K mg base 1 "_law_next" (spNext K) [])
    (F : FunD K "_law_replies" "_law_replies" (defArgs s_law_replies) (defBody s_law_replies) (defScope s_law_replies) [] [] f fd) : FnOk P w K mg base CX0 10 f fd ["state", "leg", "world", "due", "events", "now", "check"] (spReplies K) := by
  refine F.ok sc_law_replies (fun vs H Q E h => ?_) (fun cdv A outer s0 H vs Q E hr h => ?_)
  · obtain ⟨S, a, check, now, el, es, rfl, _⟩ := h
    rfl
  · obtain ⟨S, a, check, now, el, es, rfl, hc, hi, hp, eo, ov, ho, h0, nx, nev, nes, k⟩ := h
    refine ⟨_, PSs.nox (pss_cons (ps_set (i := 7) sc_law_replies.nd rfl (Or.inl rfl) (pe_ix ix_list (pe_ix ix_list (pv 2) pe_int (fun _ _ => rfl)) (pe_op op_sub (pe_callB call_len_seq rfl T.f_len PySem.boot_len (pa_cons (pe_ix ix_list (pv 2) pe_int (fun _ _ => rfl)) pa_nil)) pe_int) (fun _ _ => rfl))) (pss_cons (ps_set (i := 8) sc_law_replies.nd rfl (Or.inl rfl) (pe_c c_law_pick hr (by decide) rfl (pa_cons (pv 0) (pa_cons (pe_lst (pa_cons pe_int (pa_cons pe_int (pa_cons pe_int (pa_cons pe_int (pa_cons pe_int (pa_cons pe_int (pa_cons (pe_op op_add pe_int (pe_op op_mul pe_int (pe_callTy call_int1 rfl T.f_int (by decide +kernel) (pa_cons (pe_cmpR op_gt (pe_c c_law_draw hr (by decide) rfl (pa_cons (pv 0) (pa_cons pe_int pa_nil))) pe_int (nomark _)) pa_nil)))) pa_nil)))))))) pa_nil)))) (pss_cons (ps_set (i := 9) sc_law_replies.nd rfl (Or.inl rfl) (pe_c c_law_pick hr (by decide) rfl (pa_cons (pv 0) (pa_cons (pe_lst (pa_cons pe_non (pa_cons (pe_tup (pa_cons pe_int (pa_cons pe_str (pa_cons (pe_tup (pa_cons pe_str pa_nil)) pa_nil)))) pa_nil))) pa_nil)))) (pss_cons (ps_set (i := 10) sc_law_replies.nd rfl (Or.inl rfl) (C8.pe_mt c_Leg_receive hr (by decide) (pv 1) (pa_cons (TK.pe_mtK c_Letter_reply_o hr (by decide) (pv 7) (pa_cons (pv 8) (pa_cons pe_str pa_nil)) (pk_cons (pv 9) pk_nil)) (pa_cons pe_str (pa_cons (pv 5) pa_nil))))) (pss_cons (ps_set (i := 11) sc_law_replies.nd rfl (Or.inl rfl) (pe_ix ix_list (pv 2) pe_int (fun _ _ => rfl))) (pss_cons (ps_asg pe_non (pg_sub (pv 2) pe_int set_list)) (C8.pss_cut (ps_if (pt_cmpR op_eq (pv 8) pe_int (nomark _)) (pss_cons (ps_expr (pe_bm PySem.F.plainAttrs_list PySem.F.slot_list_append PySem.F.type_list_append mt_append (pv 4) (pa_cons (pe_tup (pa_cons pe_str (pa_cons pe_str (pa_cons pe_int pa_nil)))) pa_nil))) (pss_cons (ps_asg (pe_lst pa_nil) (pg_sub (pv 2) pe_int set_list)) (pss_cons (ps_asg pe_bl (pg_sub (pv 2) pe_int set_list)) (pss_one (ps_ret (pv 10)))))) pss_nil) (C8.pss_cut (ps_if (pt_cmpR op_eq (pe_ix ix_tup (pv 11) pe_int (fun _ _ => rfl)) pe_str (nomark _)) (pss_one (ps_expr (pe_bm PySem.F.plainAttrs_list PySem.F.slot_list_append PySem.F.type_list_append mt_append (pv 4) (pa_cons (pe_tup (pa_cons pe_str (pa_cons (pv 8) (pa_cons (pv 9) pa_nil)))) pa_nil)))) (pss_one (ps_if (pt_cmpR op_eq (pe_ix ix_tup (pv 11) pe_int (fun _ _ => rfl)) pe_str (nomark _)) (pss_one (ps_expr (pe_bm PySem.F.plainAttrs_list PySem.F.slot_list_append PySem.F.type_list_append mt_append (pv 4) (pa_cons (pe_tup (pa_cons pe_str (pa_cons (pv 8) pa_nil))) pa_nil)))) (pss_one (ps_asg (pe_op op_add (pv 5) (pv 6)) (pg_sub (pv 2) pe_int set_list)))))) (pss_cons (ps_expr (pe_c c_law_next hr (by decide) rfl (pa_cons (pv 2) (pa_cons (pv 3) pa_nil)))) (pss_one (ps_ret (pv 10)))))))))))), ?_⟩
    obtain ⟨xi, x, ex, xz, xv, xw, xl⟩ := hp.last eo
    have hw : H S.W.w = some (.lst (wdL S.W)) := hc.get (by simp [cM, wdM])
    have hla : H S.W.la = some (.lst (xi.map (fun y => V.ref y.a) ++ [.ref x.a])) := by
      have z : H S.W.la = some (.lst (S.W.ls.map V.ref)) := hc.get (by simp [cM, wdM])
      rw [z, hp.ls, ex, List.map_map, List.map_append]
      rfl
    have hx := hi.xi x (by rw [ex]; simp)
    refine ⟨_, rfl, S.W.w, _, 1, .ref S.W.la, rfl, rfl, SqL.of hw, rfl, _, rfl, S.W.w, _, 1, .ref S.W.la, rfl, rfl, SqL.of hw, rfl, S.W.la, _, rfl, .inl (SqL.of hla), _, _, rfl, rfl, S.W.la, _, _, .ref x.a, rfl, rfl, SqL.of hla, at_last, ?_⟩
    -- the code
    refine ⟨_, rfl, _, rfl, S.s, S.c, 3, rfl, S9.st (Cells.tail hc) hp.nl, by decide, by decide, fun d H1 d0 d1 st1 kp1 => ?_⟩
    obtain ⟨n1, m1, l1, r1⟩ := S9.drawX (X := [(el, .lst es)]) (Run.refl hc) st1 kp1
    refine ⟨_, _, rfl, rfl, .inr ⟨_, rfl, _, _, rfl, rfl, .inl ⟨by decide, by decide⟩, _, _, rfl, rfl, by show 7 ≤ sizeLine; decide, fun l hl => ?_⟩⟩
    obtain ⟨ls, lc⟩ := st1.tracked hl
    have r1' := r1.same (same_upd (o := .lst [.int 20, .int 20, .int 20, .int 46, .int 50, .int 50, .int (41 + 9 * (if decide (0 < d) = true then 1 else 0))]) hl)
    refine ⟨S.s, S.c, _, rfl, st1.upd ls lc, .inr ⟨l, _, rfl, upd_same, ls, lc, by simp, by simp, fun v hv H2 st2 kp2 => ?_⟩⟩
    obtain ⟨n, rfl, n20, n99⟩ : ∃ n : Int, v = .int n ∧ 20 ≤ n ∧ n ≤ 99 := by
      simp only [List.mem_cons, List.not_mem_nil, or_false] at hv
      rcases hv with rfl | rfl | rfl | rfl | rfl | rfl | rfl
      · exact ⟨_, rfl, by decide, by decide⟩
      · exact ⟨_, rfl, by decide, by decide⟩
      · exact ⟨_, rfl, by decide, by decide⟩
      · exact ⟨_, rfl, by decide, by decide⟩
      · exact ⟨_, rfl, by decide, by decide⟩
      · exact ⟨_, rfl, by decide, by decide⟩
      · refine ⟨_, rfl, ?_⟩
        split <;> decide
    obtain ⟨n2, m2, l2, r2⟩ := S9.drawX (S := { S with n := n1, ns := m1 }) (X := [(el, .lst es)]) r1' st2 kp2
    -- the offer
    refine ⟨_, rfl, by show 1 ≤ sizeLine; decide, fun f hf => ⟨by show 3 ≤ sizeLine; decide, fun o ho2 => ⟨by show 2 ≤ sizeLine; decide, fun l9 hl9 => ?_⟩⟩⟩
    have s3 := (same_upd (o := .tup [.str "a"]) hf).trans (same_upd (o := .tup [.int 9, .str "take", .ref f]) ho2)
    have s4 := s3.trans (same_upd (o := .lst [.non, .ref o]) hl9)
    have fo : f ≠ o := fun e => by rw [← e, upd_same] at ho2; cases ho2
    have hof0 : OffAt (upd (upd H2 f (.tup [.str "a"])) o (.tup [.int 9, .str "take", .ref f])) (.ref o) oT := ⟨o, f, rfl, upd_same, (upd_ne fo).trans upd_same⟩
    have hof : OffAt (upd (upd (upd H2 f (.tup [.str "a"])) o (.tup [.int 9, .str "take", .ref f])) l9 (.lst [.non, .ref o])) (.ref o) oT := hof0.same (same_upd hl9)
    have e9 : (upd (upd (upd H2 f (.tup [.str "a"])) o (.tup [.int 9, .str "take", .ref f])) l9 (.lst [.non, .ref o])) l9 = some (.lst [.non, .ref o]) := upd_same
    obtain ⟨l9s, l9c⟩ := (st2.same s3).tracked hl9
    have r3 := r2.same s4
    have st3 := st2.same s4
    generalize (upd (upd (upd H2 f (.tup [.str "a"])) o (.tup [.int 9, .str "take", .ref f])) l9 (.lst [.non, .ref o])) = H3 at r3 st3 e9 hof ⊢
    clear s3 s4 hof0 hl9 hf ho2 fo r2 r1' r1 hl ls lc hv kp1 kp2 st1 st2
    refine ⟨S.s, S.c, _, rfl, st3, .inr ⟨l9, _, rfl, e9, l9s, l9c, by simp, by simp, fun xo hv H4 st4 kp4 => ?_⟩⟩
    have im4 := Keep.im st3 kp4
    obtain ⟨b, hxo⟩ : ∃ b, OffO H4 xo (ofB b) := by
      simp only [List.mem_cons, List.not_mem_nil, or_false] at hv
      rcases hv with rfl | rfl
      · exact ⟨false, rfl⟩
      · exact ⟨true, OffAt.im hof im4⟩
    obtain ⟨n4, m4, l4, r4⟩ := S9.drawX (S := { S with n := n2, ns := m2 }) (X := [(el, .lst es)]) r3 st4 kp4
    clear r3 st3 e9 hof hv kp4 im4 l9s l9c st4
    -- the state now
    have hp4 := hp.setN (n := n4) l4
    have hi4 := (hi.im r4.im).setN (n := n4) (ns := m4)
    have k4 := fun S' g r ts e es' H' a1 a2 (a3 : Sm { S with n := n4, ns := m4 } S') a4 a5 a6 a7 a8 => k S' g r ts e es' H' a1 a2 ⟨a3.s, a3.c, a3.p, a3.dx, a3.w, a3.dl, a3.xs⟩ a4 a5 a6 a7 (r4.trans a8)
    have hx4 := hx.im r4.im
    have c4 := r4.c
    obtain ⟨S4, hS4⟩ : ∃ S4 : S9, S4 = { S with n := n4, ns := m4 } := ⟨_, rfl⟩
    have ee : S.s = S4.s ∧ S.R.p = S4.R.p ∧ S.W.w = S4.W.w ∧ S.dl = S4.dl ∧ S.ev = S4.ev ∧ S.ovs = S4.ovs ∧ S4.W.ov = false ∧ S4.xs.length ≤ 5000 ∧ S4.op = some a ∧ S4.xs = xi ++ [x] ∧ S4.R.seq = S.R.seq := by rw [hS4]; exact ⟨rfl, rfl, rfl, rfl, rfl, rfl, ov, nx, eo, ex, rfl⟩
    rw [← hS4] at hp4 hi4 k4 c4
    obtain ⟨e1, e2, e3, e4, e5, e6, ov4, nx4, eo4, ex4, e7⟩ := ee
    rw [e5] at k4 nev
    rw [e6] at ho
    rw [← e7] at xw
    rw [e1, e2, e3, e4]
    clear k hc hi hp r4 ov nx hS4 e1 e2 e3 e4 e5 e6 e7 eo ex hw hla hx l1 l2 l4
    have L := S9.legC (Cells.tail c4)
    have hp9 := leg_p L
    obtain ⟨dxl, hxl⟩ := id hx4.at_
    -- the leg
    refine ⟨_, rfl, S4.R.p, S4.R.dx, _, rfl, hp9, rfl, _, rfl, x.a, dxl, _, rfl, hxl, rfl, _, rfl, _, rfl, rfl, rfl, x.a, x.L, .int n, "y1", xo, .non, rfl, hx4.at_, fun ba H5 s5 hba hla5 => ⟨_, rfl, ?_⟩⟩
    have c5 := c4.same s5
    refine ⟨S4.R.p, ba, "q", now, n, _, rfl, hla5, rfl, reply_k hp4 eo4 ov4 ho (hi4.im (Im.of_same s5)) (S9.legC (Cells.tail c5)) nx4 nev xv xw xl hla5 (hxo.same s5) n20 n99 fun R' g r ts H6 rp r6 i6 w6 => ?_⟩
    have q6 := (Run.frameR (A := (el, .lst es) :: (sM S4.s S4.c S4.n S4.ns ++ (wdM S4.W ++ [(S4.dl, .lst S4.dv)]))) (Run.refl c5) r6).perm List.perm_middle
    have r7 : Run H5 ((el, .lst es) :: cM K S4) H6 ((r, .lst (ts.map V.ref)) :: (el, .lst es) :: cM K { S4 with R := R' }) := q6
    have r7' : Run H4 ((el, .lst es) :: cM K S4) H6 ((r, .lst (ts.map V.ref)) :: (el, .lst es) :: cM K { S4 with R := R' }) := ((Run.refl c4).same s5).trans r7
    have hi6 := hi4.im r7'.im
    have hxo6 : OffO H6 xo (ofB b) := hxo.im r7'.im
    have c6 := r7.c
    have k6 := fun S' g r ts e es' H' a1 a2 a3 a4 a5 a6 a7 a8 => k4 S' g r ts e es' H' a1 a2 a3 a4 a5 a6 a7 (r7'.trans a8)
    clear q6 r7 r7' k4 c5 s5 hla5 hba hxo hx4 hxl L hp9 hi4 c4 r6 f o l l9
    have hw6 : H6 S4.W.w = some (.lst (wdL S4.W)) := c6.get (by simp [cM, wdM])
    obtain ⟨tm, eop, etm⟩ : MaR H6 S4.W.op a := by
      have := hi6.oi
      rw [eo4] at this
      exact this
    refine ⟨_, rfl, S4.W.w, _, 2, S4.W.op, rfl, rfl, SqL.of hw6, rfl, ?_⟩
    refine ⟨_, rfl, S4.W.w, _, 2, 2, rfl, rfl, hw6, rfl, ?_⟩
    have r8 := Run.set (A := (r, .lst (ts.map V.ref)) :: (el, .lst es) :: sM S4.s S4.c S4.n S4.ns) (a := S4.W.w) (o := .lst (wdL S4.W)) (B := (S4.W.la, .lst (S4.W.ls.map V.ref)) :: (S4.W.lb, .lst S4.W.ws) :: (S4.dl, .lst S4.dv) :: legM K R') (o' := .lst (wdL { S4.W with op := .non })) (Run.refl c6) rfl
    change Run H6 ((r, .lst (ts.map V.ref)) :: (el, .lst es) :: cM K { S4 with R := R' }) (upd H6 S4.W.w (.lst ((wdL S4.W).set 2 .non))) ((r, .lst (ts.map V.ref)) :: (el, .lst es) :: cM K { S4 with R := R', W := { S4.W with op := .non } }) at r8
    have etm8 := r8.im _ _ etm rfl
    have hxo8 := hxo6.im r8.im
    generalize (upd H6 S4.W.w (.lst ((wdL S4.W).set 2 .non))) = H8 at r8 etm8 hxo8 ⊢
    have hw8 : H8 S4.W.w = some (.lst (wdL { S4.W with op := .non })) := r8.c.get (by simp [cM, wdM])
    have hel8 : H8 el = some (.lst es) := r8.c.get (by simp)
    have les : es.length < sizeLine := Nat.lt_of_le_of_lt nes (by decide)
    -- 41
    refine ⟨fun σ' H' => σ' = [some (.ref S4.s), some (.ref S4.R.p), some (.ref S4.W.w), some (.ref S4.dl), some (.ref el), some (.int now), some (.int check), some (.ref x.a), some (.int n), some xo, some (.ref r), some S4.W.op] ∧ H' = H8 ∧ n ≠ 41, ⟨_, rfl, rfl, _, rfl, ?_⟩, ?_⟩
    · show (if decide (V.int n = V.int 41) = true then _ else _)
      rw [dcode]
      by_cases e41 : n = 41
      · rw [decide_eq_true e41]
        refine iteT ⟨_, rfl, .inl ⟨rfl, _, SqL.of hel8⟩, by show 3 ≤ sizeLine; decide, fun t ht => ⟨el, _, _, rfl, rfl, (same_upd ht) _ _ hel8, les, by show 0 ≤ sizeLine; decide, fun lb hlb => ?_⟩⟩
        have r9 := Run.set (A := [(r, .lst (ts.map V.ref))]) (a := el) (o := .lst es) (B := cM K { S4 with R := R', W := { S4.W with op := .non } }) (o' := .lst (es ++ [V.ref t])) (r8.same (same_upd (o := .tup [.str "over", .str "lost", .int 41]) ht)) rfl
        have ra := r9.add (o := .lst []) hlb
        have et : (upd (upd (upd H8 t (.tup [.str "over", .str "lost", .int 41])) el (.lst (es ++ [.ref t]))) lb (.lst [])) t = some (.tup [.str "over", .str "lost", .int 41]) := by
          have z : (upd (upd H8 t (.tup [.str "over", .str "lost", .int 41])) el (.lst (es ++ [.ref t]))) t = some (.tup [.str "over", .str "lost", .int 41]) := by
            rw [upd_ne (ne_of_none hel8 ht).symm]
            exact upd_same
          exact (same_upd hlb) _ _ z
        generalize (upd (upd (upd H8 t (.tup [.str "over", .str "lost", .int 41])) el (.lst (es ++ [.ref t]))) lb (.lst [])) = Ha at ra et ⊢
        have hwa : Ha S4.W.w = some (.lst (wdL { S4.W with op := .non })) := ra.c.get (by simp [cM, wdM])
        refine ⟨_, rfl, S4.W.w, _, 3, 3, rfl, rfl, hwa, rfl, ?_⟩
        have rb := Run.set (A := (lb, .lst []) :: (r, .lst (ts.map V.ref)) :: (el, .lst (es ++ [.ref t])) :: sM S4.s S4.c S4.n S4.ns) (a := S4.W.w) (o := .lst (wdL { S4.W with op := .non })) (B := (S4.W.la, .lst (S4.W.ls.map V.ref)) :: (S4.W.lb, .lst S4.W.ws) :: (S4.dl, .lst S4.dv) :: legM K R') (o' := .lst (wdL { S4.W with op := .non, lb := lb })) ra rfl
        have hwb : (upd Ha S4.W.w (.lst ((wdL { S4.W with op := .non }).set 3 (.ref lb)))) S4.W.w = some (.lst (wdL { S4.W with op := .non, lb := lb })) := upd_same
        refine ⟨_, rfl, S4.W.w, _, 5, 5, rfl, rfl, hwb, rfl, ?_⟩
        have rc := Run.set (A := (lb, .lst []) :: (r, .lst (ts.map V.ref)) :: (el, .lst (es ++ [.ref t])) :: sM S4.s S4.c S4.n S4.ns) (a := S4.W.w) (o := .lst (wdL { S4.W with op := .non, lb := lb })) (B := (S4.W.la, .lst (S4.W.ls.map V.ref)) :: (S4.W.lb, .lst S4.W.ws) :: (S4.dl, .lst S4.dv) :: legM K R') (o' := .lst (wdL { S4.W with op := .non, lb := lb, ov := true })) rb rfl
        change Run H6 _ (upd (upd Ha S4.W.w (.lst ((wdL { S4.W with op := .non }).set 3 (.ref lb)))) S4.W.w (.lst ((wdL { S4.W with op := .non, lb := lb }).set 5 (.bl true)))) _ at rc
        have imA : Im Ha (upd (upd Ha S4.W.w (.lst ((wdL { S4.W with op := .non }).set 3 (.ref lb)))) S4.W.w (.lst ((wdL { S4.W with op := .non, lb := lb }).set 5 (.bl true)))) := fun q o eb ib => by
          by_cases z : q = S4.W.w
          · rw [z, hwa] at eb
            cases eb
            cases ib
          · rw [upd_ne z, upd_ne z]
            exact eb
        have et3 := imA _ _ et rfl
        have rd := (rc.sub (M2 := (lb, .lst []) :: ((r, .lst (ts.map V.ref)) :: (el, .lst (es ++ [.ref t])) :: (sM S4.s S4.c S4.n S4.ns ++ [(S4.W.w, .lst (wdL { S4.W with op := .non, lb := lb, ov := true })), (S4.W.la, .lst (S4.W.ls.map V.ref))])) ++ (S4.dl, .lst S4.dv) :: legM K R') (List.Sublist.append (l₁ := (lb, .lst []) :: ((r, .lst (ts.map V.ref)) :: (el, .lst (es ++ [.ref t])) :: (sM S4.s S4.c S4.n S4.ns ++ [(S4.W.w, .lst (wdL { S4.W with op := .non, lb := lb, ov := true })), (S4.W.la, .lst (S4.W.ls.map V.ref))]))) (List.Sublist.refl _) (List.sublist_cons_self (S4.W.lb, .lst S4.W.ws) ((S4.dl, .lst S4.dv) :: legM K R')))).perm (List.perm_middle (a := (lb, .lst [])) (l₁ := (r, .lst (ts.map V.ref)) :: (el, .lst (es ++ [.ref t])) :: (sM S4.s S4.c S4.n S4.ns ++ [(S4.W.w, .lst (wdL { S4.W with op := .non, lb := lb, ov := true })), (S4.W.la, .lst (S4.W.ls.map V.ref))])) (l₂ := (S4.dl, .lst S4.dv) :: legM K R')).symm
        have imf := rd.im
        have hif := hi6.im imf
        obtain ⟨oc, oco, ⟨_, rfl, wt, t9, eR⟩ | ⟨z, _⟩⟩ := rp
        · have J := hp4.lost (wt := wt) (t := t9) (lb := lb) oco (S4.ev ++ [.lost])
          subst eR
          refine ⟨_, rfl, k6 { S4 with R := overR { S4.R with cs := [S4.cc, oc] } wt t9 "lost" 41, W := { S4.W with op := .non, ws := [], lb := lb, ov := true }, op := none, as := [], ovs := [oc], tl := [], ev := S4.ev ++ [.lost] } [] r ts [.lost] [.ref t] _ J (fun _ => rfl) ⟨rfl, rfl, rfl, rfl, rfl, rfl, rfl⟩ rfl (Nat.le_refl 1) (Zp.one ⟨t, _, rfl, et3, rfl⟩) (Nat.zero_le _) rd ⟨i6.im imf, trivial, trivial, rfl, hif.di, hif.xi, ?_⟩ (w6.im imf)⟩
          exact Zp.app (Zp.one (P := EvR _) (show EvR _ (t9, [.str "over", .str "lost", .int 41]) .lost from rfl)) hif.ei
        · exact absurd e41 z
      · rw [decide_eq_false e41]
        exact iteF ⟨rfl, rfl, e41⟩
    rintro σ' H9 ⟨rfl, e99, n41⟩
    obtain rfl : H8 = H9 := e99.symm
    have lvq : a ≠ .live → S4.W.lv = .int S4.R.live := fun ne => by
      rcases hp4.lv ov4 with ⟨q, _⟩ | ⟨_, q⟩
      · rw [eo4] at q
        exact absurd (Option.some.inj q) ne
      · exact q
    -- what is told
    refine ⟨fun σ' H' => σ' = [some (.ref S4.s), some (.ref S4.R.p), some (.ref S4.W.w), some (.ref S4.dl), some (.ref el), some (.int now), some (.int check), some (.ref x.a), some (.int n), some xo, some (.ref r), some S4.W.op] ∧ ∃ es', Run H6 ((r, .lst (ts.map V.ref)) :: (el, .lst es) :: cM K { S4 with R := R' }) H' ((r, .lst (ts.map V.ref)) :: (el, .lst (es ++ es')) :: cM K { S4 with R := R', W := { S4.W with op := .non, lv := .int (livA a now check S4.R.live) } }) ∧ Zp (EvAt H') es' (evA a n b), ⟨_, rfl, tm, _, 0, .str a.verb, eop, rfl, SqT.of etm8, rfl, rfl, _, rfl, ?_⟩, ?_⟩
    · have told : a ≠ .live → ∀ e ys t, evA a n b = [e] → H8 t = none → EvW (upd H8 t (.tup ys)) e ys → ∃ es', Run H6 ((r, .lst (ts.map V.ref)) :: (el, .lst es) :: cM K { S4 with R := R' }) (upd (upd H8 t (.tup ys)) el (.lst (es ++ [V.ref t]))) ((r, .lst (ts.map V.ref)) :: (el, .lst (es ++ es')) :: cM K { S4 with R := R', W := { S4.W with op := .non, lv := .int (livA a now check S4.R.live) } }) ∧ Zp (EvAt (upd (upd H8 t (.tup ys)) el (.lst (es ++ [V.ref t])))) es' (evA a n b) := by
        intro ne e ys t ee ht hew
        have r9 := Run.set (A := [(r, .lst (ts.map V.ref))]) (a := el) (o := .lst es) (B := cM K { S4 with R := R', W := { S4.W with op := .non } }) (o' := .lst (es ++ [V.ref t])) (r8.same (same_upd (o := .tup ys) ht)) rfl
        have im9 : Im (upd H8 t (.tup ys)) (upd (upd H8 t (.tup ys)) el (.lst (es ++ [V.ref t]))) := fun q o eb ib => by
          by_cases z : q = el
          · rw [z, (same_upd ht) _ _ hel8] at eb
            cases eb
            cases ib
          · rw [upd_ne z]
            exact eb
        refine ⟨[V.ref t], ?_, ?_⟩
        · rw [livA_ne ne, ← lvq ne]
          exact r9
        · rw [ee]
          exact Zp.one ⟨t, ys, rfl, im9 _ _ upd_same rfl, hew.im im9⟩
      have tlt : (sizeLine : Nat) ≥ 3 := by decide
      show (if decide (V.str a.verb = V.str "TURN") = true then _ else _)
      rw [vstr]
      cases a with
      | turn p =>
        rw [decide_eq_true (show (Ask.turn p).verb = "TURN" from rfl)]
        refine iteT ⟨_, rfl, .inl ⟨rfl, _, SqL.of hel8⟩, _, rfl, _, rfl, by show 3 ≤ sizeLine; decide, fun t ht => ⟨el, _, _, rfl, rfl, (same_upd ht) _ _ hel8, les, ?_⟩⟩
        exact ⟨rfl, told (fun e => nomatch e) _ _ t rfl ht ⟨xo, rfl, hxo8.same (same_upd ht)⟩⟩
      | move g0 =>
        rw [decide_eq_false (show ¬ (Ask.move g0).verb = "TURN" from vb_ne.2.2.2.1)]
        refine iteF ⟨_, rfl, tm, _, 0, .str (Ask.move g0).verb, eop, rfl, SqT.of etm8, rfl, rfl, _, rfl, ?_⟩
        show (if decide (V.str (Ask.move g0).verb = V.str "MOVE") = true then _ else _)
        rw [vstr, decide_eq_true (show (Ask.move g0).verb = "MOVE" from rfl)]
        refine iteT ⟨_, rfl, .inl ⟨rfl, _, SqL.of hel8⟩, _, rfl, by show 2 ≤ sizeLine; decide, fun t ht => ⟨el, _, _, rfl, rfl, (same_upd ht) _ _ hel8, les, ?_⟩⟩
        exact ⟨rfl, told (fun e => nomatch e) _ _ t rfl ht rfl⟩
      | live =>
        rw [decide_eq_false (show ¬ Ask.live.verb = "TURN" from vb_ne.2.1)]
        refine iteF ⟨_, rfl, tm, _, 0, .str Ask.live.verb, eop, rfl, SqT.of etm8, rfl, rfl, _, rfl, ?_⟩
        show (if decide (V.str Ask.live.verb = V.str "MOVE") = true then _ else _)
        rw [vstr, decide_eq_false (show ¬ Ask.live.verb = "MOVE" from vb_ne.2.2.1)]
        refine iteF ⟨_, rfl, _, rfl, _, _, rfl, rfl, _, rfl, S4.W.w, _, 4, 4, rfl, rfl, hw8, rfl, ?_⟩
        have r9 := Run.set (A := (r, .lst (ts.map V.ref)) :: (el, .lst es) :: sM S4.s S4.c S4.n S4.ns) (a := S4.W.w) (o := .lst (wdL { S4.W with op := .non })) (B := (S4.W.la, .lst (S4.W.ls.map V.ref)) :: (S4.W.lb, .lst S4.W.ws) :: (S4.dl, .lst S4.dv) :: legM K R') (o' := .lst (wdL { S4.W with op := .non, lv := .int (now + check) })) r8 rfl
        refine ⟨rfl, [], ?_, trivial⟩
        rw [List.append_nil]
        exact r9
    rintro σ' H9 ⟨rfl, es', r9, hes'⟩
    have hi9 := hi6.im r9.im
    have opi : S4.op ≠ none := by rw [eo4]; exact fun e => nomatch e
    have lws : S4.W.ws.length = S4.as.length := hi6.mi.len
    have asl := hp4.asl
    have dal := hp4.dal
    have ldv : S4.dv.length = S4.da.length := hi6.di.len
    have gl0 : ([] : List GL).length = 0 := rfl
    have c9 : Cells H9 (wdM { S4.W with op := .non, lv := .int (livA a now check S4.R.live) } ++ [(S4.dl, .lst S4.dv)]) := Cells.left (B := legM K R') (Cells.right (A := (r, .lst (ts.map V.ref)) :: (el, .lst (es ++ es')) :: sM S4.s S4.c S4.n S4.ns) r9.c)
    refine ⟨_, rfl, _, rfl, { S4.W with op := .non, lv := .int (livA a now check S4.R.live) }, S4.dl, S4.dv, rfl, c9, by omega, by show S4.W.ws.length < 100000; omega, fun Ha qa => ⟨_, rfl, ?_⟩⟩
    have ra := Run.frame (A := (r, .lst (ts.map V.ref)) :: (el, .lst (es ++ es')) :: sM S4.s S4.c S4.n S4.ns) (B := legM K R') r9 qa
    have ima := ra.im
    have hia := hi9.im qa.im
    have wa := w6.im ima
    have ia := i6.im ima
    have hesa := hes'.mono fun _ _ q => EvAt.im q qa.im
    obtain ⟨oc, oco, ⟨z, _⟩ | ⟨_, ex', hex, hR⟩⟩ := rp
    · exact absurd z n41
    have hexa := hex.mono fun _ _ q => EvW.im q ima
    have chk : S4.R.check = check := hp4.tg.chk
    rw [chk] at hR
    have J := hp4.replied ov4 oco (livA a now check S4.R.live) ex' (S4.ev ++ evA a n b)
    have el1 : (evA a n b).length ≤ 1 := by cases a <;> simp [evA]
    rcases hR with ⟨ea, rfl, rfl⟩ | ⟨a1, as', w, ws', cp, cdx, la, wa', wx, ka, xo1, ea, ew, rfl, rfl⟩
    · have hmi := hia.mi
      rw [ea] at hmi
      have ew0 : S4.W.ws = [] := List.eq_nil_of_length_eq_zero hmi.len
      obtain ⟨n1, n2⟩ := next_nil (W := { S4.W with op := .non, lv := .int (livA a now check S4.R.live) }) ew0
      rw [n1, n2, List.append_nil] at ra
      refine k6 _ [] r ts (evA a n b) es' Ha J (fun _ => ea) ⟨rfl, rfl, rfl, rfl, rfl, rfl, rfl⟩ rfl el1 hesa (Nat.zero_le _) ra ⟨ia, hia.wi, hia.mi, rfl, hia.di, hia.xi, hexa⟩ wa
    · have hmi := hia.mi
      have hwi := hia.wi
      rw [ea] at hmi hwi
      rw [ew] at hwi
      cases ewv : S4.W.ws with
      | nil => rw [ewv] at hmi; exact hmi.elim
      | cons v vr =>
        rw [ewv] at hmi
        obtain ⟨n1, n2⟩ := next_none (W := { S4.W with op := .non, lv := .int (livA a now check S4.R.live) }) (v := v) (r := vr) rfl ewv
        rw [n1, n2] at ra
        have ok1 := hp4.aok a1 (by rw [ea]; simp)
        have J2 := J.sent (as' := as') rfl ov4 ok1.1 (by show S4.xs.length + 0 ≤ 500000; omega) h0 (fun y my => hp4.aok y (by rw [ea]; exact List.mem_cons_of_mem _ my)) (by rw [ea, List.length_cons] at asl; omega) (lv := .int (livA a now check S4.R.live)) (.inr ⟨ok1.2, rfl⟩) cp cdx la wa' wx ka xo1 ws' v vr
        exact k6 _ [(a1.L (S4.R.seq + 1) xo1, a1.o, none)] r ts (evA a n b) es' Ha J2 (fun e => nomatch e) ⟨rfl, rfl, rfl, rfl, rfl, rfl, rfl⟩ rfl el1 hesa (Nat.le_refl 1) ra ⟨ia, hwi.2, hmi.2, hmi.1, Zp.app (Zp.one hmi.1) hia.di, hia.xi, hexa⟩ wa

end K19
set_option maxHeartbeats 4000000
set_option pp.maxSteps 400
namespace K19
open PySem PySem.Spec PyProof.Rows L2 SX TK TKS TKC
open C8 (pe_c)
/-! ### the law -/
structure LS9 (K : PySem.W.Frag) (check : Int) (H : Hp) (X : List Cell) (S : S9) (g : List GL) (evs : List Ev) (tls els : List V) : Prop where
  c : Cells H (X ++ cM K S)
  i : Ji K H S
  p : Jp S g check
  te : Zp (EvAt H) tls evs
  ee : Zp (EvAt H) els (evs ++ S.ev)
section
variable {K : PySem.W.Frag} {check : Int} {H H' : Hp} {X X' : List Cell} {S S' : S9} {g g' : List GL} {evs : List Ev} {tls els : List V}
theorem LS9.of (p : Jp S g check) (c : Cells H (X ++ cM K S)) (i : Ji K H S) (te : Zp (EvAt H) tls evs) (ee : Zp (EvAt H) els (evs ++ S.ev)) : LS9 K check H X S g evs tls els := ⟨c, i, p, te, ee⟩
theorem LS9.st (h : LS9 K check H X S g evs tls els) : StAt H S.s S.c := S9.st (Cells.right h.c) h.p.nl
theorem LS9.same (h : LS9 K check H X S g evs tls els) (s : Same H H') : LS9 K check H' X S g evs tls els := ⟨h.c.same s, h.i.im (Im.of_same s), h.p, h.te.mono fun _ _ q => q.im (Im.of_same s), h.ee.mono fun _ _ q => q.im (Im.of_same s)⟩
theorem LS9.draw (h : LS9 K check H X S g evs tls els) (st : StAt H' S.s S.c) (k : Keep H H' S.s S.c) : ∃ n ns, LS9 K check H' X { S with n := n, ns := ns } g evs tls els := by
  obtain ⟨n, ns, l, r⟩ := S9.drawX (Run.refl h.c) st k
  have im := r.im
  exact ⟨n, ns, r.c, (h.i.im im).setN, h.p.setN l, h.te.mono fun _ _ q => q.im im, h.ee.mono fun _ _ q => q.im im⟩
theorem LS9.add {q : Addr} {o : HO} (h : LS9 K check H X S g evs tls els) (n : H q = none) : LS9 K check (upd H q o) ((q, o) :: X) S g evs tls els := by
  have s := same_upd (o := o) n
  exact ⟨h.c.add n, h.i.im (Im.of_same s), h.p, h.te.mono fun _ _ q => q.im (Im.of_same s), h.ee.mono fun _ _ q => q.im (Im.of_same s)⟩
theorem LS9.sub (h : LS9 K check H X S g evs tls els) (s : X'.Sublist X) : LS9 K check H X' S g evs tls els := ⟨h.c.sub (s.append (List.Sublist.refl _)), h.i, h.p, h.te, h.ee⟩
theorem LS9.wd (h : LS9 K check H X S g evs tls els) : H S.W.w = some (.lst (wdL S.W)) := h.c.get (by simp [cM, wdM])
end
/-! what is taken is in the world -/
def LtG (K : PySem.W.Frag) (H : Hp) (x : LR) (g : GL) : Prop := (∃ o, x.L = { g.1 with offer := o }) ∧ x.o = g.2.1 ∧ LtA K H x
theorem lts_xs {K : PySem.W.Frag} {H : Hp} : ∀ {bs : List Addr} {gs : List GL}, LtsI K H bs gs → (∀ g ∈ gs, g.1.verb = "TURN" → ∃ u, g.2.1 = some u) → ∃ xs : List LR, bs = xs.map (·.a) ∧ Zp (LtG K H) xs gs
  | [], [], _, _ => ⟨[], rfl, trivial⟩
  | b :: bs, g :: gs, ⟨⟨o, h1, h2⟩, h⟩, k => by
    obtain ⟨xs, e, z⟩ := lts_xs h fun y m => k y (List.mem_cons_of_mem _ m)
    exact ⟨⟨b, { g.1 with offer := o }, g.2.1⟩ :: xs, by rw [e]; rfl, ⟨⟨o, rfl⟩, rfl, h1, h2, k g (List.mem_cons_self ..)⟩, z⟩
  | [], _ :: _, h, _ => h.elim
  | _ :: _, [], h, _ => h.elim
theorem ltg_row {K : PySem.W.Frag} {H : Hp} : ∀ {xs : List LR} {gs : List GL}, Zp (LtG K H) xs gs → xs.map rowV = gs.map rowL
  | [], [], _ => rfl
  | x :: xs, g :: gs, ⟨⟨⟨o, h1⟩, h2, _⟩, h⟩ => by
    rw [List.map_cons, List.map_cons, ltg_row h]
    congr 1
    unfold rowL rowV
    rw [h1, h2]
  | [], _ :: _, h => h.elim
  | _ :: _, [], h => h.elim
theorem Zp.at {α β : Type} {P : α → β → Prop} : ∀ {as : List α} {bs : List β} (i : Nat) (a : α), Zp P as bs → as[i]? = some a → ∃ b, bs[i]? = some b ∧ P a b
  | _ :: _, b :: _, 0, a, h, e => ⟨b, rfl, by cases e; exact h.1⟩
  | _ :: _, _ :: _, i + 1, a, h, e => Zp.at i a h.2 e
  | [], [], _, _, _, e => nomatch e
  | [], _ :: _, _, _, h, _ => h.elim
  | _ :: _, [], _, _, h, _ => h.elim
theorem Jp.took {K : PySem.W.Frag} {H : Hp} {S : S9} {gs : List GL} {check : Int} {xs : List LR} (h : Jp S gs check) (hz : Zp (LtG K H) xs (takeT S.W.g gs).2) :
    Jp { S with W := { S.W with g := (takeT S.W.g gs).1, ls := S.W.ls ++ xs.map (·.a) }, xs := S.xs ++ xs } [] check := by
  obtain ⟨t1, t2, t3, t4⟩ := takeT_inv S.W.g gs
  have lz := hz.len
  have g_ := h.g_
  refine ⟨h.tg, h.st, h.sq, (fun _ _ e => nomatch e), (fun _ m => nomatch m), ?_, ?_, ⟨fun i x e => ?_, fun x m => ?_⟩, ?_, h.opn, h.ops, h.ovr, h.aok, h.dok, h.asl, h.cs, h.ccok, h.ovok, h.ovl, h.lv, h.nl⟩
  · show S.W.ls ++ xs.map (·.a) = (S.xs ++ xs).map (·.a)
    rw [h.ls, List.map_append]
  · show (takeT S.W.g gs).1 = 1 + (((S.xs ++ xs).length : Nat) : Int)
    rw [List.length_append]
    omega
  · have e' : (S.xs ++ xs)[i]? = some x := e
    by_cases hi : i < S.xs.length
    · rw [List.getElem?_append_left hi] at e'
      exact h.xo.q i x e'
    · rw [List.getElem?_append_right (by omega)] at e'
      obtain ⟨y, ey, ⟨o, eL⟩, _⟩ := Zp.at _ _ hz e'
      have sq := t3 _ y ey
      have my := List.mem_of_getElem? ey
      obtain ⟨mg, as⟩ := t4 y my
      obtain ⟨j, hj, ej⟩ := List.mem_iff_getElem.mp mg
      obtain ⟨_, _, wy, _⟩ := h.tk j y (by rw [List.getElem?_eq_getElem hj, ej]) as
      have sq2 : y.1.seq = 2 + (i : Int) := by omega
      rw [eL]
      refine ⟨sq2, ?_⟩
      have wy' : y.1.way = wyS y.1.seq := wy
      rw [sq2] at wy'
      exact wy'
  · have m' : x ∈ S.xs ++ xs := m
    rcases List.mem_append.mp m' with q | q
    · exact h.xo.v x q
    · obtain ⟨y, my, ⟨o, eL⟩, _⟩ := Zp.mem hz q
      obtain ⟨mg, as⟩ := t4 y my
      rw [eL]
      refine ⟨?_, offer_ok (h.gl y mg).1.lok⟩
      unfold asksL at as
      rw [Bool.and_eq_true, decide_eq_true_eq, decide_eq_true_eq] at as
      exact as.2
  · show (S.xs ++ xs).map rowV ++ [].map rowL = S.da.map Ask.z
    rw [List.map_nil, List.append_nil, List.map_append, ltg_row hz]
    exact h.rw_
theorem wd_out {K : PySem.W.Frag} {H : Hp} {r : Addr} {o : HO} {X : List Cell} {S : S9} (c : Cells H ((r, o) :: (X ++ cM K S))) : r ∉ keys (wdM S.W) := fun m => by
  have n : r ∉ keys (X ++ cM K S) := (List.nodup_cons.mp c.nd).1
  unfold cM at n
  rw [keys_app, keys_app, keys_app] at n
  exact n (List.mem_append_right _ (List.mem_append_right _ (List.mem_append_left _ m)))
theorem LS9.take {K : PySem.W.Frag} {check : Int} {H : Hp} {X : List Cell} {S : S9} {g : List GL} {evs : List Ev} {tls els : List V} {r w : Addr} {ts : List Addr} {Q : VK} {E : XK} (L : LS9 K check H ((r, .lst (ts.map V.ref)) :: X) S g evs tls els) (ew : S.W.w = w) (w6 : RwI H ts (g.map rowG)) (lg : g.length ≤ 1000) (lx : S.xs.length ≤ 6000)
    (k : ∀ H' xs, LS9 K check H' X { S with W := { S.W with g := (takeT S.W.g g).1, ls := S.W.ls ++ xs.map (·.a) }, xs := S.xs ++ xs } [] evs tls els → xs.length ≤ g.length → Im H H' → Q (.bl true) H') : spTakeW K [.ref r, .ref w] H Q E := by
  have c6 : Cells H ((r, .lst (ts.map V.ref)) :: (X ++ cM K S)) := L.c
  refine ⟨S.W, r, ts, g, by rw [ew], c6.get (by simp), w6, (fun y m => (L.p.gl y m).1), by omega, by rw [L.p.ls, List.length_map]; omega, S9.wdC (Cells.right (A := (r, .lst (ts.map V.ref)) :: X) c6), wd_out c6, L.p.tk, fun bs H7 q7 lt7 => ?_⟩
  obtain ⟨xs, ebs, hz⟩ := lts_xs lt7 fun y m => (L.p.gl y ((takeT_inv S.W.g g).2.2.2 y m).1).2
  subst ebs
  have t7 : Run H (cM K S) H7 (cM K { S with W := { S.W with g := (takeT S.W.g g).1, ls := S.W.ls ++ xs.map (·.a) }, xs := S.xs ++ xs }) := Run.frame (A := sM S.s S.c S.n S.ns) (B := (S.dl, .lst S.dv) :: legM K S.R) (Run.refl (Cells.right (A := (r, .lst (ts.map V.ref)) :: X) c6)) q7
  have r7 := Run.frameR (A := (r, .lst (ts.map V.ref)) :: X) (Run.refl c6) t7
  have im7 := r7.im
  have i7 := L.i.im im7
  refine k H7 xs ⟨r7.c.sub (List.sublist_cons_self _ _), ⟨i7.li, i7.wi, i7.mi, i7.oi, i7.di, fun x m => ?_, i7.ei⟩, L.p.took hz, L.te.mono fun _ _ q => q.im im7, L.ee.mono fun _ _ q => q.im im7⟩ (by rw [hz.len]; exact (takeT_inv S.W.g g).2.1) im7
  rcases List.mem_append.mp m with m | m
  · exact i7.xi x m
  · obtain ⟨y, _, q⟩ := Zp.mem hz m
    exact q.2.2
theorem old_k {K : PySem.W.Frag} {H : Hp} {S : S9} {gs : List GL} {check : Int} {n now : Int} {j : Nat} {ba : Addr} {x : LR} {Q : VK} {E : XK} (h : Jp S gs check) (hi : Ji K H S) (hc : Cells H (legM K S.R)) (nx : S.xs.length ≤ 6000) (ng : gs.length ≤ 1000) (ne : S.ev.length ≤ 1000)
    (ex : S.xs[j]? = some x) (hj : j + 1 < S.xs.length) (hM : LetAt K H ba (x.L.reply (.int n) "y1" .non .non)) (n0 : 20 ≤ n) (n1 : n ≤ 99)
    (k : ∀ r ts H', Run H (legM K S.R) H' ((r, .lst (ts.map V.ref)) :: legM K S.R) → LegI K H' S.R → ts = [] → Q (.ref r) H') : spTakeReply8 K [.ref S.R.p, .ref ba, .int now] H Q E := by
  obtain ⟨v3, lk⟩ := h.xo.v x (List.mem_of_getElem? ex)
  obtain ⟨_, wx⟩ := h.xo.q j x ex
  have sq := h.seq
  have g_ := h.g_
  have t1 := (takeT_inv S.W.g gs).1
  have hsq := h.sq
  have les : S.R.es.length = S.ev.length := hi.ei.len
  have hnc : (x.L.reply (.int n) "y1" .non .non).verb ≠ "CALL" := fun e => by
    have e' : x.L.verb = "CALL" := e
    rw [e'] at v3
    exact nocall v3
  refine ⟨S.R, ba, _, n, now, rfl, hc, hi.li, hM, reply_ok lk y1_ok (by omega) n1, rfl, (fun v => absurd v hnc), by omega, Nat.lt_of_le_of_lt h.csl (by decide), (fun w mw => ?_), (fun _ r H' r1 i1 => k r [] H' r1 i1 rfl), fun pre post c e hpre hm R' rows r ts H' tr r9 i9 w9 => ?_⟩
  · obtain ⟨a1, ma, xo1, e1, e2⟩ := Zp.mem hi.wi mw
    exact ⟨a1.verb, xo1, a1.xg, a1.o, e1, ask_x (h.aok a1 ma).1 e2, h.tg.snd (by omega) (by omega) (h.aok a1 ma).1⟩
  have hov : c.st = .ov := by
    have mc : c ∈ S.R.cs := by rw [e]; simp
    rw [h.cs] at mc
    unfold matchC at hm
    rw [Bool.and_eq_true, decide_eq_true_eq, decide_eq_true_eq] at hm
    rcases List.mem_cons.mp mc with rfl | mc
    · exact absurd (hm.2.symm.trans h.ccok.v) hnc
    rcases List.mem_append.mp mc with mc | mc
    · exact h.ovok c mc
    · exfalso
      cases eo : S.op with
      | none => rw [h.opn eo] at mc; cases mc
      | some a =>
        obtain ⟨_, _, ca, et, hca⟩ := h.ops a eo
        rw [et] at mc
        obtain rfl := List.mem_singleton.mp mc
        obtain ⟨xo, eL⟩ := hca.L
        have q : c.L.way = x.L.way := hm.1
        rw [eL, wx, show (a.L S.R.seq xo).way = wayS "x1" S.R.seq from rfl, way_x1] at q
        have := wyS_inj (by omega) (by omega) (by omega) (by omega) q
        omega
  have tv : takeV c n = .non := by
    unfold takeV
    rw [if_pos hov]
  have tc : ∀ wa wx ka kt, takeC c (x.L.reply (.int n) "y1" .non .non) n now wa wx ka kt = c := fun wa wx ka kt => by
    unfold takeC
    rw [if_pos hov]
  have to_ : takeO c (x.L.reply (.int n) "y1" .non .non) n = [] := by
    unfold takeO
    rw [if_pos hov]
  obtain ⟨wa, wx', ka, kt, ⟨_, q, er⟩ | ⟨q, _⟩ | ⟨q, _⟩⟩ := tr
  · rw [tc, ← e] at q
    rw [to_] at er
    subst er
    have q' : R' = S.R := q
    subst q'
    exact k r ts H' r9 i9 (List.eq_nil_of_length_eq_zero w9.len)
  · rw [tv] at q
    cases q
  · rw [tv] at q
    cases q
theorem cells_s {H : Hp} {s c : Addr} {M : List Cell} (st : StAt H s c) (h : Cells H M) (hs : s ∉ keys M) (hc : c ∉ keys M) : ∃ n ns, ns.length ≤ 63 ∧ Cells H (sM s c n ns ++ M) := by
  obtain ⟨ne, ⟨n, e1⟩, ns, e2, l⟩ := st
  refine ⟨n, ns, l, List.nodup_cons.mpr ⟨fun m => ?_, List.nodup_cons.mpr ⟨hc, h.nd⟩⟩, fun q m => ?_⟩
  · rcases List.mem_cons.mp m with m | m
    · exact ne m
    · exact hs m
  · rcases List.mem_cons.mp m with rfl | m
    · exact e1
    · rcases List.mem_cons.mp m with rfl | m
      · exact e2
      · exact h.at_ q m
theorem perm8 {α : Type} (s c t e d w lb la : α) (L : List α) : ([s, c] ++ (t :: e :: d :: w :: lb :: la :: L)).Perm ([t, e] ++ ([s, c] ++ ([w, la, lb] ++ (d :: L)))) := by
  have h1 : ([s, c] ++ [t, e]).Perm ([t, e] ++ [s, c]) := List.perm_append_comm
  have h2 : ([d] ++ [w, lb, la]).Perm ([w, lb, la] ++ [d]) := List.perm_append_comm
  have h3 : ([w, lb, la] ++ [d]).Perm [w, la, lb, d] := (List.Perm.swap la lb [d]).cons w
  exact (h1.append (h2.trans h3)).append_right L
def stTx (b : Bool) : Str := if b = true then "over" else "talking"
/-! ### a tick -/
theorem opt_or {α : Type} (o : Option α) : o = none ∨ ∃ a, o = some a := by
  cases o with
  | none => exact .inl rfl
  | some a => exact .inr ⟨a, rfl⟩
theorem zp_ov {now : Int} : ∀ {as bs : List ClR}, Zp (TickI now) as bs → (∀ c ∈ as, c.st = .ov) → bs = as
  | [], [], _, _ => rfl
  | a :: as, b :: bs, ⟨⟨wx, e⟩, h⟩, k => by
    rw [zp_ov h fun c m => k c (List.mem_cons_of_mem _ m), e]
    congr 1
    exact if_pos (.inr (k a (List.mem_cons_self ..)))
  | [], _ :: _, h, _ => h.elim
  | _ :: _, [], h, _ => h.elim
theorem zp_app {α β : Type} {P : α → β → Prop} : ∀ {as as' : List α} {cs : List β}, Zp P (as ++ as') cs → ∃ bs bs', cs = bs ++ bs' ∧ Zp P as bs ∧ Zp P as' bs'
  | [], as', cs, h => ⟨[], cs, rfl, trivial, h⟩
  | a :: as, as', c :: cs, h => by
    obtain ⟨bs, bs', e, h1, h2⟩ := zp_app (as := as) h.2
    exact ⟨c :: bs, bs', by rw [e]; rfl, ⟨h.1, h1⟩, h2⟩
  | _ :: _, _, [], h => h.elim
theorem tick_call {c : ClR} (h : CallC c) {now : Int} (h1 : now < 640) (wx : Addr) : tickC c now wx = c ∧ tickO c now = [] ∧ tickG c now = false := by
  have n1 : ¬ (c.st = .wt ∨ c.st = .ov) := by rw [h.st]; decide
  have n2 : ¬ 32 * c.f ≤ now - c.b := by rw [h.f, h.b]; omega
  have n3 : ¬ (c.st = .cl ∧ ¬ now < c.d) := fun q => by rw [h.st] at q; exact absurd q.1 (by decide)
  unfold tickC tickO tickG
  rw [if_neg n1, if_neg n1, if_neg n1, if_neg n2, if_neg n2, if_neg n2, if_neg n3, if_neg n3]
  exact ⟨rfl, rfl, rfl⟩
theorem tick_ov {c : ClR} (h : c.st = .ov) (now : Int) : tickO c now = [] ∧ tickG c now = false := by
  unfold tickO tickG
  rw [if_pos (.inr h), if_pos (.inr h)]
  exact ⟨rfl, rfl⟩
theorem tick_ask {c : ClR} {a : Ask} {n : Int} (h : AskC c a n) {now : Int} (h1 : now < 640) (wx : Addr) : AskC (tickC c now wx) a n ∧ (tickO c now = [] ∨ tickO c now = ([("q", textOf (linesX c.L c.o))] : List (Str × Str))) ∧ tickG c now = false := by
  have n1 : ¬ (c.st = .wt ∨ c.st = .ov) := by rw [h.st]; decide
  have hb := h.b
  have n2 : ¬ 32 * c.f ≤ now - c.b := by rw [h.f]; omega
  unfold tickC tickO tickG
  rw [if_neg n1, if_neg n1, if_neg n1, if_neg n2, if_neg n2, if_neg n2]
  refine ⟨?_, ?_, rfl⟩
  · split
    · exact ⟨h.st, h.f, h.b, h.pl, h.o, h.L⟩
    · exact h
  · split
    · exact .inr (by rw [h.pl])
    · exact .inl rfl
theorem flat_nil {α β : Type} {f : α → List β} : ∀ {l : List α}, (∀ a ∈ l, f a = []) → l.flatMap f = []
  | [], _ => rfl
  | a :: l, h => by
    rw [List.flatMap_cons, h a (List.mem_cons_self ..), flat_nil fun b m => h b (List.mem_cons_of_mem _ m)]
    rfl
/-- what a tick makes of the clients -/
theorem Jp.tick {S : S9} {gs : List GL} {check : Int} (h : Jp S gs check) {now : Int} (h1 : now < 640) (nx : S.xs.length ≤ 6000) (ng : gs.length ≤ 1000) {cs : List ClR} (ha : All2 (TickI now) S.R.cs cs) :
    ∃ tl' g1, cs = S.cc :: (S.ovs ++ tl') ∧ Jp { S with R := { S.R with cs := cs }, tl := tl' } (gs ++ g1) check ∧ (S.R.cs.flatMap fun c => tickO c now) = g1.map rowG ∧ g1.length ≤ 1 := by
  have hz := Zp.of_all2 ha
  rw [h.cs] at hz
  cases cs with
  | nil => exact hz.elim
  | cons c0 cs =>
    obtain ⟨⟨wx, e0⟩, hz⟩ := hz
    obtain ⟨bs, tl', ecs, z1, z2⟩ := zp_app hz
    have eb := zp_ov z1 h.ovok
    obtain ⟨t1, t2, _⟩ := tick_call h.ccok h1 wx
    rw [t1] at e0
    subst e0
    subst eb
    subst ecs
    have tg := h.tg
    have sq := h.seq
    have fo : S.ovs.flatMap (fun c => tickO c now) = [] := flat_nil fun c m => (tick_ov (h.ovok c m) now).1
    have ec : (S.R.cs.flatMap fun c => tickO c now) = S.tl.flatMap fun c => tickO c now := by
      rw [h.cs, List.flatMap_cons, t2, List.nil_append, List.flatMap_append, fo, List.nil_append]
    have tg' : ∀ cs', TagR check { S.R with cs := cs' } := fun _ => ⟨tg.tag, tg.call, tg.own, tg.other, tg.place, tg.first, tg.chk, tg.ot, tg.ss, tg.rq⟩
    rcases opt_or S.op with eo | ⟨a, eo⟩
    · have et := h.opn eo
      rw [et] at z2 ec
      have e2 : tl' = [] := by
        cases tl' with
        | nil => rfl
        | cons _ _ => exact z2.elim
      subst e2
      refine ⟨[], [], rfl, ?_, ec, Nat.zero_le _⟩
      rw [List.append_nil gs]
      exact ⟨tg' _, h.st, h.sq, h.tk, h.gl, h.ls, h.g_, h.xo, h.rw_, (fun _ => rfl), (fun a e => by rw [show S.op = some a from e] at eo; cases eo), h.ovr, h.aok, h.dok, h.asl, rfl, h.ccok, h.ovok, h.ovl, h.lv, h.nl⟩
    · obtain ⟨ok, ed, ca, et, hca⟩ := h.ops a eo
      rw [et] at z2 ec
      obtain ⟨ca', e2, wx2, e3⟩ : ∃ ca', tl' = [ca'] ∧ ∃ wx2, ca' = tickC ca now wx2 := by
        cases tl' with
        | nil => exact z2.elim
        | cons y ys =>
          obtain ⟨⟨wx2, e3⟩, z3⟩ := z2
          cases ys with
          | nil => exact ⟨y, rfl, wx2, e3⟩
          | cons _ _ => exact z3.elim
      obtain ⟨q1, q2, _⟩ := tick_ask hca h1 wx2
      rw [← e3] at q1
      subst e2
      have fin : ∀ g1, Jp S (gs ++ g1) check → Jp { S with R := { S.R with cs := S.cc :: (S.ovs ++ [ca']) }, tl := [ca'] } (gs ++ g1) check := fun g1 h2 =>
        ⟨tg' _, h2.st, h2.sq, h2.tk, h2.gl, h2.ls, h2.g_, h2.xo, h2.rw_, (fun e => by rw [show S.op = none from e] at eo; cases eo), (fun a' e => by
          have e' : S.op = some a' := e
          rw [eo] at e'
          obtain rfl := Option.some.inj e'
          exact ⟨ok, ed, ca', rfl, q1⟩), h2.ovr, h2.aok, h2.dok, h2.asl, rfl, h2.ccok, h2.ovok, h2.ovl, h2.lv, h2.nl⟩
      rw [List.flatMap_cons, List.flatMap_nil, List.append_nil] at ec
      rcases q2 with q2 | q2
      · exact ⟨[ca'], [], rfl, fin [] (by rw [List.append_nil]; exact h), by rw [ec, q2]; rfl, Nat.zero_le _⟩
      · obtain ⟨xo, eL⟩ := hca.L
        have told := take_old (x := (ca.L, ca.o, none)) h.sq (by show ca.L.seq ≤ _; rw [eL]; exact Int.le_refl _)
        refine ⟨[ca'], [(ca.L, ca.o, none)], rfl, fin _ ⟨h.tg, h.st, by rw [told]; exact h.sq, ?_, fun g m => ?_, h.ls, h.g_, h.xo, by rw [told]; exact h.rw_, h.opn, h.ops, h.ovr, h.aok, h.dok, h.asl, h.cs, h.ccok, h.ovok, h.ovl, h.lv, h.nl⟩, by rw [ec, q2]; rfl, Nat.le_refl _⟩
        · refine h.tk.snoc fun _ => ?_
          show 0 ≤ ca.L.seq ∧ ca.L.seq < 1000000 ∧ wayOk ca.L ∧ ca.L.seq ≤ (takeT S.W.g gs).1 + 1
          rw [eL, h.sq]
          exact ⟨by show 0 ≤ S.R.seq; omega, by show S.R.seq < 1000000; omega, ask_way _ _ _, by show S.R.seq ≤ S.R.seq + 1; omega⟩
        · rcases List.mem_append.mp m with m | m
          · exact h.gl g m
          · rw [List.mem_singleton.mp m]
            show GLet ca.L ca.o none ∧ (ca.L.verb = "TURN" → ∃ u, ca.o = some u)
            rw [eL, hca.o]
            exact ⟨ask_g ok (by omega) (by omega) xo, ask_t a⟩
theorem Jp.forget {S : S9} {gs : List GL} {check : Int} (h : Jp S gs check) (cl sv : Addr) : Jp { S with R := forgS (forgC S.R cl) sv, ovs := [] } gs check := by
  have tg := h.tg
  refine ⟨⟨tg.tag, tg.call, tg.own, tg.other, tg.place, tg.first, tg.chk, tg.ot, ?_, tg.rq⟩, h.st, h.sq, h.tk, h.gl, h.ls, h.g_, h.xo, h.rw_, h.opn, h.ops, h.ovr, h.aok, h.dok, h.asl, ?_, h.ccok, (fun _ m => nomatch m), Nat.zero_le _, h.lv, h.nl⟩
  · show S.R.ss.filter liveS = []
    rw [tg.ss]
    rfl
  · show S.R.cs.filter liveC = S.cc :: ([] ++ S.tl)
    have l1 : liveC S.cc = true := by
      unfold liveC
      rw [h.ccok.st]
      rfl
    have l2 : S.ovs.filter liveC = [] := List.filter_eq_nil_iff.mpr fun c m => by
      unfold liveC
      rw [h.ovok c m]
      exact Bool.false_ne_true
    have l3 : S.tl.filter liveC = S.tl := by
      cases eo : S.op with
      | none => rw [h.opn eo]; rfl
      | some a =>
        obtain ⟨_, _, ca, et, hca⟩ := h.ops a eo
        rw [et, List.filter_cons_of_pos (by unfold liveC; rw [hca.st]; rfl)]
        rfl
    rw [h.cs, List.filter_cons_of_pos l1, List.filter_append, l2, l3]
/-! events, as data -/
def offD : PyData := .tuple [.int 9, .str "take", .tuple [.str "a"]]
def evD : Ev → PyData
  | .lost => .tuple [.str "over", .str "lost", .int 41]
  | .turn n o => .tuple [.str "turn replied", .int n, if o = true then offD else .none]
  | .move n => .tuple [.str "move replied", .int n]
theorem evD_ok : ∀ evs : List Ev, PyData.canLayAll0 (evs.map evD) = true ∧ PyData.depthAll (evs.map evD) ≤ 3
  | [] => by simp [PyData.canLayAll0, PyData.depthAll]
  | e :: evs => by
    obtain ⟨a1, a2⟩ := evD_ok evs
    have k : PyData.strOk "over" = true ∧ PyData.strOk "lost" = true ∧ PyData.strOk "turn replied" = true ∧ PyData.strOk "move replied" = true ∧ PyData.strOk "take" = true ∧ PyData.strOk "a" = true := by decide +kernel
    obtain ⟨k1, k2, k3, k4, k5, k6⟩ := k
    have b : (evD e).canLay0 = true ∧ (evD e).depth ≤ 3 := by
      cases e with
      | lost => simp [evD, PyData.canLay0, PyData.canLayAll0, PyData.depth, PyData.depthAll, k1, k2]
      | turn n o => cases o <;> simp [evD, offD, PyData.canLay0, PyData.canLayAll0, PyData.depth, PyData.depthAll, k3, k5, k6]
      | move n => simp [evD, PyData.canLay0, PyData.canLayAll0, PyData.depth, PyData.depthAll, k4]
    obtain ⟨b1, b2⟩ := b
    rw [List.map_cons]
    simp only [PyData.canLayAll0, PyData.depthAll, a1, b1]
    exact ⟨rfl, by omega⟩
theorem ev_dp {K : PySem.W.Frag} {H : Hp} : ∀ {vs : List V} {evs : List Ev}, Zp (EvAt H) vs evs → DpAll K H vs (evs.map evD)
  | [], [], _ => .nil
  | v :: vs, e :: evs, ⟨⟨t, xs, h1, h2, h3⟩, h⟩ => by
    refine .cons ?_ (ev_dp h)
    subst h1
    cases e with
    | lost =>
      obtain rfl : xs = [.str "over", .str "lost", .int 41] := h3
      exact .tup (SqT.of h2) (.cons (.str _) (.cons (.str _) (.cons (.int _) .nil)))
    | turn n o =>
      obtain ⟨x, rfl, hx⟩ := h3
      refine .tup (SqT.of h2) (.cons (.str _) (.cons (.int _) (.cons ?_ .nil)))
      cases o with
      | false =>
        rw [show x = .non from hx]
        exact .non
      | true =>
        obtain ⟨p, f, rfl, g1, g2⟩ := hx
        exact .tup (SqT.of g1) (.cons (.int _) (.cons (.str _) (.cons (.tup (SqT.of g2) (.cons (.str _) .nil)) .nil)))
    | move n =>
      obtain rfl : xs = [.str "move replied", .int n] := h3
      exact .tup (SqT.of h2) (.cons (.str _) (.cons (.int _) .nil))
  | [], _ :: _, h => h.elim
  | _ :: _, [], h => h.elim
theorem ma_rows {H : Hp} : ∀ {vs : List V} {as : List Ask}, Zp (MaR H) vs as → ∃ ts : List Addr, vs = ts.map V.ref ∧ RwV H ts (as.map Ask.z)
  | [], [], _ => ⟨[], rfl, trivial⟩
  | v :: vs, a :: as, ⟨⟨t, h1, h2⟩, h⟩ => by
    obtain ⟨ts, e, w⟩ := ma_rows h
    exact ⟨t :: ts, by rw [h1, e]; rfl, h2, w⟩
  | [], _ :: _, h => h.elim
  | _ :: _, [], h => h.elim
theorem es_at {K : PySem.W.Frag} {H : Hp} : ∀ {es : List (Addr × List V)} {evs : List Ev}, Zp (EvR H) es evs → (∀ e ∈ es, H e.1 = some (.tup e.2)) → Zp (EvAt H) (es.map fun c => V.ref c.1) evs
  | [], [], _, _ => trivial
  | w :: es, e :: evs, h, k => ⟨⟨w.1, w.2, rfl, k w (List.mem_cons_self ..), h.1⟩, es_at (K := K) h.2 fun x m => k x (List.mem_cons_of_mem _ m)⟩
  | [], _ :: _, h, _ => h.elim
  | _ :: _, [], h, _ => h.elim

end K19
set_option maxHeartbeats 4000000
set_option pp.maxSteps 400
namespace K19
open PySem PySem.Spec PyProof.Rows L2 SX TK TKS TKC
open C8 (pe_c)
def spLaw (K : PySem.W.Frag) : Sp := fun vs H Q _ => ∃ (a : Addr) (ns : List Int), vs = [.ref a] ∧ SqL K H a (ns.map V.int) ∧ ns.length ≤ 63 ∧ ∀ H', Q (.bl true) H'
theorem ok_law {P : Program} {w : World} {K : PySem.W.Frag} {mg : Str → Option Value} {base : Heap} {f : Addr} {fd : FuncData} (T : Tx K mg) (c_law_state : C8.Cal P w K mg base 1 "_law_state" (spState K) []) (c_law_draw : C8.Cal P w K mg base 1 "_law_draw" spDraw []) (c_law_pick : C8.Cal P w K mg base 2 "_law_pick" spPick []) (c_law_talking : C8.Cal P w K mg base 10 "_law_talking" (spTalking K) []) (c_law_asks : C8.Cal P w K mg base 8 "_law_asks" (spAsks K) []) (c_law_take : C8.Cal P w K mg base 8 "_law_take" (spTakeW K) []) (c_law_replies : C8.Cal P w K mg base 10 "_law_replies" (spReplies K) []) (c_Letter_reply : C8.Met P w K mg base 3 (He.ga K "Letter") "reply" (spLReply K) [(V.non), (V.non)]) (c_Leg_receive : C8.Met P w K mg base 9 (He.ga K "Leg") "receive" (spRecv8 K) []) (c_Leg_tick : C8.Met P w K mg base 8 (He.ga K "Leg") "tick" (spTick K) []) (c_Leg_take_events : C8.Met P w K mg base 1 (He.ga K "Leg") "take_events" (spTakeEv K) []) (c_law_sent_right : C8.Cal P w K mg base 1 "_law_sent_right" (spSentRight K) [])
    (F : FunD K "law" "law" (defArgs s_law) (defBody s_law) (defScope s_law) [] [] f fd) : FnOk P w K mg base CX0 11 f fd ["script"] (spLaw K) := by
  refine F.ok sc_law (fun vs H Q E h => ?_) (fun cdv A outer s0 H vs Q E hr h => ?_)
  · obtain ⟨a, ns, rfl, _⟩ := h
    rfl
  · obtain ⟨a, ns, rfl, hS, hn, k⟩ := h
    refine ⟨_, PSs.nox (pss_cons (ps_set (i := 1) sc_law.nd rfl (Or.inl rfl) (pe_c c_law_state hr (by decide) rfl (pa_cons (pv 0) pa_nil))) (pss_cons (ps_set (i := 2) sc_law.nd rfl (Or.inl rfl) (pe_op op_add pe_int (pe_c c_law_draw hr (by decide) rfl (pa_cons (pv 1) (pa_cons pe_int pa_nil))))) (pss_cons (ps_set (i := 3) sc_law.nd rfl (Or.inl rfl) (pe_c c_law_talking hr (by decide) rfl (pa_cons (pv 1) (pa_cons (pv 2) pa_nil)))) (pss_cons (ps_set (i := 4) sc_law.nd rfl (Or.inl rfl) (pe_lst (pa_cons pe_int (pa_cons (pe_lst pa_nil) (pa_cons pe_non (pa_cons (pe_lst pa_nil) (pa_cons (pv 2) (pa_cons pe_bl pa_nil)))))))) (pss_cons (ps_set (i := 5) sc_law.nd rfl (Or.inl rfl) (pe_lst pa_nil)) (pss_cons (ps_set (i := 6) sc_law.nd rfl (Or.inl rfl) (pe_lst pa_nil)) (pss_cons (ps_set (i := 7) sc_law.nd rfl (Or.inl rfl) (pe_lst pa_nil)) (pss_cons (ps_for PassesOwn.never rfl (pi_range2 rfl T.f_range (pa_cons pe_int (pa_cons pe_int pa_nil))) (pg_name (i := 8) sc_law.nd rfl (Or.inl rfl)) (pss_cons (ps_set (i := 9) sc_law.nd rfl (Or.inl rfl) (pe_lst pa_nil)) (C8.pss_cut (ps_if (PW.pt (pw_and (pt_cmpR op_eq (pe_c c_law_draw hr (by decide) rfl (pa_cons (pv 1) (pa_cons pe_int pa_nil))) pe_int (nomark _)) (pw_and1 (pt_not (pt_val (pe_ix ix_list (pv 4) pe_int (fun _ _ => rfl))))))) (pss_one (ps_for PassesOwn.never rfl (pi_range1 rfl T.f_range (pa_cons (pe_c c_law_pick hr (by decide) rfl (pa_cons (pv 1) (pa_cons (pe_lst (pa_cons pe_int (pa_cons pe_int (pa_cons pe_int (pa_cons pe_int pa_nil))))) pa_nil))) pa_nil)) (pg_name (i := 10) sc_law.nd rfl (Or.inl rfl)) (pss_one (ps_set (i := 9) sc_law.nd rfl (Or.inl rfl) (pe_op op_cat (pv 9) (pe_c c_law_asks hr (by decide) rfl (pa_cons (pv 1) (pa_cons (pv 3) (pa_cons (pv 4) (pa_cons (pv 5) (pa_cons (pv 8) pa_nil))))))))))) pss_nil) (C8.pss_cut (ps_if (pt_not (pt_val (pe_c c_law_take hr (by decide) rfl (pa_cons (pv 9) (pa_cons (pv 4) pa_nil))))) (pss_one (ps_ret pe_bl)) pss_nil) (pss_cons (ps_set (i := 9) sc_law.nd rfl (Or.inl rfl) (pe_lst pa_nil)) (C8.pss_cut (ps_if (PW.pt (pw_and (pt_cmpR op_notN (pe_ix ix_list (pv 4) pe_int (fun _ _ => rfl)) pe_non (nomark _)) (pw_and (pt_cmpR op_eq (pe_c c_law_draw hr (by decide) rfl (pa_cons (pv 1) (pa_cons pe_int pa_nil))) pe_int (nomark _)) (pw_and1 (pt_not (pt_val (pe_ix ix_list (pv 4) pe_int (fun _ _ => rfl)))))))) (pss_one (ps_set (i := 9) sc_law.nd rfl (Or.inl rfl) (pe_op op_cat (pv 9) (pe_c c_law_replies hr (by decide) rfl (pa_cons (pv 1) (pa_cons (pv 3) (pa_cons (pv 4) (pa_cons (pv 5) (pa_cons (pv 6) (pa_cons (pv 8) (pa_cons (pv 2) pa_nil))))))))))) pss_nil) (C8.pss_cut (ps_if (PW.pt (pw_and (pt_cmpR op_gt (pe_callB call_len_seq rfl T.f_len PySem.boot_len (pa_cons (pe_ix ix_list (pv 4) pe_int (fun _ _ => rfl)) pa_nil)) pe_int (nomark _)) (pw_and1 (pt_cmpR op_eq (pe_c c_law_draw hr (by decide) rfl (pa_cons (pv 1) (pa_cons pe_int pa_nil))) pe_int (nomark _))))) (pss_cons (ps_set (i := 11) sc_law.nd rfl (Or.inl rfl) (pe_ix ix_list (pe_ix ix_list (pv 4) pe_int (fun _ _ => rfl)) (pe_c c_law_draw hr (by decide) rfl (pa_cons (pv 1) (pa_cons (pe_op op_sub (pe_callB call_len_seq rfl T.f_len PySem.boot_len (pa_cons (pe_ix ix_list (pv 4) pe_int (fun _ _ => rfl)) pa_nil)) pe_int) pa_nil))) (fun _ _ => rfl))) (pss_one (ps_set (i := 9) sc_law.nd rfl (Or.inl rfl) (pe_op op_cat (pv 9) (C8.pe_mt c_Leg_receive hr (by decide) (pv 3) (pa_cons (C8.pe_mt c_Letter_reply hr (by decide) (pv 11) (pa_cons (pe_c c_law_pick hr (by decide) rfl (pa_cons (pv 1) (pa_cons (pe_lst (pa_cons pe_int (pa_cons pe_int pa_nil))) pa_nil))) (pa_cons pe_str pa_nil))) (pa_cons pe_str (pa_cons (pv 8) pa_nil)))))))) pss_nil) (pss_cons (ps_set (i := 9) sc_law.nd rfl (Or.inl rfl) (pe_op op_cat (pv 9) (C8.pe_mt c_Leg_tick hr (by decide) (pv 3) (pa_cons (pv 8) pa_nil)))) (C8.pss_cut (ps_if (PW.pt (pw_and (pt_not (pt_val (pe_ix ix_list (pv 4) pe_int (fun _ _ => rfl)))) (pw_and (pt_cmpR op_isN (pe_ix ix_list (pv 4) pe_int (fun _ _ => rfl)) pe_non (nomark _)) (pw_and (pt_cmpR op_notN (pe_ix ix_list (pv 4) pe_int (fun _ _ => rfl)) pe_non (nomark _)) (pw_and1 (pt_cmpR op_ge (pv 8) (pe_ix ix_list (pv 4) pe_int (fun _ _ => rfl)) (nomark _))))))) (pss_cons (ps_asg (pe_tup (pa_cons pe_str (pa_cons pe_int pa_nil))) (pg_sub (pv 4) pe_int set_list)) (pss_cons (ps_asg pe_non (pg_sub (pv 4) pe_int set_list)) (pss_one (ps_expr (pe_bm PySem.F.plainAttrs_list PySem.F.slot_list_append PySem.F.type_list_append mt_append (pv 5) (pa_cons (pe_ix ix_list (pv 4) pe_int (fun _ _ => rfl)) pa_nil)))))) pss_nil) (pss_cons (ps_set (i := 7) sc_law.nd rfl (Or.inl rfl) (pe_op op_cat (pv 7) (C8.pe_mt0 c_Leg_take_events hr (by decide) (pv 3)))) (C8.pss_cut (ps_if (PW.pt (pw_or (pt_not (pt_val (pe_c c_law_take hr (by decide) rfl (pa_cons (pv 9) (pa_cons (pv 4) pa_nil))))) (pw_or (pt_not (pt_val (pe_c c_law_sent_right hr (by decide) rfl (pa_cons (pv 4) (pa_cons (pv 5) pa_nil))))) (pw_or1 (pt_cmpR (op_neD hr.units) (pv 7) (pv 6) (nomark _)))))) (pss_one (ps_ret pe_bl)) pss_nil) (pss_one (ps_if (pt_cmpR op_ne (pe_fldC rfl T.cl_Leg T.na_Leg_state (pv 3) rfl) (pe_ix ix_list (pe_lst (pa_cons pe_str (pa_cons pe_str pa_nil))) (pe_callTy call_int1 rfl T.f_int (by decide +kernel) (pa_cons (pe_ix ix_list (pv 4) pe_int (fun _ _ => rfl)) pa_nil)) (fun _ _ => rfl)) (nomark _)) (pss_one (ps_ret pe_bl)) pss_nil))))))))))))) (pss_one (ps_ret pe_bl)))))))))), ?_⟩
    refine ⟨_, rfl, a, ns, rfl, hS, hn, fun s c H1 s1 hs hc st1 => ?_⟩
    refine ⟨_, rfl, s, c, 18, rfl, st1, by decide, by decide, fun d H2 d0 d1 st2 _ => ⟨_, _, rfl, rfl, ?_⟩⟩
    show gName 2 (V.int (3 + d)) _ _ _
    obtain ⟨check, ec⟩ : ∃ check : Int, check = 3 + d := ⟨_, rfl⟩
    rw [← ec]
    refine ⟨_, rfl, _, rfl, s, c, check, rfl, st2, by omega, by omega, fun R H3 tr c3 i3 k3 => ?_⟩
    refine ⟨by show 0 ≤ sizeLine; decide, fun la hla => ⟨by show 0 ≤ sizeLine; decide, fun lb hlb => ⟨_, rfl, by show 6 ≤ sizeLine; decide, fun w hw => ?_⟩⟩⟩
    refine ⟨by show 0 ≤ sizeLine; decide, fun dl hdl => ⟨by show 0 ≤ sizeLine; decide, fun el hel => ⟨by show 0 ≤ sizeLine; decide, fun tl htl => ?_⟩⟩⟩
    obtain ⟨S0, H4, L0, w0, e1, e2, e3, e4, e5, e6, e7, e8⟩ : ∃ S0 H4, LS9 K check H4 [(tl, .lst []), (el, .lst [])] S0 [] [] [] [] ∧ H4 = upd (upd (upd (upd (upd (upd H3 la (.lst [])) lb (.lst [])) w (.lst [.int 1, .ref la, .non, .ref lb, .int check, .bl false])) dl (.lst [])) el (.lst [])) tl (.lst []) ∧ S0.s = s ∧ S0.R.p = R.p ∧ S0.W.w = w ∧ S0.dl = dl ∧ Jw S0 ∧ S0.ovs = [] ∧ S0.ev = [] ∧ S0.xs = [] := by
      have r6 := (((((((Run.refl c3).add (o := .lst []) hla).add (o := .lst []) hlb).add (o := .lst [.int 1, .ref la, .non, .ref lb, .int check, .bl false]) hw).add (o := .lst []) hdl).add (o := .lst []) hel).add (o := .lst []) htl)
      have k6 := k3.run r6
      obtain ⟨n, ns, l, c6⟩ := cells_s k6.st r6.c k6.s_ k6.c_
      obtain ⟨cc, hcs, g1, g2, g3, g4⟩ := tr.cs
      have i6 := i3.im r6.im
      refine ⟨⟨s, c, n, ns, ⟨w, la, lb, 1, [], .non, [], .int check, false⟩, dl, [], R, [], none, [], [], [], cc, [], []⟩, _, ⟨c6.perm (perm8 _ _ _ _ _ _ _ _ _), ⟨i6, ?_, trivial, rfl, trivial, (fun _ m => nomatch m), ?_⟩, ⟨⟨tr.tag, tr.call, tr.own, tr.other, tr.place, tr.first, tr.chk, tr.ot, tr.ss, tr.req.trans tr.seq.symm⟩, tr.st, tr.seq.symm, (fun _ _ e => nomatch e), (fun _ m => nomatch m), rfl, rfl, ⟨(fun _ _ e => nomatch e), fun _ m => nomatch m⟩, rfl, (fun _ => rfl), (fun _ e => nomatch e), (fun _ => rfl), (fun _ m => nomatch m), (fun _ m => nomatch m), Nat.zero_le _, hcs, ⟨g1, g2, g3, g4⟩, (fun _ m => nomatch m), Nat.zero_le _, (fun _ => .inr ⟨(fun e => nomatch e), by show V.int check = .int R.live; rw [tr.live]⟩), l⟩, trivial, trivial⟩, rfl, rfl, rfl, rfl, rfl, (fun _ => rfl), rfl, rfl, rfl⟩
      · show Zp (WaR _) R.ws []
        rw [tr.ws]
        trivial
      · show Zp (EvR _) R.es []
        rw [tr.es]
        trivial
    have chk0 : 0 ≤ check := by omega
    subst e1
    rw [← w0]
    clear w0 hS hn s1 hs hc st1 st2 d0 d1 ec c3 i3 k3 hla hlb hw hdl hel htl
    generalize R.p = p at *
    clear tr
    subst e2 e3 e4
    refine ⟨1, 60, rfl, ⟨by decide, by decide, by decide, by decide⟩, for_range (lo := 1) (fun i σ H' => ∃ (S : S9) (tl : Addr) (tls els : List V) (evs : List Ev) (v8 v9 v10 v11 : Option V), σ = [some (.ref a), some (.ref S0.s), some (.int check), some (.ref S0.R.p), some (.ref S0.W.w), some (.ref S0.dl), some (.ref el), some (.ref tl), v8, v9, v10, v11] ∧ LS9 K check H' [(tl, .lst tls), (el, .lst els)] S [] evs tls els ∧ Jw S ∧ S.ovs = [] ∧ S.ev = [] ∧ S.s = S0.s ∧ S.R.p = S0.R.p ∧ S.W.w = S0.W.w ∧ S.dl = S0.dl ∧ S.xs.length ≤ 30 * i ∧ evs.length ≤ i) ⟨S0, tl, [], [], [], none, none, none, none, rfl, L0, e5, e6, e7, rfl, rfl, rfl, rfl, by rw [e8]; exact Nat.le_refl 0, Nat.le_refl 0⟩ ?_ ?_⟩
    · rintro i σ H' hi60 ⟨S, tl, tls, els, evs, v8, v9, v10, v11, rfl, L, jw, ho, hev, f1, f2, f3, f4, hxs, hevs⟩
      rw [← f1, ← f2, ← f3, ← f4]
      clear L0 e5 e6 e7 e8
      have h0 : (0 : Int) ≤ 1 + i := by omega
      generalize hnow : (1 + (i : Int)) = now at *
      refine ⟨by show 0 ≤ sizeLine; decide, fun rw0 hrw => ?_⟩
      have L1 := L.add (o := .lst []) hrw
      generalize upd H' rw0 (.lst []) = H5 at L1 ⊢
      clear L hrw
      -- the user asks
      refine ⟨fun σ' H' => ∃ (S1 : S9) (r : Addr) (ts : List Addr) (g : List GL) (v10' : Option V), σ' = [some (.ref a), some (.ref S.s), some (.int check), some (.ref S.R.p), some (.ref S.W.w), some (.ref S.dl), some (.ref el), some (.ref tl), some (.int now), some (.ref r), v10', v11] ∧ LS9 K check H' [(r, .lst (ts.map V.ref)), (tl, .lst tls), (el, .lst els)] S1 g evs tls els ∧ Jw S1 ∧ S1.ovs = [] ∧ S1.ev = [] ∧ Sm S S1 ∧ g.length ≤ 12 ∧ RwI H' ts (g.map rowG), ⟨_, rfl, S.s, S.c, 5, rfl, L1.st, by decide, by decide, fun d H6 _ _ st6 kp6 => ?_⟩, ?_⟩
      · obtain ⟨n6, m6, L6⟩ := L1.draw st6 kp6
        refine ⟨rfl, _, rfl, ?_⟩
        show (if decide (V.int d = V.int 0) = true then _ else _)
        by_cases ed : V.int d = V.int 0
        · rw [decide_eq_true ed]
          refine iteT ⟨_, rfl, S.W.w, _, 5, .bl S.W.ov, rfl, rfl, SqL.of L6.wd, rfl, S.W.ov, rfl, ?_⟩
          cases eov : S.W.ov with
          | true => exact iteF ⟨{ S with n := n6, ns := m6 }, rw0, [], [], v10, rfl, L6, jw, ho, hev, ⟨rfl, rfl, rfl, rfl, rfl, rfl, rfl⟩, Nat.zero_le _, trivial⟩
          | false =>
            refine iteT ⟨_, rfl, by show 4 ≤ sizeLine; decide, fun l hl => ?_⟩
            obtain ⟨ls, lc⟩ := st6.tracked hl
            refine ⟨S.s, S.c, _, rfl, st6.upd ls lc, .inr ⟨l, _, rfl, upd_same, ls, lc, by simp, by simp, fun v hv H7 st7 kp7 => ?_⟩⟩
            obtain ⟨m, rfl, hm0, hm⟩ : ∃ m : Int, v = .int m ∧ 0 ≤ m ∧ m ≤ 12 := by
              simp only [List.mem_cons, List.not_mem_nil, or_false] at hv
              rcases hv with rfl | rfl | rfl | rfl <;> exact ⟨_, rfl, by decide, by decide⟩
            obtain ⟨n7, m7, L7⟩ := (L6.same (same_upd (o := .lst [.int 1, .int 1, .int 2, .int 12]) hl)).draw st7 kp7
            refine ⟨m, rfl, by omega, by omega, for_range (lo := 0) (fun j σ H' => ∃ (S1 : S9) (r : Addr) (ts : List Addr) (g : List GL) (v10' : Option V), σ = [some (.ref a), some (.ref S.s), some (.int check), some (.ref S.R.p), some (.ref S.W.w), some (.ref S.dl), some (.ref el), some (.ref tl), some (.int now), some (.ref r), v10', v11] ∧ LS9 K check H' [(r, .lst (ts.map V.ref)), (tl, .lst tls), (el, .lst els)] S1 g evs tls els ∧ Jw S1 ∧ S1.ovs = [] ∧ S1.ev = [] ∧ Sm S S1 ∧ g.length ≤ j ∧ RwI H' ts (g.map rowG) ∧ S1.W.ov = false) ⟨{ S with n := n7, ns := m7 }, rw0, [], [], v10, rfl, L7, jw, ho, hev, ⟨rfl, rfl, rfl, rfl, rfl, rfl, rfl⟩, Nat.zero_le _, trivial, eov⟩ ?_ ?_⟩
            · rintro j σ H8 hj ⟨S1, r, ts, g, v10', rfl, L8, jw1, ho1, hev1, sm1, hg, w8, ov1⟩
              have hx1 : S1.xs.length ≤ 5000 := by rw [sm1.xs]; omega
              refine ⟨_, rfl, _, rfl, _, rfl, _, rfl, _, rfl, _, rfl, S1, g, check, now, by rw [sm1.s, sm1.p, sm1.w, sm1.dl]; rfl, Cells.right (A := [(r, .lst (ts.map V.ref)), (tl, .lst tls), (el, .lst els)]) L8.c, L8.i, L8.p, jw1, ov1, h0, hx1, by omega, fun S2 g2 r2 ts2 H9 p2 jw2 sm2 ov2 hev2 ho2 lg2 q9 i9 w9 => ?_⟩
              have r9 := (Run.frameR (A := [(r, .lst (ts.map V.ref)), (tl, .lst tls), (el, .lst els)]) (Run.refl L8.c) q9).perm List.perm_middle
              have w8' := w8.im r9.im
              have er : H9 r = some (.lst (ts.map V.ref)) := r9.c.get (by simp)
              have er2 : H9 r2 = some (.lst (ts2.map V.ref)) := r9.c.get (by simp)
              have lw1 := w8'.len
              have lw2 := w9.len
              rw [List.length_map] at lw1 lw2
              refine ⟨r, r2, _, _, rfl, rfl, er, er2, by rw [List.length_map, List.length_map]; exact Nat.le_trans (by omega : _ ≤ 100) (by decide), fun q hq => ?_⟩
              have L9 : LS9 K check H9 [(r2, .lst (ts2.map V.ref)), (r, .lst (ts.map V.ref)), (tl, .lst tls), (el, .lst els)] S2 (g ++ g2) evs tls els := ⟨r9.c, i9, p2, L8.te.mono fun _ _ q => q.im r9.im, by rw [hev2]; exact L8.ee.mono fun _ _ q => q.im r9.im⟩
              have La := (L9.add (o := .lst ((ts ++ ts2).map V.ref)) hq).sub (X' := [(q, .lst ((ts ++ ts2).map V.ref)), (tl, .lst tls), (el, .lst els)]) (((List.Sublist.refl _).cons _ |>.cons _).cons₂ _)
              rw [← List.map_append]
              refine ⟨S2, q, ts ++ ts2, g ++ g2, _, rfl, La, jw2, ho2.trans ho1, hev2.trans hev1, ⟨sm2.s.trans sm1.s, sm2.c.trans sm1.c, sm2.p.trans sm1.p, sm2.dx.trans sm1.dx, sm2.w.trans sm1.w, sm2.dl.trans sm1.dl, sm2.xs.trans sm1.xs⟩, by rw [List.length_append]; omega, ?_, ov2⟩
              rw [show (g ++ g2).map rowG = g.map rowG ++ g2.map rowG from List.map_append, List.map_append]
              exact (w8'.app w9).im (Im.of_same (same_upd hq))
            · rintro σ H8 ⟨S1, r, ts, g, v10', rfl, L8, jw1, ho1, hev1, sm1, hg, w8, ov1⟩
              exact ⟨S1, r, ts, g, v10', rfl, L8, jw1, ho1, hev1, sm1, by omega, w8⟩
        · rw [decide_eq_false ed]
          exact iteF (iteF ⟨{ S with n := n6, ns := m6 }, rw0, [], [], v10, rfl, L6, jw, ho, hev, ⟨rfl, rfl, rfl, rfl, rfl, rfl, rfl⟩, Nat.zero_le _, trivial⟩)
      rintro σ' H6 ⟨S1, r, ts, g, v10', rfl, L6, jw1, ho1, hev1, sm1, hg, w6⟩
      clear L1 rw0 H5
      -- what is sent is taken
      have hx1 : S1.xs.length ≤ 5000 := by rw [sm1.xs]; omega
      refine ⟨fun σ' H' => σ' = [some (.ref a), some (.ref S.s), some (.int check), some (.ref S.R.p), some (.ref S.W.w), some (.ref S.dl), some (.ref el), some (.ref tl), some (.int now), some (.ref r), v10', v11] ∧ ∃ S2, LS9 K check H' [(tl, .lst tls), (el, .lst els)] S2 [] evs tls els ∧ Jw S2 ∧ S2.ovs = [] ∧ S2.ev = [] ∧ S2.s = S.s ∧ S2.R.p = S.R.p ∧ S2.W.w = S.W.w ∧ S2.dl = S.dl ∧ S2.xs.length ≤ S.xs.length + 12, ⟨_, rfl, _, rfl, ?_⟩, ?_⟩
      · delta tNil
        dsimp only
        refine L6.take sm1.w w6 (by omega) (by omega) fun H7 xs L7 lxs _ => ⟨_, rfl, iteF ?_⟩
        exact ⟨rfl, _, L7, jw1, ho1, hev1, sm1.s, sm1.p, sm1.w, sm1.dl, by show (S1.xs ++ xs).length ≤ _; rw [List.length_append, sm1.xs]; omega⟩
      rintro σ' H7 ⟨rfl, S2, L7, jw2, ho2, hev2, e1, e2, e3, e4, hx2⟩
      rw [← e1, ← e2, ← e3, ← e4]
      have hx2' : S2.xs.length ≤ 30 * i + 12 := by omega
      have f1' := e1.trans f1
      have f2' := e2.trans f2
      have f3' := e3.trans f3
      have f4' := e4.trans f4
      clear L6 w6 jw1 ho1 hev1 sm1 hg hx1 jw ho hev f1 f2 f3 f4 hxs hx2 e1 e2 e3 e4
      clear ts g S1
      clear S
      refine ⟨by show 0 ≤ sizeLine; decide, fun rw0 hrw => ?_⟩
      have L8 := L7.add (o := .lst []) hrw
      generalize upd H7 rw0 (.lst []) = H8 at L8 ⊢
      clear L7 hrw
      have hevs2 : els.length ≤ 100 := by
        have := L8.ee.len
        rw [hev2, List.append_nil] at this
        omega
      -- a reply
      refine ⟨fun σ' H' => ∃ (S3 : S9) (r : Addr) (ts : List Addr) (g : List GL) (els' : List V), σ' = [some (.ref a), some (.ref S2.s), some (.int check), some (.ref S2.R.p), some (.ref S2.W.w), some (.ref S2.dl), some (.ref el), some (.ref tl), some (.int now), some (.ref r), v10', v11] ∧ LS9 K check H' [(r, .lst (ts.map V.ref)), (tl, .lst tls), (el, .lst els')] S3 g evs tls els' ∧ Jw S3 ∧ Sm S2 S3 ∧ g.length ≤ 1 ∧ S3.ev.length ≤ 1 ∧ RwI H' ts (g.map rowG), ⟨_, rfl, S2.W.w, _, 2, S2.W.op, rfl, rfl, SqL.of L8.wd, rfl, rfl, _, rfl, ?_⟩, ?_⟩
      · have out : ∀ S3 H9, S3 = S2 ∨ (∃ n ns, S3 = { S2 with n := n, ns := ns }) → LS9 K check H9 [(rw0, .lst []), (tl, .lst tls), (el, .lst els)] S3 [] evs tls els → Jw S3 ∧ Sm S2 S3 ∧ S3.ev.length ≤ 1 := by
          intro S3 H9 e L9
          rcases e with rfl | ⟨n, ns, rfl⟩
          · exact ⟨jw2, ⟨rfl, rfl, rfl, rfl, rfl, rfl, rfl⟩, by rw [hev2]; exact Nat.zero_le _⟩
          · exact ⟨jw2, ⟨rfl, rfl, rfl, rfl, rfl, rfl, rfl⟩, by show S2.ev.length ≤ 1; rw [hev2]; exact Nat.zero_le _⟩
        have opi := L8.i.oi.non_iff
        by_cases eop : S2.W.op = .non
        · rw [decide_eq_true eop]
          obtain ⟨z1, z2, z3⟩ := out S2 H8 (.inl rfl) L8
          exact iteF (iteF ⟨S2, rw0, [], [], els, rfl, L8, z1, z2, Nat.zero_le _, z3, trivial⟩)
        · rw [decide_eq_false eop]
          obtain ⟨a0, eo⟩ : ∃ a0, S2.op = some a0 := by
            cases e : S2.op with
            | none => exact absurd (opi.mpr e) eop
            | some a0 => exact ⟨a0, rfl⟩
          refine iteT ⟨_, rfl, S2.s, S2.c, 3, rfl, L8.st, by decide, by decide, fun d H9 _ _ st9 kp9 => ?_⟩
          obtain ⟨n9, m9, L9⟩ := L8.draw st9 kp9
          refine ⟨rfl, _, rfl, ?_⟩
          show (if decide (V.int d = V.int 0) = true then _ else _)
          obtain ⟨z1, z2, z3⟩ := out _ H9 (.inr ⟨n9, m9, rfl⟩) L9
          by_cases ed : V.int d = V.int 0
          · rw [decide_eq_true ed]
            refine iteT ⟨_, rfl, S2.W.w, _, 5, .bl S2.W.ov, rfl, rfl, SqL.of L9.wd, rfl, S2.W.ov, rfl, ?_⟩
            cases eov : S2.W.ov with
            | true => exact iteF ⟨_, rw0, [], [], els, rfl, L9, z1, z2, Nat.zero_le _, z3, trivial⟩
            | false =>
              refine iteT ⟨_, rfl, _, rfl, _, rfl, _, rfl, _, rfl, _, rfl, _, rfl, _, rfl, { S2 with n := n9, ns := m9 }, a0, check, now, el, els, rfl, Cells.right (A := [(rw0, .lst []), (tl, .lst tls)]) L9.c, L9.i, L9.p, eo, eov, ho2, h0, by show S2.xs.length ≤ 5000; omega, by show S2.ev.length ≤ 1000; rw [hev2]; exact Nat.zero_le _, by omega, fun S3 g r ts e es' Ha p3 jw3 sm3 ev3 le3 hes lg q3 i3 w3 => ?_⟩
              have ra := (Run.frameR (A := [(rw0, .lst []), (tl, .lst tls)]) (Run.refl L9.c) q3).perm List.perm_middle
              have er : Ha rw0 = some (.lst []) := ra.c.get (by simp)
              have er2 : Ha r = some (.lst (ts.map V.ref)) := ra.c.get (by simp)
              have lw := w3.len
              rw [List.length_map] at lw
              refine ⟨rw0, r, _, _, rfl, rfl, er, er2, by rw [List.length_map]; exact Nat.le_trans (by show 0 + _ ≤ 100; omega : _ ≤ 100) (by decide), fun q hq => ?_⟩
              have La : LS9 K check Ha [(r, .lst (ts.map V.ref)), (rw0, .lst []), (tl, .lst tls), (el, .lst (els ++ es'))] S3 g evs tls (els ++ es') := by
                refine ⟨ra.c, i3, p3, L9.te.mono fun _ _ q => q.im ra.im, ?_⟩
                have z := L9.ee
                rw [show ({ S2 with n := n9, ns := m9 } : S9).ev = [] from hev2, List.append_nil] at z
                rw [ev3, show ({ S2 with n := n9, ns := m9 } : S9).ev = [] from hev2, List.nil_append]
                exact Zp.app hes (z.mono fun _ _ q => q.im ra.im)
              have Lb := (La.add (o := .lst (ts.map V.ref)) hq).sub (X' := [(q, .lst (ts.map V.ref)), (tl, .lst tls), (el, .lst (els ++ es'))]) (((List.Sublist.refl _).cons _ |>.cons _).cons₂ _)
              exact ⟨S3, q, ts, g, els ++ es', rfl, Lb, jw3, ⟨sm3.s, sm3.c, sm3.p, sm3.dx, sm3.w, sm3.dl, sm3.xs⟩, lg, by rw [ev3, show ({ S2 with n := n9, ns := m9 } : S9).ev = [] from hev2]; exact le3, w3.im (Im.of_same (same_upd hq))⟩
          · rw [decide_eq_false ed]
            exact iteF (iteF ⟨_, rw0, [], [], els, rfl, L9, z1, z2, Nat.zero_le _, z3, trivial⟩)
      rintro σ' H9 ⟨S3, r, ts, g, els', rfl, L9, jw3, sm3, hg, le3, w9⟩
      -- an old letter's reply
      have hw9 := L9.wd
      have hla9 : H9 S3.W.la = some (.lst (S3.xs.map fun x => V.ref x.a)) := by
        have z : H9 S3.W.la = some (.lst (S3.W.ls.map V.ref)) := L9.c.get (by simp [cM, wdM])
        rw [z, L9.p.ls, List.map_map]
        rfl
      have hx3 : S3.xs.length ≤ 5000 := by rw [sm3.xs]; omega
      rw [← sm3.s, ← sm3.p, ← sm3.w, ← sm3.dl]
      refine ⟨fun σ' H' => ∃ (S4 : S9) (r : Addr) (ts : List Addr) (v11' : Option V), σ' = [some (.ref a), some (.ref S3.s), some (.int check), some (.ref S3.R.p), some (.ref S3.W.w), some (.ref S3.dl), some (.ref el), some (.ref tl), some (.int now), some (.ref r), v10', v11'] ∧ LS9 K check H' [(r, .lst (ts.map V.ref)), (tl, .lst tls), (el, .lst els')] S4 g evs tls els' ∧ Jw S4 ∧ Sm S3 S4 ∧ S4.ev.length ≤ 1 ∧ RwI H' ts (g.map rowG), ⟨_, rfl, S3.W.w, _, 1, .ref S3.W.la, rfl, rfl, SqL.of hw9, rfl, S3.W.la, _, rfl, .inl (SqL.of hla9), _, _, rfl, rfl, _, rfl, ?_⟩, ?_⟩
      · show (if decide (1 < (((S3.xs.map fun x => V.ref x.a).length : Nat) : Int)) = true then _ else _)
        rw [List.length_map]
        by_cases e1 : (1 : Int) < ((S3.xs.length : Nat) : Int)
        · rw [decide_eq_true e1]
          refine iteT ⟨_, rfl, S3.s, S3.c, 6, rfl, L9.st, by decide, by decide, fun d Ha _ _ sta kpa => ?_⟩
          obtain ⟨na, ma, La⟩ := L9.draw sta kpa
          have wa := w9.im (Keep.im L9.st kpa)
          have hla_a := Keep.im L9.st kpa
          refine ⟨rfl, _, rfl, ?_⟩
          show (if decide (V.int d = V.int 0) = true then _ else _)
          by_cases ed : V.int d = V.int 0
          · rw [decide_eq_true ed]
            have hwa : Ha S3.W.w = some (.lst (wdL S3.W)) := La.wd
            have hlaa : Ha S3.W.la = some (.lst (S3.xs.map fun x => V.ref x.a)) := by
              have z : Ha S3.W.la = some (.lst (S3.W.ls.map V.ref)) := La.c.get (by simp [cM, wdM])
              rw [z, L9.p.ls, List.map_map]
              rfl
            refine iteT ⟨_, rfl, S3.W.w, _, 1, .ref S3.W.la, rfl, rfl, SqL.of hwa, rfl, _, rfl, _, rfl, S3.W.w, _, 1, .ref S3.W.la, rfl, rfl, SqL.of hwa, rfl, S3.W.la, _, rfl, .inl (SqL.of hlaa), _, _, rfl, rfl, S3.s, S3.c, (S3.xs.length : Int) - 1, by rw [List.length_map]; rfl, La.st, by omega, by omega, fun j Hb j0 j1 stb kpb => ?_⟩
            obtain ⟨nb, mb, Lb⟩ := La.draw stb kpb
            have wb := wa.im (Keep.im La.st kpb)
            have hlab : Hb S3.W.la = some (.lst (S3.xs.map fun x => V.ref x.a)) := by
              have z : Hb S3.W.la = some (.lst (S3.W.ls.map V.ref)) := Lb.c.get (by simp [cM, wdM])
              rw [z, L9.p.ls, List.map_map]
              rfl
            have hj : j.toNat < S3.xs.length := by omega
            obtain ⟨x, ex⟩ : ∃ x, S3.xs[j.toNat]? = some x := ⟨_, List.getElem?_eq_getElem hj⟩
            refine ⟨S3.W.la, _, j, .ref x.a, rfl, rfl, SqL.of hlab, ?_, ?_⟩
            · rw [atN .non j0 (by rw [List.length_map]; omega), List.getD_eq_getElem?_getD, List.getElem?_map, ex]
              rfl
            obtain ⟨dxl, hxl⟩ := (Lb.i.xi x (List.mem_of_getElem? ex)).at_
            have hpb := leg_p (S9.legC (Cells.right (A := [(r, .lst (ts.map V.ref)), (tl, .lst tls), (el, .lst els')]) Lb.c))
            refine ⟨_, rfl, _, rfl, S3.R.p, S3.R.dx, _, rfl, hpb, rfl, _, rfl, x.a, dxl, _, rfl, hxl, rfl, _, rfl, by show 2 ≤ sizeLine; decide, fun l hl => ?_⟩
            obtain ⟨ls, lc⟩ := stb.tracked hl
            refine ⟨S3.s, S3.c, _, rfl, stb.upd ls lc, .inr ⟨l, _, rfl, upd_same, ls, lc, by simp, by simp, fun v hv Hc stc kpc => ?_⟩⟩
            obtain ⟨n, rfl, n20, n99⟩ : ∃ n : Int, v = .int n ∧ 20 ≤ n ∧ n ≤ 99 := by
              simp only [List.mem_cons, List.not_mem_nil, or_false] at hv
              rcases hv with rfl | rfl <;> exact ⟨_, rfl, by decide, by decide⟩
            obtain ⟨nc, mc, Lc⟩ := (Lb.same (same_upd (o := .lst [.int 20, .int 41]) hl)).draw stc kpc
            have wc := (wb.im (Im.of_same (same_upd (o := .lst [.int 20, .int 41]) hl))).im (Keep.im (stb.upd ls lc) kpc)
            have hxc := (Lc.i.xi x (List.mem_of_getElem? ex)).at_
            refine ⟨x.a, x.L, .int n, "y1", .non, .non, rfl, hxc, fun ba H5 s5 hba hla5 => ?_⟩
            have Ld := Lc.same s5
            have wd := wc.im (Im.of_same s5)
            refine ⟨_, rfl, S3.R.p, ba, "q", now, n, _, rfl, hla5, rfl, ?_⟩
            refine old_k (S := { S3 with n := nc, ns := mc }) (gs := g) (check := check) Ld.p Ld.i (S9.legC (Cells.right (A := [(r, .lst (ts.map V.ref)), (tl, .lst tls), (el, .lst els')]) Ld.c)) (by show S3.xs.length ≤ 6000; omega) (by omega) (by show S3.ev.length ≤ 1000; omega) ex (by show j.toNat + 1 < S3.xs.length; omega) hla5 n20 n99 fun r2 ts2 H6 q6 i6 ets => ?_
            subst ets
            have t6 := (Run.frameR (A := (r, .lst (ts.map V.ref)) :: (tl, .lst tls) :: (el, .lst els') :: (sM S3.s S3.c nc mc ++ (wdM S3.W ++ [(S3.dl, .lst S3.dv)]))) (Run.refl Ld.c) q6).perm List.perm_middle
            have im6 := t6.im
            have er : H6 r = some (.lst (ts.map V.ref)) := t6.c.get (by simp)
            have er2 : H6 r2 = some (.lst []) := t6.c.get (by simp)
            have lw := wd.len
            rw [List.length_map] at lw
            refine ⟨r, r2, _, _, rfl, rfl, er, er2, by rw [List.length_map]; exact Nat.le_trans (by show _ + 0 ≤ 100; omega : _ ≤ 100) (by decide), fun q hq => ?_⟩
            have i6' := Ld.i.im im6
            have L6 : LS9 K check H6 [(r2, .lst []), (r, .lst (ts.map V.ref)), (tl, .lst tls), (el, .lst els')] { S3 with n := nc, ns := mc } g evs tls els' := ⟨t6.c, i6', Ld.p, Ld.te.mono fun _ _ q => q.im im6, Ld.ee.mono fun _ _ q => q.im im6⟩
            have L7 := (L6.add (o := .lst (ts.map V.ref ++ [])) hq).sub (X' := [(q, .lst (ts.map V.ref ++ [])), (tl, .lst tls), (el, .lst els')]) (((List.Sublist.refl _).cons _ |>.cons _).cons₂ _)
            have wq := (wd.im im6).im (Im.of_same (same_upd (o := .lst (ts.map V.ref ++ [])) hq))
            generalize (upd H6 q (.lst (ts.map V.ref ++ []))) = H7 at L7 wq ⊢
            rw [List.append_nil] at L7
            exact ⟨_, q, ts, _, rfl, L7, jw3, ⟨rfl, rfl, rfl, rfl, rfl, rfl, rfl⟩, le3, wq⟩
          · rw [decide_eq_false ed]
            exact iteF ⟨_, r, ts, _, rfl, La, jw3, ⟨rfl, rfl, rfl, rfl, rfl, rfl, rfl⟩, le3, wa⟩
        · rw [decide_eq_false e1]
          refine iteF ?_
          refine iteF ?_
          exact ⟨S3, r, ts, _, rfl, L9, jw3, ⟨rfl, rfl, rfl, rfl, rfl, rfl, rfl⟩, le3, w9⟩
      rintro σ' Ha ⟨S4, r4, ts4, v11', rfl, La, jw4, sm4, le4, wa⟩
      have sm := sm4
      have g1' := (sm4.s.trans sm3.s).trans f1'
      have g2' := (sm4.p.trans sm3.p).trans f2'
      have g3' := (sm4.w.trans sm3.w).trans f3'
      have g4' := (sm4.dl.trans sm3.dl).trans f4'
      have hx4 : S4.xs.length ≤ 30 * i + 12 := by rw [sm4.xs, sm3.xs]; exact hx2'
      rw [← sm4.s, ← sm4.p, ← sm4.w, ← sm4.dl]
      clear L9 w9 hw9 hla9 hx3 jw3 le3 sm3 sm4 sm
      clear L8 jw2 ho2 hev2 f1' f2' f3' f4' hx2' hevs2 S3 r ts
      -- a tick
      have La3 : Cells Ha ((r4, .lst (ts4.map V.ref)) :: (tl, .lst tls) :: (el, .lst els') :: cM K S4) := La.c
      have hlg := S9.legC (Cells.right (A := [(r4, .lst (ts4.map V.ref)), (tl, .lst tls), (el, .lst els')]) La.c)
      have hpa := leg_p hlg
      have sq4 := La.p.seq
      have n640 : now < 640 := by omega
      have lgr := wa.len
      rw [List.length_map] at lgr
      have hgs : ∀ c ∈ S4.R.cs, tickG c now = false := fun c m => by
        rw [La.p.cs] at m
        rcases List.mem_cons.mp m with rfl | m
        · exact (tick_call La.p.ccok n640 0).2.2
        rcases List.mem_append.mp m with m | m
        · exact (tick_ov (La.p.ovok c m) now).2
        · rcases opt_or S4.op with eo | ⟨a0, eo⟩
          · rw [La.p.opn eo] at m; cases m
          · obtain ⟨_, _, ca, et, hca⟩ := La.p.ops a0 eo
            rw [et] at m
            rw [List.mem_singleton.mp m]
            exact (tick_ask hca n640 0).2.2
      refine ⟨_, rfl, _, rfl, S4.R.p, S4.R.dx, _, rfl, hpa, rfl, _, rfl, S4.R, now, rfl, hlg, La.i.li, La.p.tg.snd (a := .live) (by omega) (by omega) trivial, Nat.lt_of_le_of_lt La.p.csl (by decide), La.p.tg.ss, hgs, fun cs R2 rows2 cl sv r5 ts5 Hb ha lr q5 i5 w5 => ?_⟩
      obtain ⟨tl', g1, ecs, Jt, erow, lg1⟩ := La.p.tick n640 (by omega) (by omega) ha
      have r5' := (Run.frameR (A := (r4, .lst (ts4.map V.ref)) :: (tl, .lst tls) :: (el, .lst els') :: (sM S4.s S4.c S4.n S4.ns ++ (wdM S4.W ++ [(S4.dl, .lst S4.dv)]))) (Run.refl La.c) q5).perm List.perm_middle
      have imb := r5'.im
      have ib := La.i.im imb
      have wb := wa.im imb
      have er : Hb r4 = some (.lst (ts4.map V.ref)) := r5'.c.get (by simp)
      have er2 : Hb r5 = some (.lst (ts5.map V.ref)) := r5'.c.get (by simp)
      have lr5 := w5.len
      rw [List.length_append, erow, List.length_map] at lr5
      have lrr := live_same lr
      refine ⟨r4, r5, _, _, rfl, rfl, er, er2, by rw [List.length_map, List.length_map]; exact Nat.le_trans (by omega : _ ≤ 100) (by decide), fun r6 hr6 => ?_⟩
      have im6 := Im.of_same (same_upd (o := .lst (ts4.map V.ref ++ ts5.map V.ref)) hr6)
      have c6 := ((r5'.c.add (o := .lst (ts4.map V.ref ++ ts5.map V.ref)) hr6).sub (N := (r6, .lst (ts4.map V.ref ++ ts5.map V.ref)) :: (tl, .lst tls) :: (el, .lst els') :: (sM S4.s S4.c S4.n S4.ns ++ (wdM S4.W ++ ((S4.dl, .lst S4.dv) :: legM K (forgS (forgC R2 cl) sv))))) (((List.Sublist.refl _).cons _ |>.cons _).cons₂ _))
      have i6 := i5.im im6
      have w6 := (wb.app w5).im im6
      have ib6 := ib.im im6
      have te6 := (La.te.mono fun _ _ q => q.im imb).mono fun _ _ q => EvAt.im q im6
      have ee6 := (La.ee.mono fun _ _ q => q.im imb).mono fun _ _ q => EvAt.im q im6
      have eapp : ts4.map V.ref ++ ts5.map V.ref = (ts4 ++ ts5).map V.ref := List.map_append.symm
      rw [eapp] at c6 i6 w6 ib6 te6 ee6 im6 ⊢
      generalize hH6 : (upd Hb r6 (.lst ((ts4 ++ ts5).map V.ref))) = H6 at *
      have hw6 : H6 S4.W.w = some (.lst (wdL S4.W)) := c6.get (by simp [wdM])
      have hdl6 : H6 S4.dl = some (.lst S4.dv) := c6.get (by simp [wdM])
      have opi := La.i.oi.non_iff
      have anyt := Jt.any
      have tgp := La.p.tg.place
      rw [erow] at w6
      refine ⟨fun σ' H' => σ' = [some (.ref a), some (.ref S4.s), some (.int check), some (.ref S4.R.p), some (.ref S4.W.w), some (.ref S4.dl), some (.ref el), some (.ref tl), some (.int now), some (.ref r6), v10', v11'] ∧ ∃ S5 g', LS9 K check H' [(r6, .lst ((ts4 ++ ts5).map V.ref)), (tl, .lst tls), (el, .lst els')] S5 g' evs tls els' ∧ Jw S5 ∧ Sm S4 S5 ∧ S5.ovs = [] ∧ S5.ev.length ≤ 1 ∧ RwI H' (ts4 ++ ts5) (g'.map rowG) ∧ g'.length ≤ 5, ⟨_, rfl, S4.W.w, _, 5, .bl S4.W.ov, rfl, rfl, SqL.of hw6, rfl, S4.W.ov, rfl, ?_⟩, ?_⟩
      · rcases lr with ⟨nl, eR, er2⟩ | ⟨l1, l2, l3, ⟨cp, cdx, xla, wa', wx, ka, eR⟩, er2⟩
        · subst eR
          subst er2
          rw [List.append_nil] at w6
          have L5 : LS9 K check H6 [(r6, .lst ((ts4 ++ ts5).map V.ref)), (tl, .lst tls), (el, .lst els')] { S4 with R := forgS (forgC { S4.R with cs := cs } cl) sv, ovs := [], tl := tl' } (g ++ g1) evs tls els' := ⟨c6, ⟨i6, ib6.wi, ib6.mi, ib6.oi, ib6.di, ib6.xi, ib6.ei⟩, Jt.forget cl sv, te6, ee6⟩
          have fin : Jw { S4 with R := forgS (forgC { S4.R with cs := cs } cl) sv, ovs := [], tl := tl' } ∧ Sm S4 { S4 with R := forgS (forgC { S4.R with cs := cs } cl) sv, ovs := [], tl := tl' } ∧ ([] : List ClR) = [] ∧ S4.ev.length ≤ 1 ∧ RwI H6 (ts4 ++ ts5) ((g ++ g1).map rowG) ∧ (g ++ g1).length ≤ 5 := ⟨jw4, ⟨rfl, rfl, rfl, rfl, rfl, rfl, rfl⟩, rfl, le4, by rw [List.map_append]; exact w6, by rw [List.length_append]; omega⟩
          cases eov : S4.W.ov with
          | true => exact iteF (iteF ⟨rfl, _, _, L5, fin⟩)
          | false =>
            refine iteT ⟨_, rfl, S4.W.w, _, 2, S4.W.op, rfl, rfl, SqL.of hw6, rfl, rfl, _, rfl, ?_⟩
            by_cases eop : S4.W.op = .non
            · rw [decide_eq_true eop]
              have eo : S4.op = none := opi.mp eop
              have lv4 : S4.W.lv = .int S4.R.live := by
                rcases La.p.lv eov with ⟨q, _⟩ | ⟨_, q⟩
                · rw [eo] at q; cases q
                · exact q
              have nlive : ¬ S4.R.live ≤ now := fun q => nl ⟨by show S4.R.st = "talking"; rw [La.p.st, eov]; rfl, q, by rw [show (LegR.cs { S4.R with cs := cs }).any askB = _ from anyt]; show S4.op.isSome = false; rw [eo]; rfl⟩
              refine iteT ⟨_, rfl, S4.W.w, _, 4, S4.W.lv, rfl, rfl, SqL.of hw6, rfl, rfl, _, rfl, ?_⟩
              rw [show decide (S4.W.lv = .non) = false from decide_eq_false (by rw [lv4]; exact fun e => nomatch e)]
              refine iteT ⟨_, rfl, _, rfl, S4.W.w, _, 4, S4.W.lv, rfl, rfl, SqL.of hw6, rfl, _, _, rfl, lv4, _, rfl, ?_⟩
              show (if decide (S4.R.live ≤ now) = true then _ else _)
              rw [decide_eq_false nlive]
              exact iteF ⟨rfl, _, _, L5, fin⟩
            · rw [decide_eq_false eop]
              exact iteF (iteF ⟨rfl, _, _, L5, fin⟩)
        · subst eR
          subst er2
          have eo : S4.op = none := by
            have z := anyt.symm.trans l3
            rcases opt_or S4.op with e | ⟨a0, e⟩
            · exact e
            · have z' : S4.op.isSome = false := z
              rw [e] at z'
              cases z'
          have eov : S4.W.ov = false := by
            have z : S4.R.st = "talking" := l1
            rw [La.p.st] at z
            cases e : S4.W.ov with
            | false => rfl
            | true =>
              rw [e] at z
              exact absurd z (by show ¬ ("over" : Str) = "talking"; decide +kernel)
          have lv4 : S4.W.lv = .int S4.R.live := by
            rcases La.p.lv eov with ⟨q, _⟩ | ⟨_, q⟩
            · rw [eo] at q; cases q
            · exact q
          rw [eov]
          refine iteT ⟨_, rfl, S4.W.w, _, 2, S4.W.op, rfl, rfl, SqL.of hw6, rfl, rfl, _, rfl, ?_⟩
          rw [decide_eq_true (opi.mpr eo)]
          refine iteT ⟨_, rfl, S4.W.w, _, 4, S4.W.lv, rfl, rfl, SqL.of hw6, rfl, rfl, _, rfl, ?_⟩
          rw [show decide (S4.W.lv = .non) = false from decide_eq_false (by rw [lv4]; exact fun e => nomatch e)]
          refine iteT ⟨_, rfl, _, rfl, S4.W.w, _, 4, S4.W.lv, rfl, rfl, SqL.of hw6, rfl, _, _, rfl, lv4, _, rfl, ?_⟩
          show (if decide (S4.R.live ≤ now) = true then _ else _)
          rw [decide_eq_true (show S4.R.live ≤ now from l2)]
          refine iteT ⟨by show 2 ≤ sizeLine; decide, fun t ht => ?_⟩
          have s7 := same_upd (o := .tup [.str "LIVE", .int 0]) ht
          have et7 : (upd H6 t (.tup [.str "LIVE", .int 0])) t = some (.tup [.str "LIVE", .int 0]) := upd_same
          have c7 := c6.same s7
          have hw7 := s7 _ _ hw6
          have im7 := Im.of_same s7
          generalize (upd H6 t (.tup [.str "LIVE", .int 0])) = H7 at s7 et7 c7 hw7 im7 ⊢
          refine ⟨_, rfl, S4.W.w, _, 2, 2, rfl, rfl, hw7, rfl, ?_⟩
          obtain ⟨RL, hRL⟩ : ∃ RL, RL = forgS (forgC (sentR { S4.R with cs := cs } (newC cp cdx xla wa' wx ka (sendL { S4.R with cs := cs } "LIVE" .non .non) none (LegR.place { S4.R with cs := cs }) (LegR.first { S4.R with cs := cs }) now)) cl) sv := ⟨_, rfl⟩
          rw [← hRL] at c7 i6
          have q8 := Run.set (A := (r6, .lst ((ts4 ++ ts5).map V.ref)) :: (tl, .lst tls) :: (el, .lst els') :: sM S4.s S4.c S4.n S4.ns) (a := S4.W.w) (o := .lst (wdL S4.W)) (B := (S4.W.la, .lst (S4.W.ls.map V.ref)) :: (S4.W.lb, .lst S4.W.ws) :: (S4.dl, .lst S4.dv) :: legM K RL) (o' := .lst (wdL { S4.W with op := .ref t })) (Run.refl c7) rfl
          have hw8 : (upd H7 S4.W.w (.lst (wdL { S4.W with op := .ref t }))) S4.W.w = some (.lst (wdL { S4.W with op := .ref t })) := upd_same
          refine ⟨_, rfl, S4.W.w, _, 4, 4, rfl, rfl, hw8, rfl, ?_⟩
          have q9 := Run.set (A := (r6, .lst ((ts4 ++ ts5).map V.ref)) :: (tl, .lst tls) :: (el, .lst els') :: sM S4.s S4.c S4.n S4.ns) (a := S4.W.w) (o := .lst (wdL { S4.W with op := .ref t })) (B := (S4.W.la, .lst (S4.W.ls.map V.ref)) :: (S4.W.lb, .lst S4.W.ws) :: (S4.dl, .lst S4.dv) :: legM K RL) (o' := .lst (wdL { S4.W with op := .ref t, lv := .non })) q8 rfl
          have hw9 : (upd (upd H7 S4.W.w (.lst (wdL { S4.W with op := .ref t }))) S4.W.w (.lst (wdL { S4.W with op := .ref t, lv := .non }))) S4.W.w = some (.lst (wdL { S4.W with op := .ref t, lv := .non })) := upd_same
          have hd9 : (upd (upd H7 S4.W.w (.lst (wdL { S4.W with op := .ref t }))) S4.W.w (.lst (wdL { S4.W with op := .ref t, lv := .non }))) S4.dl = some (.lst S4.dv) := q9.c.get (by simp)
          have dal := La.p.dal
          have ldv : S4.dv.length = S4.da.length := La.i.di.len
          refine ⟨_, rfl, .inl ⟨rfl, _, SqL.of hd9⟩, _, rfl, S4.W.w, _, 2, .ref t, rfl, rfl, SqL.of hw9, rfl, S4.dl, _, _, rfl, rfl, hd9, Nat.lt_of_le_of_lt (by omega : _ ≤ 10000) (by decide), ?_⟩
          have qa := Run.set (A := (r6, .lst ((ts4 ++ ts5).map V.ref)) :: (tl, .lst tls) :: (el, .lst els') :: (sM S4.s S4.c S4.n S4.ns ++ wdM { S4.W with op := .ref t, lv := .non })) (a := S4.dl) (o := .lst S4.dv) (B := legM K RL) (o' := .lst (S4.dv ++ [.ref t])) q9 rfl
          have ima := im7.trans qa.im
          have i9 := ib6.im ima
          have es1 : sendL { S4.R with cs := cs } "LIVE" .non .non = Ask.live.L (S4.R.seq + 1) .non := Jt.tg.send .live .non
          have J1 := Jt.sent (a := .live) eo eov trivial (by show S4.xs.length + (g ++ g1).length ≤ 500000; rw [List.length_append]; omega) h0 La.p.aok La.p.asl (lv := .non) (.inl ⟨rfl, rfl⟩) cp cdx xla wa' wx ka .non S4.R.ws (.ref t) S4.W.ws
          have J2 := J1.forget cl sv
          have eM : MaR _ (V.ref t) .live := ⟨t, rfl, qa.im _ _ et7 rfl⟩
          rw [es1] at hRL w6
          subst hRL
          have ws5 := w6.im ima
          refine ⟨rfl, _, _, LS9.of J2 qa.c ⟨i6.im ima, i9.wi, i9.mi, eM, Zp.app (Zp.one eM) i9.di, i9.xi, i9.ei⟩ (te6.mono fun _ _ q => EvAt.im q ima) (ee6.mono fun _ _ q => EvAt.im q ima), (fun e => nomatch e), ⟨rfl, rfl, rfl, rfl, rfl, rfl, rfl⟩, rfl, le4, ?_, by rw [List.length_append, List.length_append]; show _ + 1 ≤ 5; omega⟩
          rw [List.map_append, List.map_append, List.append_assoc]
          rw [show (LegR.place { S4.R with cs := cs }) = "q" from tgp] at ws5
          exact ws5
      rintro σ' H7 ⟨rfl, S5, g5, L5, jw5, sm5, ho5, le5, w5', lg5⟩
      clear La La3 hlg hpa hgs ha lr q5 i5 w5 Jt erow r5' imb ib wb er er2 lr5 lrr im6 c6 i6 w6 ib6 te6 ee6 hw6 hdl6 opi anyt jw4 wa
      have h1' := sm5.s.trans g1'
      have h2' := sm5.p.trans g2'
      have h3' := sm5.w.trans g3'
      have h4' := sm5.dl.trans g4'
      have hx5 : S5.xs.length ≤ 30 * i + 12 := by rw [sm5.xs]; exact hx4
      rw [← sm5.s, ← sm5.p, ← sm5.w, ← sm5.dl]
      clear sm5 g1' g2' g3' g4' hx4
      -- what is told
      have hl5 := S9.legC (Cells.right (A := [(r6, .lst ((ts4 ++ ts5).map V.ref)), (tl, .lst tls), (el, .lst els')]) L5.c)
      have hp5 := leg_p hl5
      refine ⟨_, rfl, _, rfl, S5.R.p, S5.R.dx, _, rfl, hp5, rfl, S5.R, rfl, hl5, L5.i.li, fun ev H8 q8 i8 => ?_⟩
      have r8 := (Run.frameR (A := (r6, .lst ((ts4 ++ ts5).map V.ref)) :: (tl, .lst tls) :: (el, .lst els') :: (sM S5.s S5.c S5.n S5.ns ++ (wdM S5.W ++ [(S5.dl, .lst S5.dv)]))) (Run.refl L5.c) q8).perm List.perm_middle
      have im8 := r8.im
      have j8 := L5.i.im im8
      have etl : H8 tl = some (.lst tls) := r8.c.get (by simp)
      have eev : H8 S5.R.ev = some (.lst (S5.R.es.map fun c => V.ref c.1)) := r8.c.get (o := evL S5.R) (by simp)
      have te8 := L5.te.mono fun _ _ q => EvAt.im q im8
      have ee8 := L5.ee.mono fun _ _ q => EvAt.im q im8
      have es8 : Zp (EvAt H8) (S5.R.es.map fun c => V.ref c.1) S5.ev := es_at (K := K) j8.ei j8.li.ei
      have told8 := Zp.app es8 te8
      have lt8 := told8.len
      rw [List.length_append] at lt8
      have w8 := w5'.im im8
      refine ⟨tl, S5.R.ev, _, _, rfl, rfl, etl, eev, Nat.le_trans (by rw [lt8, List.length_append]; omega : _ ≤ 100) (by decide), fun q hq => ?_⟩
      have im9 := Im.of_same (same_upd (o := .lst (tls ++ S5.R.es.map fun c => V.ref c.1)) hq)
      have L9 : LS9 K check (upd H8 q (.lst (tls ++ S5.R.es.map fun c => V.ref c.1))) [(r6, .lst ((ts4 ++ ts5).map V.ref)), (q, .lst (tls ++ S5.R.es.map fun c => V.ref c.1)), (el, .lst els')] { S5 with R := { S5.R with ev := ev, es := [] }, ev := [] } g5 (evs ++ S5.ev) (tls ++ S5.R.es.map fun c => V.ref c.1) els' := by
        have p5 := L5.p
        have tg := p5.tg
        have j9 := j8.im im9
        refine ⟨?_, ⟨i8.im im9, j9.wi, j9.mi, j9.oi, j9.di, j9.xi, trivial⟩, ⟨⟨tg.tag, tg.call, tg.own, tg.other, tg.place, tg.first, tg.chk, tg.ot, tg.ss, tg.rq⟩, p5.st, p5.sq, p5.tk, p5.gl, p5.ls, p5.g_, p5.xo, p5.rw_, p5.opn, p5.ops, p5.ovr, p5.aok, p5.dok, p5.asl, p5.cs, p5.ccok, p5.ovok, p5.ovl, p5.lv, p5.nl⟩, told8.mono fun _ _ q => EvAt.im q im9, ?_⟩
        · have z := (r8.c.add (o := .lst (tls ++ S5.R.es.map fun c => V.ref c.1)) hq).sub (N := (q, .lst (tls ++ S5.R.es.map fun c => V.ref c.1)) :: (r6, .lst ((ts4 ++ ts5).map V.ref)) :: (el, .lst els') :: cM K { S5 with R := { S5.R with ev := ev, es := [] }, ev := [] }) ((((List.Sublist.refl _).cons _ |>.cons₂ _).cons _).cons₂ _)
          exact z.perm (List.Perm.swap _ _ _)
        · show Zp (EvAt _) els' ((evs ++ S5.ev) ++ [])
          rw [List.append_nil]
          exact ee8.mono fun _ _ q => EvAt.im q im9
      have w9 := w8.im im9
      have evl : (evs ++ S5.ev).length ≤ i + 1 := by rw [List.length_append]; omega
      generalize tls ++ (S5.R.es.map fun c => V.ref c.1) = tls2 at *
      generalize evs ++ S5.ev = evs2 at *
      generalize (upd H8 q (.lst tls2)) = H9 at *
      obtain ⟨S6, hS6⟩ : ∃ S6 : S9, S6 = { S5 with R := { S5.R with ev := ev, es := [] }, ev := [] } := ⟨_, rfl⟩
      have ee6 : S6.s = S5.s ∧ S6.R.p = S5.R.p ∧ S6.W.w = S5.W.w ∧ S6.dl = S5.dl ∧ S6.ovs = [] ∧ S6.ev = [] ∧ Jw S6 ∧ S6.xs = S5.xs := by rw [hS6]; exact ⟨rfl, rfl, rfl, rfl, ho5, rfl, jw5, rfl⟩
      rw [← hS6] at L9
      obtain ⟨k1, k2, k3, k4, k5, k6, k7, k8⟩ := ee6
      have h1 := k1.trans h1'
      have h2 := k2.trans h2'
      have h3 := k3.trans h3'
      have h4 := k4.trans h4'
      rw [← k1, ← k2, ← k3, ← k4]
      rw [← k8] at hx5
      clear hS6 k1 k2 k3 k4 k8 h1' h2' h3' h4' L5 hl5 hp5 q8 i8 r8 im8 j8 etl eev te8 ee8 es8 told8 lt8 w8 im9 hq jw5 ho5 le5 w5'
      have hx6 := hx5
      -- the checks
      refine ⟨fun σ' H' => σ' = [some (.ref a), some (.ref S6.s), some (.int check), some (.ref S6.R.p), some (.ref S6.W.w), some (.ref S6.dl), some (.ref el), some (.ref q), some (.int now), some (.ref r6), v10', v11'] ∧ ∃ S7, LS9 K check H' [(q, .lst tls2), (el, .lst els')] S7 [] evs2 tls2 els' ∧ Jw S7 ∧ S7.ovs = [] ∧ S7.ev = [] ∧ S7.s = S6.s ∧ S7.R.p = S6.R.p ∧ S7.W.w = S6.W.w ∧ S7.dl = S6.dl ∧ S7.xs.length ≤ S6.xs.length + 5, ⟨_, rfl, _, rfl, ?_⟩, ?_⟩
      · delta tNil
        dsimp only
        refine L9.take rfl w9 (by omega) (by omega) fun Ha xs La lxs _ => ⟨true, rfl, iteF ?_⟩
        have wla : Ha S6.W.w = some (.lst (wdL { S6.W with g := (takeT S6.W.g g5).1, ls := S6.W.ls ++ xs.map (·.a) })) := La.wd
        have hla : Ha S6.W.la = some (.lst ((S6.xs ++ xs).map fun x => V.ref x.a)) := by
          have z : Ha S6.W.la = some (.lst ((S6.W.ls ++ xs.map (·.a)).map V.ref)) := La.c.get (by simp [cM, wdM])
          rw [z, L9.p.ls, ← List.map_append, List.map_map]
          rfl
        obtain ⟨dts, edv, hdw⟩ := ma_rows La.i.di
        have hdl : Ha S6.dl = some (.lst (dts.map V.ref)) := by
          rw [← show S6.dv = dts.map V.ref from edv]
          exact La.c.get (by simp [cM, wdM])
        have hrow : (S6.xs ++ xs).map rowV = S6.da.map Ask.z := by
          have z := La.p.rw_
          rw [show (takeT ({ S6 with W := { S6.W with g := (takeT S6.W.g g5).1, ls := S6.W.ls ++ xs.map (·.a) }, xs := S6.xs ++ xs } : S9).W.g []).2 = [] from rfl, List.map_nil, List.append_nil] at z
          exact z
        refine ⟨_, rfl, _, rfl, { S6.W with g := (takeT S6.W.g g5).1, ls := S6.W.ls ++ xs.map (·.a) }, S6.xs ++ xs, S6.dl, dts, rfl, wla, hla, La.i.xi, by rw [List.length_append]; omega, hdl, by rw [hrow]; exact hdw, fun x m => ?_, fun Hb sb => ⟨true, rfl, iteF ?_⟩⟩
        · have mz : rowV x ∈ (S6.xs ++ xs).map rowV := List.mem_map.mpr ⟨x, m, rfl⟩
          rw [hrow] at mz
          obtain ⟨a9, m9, e9⟩ := List.mem_map.mp mz
          rw [← e9]
          exact ask_rok (La.p.dok a9 m9)
        have Lb := La.same sb
        obtain ⟨d1, d2⟩ := evD_ok evs2
        have dd : SeqAt.shaped (.list (evs2.map evD)) = true := shaped_of (by simp only [PyData.canLay0]; exact d1) (by simp only [PyData.depth]; omega)
        have eeb := Lb.ee
        rw [show ({ S6 with W := { S6.W with g := (takeT S6.W.g g5).1, ls := S6.W.ls ++ xs.map (·.a) }, xs := S6.xs ++ xs } : S9).ev = [] from k6, List.append_nil] at eeb
        refine ⟨_, rfl, _, rfl, _, _, .lst (SqL.of (Lb.c.get (by simp))) (ev_dp Lb.te), .lst (SqL.of (Lb.c.get (by simp))) (ev_dp eeb), dd, dd, _, rfl, ?_⟩
        rw [SeqAt.eqv_refl _ (by simp only [PyData.canLay0]; exact d1)]
        exact iteF ⟨rfl, _, Lb, k7, k5, k6, rfl, rfl, rfl, rfl, by show (S6.xs ++ xs).length ≤ _; rw [List.length_append]; omega⟩
      rintro σ' Ha ⟨rfl, S7, L7, jw7, ho7, hev7, m1, m2, m3, m4, hx7⟩
      rw [← m1, ← m2, ← m3, ← m4]
      have hp7 := leg_p (S9.legC (Cells.right (A := [(q, .lst tls2), (el, .lst els')]) L7.c))
      have fin : ∀ H', LS9 K check H' [(q, .lst tls2), (el, .lst els')] S7 [] evs2 tls2 els' → ∃ (S : S9) (tl : Addr) (tls els : List V) (evs : List Ev) (v8 v9 v10 v11 : Option V), [some (.ref a), some (.ref S7.s), some (.int check), some (.ref S7.R.p), some (.ref S7.W.w), some (.ref S7.dl), some (.ref el), some (.ref q), some (.int now), some (.ref r6), v10', v11'] = [some (.ref a), some (.ref S7.s), some (.int check), some (.ref S7.R.p), some (.ref S7.W.w), some (.ref S7.dl), some (.ref el), some (.ref tl), v8, v9, v10, v11] ∧ LS9 K check H' [(tl, .lst tls), (el, .lst els)] S [] evs tls els ∧ Jw S ∧ S.ovs = [] ∧ S.ev = [] ∧ S.s = S7.s ∧ S.R.p = S7.R.p ∧ S.W.w = S7.W.w ∧ S.dl = S7.dl ∧ S.xs.length ≤ 30 * (i + 1) ∧ evs.length ≤ i + 1 := by
        intro H' L8
        exact ⟨S7, q, tls2, els', evs2, _, _, _, _, rfl, L8, jw7, ho7, hev7, rfl, rfl, rfl, rfl, by omega, evl⟩
      refine ⟨_, rfl, S7.R.p, S7.R.dx, _, _, rfl, hp7, rfl, by show 2 ≤ sizeLine; decide, fun l hl => ?_⟩
      have L8 := L7.same (same_upd (o := .lst [.str "talking", .str "over"]) hl)
      refine ⟨_, rfl, S7.W.w, _, 5, .bl S7.W.ov, rfl, rfl, SqL.of L8.wd, rfl, .inr ⟨_, rfl, ?_⟩⟩
      have est := L7.p.st
      cases eov : S7.W.ov with
      | true =>
        refine ⟨l, _, _, .str "over", rfl, rfl, SqL.of upd_same, rfl, rfl, _, rfl, ?_⟩
        rw [show S7.R.st = "over" by rw [est, eov]; rfl]
        exact iteF (fin _ L8)
      | false =>
        refine ⟨l, _, _, .str "talking", rfl, rfl, SqL.of upd_same, rfl, rfl, _, rfl, ?_⟩
        rw [show S7.R.st = "talking" by rw [est, eov]; rfl]
        exact iteF (fin _ L8)
    · rintro σ H' _
      exact k H'

end K19
set_option maxHeartbeats 4000000
set_option pp.maxSteps 400
namespace K19
open PySem PySem.Spec PyProof.Rows L2 SX TK TKS TKC
open C8 (pe_c)
/-! what the law never calls -/
def spNever : Sp := fun _ _ _ _ => False
theorem ok_Leg__give_up_request {P : Program} {w : World} {K : PySem.W.Frag} {mg : Str → Option Value} {base : Heap} {f : Addr} {fd : FuncData} (T : Tx K mg) 
    (F : FunD K "_give_up_request" "Leg._give_up_request" (defArgs s_Leg__give_up_request) (defBody s_Leg__give_up_request) (defScope s_Leg__give_up_request) [] [] f fd) : FnOk P w K mg base CX0 7 f fd ["self", "verb", "now"] spNever := by
  refine F.ok sc_Leg__give_up_request (fun vs H Q E h => h.elim) (fun cdv A outer s0 H vs Q E hr h => h.elim)
theorem ok_Server_tick {P : Program} {w : World} {K : PySem.W.Frag} {mg : Str → Option Value} {base : Heap} {f : Addr} {fd : FuncData} (T : Tx K mg) 
    (F : FunD K "tick" "Server.tick" (defArgs s_Server_tick) (defBody s_Server_tick) (defScope s_Server_tick) [] [] f fd) : FnOk P w K mg base CX0 2 f fd ["self", "now"] spNever := by
  refine F.ok sc_Server_tick (fun vs H Q E h => h.elim) (fun cdv A outer s0 H vs Q E hr h => h.elim)
theorem ok_Leg__lose {P : Program} {w : World} {K : PySem.W.Frag} {mg : Str → Option Value} {base : Heap} {f : Addr} {fd : FuncData} (T : Tx K mg) 
    (F : FunD K "_lose" "Leg._lose" (defArgs s_Leg__lose) (defBody s_Leg__lose) (defScope s_Leg__lose) [] [] f fd) : FnOk P w K mg base CX0 6 f fd ["self", "now"] spNever := by
  refine F.ok sc_Leg__lose (fun vs H Q E h => h.elim) (fun cdv A outer s0 H vs Q E hr h => h.elim)
theorem ok_Leg__take_known {P : Program} {w : World} {K : PySem.W.Frag} {mg : Str → Option Value} {base : Heap} {f : Addr} {fd : FuncData} (T : Tx K mg) 
    (F : FunD K "_take_known" "Leg._take_known" (defArgs s_Leg__take_known) (defBody s_Leg__take_known) (defScope s_Leg__take_known) [] [] f fd) : FnOk P w K mg base CX0 4 f fd ["self", "server", "letter", "now"] spNever := by
  refine F.ok sc_Leg__take_known (fun vs H Q E h => h.elim) (fun cdv A outer s0 H vs Q E hr h => h.elim)
theorem ok_Leg__take_new {P : Program} {w : World} {K : PySem.W.Frag} {mg : Str → Option Value} {base : Heap} {f : Addr} {fd : FuncData} (T : Tx K mg) 
    (F : FunD K "_take_new" "Leg._take_new" (defArgs s_Leg__take_new) (defBody s_Leg__take_new) (defScope s_Leg__take_new) [] [] f fd) : FnOk P w K mg base CX0 7 f fd ["self", "server", "now"] spNever := by
  refine F.ok sc_Leg__take_new (fun vs H Q E h => h.elim) (fun cdv A outer s0 H vs Q E hr h => h.elim)

end K19
set_option maxHeartbeats 0
namespace K19
open PySem PySem.Spec PyProof.Rows L2 SX TK TKS TKC
/-! ### the head: facts by names, the run -/
def d_wall : He.DefD := ⟨("_wall", none), "_wall", "_wall", defArgs s_wall, defBody s_wall, defScope s_wall, [], []⟩
def d_is_name : He.DefD := ⟨("is_name", none), "is_name", "is_name", defArgs s_is_name, defBody s_is_name, defScope s_is_name, [], []⟩
def d_is_tag : He.DefD := ⟨("is_tag", none), "is_tag", "is_tag", defArgs s_is_tag, defBody s_is_tag, defScope s_is_tag, [], []⟩
def d_is_address : He.DefD := ⟨("is_address", none), "is_address", "is_address", defArgs s_is_address, defBody s_is_address, defScope s_is_address, [], []⟩
def d_read_number : He.DefD := ⟨("read_number", none), "read_number", "read_number", defArgs s_read_number, defBody s_read_number, defScope s_read_number, [], []⟩
def d_split_address : He.DefD := ⟨("split_address", none), "split_address", "split_address", defArgs s_split_address, defBody s_split_address, defScope s_split_address, [], []⟩
def d_consists_of : He.DefD := ⟨("_consists_of", none), "_consists_of", "_consists_of", defArgs s_consists_of, defBody s_consists_of, defScope s_consists_of, [], []⟩
def d_read_offer : He.DefD := ⟨("read_offer", none), "read_offer", "read_offer", defArgs s_read_offer, defBody s_read_offer, defScope s_read_offer, [], []⟩
def d_write_offer : He.DefD := ⟨("write_offer", none), "write_offer", "write_offer", defArgs s_write_offer, defBody s_write_offer, defScope s_write_offer, [], []⟩
def d_answer : He.DefD := ⟨("answer", none), "answer", "answer", defArgs s_answer, defBody s_answer, defScope s_answer, [], []⟩
def d_flows : He.DefD := ⟨("flows", none), "flows", "flows", defArgs s_flows, defBody s_flows, defScope s_flows, [], []⟩
def d_read_formats : He.DefD := ⟨("_read_formats", none), "_read_formats", "_read_formats", defArgs s_read_formats, defBody s_read_formats, defScope s_read_formats, [], []⟩
def d_sends : He.DefD := ⟨("_sends", none), "_sends", "_sends", defArgs s_sends, defBody s_sends, defScope s_sends, [], []⟩
def d_takes : He.DefD := ⟨("_takes", none), "_takes", "_takes", defArgs s_takes, defBody s_takes, defScope s_takes, [], []⟩
def d_mode : He.DefD := ⟨("_mode", none), "_mode", "_mode", defArgs s_mode, defBody s_mode, defScope s_mode, [], []⟩
def d_Letter___init : He.DefD := ⟨("Letter", some "__init__"), "__init__", "Letter.__init__", defArgs s_Letter___init, defBody s_Letter___init, defScope s_Letter___init, [], [("code", .non), ("offer", .non), ("stay", .non), ("goal", .non)]⟩
def d_Letter_parts : He.DefD := ⟨("Letter", some "parts"), "parts", "Letter.parts", defArgs s_Letter_parts, defBody s_Letter_parts, defScope s_Letter_parts, [], []⟩
def d_Letter_reply : He.DefD := ⟨("Letter", some "reply"), "reply", "Letter.reply", defArgs s_Letter_reply, defBody s_Letter_reply, defScope s_Letter_reply, [.non, .non], []⟩
def d_is_final : He.DefD := ⟨("is_final", none), "is_final", "is_final", defArgs s_is_final, defBody s_is_final, defScope s_is_final, [], []⟩
def d_write : He.DefD := ⟨("write", none), "write", "write", defArgs s_write, defBody s_write, defScope s_write, [], []⟩
def d_read : He.DefD := ⟨("read", none), "read", "read", defArgs s_read, defBody s_read, defScope s_read, [], []⟩
def d_write_head : He.DefD := ⟨("_write_head", none), "_write_head", "_write_head", defArgs s_write_head, defBody s_write_head, defScope s_write_head, [], []⟩
def d_read_head : He.DefD := ⟨("_read_head", none), "_read_head", "_read_head", defArgs s_read_head, defBody s_read_head, defScope s_read_head, [], []⟩
def d_read_line : He.DefD := ⟨("_read_line", none), "_read_line", "_read_line", defArgs s_read_line, defBody s_read_line, defScope s_read_line, [], []⟩
def d_read_origin : He.DefD := ⟨("_read_origin", none), "_read_origin", "_read_origin", defArgs s_read_origin, defBody s_read_origin, defScope s_read_origin, [], []⟩
def d_read_target : He.DefD := ⟨("_read_target", none), "_read_target", "_read_target", defArgs s_read_target, defBody s_read_target, defScope s_read_target, [], []⟩
def d_read_single : He.DefD := ⟨("_read_single", none), "_read_single", "_read_single", defArgs s_read_single, defBody s_read_single, defScope s_read_single, [], []⟩
def d_Wait___init : He.DefD := ⟨("Wait", some "__init__"), "__init__", "Wait.__init__", defArgs s_Wait___init, defBody s_Wait___init, defScope s_Wait___init, [], []⟩
def d_Wait_repeats : He.DefD := ⟨("Wait", some "repeats"), "repeats", "Wait.repeats", defArgs s_Wait_repeats, defBody s_Wait_repeats, defScope s_Wait_repeats, [], []⟩
def d_Wait_is_up : He.DefD := ⟨("Wait", some "is_up"), "is_up", "Wait.is_up", defArgs s_Wait_is_up, defBody s_Wait_is_up, defScope s_Wait_is_up, [], []⟩
def d_Client___init : He.DefD := ⟨("Client", some "__init__"), "__init__", "Client.__init__", defArgs s_Client___init, defBody s_Client___init, defScope s_Client___init, [], []⟩
def d_Client_sending : He.DefD := ⟨("Client", some "sending"), "sending", "Client.sending", defArgs s_Client_sending, defBody s_Client_sending, defScope s_Client_sending, [], []⟩
def d_Client_take : He.DefD := ⟨("Client", some "take"), "take", "Client.take", defArgs s_Client_take, defBody s_Client_take, defScope s_Client_take, [], []⟩
def d_Client_stop : He.DefD := ⟨("Client", some "stop"), "stop", "Client.stop", defArgs s_Client_stop, defBody s_Client_stop, defScope s_Client_stop, [], []⟩
def d_Client_tick : He.DefD := ⟨("Client", some "tick"), "tick", "Client.tick", defArgs s_Client_tick, defBody s_Client_tick, defScope s_Client_tick, [], []⟩
def d_Client_is_over : He.DefD := ⟨("Client", some "is_over"), "is_over", "Client.is_over", defArgs s_Client_is_over, defBody s_Client_is_over, defScope s_Client_is_over, [], []⟩
def d_Client__take_provisional : He.DefD := ⟨("Client", some "_take_provisional"), "_take_provisional", "Client._take_provisional", defArgs s_Client__take_provisional, defBody s_Client__take_provisional, defScope s_Client__take_provisional, [], []⟩
def d_Client__keep_for : He.DefD := ⟨("Client", some "_keep_for"), "_keep_for", "Client._keep_for", defArgs s_Client__keep_for, defBody s_Client__keep_for, defScope s_Client__keep_for, [], []⟩
def d_Server___init : He.DefD := ⟨("Server", some "__init__"), "__init__", "Server.__init__", defArgs s_Server___init, defBody s_Server___init, defScope s_Server___init, [], []⟩
def d_Server_matches : He.DefD := ⟨("Server", some "matches"), "matches", "Server.matches", defArgs s_Server_matches, defBody s_Server_matches, defScope s_Server_matches, [], []⟩
def d_Server_again : He.DefD := ⟨("Server", some "again"), "again", "Server.again", defArgs s_Server_again, defBody s_Server_again, defScope s_Server_again, [], []⟩
def d_Server_reply : He.DefD := ⟨("Server", some "reply"), "reply", "Server.reply", defArgs s_Server_reply, defBody s_Server_reply, defScope s_Server_reply, [], []⟩
def d_Server_keep : He.DefD := ⟨("Server", some "keep"), "keep", "Server.keep", defArgs s_Server_keep, defBody s_Server_keep, defScope s_Server_keep, [], []⟩
def d_Server_tick : He.DefD := ⟨("Server", some "tick"), "tick", "Server.tick", defArgs s_Server_tick, defBody s_Server_tick, defScope s_Server_tick, [], []⟩
def d_Server_is_over : He.DefD := ⟨("Server", some "is_over"), "is_over", "Server.is_over", defArgs s_Server_is_over, defBody s_Server_is_over, defScope s_Server_is_over, [], []⟩
def d_Leg___init : He.DefD := ⟨("Leg", some "__init__"), "__init__", "Leg.__init__", defArgs s_Leg___init, defBody s_Leg___init, defScope s_Leg___init, [], [("seq", .int 0)]⟩
def d_Leg_call_out : He.DefD := ⟨("Leg", some "call_out"), "call_out", "Leg.call_out", defArgs s_Leg_call_out, defBody s_Leg_call_out, defScope s_Leg_call_out, [], []⟩
def d_Leg_call_in : He.DefD := ⟨("Leg", some "call_in"), "call_in", "Leg.call_in", defArgs s_Leg_call_in, defBody s_Leg_call_in, defScope s_Leg_call_in, [], []⟩
def d_Leg_ring : He.DefD := ⟨("Leg", some "ring"), "ring", "Leg.ring", defArgs s_Leg_ring, defBody s_Leg_ring, defScope s_Leg_ring, [], []⟩
def d_Leg_accept : He.DefD := ⟨("Leg", some "accept"), "accept", "Leg.accept", defArgs s_Leg_accept, defBody s_Leg_accept, defScope s_Leg_accept, [], []⟩
def d_Leg_refuse : He.DefD := ⟨("Leg", some "refuse"), "refuse", "Leg.refuse", defArgs s_Leg_refuse, defBody s_Leg_refuse, defScope s_Leg_refuse, [], []⟩
def d_Leg_hang_up : He.DefD := ⟨("Leg", some "hang_up"), "hang_up", "Leg.hang_up", defArgs s_Leg_hang_up, defBody s_Leg_hang_up, defScope s_Leg_hang_up, [], []⟩
def d_Leg_turn : He.DefD := ⟨("Leg", some "turn"), "turn", "Leg.turn", defArgs s_Leg_turn, defBody s_Leg_turn, defScope s_Leg_turn, [], []⟩
def d_Leg_move : He.DefD := ⟨("Leg", some "move"), "move", "Leg.move", defArgs s_Leg_move, defBody s_Leg_move, defScope s_Leg_move, [], []⟩
def d_Leg_receive : He.DefD := ⟨("Leg", some "receive"), "receive", "Leg.receive", defArgs s_Leg_receive, defBody s_Leg_receive, defScope s_Leg_receive, [], []⟩
def d_Leg_tick : He.DefD := ⟨("Leg", some "tick"), "tick", "Leg.tick", defArgs s_Leg_tick, defBody s_Leg_tick, defScope s_Leg_tick, [], []⟩
def d_Leg_take_events : He.DefD := ⟨("Leg", some "take_events"), "take_events", "Leg.take_events", defArgs s_Leg_take_events, defBody s_Leg_take_events, defScope s_Leg_take_events, [], []⟩
def d_Leg_is_done : He.DefD := ⟨("Leg", some "is_done"), "is_done", "Leg.is_done", defArgs s_Leg_is_done, defBody s_Leg_is_done, defScope s_Leg_is_done, [], []⟩
def d_Leg__send : He.DefD := ⟨("Leg", some "_send"), "_send", "Leg._send", defArgs s_Leg__send, defBody s_Leg__send, defScope s_Leg__send, [.non, .non], []⟩
def d_Leg__serve : He.DefD := ⟨("Leg", some "_serve"), "_serve", "Leg._serve", defArgs s_Leg__serve, defBody s_Leg__serve, defScope s_Leg__serve, [], []⟩
def d_Leg__reply : He.DefD := ⟨("Leg", some "_reply"), "_reply", "Leg._reply", defArgs s_Leg__reply, defBody s_Leg__reply, defScope s_Leg__reply, [.non], []⟩
def d_Leg__reply_to_call : He.DefD := ⟨("Leg", some "_reply_to_call"), "_reply_to_call", "Leg._reply_to_call", defArgs s_Leg__reply_to_call, defBody s_Leg__reply_to_call, defScope s_Leg__reply_to_call, [.non], []⟩
def d_Leg__talk : He.DefD := ⟨("Leg", some "_talk"), "_talk", "Leg._talk", defArgs s_Leg__talk, defBody s_Leg__talk, defScope s_Leg__talk, [], []⟩
def d_Leg__end : He.DefD := ⟨("Leg", some "_end"), "_end", "Leg._end", defArgs s_Leg__end, defBody s_Leg__end, defScope s_Leg__end, [], []⟩
def d_Leg__stop_call : He.DefD := ⟨("Leg", some "_stop_call"), "_stop_call", "Leg._stop_call", defArgs s_Leg__stop_call, defBody s_Leg__stop_call, defScope s_Leg__stop_call, [], []⟩
def d_Leg__ask : He.DefD := ⟨("Leg", some "_ask"), "_ask", "Leg._ask", defArgs s_Leg__ask, defBody s_Leg__ask, defScope s_Leg__ask, [], []⟩
def d_Leg__is_asking : He.DefD := ⟨("Leg", some "_is_asking"), "_is_asking", "Leg._is_asking", defArgs s_Leg__is_asking, defBody s_Leg__is_asking, defScope s_Leg__is_asking, [], []⟩
def d_Leg__send_waiting : He.DefD := ⟨("Leg", some "_send_waiting"), "_send_waiting", "Leg._send_waiting", defArgs s_Leg__send_waiting, defBody s_Leg__send_waiting, defScope s_Leg__send_waiting, [], []⟩
def d_Leg__has_most_servers : He.DefD := ⟨("Leg", some "_has_most_servers"), "_has_most_servers", "Leg._has_most_servers", defArgs s_Leg__has_most_servers, defBody s_Leg__has_most_servers, defScope s_Leg__has_most_servers, [], []⟩
def d_Leg__take_known : He.DefD := ⟨("Leg", some "_take_known"), "_take_known", "Leg._take_known", defArgs s_Leg__take_known, defBody s_Leg__take_known, defScope s_Leg__take_known, [], []⟩
def d_Leg__take_new : He.DefD := ⟨("Leg", some "_take_new"), "_take_new", "Leg._take_new", defArgs s_Leg__take_new, defBody s_Leg__take_new, defScope s_Leg__take_new, [], []⟩
def d_Leg__take_end : He.DefD := ⟨("Leg", some "_take_end"), "_take_end", "Leg._take_end", defArgs s_Leg__take_end, defBody s_Leg__take_end, defScope s_Leg__take_end, [], []⟩
def d_Leg__take_stop : He.DefD := ⟨("Leg", some "_take_stop"), "_take_stop", "Leg._take_stop", defArgs s_Leg__take_stop, defBody s_Leg__take_stop, defScope s_Leg__take_stop, [], []⟩
def d_Leg__take_turn : He.DefD := ⟨("Leg", some "_take_turn"), "_take_turn", "Leg._take_turn", defArgs s_Leg__take_turn, defBody s_Leg__take_turn, defScope s_Leg__take_turn, [], []⟩
def d_Leg__take_move : He.DefD := ⟨("Leg", some "_take_move"), "_take_move", "Leg._take_move", defArgs s_Leg__take_move, defBody s_Leg__take_move, defScope s_Leg__take_move, [], []⟩
def d_Leg__take_reply : He.DefD := ⟨("Leg", some "_take_reply"), "_take_reply", "Leg._take_reply", defArgs s_Leg__take_reply, defBody s_Leg__take_reply, defScope s_Leg__take_reply, [], []⟩
def d_Leg__follow : He.DefD := ⟨("Leg", some "_follow"), "_follow", "Leg._follow", defArgs s_Leg__follow, defBody s_Leg__follow, defScope s_Leg__follow, [], []⟩
def d_Leg__follow_call : He.DefD := ⟨("Leg", some "_follow_call"), "_follow_call", "Leg._follow_call", defArgs s_Leg__follow_call, defBody s_Leg__follow_call, defScope s_Leg__follow_call, [], []⟩
def d_Leg__give_up_request : He.DefD := ⟨("Leg", some "_give_up_request"), "_give_up_request", "Leg._give_up_request", defArgs s_Leg__give_up_request, defBody s_Leg__give_up_request, defScope s_Leg__give_up_request, [], []⟩
def d_Leg__lose : He.DefD := ⟨("Leg", some "_lose"), "_lose", "Leg._lose", defArgs s_Leg__lose, defBody s_Leg__lose, defScope s_Leg__lose, [], []⟩
def d_Leg__send_live : He.DefD := ⟨("Leg", some "_send_live"), "_send_live", "Leg._send_live", defArgs s_Leg__send_live, defBody s_Leg__send_live, defScope s_Leg__send_live, [], []⟩
def d_Leg__forget_those_over : He.DefD := ⟨("Leg", some "_forget_those_over"), "_forget_those_over", "Leg._forget_those_over", defArgs s_Leg__forget_those_over, defBody s_Leg__forget_those_over, defScope s_Leg__forget_those_over, [], []⟩
def d_law_state : He.DefD := ⟨("_law_state", none), "_law_state", "_law_state", defArgs s_law_state, defBody s_law_state, defScope s_law_state, [], []⟩
def d_law_draw : He.DefD := ⟨("_law_draw", none), "_law_draw", "_law_draw", defArgs s_law_draw, defBody s_law_draw, defScope s_law_draw, [], []⟩
def d_law_pick : He.DefD := ⟨("_law_pick", none), "_law_pick", "_law_pick", defArgs s_law_pick, defBody s_law_pick, defScope s_law_pick, [], []⟩
def d_law_talking : He.DefD := ⟨("_law_talking", none), "_law_talking", "_law_talking", defArgs s_law_talking, defBody s_law_talking, defScope s_law_talking, [], []⟩
def d_law_take : He.DefD := ⟨("_law_take", none), "_law_take", "_law_take", defArgs s_law_take, defBody s_law_take, defScope s_law_take, [], []⟩
def d_law_next : He.DefD := ⟨("_law_next", none), "_law_next", "_law_next", defArgs s_law_next, defBody s_law_next, defScope s_law_next, [], []⟩
def d_law_asks : He.DefD := ⟨("_law_asks", none), "_law_asks", "_law_asks", defArgs s_law_asks, defBody s_law_asks, defScope s_law_asks, [], []⟩
def d_law_replies : He.DefD := ⟨("_law_replies", none), "_law_replies", "_law_replies", defArgs s_law_replies, defBody s_law_replies, defScope s_law_replies, [], []⟩
def d_law_sent_right : He.DefD := ⟨("_law_sent_right", none), "_law_sent_right", "_law_sent_right", defArgs s_law_sent_right, defBody s_law_sent_right, defScope s_law_sent_right, [], []⟩
def d_law : He.DefD := ⟨("law", none), "law", "law", defArgs s_law, defBody s_law, defScope s_law, [], []⟩
def fnL : List He.DefD := [d_wall, d_is_name, d_is_tag, d_is_address, d_read_number, d_split_address, d_consists_of, d_read_offer, d_write_offer, d_answer, d_flows, d_read_formats, d_sends, d_takes, d_mode, d_Letter___init, d_Letter_parts, d_Letter_reply, d_is_final, d_write, d_read, d_write_head, d_read_head, d_read_line, d_read_origin, d_read_target, d_read_single, d_Wait___init, d_Wait_repeats, d_Wait_is_up, d_Client___init, d_Client_sending, d_Client_take, d_Client_stop, d_Client_tick, d_Client_is_over, d_Client__take_provisional, d_Client__keep_for, d_Server___init, d_Server_matches, d_Server_again, d_Server_reply, d_Server_keep, d_Server_tick, d_Server_is_over, d_Leg___init, d_Leg_call_out, d_Leg_call_in, d_Leg_ring, d_Leg_accept, d_Leg_refuse, d_Leg_hang_up, d_Leg_turn, d_Leg_move, d_Leg_receive, d_Leg_tick, d_Leg_take_events, d_Leg_is_done, d_Leg__send, d_Leg__serve, d_Leg__reply, d_Leg__reply_to_call, d_Leg__talk, d_Leg__end, d_Leg__stop_call, d_Leg__ask, d_Leg__is_asking, d_Leg__send_waiting, d_Leg__has_most_servers, d_Leg__take_known, d_Leg__take_new, d_Leg__take_end, d_Leg__take_stop, d_Leg__take_turn, d_Leg__take_move, d_Leg__take_reply, d_Leg__follow, d_Leg__follow_call, d_Leg__give_up_request, d_Leg__lose, d_Leg__send_live, d_Leg__forget_those_over, d_law_state, d_law_draw, d_law_pick, d_law_talking, d_law_take, d_law_next, d_law_asks, d_law_replies, d_law_sent_right, d_law]
def faL : List He.Fa := [.glo "ASKING", .glo "BEFORE_TALKING", .glo "CODES", .str "DIGITS" "0123456789", .int "GREATEST_CODE" 99, .int "GREATEST_GAP" 8, .int "GREATEST_PORT" 65535, .int "GREATEST_SEQ" 999999, .int "LEAST_FINAL_CODE" 20, .int "LIMIT" 32, .int "LONGEST_NUMBER" 9, .int "LONGEST_STAY" 9999, .int "LONGEST_WORD" 16, .glo "MODES", .int "MOST_FORMATS" 6, .int "MOST_SERVERS" 16, .int "MOST_WAITING" 8, .str "NAME_MARKS" "abcdefghijklmnopqrstuvwxyz0123456789", .glo "NEEDED", .int "NOT_NOW" 50, .int "NO_ANSWER" 48, .int "NO_CALL" 41, .int "NO_FORMAT" 46, .glo "POSSIBLE", .int "RINGS" 18, .str "SMALL_LETTERS" "abcdefghijklmnopqrstuvwxyz", .int "STOPPED" 45, .str "TAG_MARKS" "ABCDEFGHIJKLMNOPQRSTUVWXYZabcdefghijklmnopqrstuvwxyz0123456789", .glo "VERBS", .int "YES" 20, .free "abs", .free "all", .free "any", .free "int", .free "len", .free "list", .free "min", .free "range", .free "set", .free "str", .free "tuple", .cls "Letter", .noat "Letter" "verb", .noat "Letter" "code", .noat "Letter" "call", .noat "Letter" "origin", .noat "Letter" "origin_tag", .noat "Letter" "target", .noat "Letter" "target_tag", .noat "Letter" "seq", .noat "Letter" "way", .noat "Letter" "offer", .noat "Letter" "stay", .noat "Letter" "goal", .glo "Letter", .mkr "Letter", .cls "Wait", .noat "Wait" "_began", .noat "Wait" "_first", .noat "Wait" "_gap", .noat "Wait" "_due", .glo "Wait", .mkr "Wait", .cls "Client", .noat "Client" "letter", .noat "Client" "place", .noat "Client" "state", .noat "Client" "_first", .noat "Client" "_wait", .noat "Client" "_keep", .glo "Client", .mkr "Client", .cls "Server", .noat "Server" "letter", .noat "Server" "place", .noat "Server" "state", .noat "Server" "code", .noat "Server" "_first", .noat "Server" "_wait", .noat "Server" "_latest", .glo "Server", .mkr "Server", .cls "Leg", .noat "Leg" "tag", .noat "Leg" "call", .noat "Leg" "own", .noat "Leg" "other", .noat "Leg" "place", .noat "Leg" "able", .noat "Leg" "first", .noat "Leg" "check", .noat "Leg" "other_tag", .noat "Leg" "state", .noat "Leg" "_seq", .noat "Leg" "_requests", .noat "Leg" "took_call", .noat "Leg" "_greatest_taken", .noat "Leg" "_clients", .noat "Leg" "_servers", .noat "Leg" "_waiting", .noat "Leg" "_live_due", .noat "Leg" "_events", .glo "Leg", .mkr "Leg", .glo "_wall", .glo "is_name", .glo "is_tag", .glo "is_address", .glo "read_number", .glo "split_address", .glo "_consists_of", .glo "read_offer", .glo "write_offer", .glo "answer", .glo "flows", .glo "_read_formats", .glo "_sends", .glo "_takes", .glo "_mode", .meth "Letter" "parts", .meth "Letter" "reply", .glo "is_final", .glo "write", .glo "read", .glo "_write_head", .glo "_read_head", .glo "_read_line", .glo "_read_origin", .glo "_read_target", .glo "_read_single", .meth "Wait" "repeats", .meth "Wait" "is_up", .meth "Client" "sending", .meth "Client" "take", .meth "Client" "stop", .meth "Client" "tick", .meth "Client" "is_over", .meth "Client" "_take_provisional", .meth "Client" "_keep_for", .meth "Server" "matches", .meth "Server" "again", .meth "Server" "reply", .meth "Server" "keep", .meth "Server" "tick", .meth "Server" "is_over", .meth "Leg" "call_out", .meth "Leg" "call_in", .meth "Leg" "ring", .meth "Leg" "accept", .meth "Leg" "refuse", .meth "Leg" "hang_up", .meth "Leg" "turn", .meth "Leg" "move", .meth "Leg" "receive", .meth "Leg" "tick", .meth "Leg" "take_events", .meth "Leg" "is_done", .meth "Leg" "_send", .meth "Leg" "_serve", .meth "Leg" "_reply", .meth "Leg" "_reply_to_call", .meth "Leg" "_talk", .meth "Leg" "_end", .meth "Leg" "_stop_call", .meth "Leg" "_ask", .meth "Leg" "_is_asking", .meth "Leg" "_send_waiting", .meth "Leg" "_has_most_servers", .meth "Leg" "_take_known", .meth "Leg" "_take_new", .meth "Leg" "_take_end", .meth "Leg" "_take_stop", .meth "Leg" "_take_turn", .meth "Leg" "_take_move", .meth "Leg" "_take_reply", .meth "Leg" "_follow", .meth "Leg" "_follow_call", .meth "Leg" "_give_up_request", .meth "Leg" "_lose", .meth "Leg" "_send_live", .meth "Leg" "_forget_those_over", .glo "_law_state", .glo "_law_draw", .glo "_law_pick", .glo "_law_talking", .glo "_law_take", .glo "_law_next", .glo "_law_asks", .glo "_law_replies", .glo "_law_sent_right", .glo "law"]
def loose0 : List Str := ["SMALL_LETTERS", "DIGITS", "NAME_MARKS", "TAG_MARKS", "LONGEST_WORD", "LONGEST_NUMBER", "MODES", "GREATEST_PORT", "MOST_FORMATS", "VERBS", "CODES", "LEAST_FINAL_CODE", "GREATEST_CODE", "GREATEST_SEQ", "LONGEST_STAY", "NEEDED", "POSSIBLE", "GREATEST_GAP", "LIMIT", "ASKING", "BEFORE_TALKING", "MOST_WAITING", "MOST_SERVERS", "RINGS", "YES", "NO_CALL", "STOPPED", "NO_FORMAT", "NO_ANSWER", "NOT_NOW"]
def loose1 : List Str := ["_wall", "is_name", "is_tag", "is_address", "read_number", "split_address", "_consists_of", "read_offer", "write_offer", "answer", "flows", "_read_formats", "_sends", "_takes", "_mode", "is_final", "write", "read", "_write_head", "_read_head", "_read_line", "_read_origin", "_read_target", "_read_single", "_law_state", "_law_draw", "_law_pick", "_law_talking", "_law_take", "_law_next"]
def loose2 : List Str := ["_law_asks", "_law_replies", "_law_sent_right", "TrunklandError", "LetterError", "Letter", "Wait", "Client", "Server", "Leg"]
abbrev Row0 : PySem.W.OpenRow := PySem.W.OpenLaw.row PySem.Challenge.rw_trunkland_k19_requests_in_turn
def exL (K : PySem.W.Frag) : List Bool := [He.tupB K "ASKING" [.str "TURN", .str "MOVE", .str "LIVE"], He.tupB K "BEFORE_TALKING" [.str "calling", .str "ringing"], He.tupB K "CODES" [.int 18, .int 20, .int 41, .int 43, .int 44, .int 45, .int 46, .int 48, .int 50], He.tupB K "MODES" [.str "both", .str "send", .str "take", .str "none"], He.tupB K "NEEDED" [.str "call", .str "from", .str "to", .str "seq", .str "way"], He.tupB K "POSSIBLE" [.str "offer", .str "stay", .str "goal"], He.tupB K "VERBS" [.str "CALL", .str "KEEP", .str "STOP", .str "END", .str "TURN", .str "MOVE", .str "LIVE", .str "SIGN"]]
abbrev hk : PySem.W.Hook := TKH.hookN 5 faL fnL exL
def ob (s : PySem.W.SharedT) : He.AlD := TKH.obsN 5 faL fnL exL (HandSHeadRun.getT s)
theorem ob_eq (s : PySem.W.SharedT) : ob s = hk.obs s.abs := TKH.obsN_eq (HandSHeadRun.getT_eq s)
theorem run (w : World) : HandSHeadRun.RunEq Row0 (PySem.W.view Row0.prog [79]) hk ob 6000 (loose0 ++ loose1 ++ loose2) w := by
  intro os
  kernel_rfl
theorem facts {P : Program} {w : World} {K : PySem.W.Frag} {h : Heap} {mg : Str → Option Value} {f : Addr} (X : K.In h) (G : h.Ns mainGlobals mg) (hfa : mg ("law" : Str) = some (.ref f)) (c : He.SaysD faL fnL K) (cx : (exL K).all id = true) :
    ∃ fd : FuncData, (∀ (s : Shared) (v : Value), BindsTo s fd ⟨[v], []⟩ [("script", v)]) ∧ ∀ base : Heap, K.In base → base.Ns mainGlobals mg → FnOk P w K mg base CX0 11 f fd ["script"] (spLaw K) := by
  have x_0 := He.tupB_ok (TK.exAt cx 0 rfl)
  have x_1 := He.tupB_ok (TK.exAt cx 1 rfl)
  have x_2 := He.tupB_ok (TK.exAt cx 2 rfl)
  have x_3 := He.tupB_ok (TK.exAt cx 3 rfl)
  have x_4 := He.tupB_ok (TK.exAt cx 4 rfl)
  have x_5 := He.tupB_ok (TK.exAt cx 5 rfl)
  have x_6 := He.tupB_ok (TK.exAt cx 6 rfl)
  have T : Tx K mg := ⟨He.glo_ok X G (c.fact 0 (f := .glo "ASKING") rfl), x_0, He.glo_ok X G (c.fact 1 (f := .glo "BEFORE_TALKING") rfl), x_1, He.glo_ok X G (c.fact 2 (f := .glo "CODES") rfl), x_2, He.str_ok X G (c.fact 3 (f := .str "DIGITS" "0123456789") rfl), He.int_ok X G (c.fact 4 (f := .int "GREATEST_CODE" 99) rfl), He.int_ok X G (c.fact 5 (f := .int "GREATEST_GAP" 8) rfl), He.int_ok X G (c.fact 6 (f := .int "GREATEST_PORT" 65535) rfl), He.int_ok X G (c.fact 7 (f := .int "GREATEST_SEQ" 999999) rfl), He.int_ok X G (c.fact 8 (f := .int "LEAST_FINAL_CODE" 20) rfl), He.int_ok X G (c.fact 9 (f := .int "LIMIT" 32) rfl), He.int_ok X G (c.fact 10 (f := .int "LONGEST_NUMBER" 9) rfl), He.int_ok X G (c.fact 11 (f := .int "LONGEST_STAY" 9999) rfl), He.int_ok X G (c.fact 12 (f := .int "LONGEST_WORD" 16) rfl), He.glo_ok X G (c.fact 13 (f := .glo "MODES") rfl), x_3, He.int_ok X G (c.fact 14 (f := .int "MOST_FORMATS" 6) rfl), He.int_ok X G (c.fact 15 (f := .int "MOST_SERVERS" 16) rfl), He.int_ok X G (c.fact 16 (f := .int "MOST_WAITING" 8) rfl), He.str_ok X G (c.fact 17 (f := .str "NAME_MARKS" "abcdefghijklmnopqrstuvwxyz0123456789") rfl), He.glo_ok X G (c.fact 18 (f := .glo "NEEDED") rfl), x_4, He.int_ok X G (c.fact 19 (f := .int "NOT_NOW" 50) rfl), He.int_ok X G (c.fact 20 (f := .int "NO_ANSWER" 48) rfl), He.int_ok X G (c.fact 21 (f := .int "NO_CALL" 41) rfl), He.int_ok X G (c.fact 22 (f := .int "NO_FORMAT" 46) rfl), He.glo_ok X G (c.fact 23 (f := .glo "POSSIBLE") rfl), x_5, He.int_ok X G (c.fact 24 (f := .int "RINGS" 18) rfl), He.str_ok X G (c.fact 25 (f := .str "SMALL_LETTERS" "abcdefghijklmnopqrstuvwxyz") rfl), He.int_ok X G (c.fact 26 (f := .int "STOPPED" 45) rfl), He.str_ok X G (c.fact 27 (f := .str "TAG_MARKS" "ABCDEFGHIJKLMNOPQRSTUVWXYZabcdefghijklmnopqrstuvwxyz0123456789") rfl), He.glo_ok X G (c.fact 28 (f := .glo "VERBS") rfl), x_6, He.int_ok X G (c.fact 29 (f := .int "YES" 20) rfl), He.free_ok X G (c.fact 30 (f := .free "abs") rfl), He.free_ok X G (c.fact 31 (f := .free "all") rfl), He.free_ok X G (c.fact 32 (f := .free "any") rfl), He.free_ok X G (c.fact 33 (f := .free "int") rfl), He.free_ok X G (c.fact 34 (f := .free "len") rfl), He.free_ok X G (c.fact 35 (f := .free "list") rfl), He.free_ok X G (c.fact 36 (f := .free "min") rfl), He.free_ok X G (c.fact 37 (f := .free "range") rfl), He.free_ok X G (c.fact 38 (f := .free "set") rfl), He.free_ok X G (c.fact 39 (f := .free "str") rfl), He.free_ok X G (c.fact 40 (f := .free "tuple") rfl), He.cls_ok (c.fact 41 (f := .cls "Letter") rfl), He.noat_ok (c.fact 42 (f := .noat "Letter" "verb") rfl), He.noat_ok (c.fact 43 (f := .noat "Letter" "code") rfl), He.noat_ok (c.fact 44 (f := .noat "Letter" "call") rfl), He.noat_ok (c.fact 45 (f := .noat "Letter" "origin") rfl), He.noat_ok (c.fact 46 (f := .noat "Letter" "origin_tag") rfl), He.noat_ok (c.fact 47 (f := .noat "Letter" "target") rfl), He.noat_ok (c.fact 48 (f := .noat "Letter" "target_tag") rfl), He.noat_ok (c.fact 49 (f := .noat "Letter" "seq") rfl), He.noat_ok (c.fact 50 (f := .noat "Letter" "way") rfl), He.noat_ok (c.fact 51 (f := .noat "Letter" "offer") rfl), He.noat_ok (c.fact 52 (f := .noat "Letter" "stay") rfl), He.noat_ok (c.fact 53 (f := .noat "Letter" "goal") rfl), He.cls_ok (c.fact 56 (f := .cls "Wait") rfl), He.noat_ok (c.fact 57 (f := .noat "Wait" "_began") rfl), He.noat_ok (c.fact 58 (f := .noat "Wait" "_first") rfl), He.noat_ok (c.fact 59 (f := .noat "Wait" "_gap") rfl), He.noat_ok (c.fact 60 (f := .noat "Wait" "_due") rfl), He.cls_ok (c.fact 63 (f := .cls "Client") rfl), He.noat_ok (c.fact 64 (f := .noat "Client" "letter") rfl), He.noat_ok (c.fact 65 (f := .noat "Client" "place") rfl), He.noat_ok (c.fact 66 (f := .noat "Client" "state") rfl), He.noat_ok (c.fact 67 (f := .noat "Client" "_first") rfl), He.noat_ok (c.fact 68 (f := .noat "Client" "_wait") rfl), He.noat_ok (c.fact 69 (f := .noat "Client" "_keep") rfl), He.cls_ok (c.fact 72 (f := .cls "Server") rfl), He.noat_ok (c.fact 73 (f := .noat "Server" "letter") rfl), He.noat_ok (c.fact 74 (f := .noat "Server" "place") rfl), He.noat_ok (c.fact 75 (f := .noat "Server" "state") rfl), He.noat_ok (c.fact 76 (f := .noat "Server" "code") rfl), He.noat_ok (c.fact 77 (f := .noat "Server" "_first") rfl), He.noat_ok (c.fact 78 (f := .noat "Server" "_wait") rfl), He.noat_ok (c.fact 79 (f := .noat "Server" "_latest") rfl), He.cls_ok (c.fact 82 (f := .cls "Leg") rfl), He.noat_ok (c.fact 83 (f := .noat "Leg" "tag") rfl), He.noat_ok (c.fact 84 (f := .noat "Leg" "call") rfl), He.noat_ok (c.fact 85 (f := .noat "Leg" "own") rfl), He.noat_ok (c.fact 86 (f := .noat "Leg" "other") rfl), He.noat_ok (c.fact 87 (f := .noat "Leg" "place") rfl), He.noat_ok (c.fact 88 (f := .noat "Leg" "able") rfl), He.noat_ok (c.fact 89 (f := .noat "Leg" "first") rfl), He.noat_ok (c.fact 90 (f := .noat "Leg" "check") rfl), He.noat_ok (c.fact 91 (f := .noat "Leg" "other_tag") rfl), He.noat_ok (c.fact 92 (f := .noat "Leg" "state") rfl), He.noat_ok (c.fact 93 (f := .noat "Leg" "_seq") rfl), He.noat_ok (c.fact 94 (f := .noat "Leg" "_requests") rfl), He.noat_ok (c.fact 95 (f := .noat "Leg" "took_call") rfl), He.noat_ok (c.fact 96 (f := .noat "Leg" "_greatest_taken") rfl), He.noat_ok (c.fact 97 (f := .noat "Leg" "_clients") rfl), He.noat_ok (c.fact 98 (f := .noat "Leg" "_servers") rfl), He.noat_ok (c.fact 99 (f := .noat "Leg" "_waiting") rfl), He.noat_ok (c.fact 100 (f := .noat "Leg" "_live_due") rfl), He.noat_ok (c.fact 101 (f := .noat "Leg" "_events") rfl)⟩
  obtain ⟨fd_wall, F_wall⟩ := c.def_ 0 (d := d_wall) rfl
  obtain ⟨fd_is_name, F_is_name⟩ := c.def_ 1 (d := d_is_name) rfl
  obtain ⟨fd_is_tag, F_is_tag⟩ := c.def_ 2 (d := d_is_tag) rfl
  obtain ⟨fd_is_address, F_is_address⟩ := c.def_ 3 (d := d_is_address) rfl
  obtain ⟨fd_read_number, F_read_number⟩ := c.def_ 4 (d := d_read_number) rfl
  obtain ⟨fd_split_address, F_split_address⟩ := c.def_ 5 (d := d_split_address) rfl
  obtain ⟨fd_consists_of, F_consists_of⟩ := c.def_ 6 (d := d_consists_of) rfl
  obtain ⟨fd_read_offer, F_read_offer⟩ := c.def_ 7 (d := d_read_offer) rfl
  obtain ⟨fd_write_offer, F_write_offer⟩ := c.def_ 8 (d := d_write_offer) rfl
  obtain ⟨fd_answer, F_answer⟩ := c.def_ 9 (d := d_answer) rfl
  obtain ⟨fd_flows, F_flows⟩ := c.def_ 10 (d := d_flows) rfl
  obtain ⟨fd_read_formats, F_read_formats⟩ := c.def_ 11 (d := d_read_formats) rfl
  obtain ⟨fd_sends, F_sends⟩ := c.def_ 12 (d := d_sends) rfl
  obtain ⟨fd_takes, F_takes⟩ := c.def_ 13 (d := d_takes) rfl
  obtain ⟨fd_mode, F_mode⟩ := c.def_ 14 (d := d_mode) rfl
  obtain ⟨fd_Letter___init, F_Letter___init⟩ := c.def_ 15 (d := d_Letter___init) rfl
  obtain ⟨fd_Letter_parts, F_Letter_parts⟩ := c.def_ 16 (d := d_Letter_parts) rfl
  obtain ⟨fd_Letter_reply, F_Letter_reply⟩ := c.def_ 17 (d := d_Letter_reply) rfl
  obtain ⟨fd_is_final, F_is_final⟩ := c.def_ 18 (d := d_is_final) rfl
  obtain ⟨fd_write, F_write⟩ := c.def_ 19 (d := d_write) rfl
  obtain ⟨fd_read, F_read⟩ := c.def_ 20 (d := d_read) rfl
  obtain ⟨fd_write_head, F_write_head⟩ := c.def_ 21 (d := d_write_head) rfl
  obtain ⟨fd_read_head, F_read_head⟩ := c.def_ 22 (d := d_read_head) rfl
  obtain ⟨fd_read_line, F_read_line⟩ := c.def_ 23 (d := d_read_line) rfl
  obtain ⟨fd_read_origin, F_read_origin⟩ := c.def_ 24 (d := d_read_origin) rfl
  obtain ⟨fd_read_target, F_read_target⟩ := c.def_ 25 (d := d_read_target) rfl
  obtain ⟨fd_read_single, F_read_single⟩ := c.def_ 26 (d := d_read_single) rfl
  obtain ⟨fd_Wait___init, F_Wait___init⟩ := c.def_ 27 (d := d_Wait___init) rfl
  obtain ⟨fd_Wait_repeats, F_Wait_repeats⟩ := c.def_ 28 (d := d_Wait_repeats) rfl
  obtain ⟨fd_Wait_is_up, F_Wait_is_up⟩ := c.def_ 29 (d := d_Wait_is_up) rfl
  obtain ⟨fd_Client___init, F_Client___init⟩ := c.def_ 30 (d := d_Client___init) rfl
  obtain ⟨fd_Client_sending, F_Client_sending⟩ := c.def_ 31 (d := d_Client_sending) rfl
  obtain ⟨fd_Client_take, F_Client_take⟩ := c.def_ 32 (d := d_Client_take) rfl
  obtain ⟨fd_Client_stop, F_Client_stop⟩ := c.def_ 33 (d := d_Client_stop) rfl
  obtain ⟨fd_Client_tick, F_Client_tick⟩ := c.def_ 34 (d := d_Client_tick) rfl
  obtain ⟨fd_Client_is_over, F_Client_is_over⟩ := c.def_ 35 (d := d_Client_is_over) rfl
  obtain ⟨fd_Client__take_provisional, F_Client__take_provisional⟩ := c.def_ 36 (d := d_Client__take_provisional) rfl
  obtain ⟨fd_Client__keep_for, F_Client__keep_for⟩ := c.def_ 37 (d := d_Client__keep_for) rfl
  obtain ⟨fd_Server___init, F_Server___init⟩ := c.def_ 38 (d := d_Server___init) rfl
  obtain ⟨fd_Server_matches, F_Server_matches⟩ := c.def_ 39 (d := d_Server_matches) rfl
  obtain ⟨fd_Server_again, F_Server_again⟩ := c.def_ 40 (d := d_Server_again) rfl
  obtain ⟨fd_Server_reply, F_Server_reply⟩ := c.def_ 41 (d := d_Server_reply) rfl
  obtain ⟨fd_Server_keep, F_Server_keep⟩ := c.def_ 42 (d := d_Server_keep) rfl
  obtain ⟨fd_Server_tick, F_Server_tick⟩ := c.def_ 43 (d := d_Server_tick) rfl
  obtain ⟨fd_Server_is_over, F_Server_is_over⟩ := c.def_ 44 (d := d_Server_is_over) rfl
  obtain ⟨fd_Leg___init, F_Leg___init⟩ := c.def_ 45 (d := d_Leg___init) rfl
  obtain ⟨fd_Leg_call_out, F_Leg_call_out⟩ := c.def_ 46 (d := d_Leg_call_out) rfl
  obtain ⟨fd_Leg_call_in, F_Leg_call_in⟩ := c.def_ 47 (d := d_Leg_call_in) rfl
  obtain ⟨fd_Leg_ring, F_Leg_ring⟩ := c.def_ 48 (d := d_Leg_ring) rfl
  obtain ⟨fd_Leg_accept, F_Leg_accept⟩ := c.def_ 49 (d := d_Leg_accept) rfl
  obtain ⟨fd_Leg_refuse, F_Leg_refuse⟩ := c.def_ 50 (d := d_Leg_refuse) rfl
  obtain ⟨fd_Leg_hang_up, F_Leg_hang_up⟩ := c.def_ 51 (d := d_Leg_hang_up) rfl
  obtain ⟨fd_Leg_turn, F_Leg_turn⟩ := c.def_ 52 (d := d_Leg_turn) rfl
  obtain ⟨fd_Leg_move, F_Leg_move⟩ := c.def_ 53 (d := d_Leg_move) rfl
  obtain ⟨fd_Leg_receive, F_Leg_receive⟩ := c.def_ 54 (d := d_Leg_receive) rfl
  obtain ⟨fd_Leg_tick, F_Leg_tick⟩ := c.def_ 55 (d := d_Leg_tick) rfl
  obtain ⟨fd_Leg_take_events, F_Leg_take_events⟩ := c.def_ 56 (d := d_Leg_take_events) rfl
  obtain ⟨fd_Leg_is_done, F_Leg_is_done⟩ := c.def_ 57 (d := d_Leg_is_done) rfl
  obtain ⟨fd_Leg__send, F_Leg__send⟩ := c.def_ 58 (d := d_Leg__send) rfl
  obtain ⟨fd_Leg__serve, F_Leg__serve⟩ := c.def_ 59 (d := d_Leg__serve) rfl
  obtain ⟨fd_Leg__reply, F_Leg__reply⟩ := c.def_ 60 (d := d_Leg__reply) rfl
  obtain ⟨fd_Leg__reply_to_call, F_Leg__reply_to_call⟩ := c.def_ 61 (d := d_Leg__reply_to_call) rfl
  obtain ⟨fd_Leg__talk, F_Leg__talk⟩ := c.def_ 62 (d := d_Leg__talk) rfl
  obtain ⟨fd_Leg__end, F_Leg__end⟩ := c.def_ 63 (d := d_Leg__end) rfl
  obtain ⟨fd_Leg__stop_call, F_Leg__stop_call⟩ := c.def_ 64 (d := d_Leg__stop_call) rfl
  obtain ⟨fd_Leg__ask, F_Leg__ask⟩ := c.def_ 65 (d := d_Leg__ask) rfl
  obtain ⟨fd_Leg__is_asking, F_Leg__is_asking⟩ := c.def_ 66 (d := d_Leg__is_asking) rfl
  obtain ⟨fd_Leg__send_waiting, F_Leg__send_waiting⟩ := c.def_ 67 (d := d_Leg__send_waiting) rfl
  obtain ⟨fd_Leg__has_most_servers, F_Leg__has_most_servers⟩ := c.def_ 68 (d := d_Leg__has_most_servers) rfl
  obtain ⟨fd_Leg__take_known, F_Leg__take_known⟩ := c.def_ 69 (d := d_Leg__take_known) rfl
  obtain ⟨fd_Leg__take_new, F_Leg__take_new⟩ := c.def_ 70 (d := d_Leg__take_new) rfl
  obtain ⟨fd_Leg__take_end, F_Leg__take_end⟩ := c.def_ 71 (d := d_Leg__take_end) rfl
  obtain ⟨fd_Leg__take_stop, F_Leg__take_stop⟩ := c.def_ 72 (d := d_Leg__take_stop) rfl
  obtain ⟨fd_Leg__take_turn, F_Leg__take_turn⟩ := c.def_ 73 (d := d_Leg__take_turn) rfl
  obtain ⟨fd_Leg__take_move, F_Leg__take_move⟩ := c.def_ 74 (d := d_Leg__take_move) rfl
  obtain ⟨fd_Leg__take_reply, F_Leg__take_reply⟩ := c.def_ 75 (d := d_Leg__take_reply) rfl
  obtain ⟨fd_Leg__follow, F_Leg__follow⟩ := c.def_ 76 (d := d_Leg__follow) rfl
  obtain ⟨fd_Leg__follow_call, F_Leg__follow_call⟩ := c.def_ 77 (d := d_Leg__follow_call) rfl
  obtain ⟨fd_Leg__give_up_request, F_Leg__give_up_request⟩ := c.def_ 78 (d := d_Leg__give_up_request) rfl
  obtain ⟨fd_Leg__lose, F_Leg__lose⟩ := c.def_ 79 (d := d_Leg__lose) rfl
  obtain ⟨fd_Leg__send_live, F_Leg__send_live⟩ := c.def_ 80 (d := d_Leg__send_live) rfl
  obtain ⟨fd_Leg__forget_those_over, F_Leg__forget_those_over⟩ := c.def_ 81 (d := d_Leg__forget_those_over) rfl
  obtain ⟨fd_law_state, F_law_state⟩ := c.def_ 82 (d := d_law_state) rfl
  obtain ⟨fd_law_draw, F_law_draw⟩ := c.def_ 83 (d := d_law_draw) rfl
  obtain ⟨fd_law_pick, F_law_pick⟩ := c.def_ 84 (d := d_law_pick) rfl
  obtain ⟨fd_law_talking, F_law_talking⟩ := c.def_ 85 (d := d_law_talking) rfl
  obtain ⟨fd_law_take, F_law_take⟩ := c.def_ 86 (d := d_law_take) rfl
  obtain ⟨fd_law_next, F_law_next⟩ := c.def_ 87 (d := d_law_next) rfl
  obtain ⟨fd_law_asks, F_law_asks⟩ := c.def_ 88 (d := d_law_asks) rfl
  obtain ⟨fd_law_replies, F_law_replies⟩ := c.def_ 89 (d := d_law_replies) rfl
  obtain ⟨fd_law_sent_right, F_law_sent_right⟩ := c.def_ 90 (d := d_law_sent_right) rfl
  obtain ⟨fd_law, F_law⟩ := c.def_ 91 (d := d_law) rfl
  have e := hfa.symm.trans (He.glo_ok X G (c.fact 190 (f := .glo "law") rfl))
  cases e
  have b := FunD.bindsA (ps := ["script"]) F_law fun _ _ _ _ _ _ us hl => match us, hl with | [_], _ => rfl
  refine ⟨fd_law, fun s v => b s [v] rfl, fun base _ _ => ?_⟩
  have c_consists_of := cal_of (P := P) (w := w) (base := base) F_consists_of (ok_consists_of T  F_consists_of) (He.glo_ok X G (c.fact 110 (f := .glo "_consists_of") rfl)) fun _ _ _ _ _ _ us hl => match us, hl with | [_, _, _], _ => rfl
  have c_is_name := cal_of (P := P) (w := w) (base := base) F_is_name (ok_is_name T c_consists_of F_is_name) (He.glo_ok X G (c.fact 105 (f := .glo "is_name") rfl)) fun _ _ _ _ _ _ us hl => match us, hl with | [_], _ => rfl
  have c_is_tag := cal_of (P := P) (w := w) (base := base) F_is_tag (ok_is_tag T c_consists_of F_is_tag) (He.glo_ok X G (c.fact 106 (f := .glo "is_tag") rfl)) fun _ _ _ _ _ _ us hl => match us, hl with | [_], _ => rfl
  have c_read_number := cal_of (P := P) (w := w) (base := base) F_read_number (ok_read_number T c_consists_of F_read_number) (He.glo_ok X G (c.fact 108 (f := .glo "read_number") rfl)) fun _ _ _ _ _ _ us hl => match us, hl with | [_, _], _ => rfl
  have c_split_address := cal_of (P := P) (w := w) (base := base) F_split_address (ok_split_address T c_is_name F_split_address) (He.glo_ok X G (c.fact 109 (f := .glo "split_address") rfl)) fun _ _ _ _ _ _ us hl => match us, hl with | [_], _ => rfl
  have c_is_address := cal_of (P := P) (w := w) (base := base) F_is_address (ok_is_address T c_split_address F_is_address) (He.glo_ok X G (c.fact 107 (f := .glo "is_address") rfl)) fun _ _ _ _ _ _ us hl => match us, hl with | [_], _ => rfl
  have c_write_offer := cal_of (P := P) (w := w) (base := base) F_write_offer (ok_write_offer T  F_write_offer) (He.glo_ok X G (c.fact 112 (f := .glo "write_offer") rfl)) fun _ _ _ _ _ _ us hl => match us, hl with | [_], _ => rfl
  have c_read_formats := cal_of (P := P) (w := w) (base := base) F_read_formats (ok_read_formats T c_is_name F_read_formats) (He.glo_ok X G (c.fact 115 (f := .glo "_read_formats") rfl)) fun _ _ _ _ _ _ us hl => match us, hl with | [_], _ => rfl
  have c_read_offer := cal_of (P := P) (w := w) (base := base) F_read_offer (ok_read_offer T c_read_number c_read_formats F_read_offer) (He.glo_ok X G (c.fact 111 (f := .glo "read_offer") rfl)) fun _ _ _ _ _ _ us hl => match us, hl with | [_], _ => rfl
  obtain ⟨mv_Letter_a, kb_Letter_a⟩ := TK.kbn_of (ps := ["self", "verb", "call", "origin", "origin_tag", "target", "target_tag", "seq", "way", "code", "offer", "stay", "goal"]) (ks := ["verb", "call", "origin", "origin_tag", "target", "target_tag", "seq", "way"]) (L := ["verb", "call", "origin", "origin_tag", "target", "target_tag", "seq", "way", "code", "offer", "stay", "goal"]) (self := "self") F_Letter___init [("code", (V.non)), ("offer", (V.non)), ("stay", (V.non)), ("goal", (V.non))] (fun {α : Type} (us mz zs : List α) => us ++ ((((zs.drop 0).take 8) ++ ((mz.drop 0).take 4)))) (by intro z; cases z) (fun rv rm rz => rv.append (((rz.drop 0).take 8).append ((rm.drop 0).take 4))) (by kernel_rfl) (by kernel_rfl) (by kernel_rfl) (by kernel_rfl) (by kernel_rfl) (by decide +kernel) (by decide +kernel) (by intro q hq; simp only [List.mem_cons, List.not_mem_nil, or_false] at hq; rcases hq with rfl | rfl | rfl | rfl; exact List.mem_cons_self ..; exact List.mem_cons_of_mem _ (List.mem_cons_self ..); exact List.mem_cons_of_mem _ (List.mem_cons_of_mem _ (List.mem_cons_self ..)); exact List.mem_cons_of_mem _ (List.mem_cons_of_mem _ (List.mem_cons_of_mem _ (List.mem_cons_self ..)))) (by decide +kernel) (fun u mv ws h1 h2 => match mv, ws, h1, h2 with | [m0, m1, m2, m3], [k0, k1, k2, k3, k4, k5, k6, k7], _, _ => by kernel_rfl)
  have c_mk_Letter_a : MakK P w K mg base 1 "Letter" (He.ga K "Letter") (spLetInit K) 0 ["verb", "call", "origin", "origin_tag", "target", "target_tag", "seq", "way"] (fun vs zs => vs ++ ((((zs.drop 0).take 8) ++ ((([(V.non), (V.non), (V.non), (V.non)] : List V).drop 0).take 4)))) := ⟨_, _, ["self", "verb", "call", "origin", "origin_tag", "target", "target_tag", "seq", "way", "code", "offer", "stay", "goal"], _, (He.mkr_ok (c.fact 55 (f := .mkr "Letter") rfl)), ok_Letter___init T  F_Letter___init, He.glo_ok X G (c.fact 54 (f := .glo "Letter") rfl), kb_Letter_a⟩
  obtain ⟨mv_Letter_b, kb_Letter_b⟩ := TK.kbn_of (ps := ["self", "verb", "call", "origin", "origin_tag", "target", "target_tag", "seq", "way", "code", "offer", "stay", "goal"]) (ks := ["verb", "code", "call", "origin", "origin_tag", "target", "target_tag", "seq", "way", "offer", "stay"]) (L := ["verb", "call", "origin", "origin_tag", "target", "target_tag", "seq", "way", "code", "offer", "stay", "goal"]) (self := "self") F_Letter___init [("goal", (V.non))] (fun {α : Type} (us mz zs : List α) => us ++ ((((zs.drop 0).take 1) ++ (((zs.drop 2).take 7) ++ (((zs.drop 1).take 1) ++ (((zs.drop 9).take 2) ++ ((mz.drop 0).take 1))))))) (by intro z; cases z) (fun rv rm rz => rv.append (((rz.drop 0).take 1).append (((rz.drop 2).take 7).append (((rz.drop 1).take 1).append (((rz.drop 9).take 2).append ((rm.drop 0).take 1)))))) (by kernel_rfl) (by kernel_rfl) (by kernel_rfl) (by kernel_rfl) (by kernel_rfl) (by decide +kernel) (by decide +kernel) (by intro q hq; simp only [List.mem_cons, List.not_mem_nil, or_false] at hq; rcases hq with rfl; exact List.mem_cons_of_mem _ (List.mem_cons_of_mem _ (List.mem_cons_of_mem _ (List.mem_cons_self ..)))) (by decide +kernel) (fun u mv ws h1 h2 => match mv, ws, h1, h2 with | [m0], [k0, k1, k2, k3, k4, k5, k6, k7, k8, k9, k10], _, _ => by kernel_rfl)
  have c_mk_Letter_b : MakK P w K mg base 1 "Letter" (He.ga K "Letter") (spLetInit K) 0 ["verb", "code", "call", "origin", "origin_tag", "target", "target_tag", "seq", "way", "offer", "stay"] (fun vs zs => vs ++ ((((zs.drop 0).take 1) ++ (((zs.drop 2).take 7) ++ (((zs.drop 1).take 1) ++ (((zs.drop 9).take 2) ++ ((([(V.non)] : List V).drop 0).take 1))))))) := ⟨_, _, ["self", "verb", "call", "origin", "origin_tag", "target", "target_tag", "seq", "way", "code", "offer", "stay", "goal"], _, (He.mkr_ok (c.fact 55 (f := .mkr "Letter") rfl)), ok_Letter___init T  F_Letter___init, He.glo_ok X G (c.fact 54 (f := .glo "Letter") rfl), kb_Letter_b⟩
  obtain ⟨mv_Letter_d, kb_Letter_d⟩ := TK.kbn_of (ps := ["self", "verb", "call", "origin", "origin_tag", "target", "target_tag", "seq", "way", "code", "offer", "stay", "goal"]) (ks := ["verb", "call", "origin", "origin_tag", "target", "target_tag", "seq", "way", "offer", "goal"]) (L := ["verb", "call", "origin", "origin_tag", "target", "target_tag", "seq", "way", "code", "offer", "stay", "goal"]) (self := "self") F_Letter___init [("code", (V.non)), ("stay", (V.non))] (fun {α : Type} (us mz zs : List α) => us ++ ((((zs.drop 0).take 8) ++ (((mz.drop 0).take 1) ++ (((zs.drop 8).take 1) ++ (((mz.drop 1).take 1) ++ ((zs.drop 9).take 1))))))) (by intro z; cases z) (fun rv rm rz => rv.append (((rz.drop 0).take 8).append (((rm.drop 0).take 1).append (((rz.drop 8).take 1).append (((rm.drop 1).take 1).append ((rz.drop 9).take 1)))))) (by kernel_rfl) (by kernel_rfl) (by kernel_rfl) (by kernel_rfl) (by kernel_rfl) (by decide +kernel) (by decide +kernel) (by intro q hq; simp only [List.mem_cons, List.not_mem_nil, or_false] at hq; rcases hq with rfl | rfl; exact List.mem_cons_self ..; exact List.mem_cons_of_mem _ (List.mem_cons_of_mem _ (List.mem_cons_self ..))) (by decide +kernel) (fun u mv ws h1 h2 => match mv, ws, h1, h2 with | [m0, m1], [k0, k1, k2, k3, k4, k5, k6, k7, k8, k9], _, _ => by kernel_rfl)
  have c_mk_Letter_d : MakK P w K mg base 1 "Letter" (He.ga K "Letter") (spLetInit K) 0 ["verb", "call", "origin", "origin_tag", "target", "target_tag", "seq", "way", "offer", "goal"] (fun vs zs => vs ++ ((((zs.drop 0).take 8) ++ (((([(V.non), (V.non)] : List V).drop 0).take 1) ++ (((zs.drop 8).take 1) ++ (((([(V.non), (V.non)] : List V).drop 1).take 1) ++ ((zs.drop 9).take 1))))))) := ⟨_, _, ["self", "verb", "call", "origin", "origin_tag", "target", "target_tag", "seq", "way", "code", "offer", "stay", "goal"], _, (He.mkr_ok (c.fact 55 (f := .mkr "Letter") rfl)), ok_Letter___init T  F_Letter___init, He.glo_ok X G (c.fact 54 (f := .glo "Letter") rfl), kb_Letter_d⟩
  obtain ⟨mv_Letter_e, kb_Letter_e⟩ := TK.kbn_of (ps := ["self", "verb", "call", "origin", "origin_tag", "target", "target_tag", "seq", "way", "code", "offer", "stay", "goal"]) (ks := ["verb", "call", "origin", "origin_tag", "target", "target_tag", "seq", "way", "offer"]) (L := ["verb", "call", "origin", "origin_tag", "target", "target_tag", "seq", "way", "code", "offer", "stay", "goal"]) (self := "self") F_Letter___init [("code", (V.non)), ("stay", (V.non)), ("goal", (V.non))] (fun {α : Type} (us mz zs : List α) => us ++ ((((zs.drop 0).take 8) ++ (((mz.drop 0).take 1) ++ (((zs.drop 8).take 1) ++ ((mz.drop 1).take 2)))))) (by intro z; cases z) (fun rv rm rz => rv.append (((rz.drop 0).take 8).append (((rm.drop 0).take 1).append (((rz.drop 8).take 1).append ((rm.drop 1).take 2))))) (by kernel_rfl) (by kernel_rfl) (by kernel_rfl) (by kernel_rfl) (by kernel_rfl) (by decide +kernel) (by decide +kernel) (by intro q hq; simp only [List.mem_cons, List.not_mem_nil, or_false] at hq; rcases hq with rfl | rfl | rfl; exact List.mem_cons_self ..; exact List.mem_cons_of_mem _ (List.mem_cons_of_mem _ (List.mem_cons_self ..)); exact List.mem_cons_of_mem _ (List.mem_cons_of_mem _ (List.mem_cons_of_mem _ (List.mem_cons_self ..)))) (by decide +kernel) (fun u mv ws h1 h2 => match mv, ws, h1, h2 with | [m0, m1, m2], [k0, k1, k2, k3, k4, k5, k6, k7, k8], _, _ => by kernel_rfl)
  have c_mk_Letter_e : MakK P w K mg base 1 "Letter" (He.ga K "Letter") (spLetInit K) 0 ["verb", "call", "origin", "origin_tag", "target", "target_tag", "seq", "way", "offer"] (fun vs zs => vs ++ ((((zs.drop 0).take 8) ++ (((([(V.non), (V.non), (V.non)] : List V).drop 0).take 1) ++ (((zs.drop 8).take 1) ++ ((([(V.non), (V.non), (V.non)] : List V).drop 1).take 2)))))) := ⟨_, _, ["self", "verb", "call", "origin", "origin_tag", "target", "target_tag", "seq", "way", "code", "offer", "stay", "goal"], _, (He.mkr_ok (c.fact 55 (f := .mkr "Letter") rfl)), ok_Letter___init T  F_Letter___init, He.glo_ok X G (c.fact 54 (f := .glo "Letter") rfl), kb_Letter_e⟩
  have c_mk_Letter_ss : TK.MakS P w K mg base 1 "Letter" (He.ga K "Letter") (spLetInit K) (TK.SsOk "self" ["verb", "call", "origin", "origin_tag", "target", "target_tag", "seq", "way", "code", "offer", "stay", "goal"] ["verb", "call", "origin", "origin_tag", "target", "target_tag", "seq", "way"]) := ⟨_, _, ["self", "verb", "call", "origin", "origin_tag", "target", "target_tag", "seq", "way", "code", "offer", "stay", "goal"], (He.mkr_ok (c.fact 55 (f := .mkr "Letter") rfl)), ok_Letter___init T  F_Letter___init, He.glo_ok X G (c.fact 54 (f := .glo "Letter") rfl), TK.kbn_ss F_Letter___init (by intro z; cases z) (by show ∀ q ∈ ([("code", (V.non)), ("offer", (V.non)), ("stay", (V.non)), ("goal", (V.non))] : List (Str × V)), q.2 = V.non; intro q hq; simp only [List.mem_cons, List.not_mem_nil, or_false] at hq; rcases hq with rfl | rfl | rfl | rfl <;> rfl) (by kernel_rfl) (by kernel_rfl) (by kernel_rfl) (by kernel_rfl) (by kernel_rfl) (by decide +kernel) (by show ∀ n ∈ (["verb", "call", "origin", "origin_tag", "target", "target_tag", "seq", "way", "code", "offer", "stay", "goal"] : List Str), n ∈ (["verb", "call", "origin", "origin_tag", "target", "target_tag", "seq", "way"] : List Str) ∨ n ∈ (["code", "offer", "stay", "goal"] : List Str); decide +kernel)⟩
  have c_Letter_parts := met_of (P := P) (w := w) (base := base) T.cl_Letter (He.meth_ok (c.fact 119 (f := .meth "Letter" "parts") rfl)) F_Letter_parts (ok_Letter_parts T  F_Letter_parts) fun _ _ _ _ _ _ us hl => match us, hl with | [_], _ => rfl
  have c_Letter_reply := metD_of (P := P) (w := w) (base := base) T.cl_Letter (He.meth_ok (c.fact 120 (f := .meth "Letter" "reply") rfl)) F_Letter_reply (ok_Letter_reply T c_mk_Letter_b F_Letter_reply) (by intro z; cases z) (by show 2 ≤ 5; decide) fun _ _ _ _ _ _ _ us its h1 h2 => match us, its, h1, h2 with | [_, _, _], [_, _], _, _ => ⟨_, rfl, rfl⟩
  have c_Letter_reply_d1 := TKC.metJ_of (P := P) (w := w) (base := base) 1 T.cl_Letter (He.meth_ok (c.fact 120 (f := .meth "Letter" "reply") rfl)) F_Letter_reply (ok_Letter_reply T c_mk_Letter_b F_Letter_reply) (by intro z; cases z) (by show 2 ≤ 5; decide) (by show 1 ≤ 2; decide) fun _ _ _ _ _ _ _ us its h1 h2 => match us, its, h1, h2 with | [_, _, _, _], [_, _], _, _ => ⟨_, rfl, rfl⟩
  have c_Letter_reply_o := TKC.metKD_of (P := P) (w := w) (base := base) (ks := ["offer"]) (m := 2) T.cl_Letter (He.meth_ok (c.fact 120 (f := .meth "Letter" "reply") rfl)) F_Letter_reply (ok_Letter_reply T c_mk_Letter_b F_Letter_reply) (by intro z; cases z) fun _ _ _ _ _ _ _ us its ws h1 h2 h3 => match us, its, ws, h1, h2, h3 with | [_, _, _], [_, _], [_], _, _, _ => ⟨_, rfl, rfl⟩
  have c_write_head := cal_of (P := P) (w := w) (base := base) F_write_head (ok_write_head T  F_write_head) (He.glo_ok X G (c.fact 124 (f := .glo "_write_head") rfl)) fun _ _ _ _ _ _ us hl => match us, hl with | [_], _ => rfl
  have c_write := cal_of (P := P) (w := w) (base := base) F_write (ok_write T c_write_head c_write_offer F_write) (He.glo_ok X G (c.fact 122 (f := .glo "write") rfl)) fun _ _ _ _ _ _ us hl => match us, hl with | [_], _ => rfl
  have c_read_head := cal_of (P := P) (w := w) (base := base) F_read_head (ok_read_head T c_read_number F_read_head) (He.glo_ok X G (c.fact 125 (f := .glo "_read_head") rfl)) fun _ _ _ _ _ _ us hl => match us, hl with | [_], _ => rfl
  have c_read_origin := cal_of (P := P) (w := w) (base := base) F_read_origin (ok_read_origin T c_is_address c_is_tag F_read_origin) (He.glo_ok X G (c.fact 127 (f := .glo "_read_origin") rfl)) fun _ _ _ _ _ _ us hl => match us, hl with | [_], _ => rfl
  have c_read_target := cal_of (P := P) (w := w) (base := base) F_read_target (ok_read_target T c_is_address c_is_tag F_read_target) (He.glo_ok X G (c.fact 128 (f := .glo "_read_target") rfl)) fun _ _ _ _ _ _ us hl => match us, hl with | [_], _ => rfl
  have c_read_single := cal_of (P := P) (w := w) (base := base) F_read_single (ok_read_single T c_is_address c_is_tag c_read_number F_read_single) (He.glo_ok X G (c.fact 129 (f := .glo "_read_single") rfl)) fun _ _ _ _ _ _ us hl => match us, hl with | [_, _], _ => rfl
  have c_read_line := cal_of (P := P) (w := w) (base := base) F_read_line (ok_read_line T c_read_origin c_read_target c_read_single c_read_offer F_read_line) (He.glo_ok X G (c.fact 126 (f := .glo "_read_line") rfl)) fun _ _ _ _ _ _ us hl => match us, hl with | [_, _], _ => rfl
  have c_read := cal_of (P := P) (w := w) (base := base) F_read (ok_read T c_read_head c_read_line c_mk_Letter_ss F_read) (He.glo_ok X G (c.fact 123 (f := .glo "read") rfl)) fun _ _ _ _ _ _ us hl => match us, hl with | [_], _ => rfl
  have c_Leg__give_up_request := met_of (P := P) (w := w) (base := base) T.cl_Leg (He.meth_ok (c.fact 177 (f := .meth "Leg" "_give_up_request") rfl)) F_Leg__give_up_request (ok_Leg__give_up_request T  F_Leg__give_up_request) fun _ _ _ _ _ _ us hl => match us, hl with | [_, _, _], _ => rfl
  have c_Server_tick := met_of (P := P) (w := w) (base := base) T.cl_Server (He.meth_ok (c.fact 143 (f := .meth "Server" "tick") rfl)) F_Server_tick (ok_Server_tick T  F_Server_tick) fun _ _ _ _ _ _ us hl => match us, hl with | [_, _], _ => rfl
  have c_Leg__lose := met_of (P := P) (w := w) (base := base) T.cl_Leg (He.meth_ok (c.fact 178 (f := .meth "Leg" "_lose") rfl)) F_Leg__lose (ok_Leg__lose T  F_Leg__lose) fun _ _ _ _ _ _ us hl => match us, hl with | [_, _], _ => rfl
  have c_Leg__take_known := met_of (P := P) (w := w) (base := base) T.cl_Leg (He.meth_ok (c.fact 168 (f := .meth "Leg" "_take_known") rfl)) F_Leg__take_known (ok_Leg__take_known T  F_Leg__take_known) fun _ _ _ _ _ _ us hl => match us, hl with | [_, _, _, _], _ => rfl
  have c_Leg__take_new := met_of (P := P) (w := w) (base := base) T.cl_Leg (He.meth_ok (c.fact 169 (f := .meth "Leg" "_take_new") rfl)) F_Leg__take_new (ok_Leg__take_new T  F_Leg__take_new) fun _ _ _ _ _ _ us hl => match us, hl with | [_, _, _], _ => rfl
  have c_law_state := cal_of (P := P) (w := w) (base := base) F_law_state (ok_law_state T  F_law_state) (He.glo_ok X G (c.fact 181 (f := .glo "_law_state") rfl)) fun _ _ _ _ _ _ us hl => match us, hl with | [_], _ => rfl
  have c_law_draw := cal_of (P := P) (w := w) (base := base) F_law_draw (ok_law_draw T  F_law_draw) (He.glo_ok X G (c.fact 182 (f := .glo "_law_draw") rfl)) fun _ _ _ _ _ _ us hl => match us, hl with | [_, _], _ => rfl
  have c_law_pick := cal_of (P := P) (w := w) (base := base) F_law_pick (ok_law_pick T c_law_draw F_law_pick) (He.glo_ok X G (c.fact 183 (f := .glo "_law_pick") rfl)) fun _ _ _ _ _ _ us hl => match us, hl with | [_, _], _ => rfl
  have c_mk_Wait := mak_of (P := P) (w := w) (base := base) (He.mkr_ok (c.fact 62 (f := .mkr "Wait") rfl)) (He.glo_ok X G (c.fact 61 (f := .glo "Wait") rfl)) F_Wait___init (ok_Wait___init T  F_Wait___init) fun _ _ _ _ _ _ us hl => match us, hl with | [_, _, _], _ => rfl
  have c_Wait_repeats := met_of (P := P) (w := w) (base := base) T.cl_Wait (He.meth_ok (c.fact 130 (f := .meth "Wait" "repeats") rfl)) F_Wait_repeats (ok_Wait_repeats T  F_Wait_repeats) fun _ _ _ _ _ _ us hl => match us, hl with | [_, _], _ => rfl
  have c_Wait_is_up := met_of (P := P) (w := w) (base := base) T.cl_Wait (He.meth_ok (c.fact 131 (f := .meth "Wait" "is_up") rfl)) F_Wait_is_up (ok_Wait_is_up T  F_Wait_is_up) fun _ _ _ _ _ _ us hl => match us, hl with | [_, _], _ => rfl
  have c_is_final := cal_of (P := P) (w := w) (base := base) F_is_final (ok_is_final T  F_is_final) (He.glo_ok X G (c.fact 121 (f := .glo "is_final") rfl)) fun _ _ _ _ _ _ us hl => match us, hl with | [_], _ => rfl
  have c_mk_Client := mak_of (P := P) (w := w) (base := base) (He.mkr_ok (c.fact 71 (f := .mkr "Client") rfl)) (He.glo_ok X G (c.fact 70 (f := .glo "Client") rfl)) F_Client___init (ok_Client___init T c_mk_Wait F_Client___init) fun _ _ _ _ _ _ us hl => match us, hl with | [_, _, _, _, _], _ => rfl
  have c_Client_sending := met_of (P := P) (w := w) (base := base) T.cl_Client (He.meth_ok (c.fact 132 (f := .meth "Client" "sending") rfl)) F_Client_sending (ok_Client_sending T c_write F_Client_sending) fun _ _ _ _ _ _ us hl => match us, hl with | [_], _ => rfl
  have c_Client_is_over := met_of (P := P) (w := w) (base := base) T.cl_Client (He.meth_ok (c.fact 136 (f := .meth "Client" "is_over") rfl)) F_Client_is_over (ok_Client_is_over T  F_Client_is_over) fun _ _ _ _ _ _ us hl => match us, hl with | [_], _ => rfl
  have c_Client_stop := met_of (P := P) (w := w) (base := base) T.cl_Client (He.meth_ok (c.fact 134 (f := .meth "Client" "stop") rfl)) F_Client_stop (ok_Client_stop T c_mk_Wait F_Client_stop) fun _ _ _ _ _ _ us hl => match us, hl with | [_, _], _ => rfl
  have c_Client__take_provisional := met_of (P := P) (w := w) (base := base) T.cl_Client (He.meth_ok (c.fact 137 (f := .meth "Client" "_take_provisional") rfl)) F_Client__take_provisional (ok_Client__take_provisional T  F_Client__take_provisional) fun _ _ _ _ _ _ us hl => match us, hl with | [_, _], _ => rfl
  have c_Client__keep_for := met_of (P := P) (w := w) (base := base) T.cl_Client (He.meth_ok (c.fact 138 (f := .meth "Client" "_keep_for") rfl)) F_Client__keep_for (ok_Client__keep_for T c_mk_Letter_a F_Client__keep_for) fun _ _ _ _ _ _ us hl => match us, hl with | [_, _], _ => rfl
  have c_Client_take := met_of (P := P) (w := w) (base := base) T.cl_Client (He.meth_ok (c.fact 133 (f := .meth "Client" "take") rfl)) F_Client_take (ok_Client_take T c_is_final c_Client__take_provisional c_mk_Wait c_Client__keep_for c_write F_Client_take) fun _ _ _ _ _ _ us hl => match us, hl with | [_, _, _], _ => rfl
  have c_mk_Server := mak_of (P := P) (w := w) (base := base) (He.mkr_ok (c.fact 81 (f := .mkr "Server") rfl)) (He.glo_ok X G (c.fact 80 (f := .glo "Server") rfl)) F_Server___init (ok_Server___init T  F_Server___init) fun _ _ _ _ _ _ us hl => match us, hl with | [_, _, _, _], _ => rfl
  have c_Server_is_over := met_of (P := P) (w := w) (base := base) T.cl_Server (He.meth_ok (c.fact 144 (f := .meth "Server" "is_over") rfl)) F_Server_is_over (ok_Server_is_over T  F_Server_is_over) fun _ _ _ _ _ _ us hl => match us, hl with | [_], _ => rfl
  have c_Server_again := met_of (P := P) (w := w) (base := base) T.cl_Server (He.meth_ok (c.fact 140 (f := .meth "Server" "again") rfl)) F_Server_again (ok_Server_again T  F_Server_again) fun _ _ _ _ _ _ us hl => match us, hl with | [_], _ => rfl
  have c_Server_reply := met_of (P := P) (w := w) (base := base) T.cl_Server (He.meth_ok (c.fact 141 (f := .meth "Server" "reply") rfl)) F_Server_reply (ok_Server_reply T c_write c_is_final c_mk_Wait F_Server_reply) fun _ _ _ _ _ _ us hl => match us, hl with | [_, _, _], _ => rfl
  have c_Server_keep := met_of (P := P) (w := w) (base := base) T.cl_Server (He.meth_ok (c.fact 142 (f := .meth "Server" "keep") rfl)) F_Server_keep (ok_Server_keep T c_mk_Wait F_Server_keep) fun _ _ _ _ _ _ us hl => match us, hl with | [_, _], _ => rfl
  have c_Server_matches := met_of (P := P) (w := w) (base := base) T.cl_Server (He.meth_ok (c.fact 139 (f := .meth "Server" "matches") rfl)) F_Server_matches (ok_Server_matches T  F_Server_matches) fun _ _ _ _ _ _ us hl => match us, hl with | [_, _, _], _ => rfl
  have c_Leg__talk := met_of (P := P) (w := w) (base := base) T.cl_Leg (He.meth_ok (c.fact 161 (f := .meth "Leg" "_talk") rfl)) F_Leg__talk (ok_Leg__talk T  F_Leg__talk) fun _ _ _ _ _ _ us hl => match us, hl with | [_, _], _ => rfl
  have c_Leg__end := met_of (P := P) (w := w) (base := base) T.cl_Leg (He.meth_ok (c.fact 162 (f := .meth "Leg" "_end") rfl)) F_Leg__end (ok_Leg__end T  F_Leg__end) fun _ _ _ _ _ _ us hl => match us, hl with | [_, _, _], _ => rfl
  have c_Leg__send := metD_of (P := P) (w := w) (base := base) T.cl_Leg (He.meth_ok (c.fact 157 (f := .meth "Leg" "_send") rfl)) F_Leg__send (ok_Leg__send T c_mk_Letter_d c_mk_Client c_Client_sending F_Leg__send) (by intro z; cases z) (by show 2 ≤ 5; decide) fun _ _ _ _ _ _ _ us its h1 h2 => match us, its, h1, h2 with | [_, _, _], [_, _], _, _ => ⟨_, rfl, rfl⟩
  have c_Leg__send_d1 := TKC.metJ_of (P := P) (w := w) (base := base) 1 T.cl_Leg (He.meth_ok (c.fact 157 (f := .meth "Leg" "_send") rfl)) F_Leg__send (ok_Leg__send T c_mk_Letter_d c_mk_Client c_Client_sending F_Leg__send) (by intro z; cases z) (by show 2 ≤ 5; decide) (by show 1 ≤ 2; decide) fun _ _ _ _ _ _ _ us its h1 h2 => match us, its, h1, h2 with | [_, _, _, _], [_, _], _, _ => ⟨_, rfl, rfl⟩
  have c_Leg__send_d2 := TKC.metJ_of (P := P) (w := w) (base := base) 2 T.cl_Leg (He.meth_ok (c.fact 157 (f := .meth "Leg" "_send") rfl)) F_Leg__send (ok_Leg__send T c_mk_Letter_d c_mk_Client c_Client_sending F_Leg__send) (by intro z; cases z) (by show 2 ≤ 5; decide) (by show 2 ≤ 2; decide) fun _ _ _ _ _ _ _ us its h1 h2 => match us, its, h1, h2 with | [_, _, _, _, _], [_, _], _, _ => ⟨_, rfl, rfl⟩
  have c_Leg__serve := met_of (P := P) (w := w) (base := base) T.cl_Leg (He.meth_ok (c.fact 158 (f := .meth "Leg" "_serve") rfl)) F_Leg__serve (ok_Leg__serve T c_mk_Server F_Leg__serve) fun _ _ _ _ _ _ us hl => match us, hl with | [_, _, _], _ => rfl
  have c_Leg__reply := metD_of (P := P) (w := w) (base := base) T.cl_Leg (He.meth_ok (c.fact 159 (f := .meth "Leg" "_reply") rfl)) F_Leg__reply (ok_Leg__reply T c_Letter_reply_d1 c_Server_reply F_Leg__reply) (by intro z; cases z) (by show 1 ≤ 5; decide) fun _ _ _ _ _ _ _ us its h1 h2 => match us, its, h1, h2 with | [_, _, _, _], [_], _, _ => ⟨_, rfl, rfl⟩
  have c_Leg__reply_d1 := TKC.metJ_of (P := P) (w := w) (base := base) 1 T.cl_Leg (He.meth_ok (c.fact 159 (f := .meth "Leg" "_reply") rfl)) F_Leg__reply (ok_Leg__reply T c_Letter_reply_d1 c_Server_reply F_Leg__reply) (by intro z; cases z) (by show 1 ≤ 5; decide) (by show 1 ≤ 1; decide) fun _ _ _ _ _ _ _ us its h1 h2 => match us, its, h1, h2 with | [_, _, _, _, _], [_], _, _ => ⟨_, rfl, rfl⟩
  have c_Leg__reply_to_call := metD_of (P := P) (w := w) (base := base) T.cl_Leg (He.meth_ok (c.fact 160 (f := .meth "Leg" "_reply_to_call") rfl)) F_Leg__reply_to_call (ok_Leg__reply_to_call T c_Leg__reply_d1 F_Leg__reply_to_call) (by intro z; cases z) (by show 1 ≤ 4; decide) fun _ _ _ _ _ _ _ us its h1 h2 => match us, its, h1, h2 with | [_, _, _], [_], _, _ => ⟨_, rfl, rfl⟩
  have c_Leg__stop_call := met_of (P := P) (w := w) (base := base) T.cl_Leg (He.meth_ok (c.fact 163 (f := .meth "Leg" "_stop_call") rfl)) F_Leg__stop_call (ok_Leg__stop_call T c_Client_stop F_Leg__stop_call) fun _ _ _ _ _ _ us hl => match us, hl with | [_, _], _ => rfl
  have c_Leg_take_events := met_of (P := P) (w := w) (base := base) T.cl_Leg (He.meth_ok (c.fact 155 (f := .meth "Leg" "take_events") rfl)) F_Leg_take_events (ok_Leg_take_events T  F_Leg_take_events) fun _ _ _ _ _ _ us hl => match us, hl with | [_], _ => rfl
  have c_Leg__has_most_servers := met_of (P := P) (w := w) (base := base) T.cl_Leg (He.meth_ok (c.fact 167 (f := .meth "Leg" "_has_most_servers") rfl)) F_Leg__has_most_servers (ok_Leg__has_most_servers T c_Server_is_over F_Leg__has_most_servers) fun _ _ _ _ _ _ us hl => match us, hl with | [_], _ => rfl
  have c_Leg__is_asking := met_of (P := P) (w := w) (base := base) T.cl_Leg (He.meth_ok (c.fact 165 (f := .meth "Leg" "_is_asking") rfl)) F_Leg__is_asking (ok_Leg__is_asking T c_Client_is_over F_Leg__is_asking) fun _ _ _ _ _ _ us hl => match us, hl with | [_], _ => rfl
  have c_Leg__ask := met_of (P := P) (w := w) (base := base) T.cl_Leg (He.meth_ok (c.fact 164 (f := .meth "Leg" "_ask") rfl)) F_Leg__ask (ok_Leg__ask T c_Leg__is_asking c_Leg__send_d2 F_Leg__ask) fun _ _ _ _ _ _ us hl => match us, hl with | [_, _, _, _, _], _ => rfl
  have c_Leg_turn := met_of (P := P) (w := w) (base := base) T.cl_Leg (He.meth_ok (c.fact 151 (f := .meth "Leg" "turn") rfl)) F_Leg_turn (ok_Leg_turn T c_Leg__ask F_Leg_turn) fun _ _ _ _ _ _ us hl => match us, hl with | [_, _, _], _ => rfl
  have c_Leg_move := met_of (P := P) (w := w) (base := base) T.cl_Leg (He.meth_ok (c.fact 152 (f := .meth "Leg" "move") rfl)) F_Leg_move (ok_Leg_move T c_Leg__ask F_Leg_move) fun _ _ _ _ _ _ us hl => match us, hl with | [_, _, _], _ => rfl
  have c_Leg__send_waiting := met_of (P := P) (w := w) (base := base) T.cl_Leg (He.meth_ok (c.fact 166 (f := .meth "Leg" "_send_waiting") rfl)) F_Leg__send_waiting (ok_Leg__send_waiting T c_Leg__send_d2 F_Leg__send_waiting) fun _ _ _ _ _ _ us hl => match us, hl with | [_, _], _ => rfl
  have c_Leg__send_live := met_of (P := P) (w := w) (base := base) T.cl_Leg (He.meth_ok (c.fact 179 (f := .meth "Leg" "_send_live") rfl)) F_Leg__send_live (ok_Leg__send_live T c_Leg__is_asking c_Leg__send F_Leg__send_live) fun _ _ _ _ _ _ us hl => match us, hl with | [_, _], _ => rfl
  have c_Leg__follow_call := met_of (P := P) (w := w) (base := base) T.cl_Leg (He.meth_ok (c.fact 176 (f := .meth "Leg" "_follow_call") rfl)) F_Leg__follow_call (ok_Leg__follow_call T c_Leg__send c_Leg__talk c_Leg__end F_Leg__follow_call) fun _ _ _ _ _ _ us hl => match us, hl with | [_, _, _], _ => rfl
  have c_Leg__follow := met_of (P := P) (w := w) (base := base) T.cl_Leg (He.meth_ok (c.fact 175 (f := .meth "Leg" "_follow") rfl)) F_Leg__follow (ok_Leg__follow T c_Leg__follow_call c_Leg__end c_Leg__send_waiting F_Leg__follow) fun _ _ _ _ _ _ us hl => match us, hl with | [_, _, _], _ => rfl
  have c_Client_tick := met_of (P := P) (w := w) (base := base) T.cl_Client (He.meth_ok (c.fact 135 (f := .meth "Client" "tick") rfl)) F_Client_tick (ok_Client_tick T c_Wait_is_up c_Wait_repeats c_Client_sending F_Client_tick) fun _ _ _ _ _ _ us hl => match us, hl with | [_, _], _ => rfl
  have c_Leg__forget_those_over := met_of (P := P) (w := w) (base := base) T.cl_Leg (He.meth_ok (c.fact 180 (f := .meth "Leg" "_forget_those_over") rfl)) F_Leg__forget_those_over (ok_Leg__forget_those_over T c_Client_is_over c_Server_is_over F_Leg__forget_those_over) fun _ _ _ _ _ _ us hl => match us, hl with | [_], _ => rfl
  have c_Leg_tick := met_of (P := P) (w := w) (base := base) T.cl_Leg (He.meth_ok (c.fact 154 (f := .meth "Leg" "tick") rfl)) F_Leg_tick (ok_Leg_tick T c_Client_tick c_Leg__give_up_request c_Server_tick c_Leg__lose c_Leg__send_live c_Leg__forget_those_over F_Leg_tick) fun _ _ _ _ _ _ us hl => match us, hl with | [_, _], _ => rfl
  have c_Leg__take_reply := met_of (P := P) (w := w) (base := base) T.cl_Leg (He.meth_ok (c.fact 174 (f := .meth "Leg" "_take_reply") rfl)) F_Leg__take_reply (ok_Leg__take_reply T c_Client_take c_Leg__follow F_Leg__take_reply) fun _ _ _ _ _ _ us hl => match us, hl with | [_, _, _], _ => rfl
  have c_Leg_receive := met_of (P := P) (w := w) (base := base) T.cl_Leg (He.meth_ok (c.fact 153 (f := .meth "Leg" "receive") rfl)) F_Leg_receive (ok_Leg_receive T c_Leg__take_reply c_Server_matches c_Leg__take_known c_Leg__has_most_servers c_Leg__serve c_Leg__take_new F_Leg_receive) fun _ _ _ _ _ _ us hl => match us, hl with | [_, _, _, _], _ => rfl
  obtain ⟨mv_Leg_f, kb_Leg_f⟩ := TK.kbn_of (ps := ["self", "tag", "call", "own", "other", "place", "able", "first", "check", "seq"]) (ks := ["tag", "call", "own", "other", "place", "able", "first", "check"]) (L := ["tag", "call", "own", "other", "place", "able", "first", "check", "seq"]) (self := "self") F_Leg___init [("seq", (V.int 0))] (fun {α : Type} (us mz zs : List α) => us ++ ((((zs.drop 0).take 8) ++ ((mz.drop 0).take 1)))) (by intro z; cases z) (fun rv rm rz => rv.append (((rz.drop 0).take 8).append ((rm.drop 0).take 1))) (by kernel_rfl) (by kernel_rfl) (by kernel_rfl) (by kernel_rfl) (by kernel_rfl) (by decide +kernel) (by decide +kernel) (by intro q hq; simp only [List.mem_cons, List.not_mem_nil, or_false] at hq; rcases hq with rfl; exact List.mem_cons_self ..) (by decide +kernel) (fun u mv ws h1 h2 => match mv, ws, h1, h2 with | [m0], [k0, k1, k2, k3, k4, k5, k6, k7], _, _ => by kernel_rfl)
  have c_mk_Leg_f : MakK P w K mg base 1 "Leg" (He.ga K "Leg") (spLegInit K) 0 ["tag", "call", "own", "other", "place", "able", "first", "check"] (fun vs zs => vs ++ ((((zs.drop 0).take 8) ++ ((([(V.int 0)] : List V).drop 0).take 1)))) := ⟨_, _, ["self", "tag", "call", "own", "other", "place", "able", "first", "check", "seq"], _, (He.mkr_ok (c.fact 103 (f := .mkr "Leg") rfl)), ok_Leg___init T  F_Leg___init, He.glo_ok X G (c.fact 102 (f := .glo "Leg") rfl), kb_Leg_f⟩
  have c_Leg_call_out := met_of (P := P) (w := w) (base := base) T.cl_Leg (He.meth_ok (c.fact 145 (f := .meth "Leg" "call_out") rfl)) F_Leg_call_out (ok_Leg_call_out T c_Leg__send_d1 F_Leg_call_out) fun _ _ _ _ _ _ us hl => match us, hl with | [_, _, _], _ => rfl
  have c_law_talking := cal_of (P := P) (w := w) (base := base) F_law_talking (ok_law_talking T c_mk_Leg_f c_Leg_call_out c_read c_Letter_reply_o c_Leg_receive c_Leg_take_events F_law_talking) (He.glo_ok X G (c.fact 184 (f := .glo "_law_talking") rfl)) fun _ _ _ _ _ _ us hl => match us, hl with | [_, _], _ => rfl
  have c_law_next := cal_of (P := P) (w := w) (base := base) F_law_next (ok_law_next T  F_law_next) (He.glo_ok X G (c.fact 186 (f := .glo "_law_next") rfl)) fun _ _ _ _ _ _ us hl => match us, hl with | [_, _], _ => rfl
  have c_law_sent_right := cal_of (P := P) (w := w) (base := base) F_law_sent_right (ok_law_sent_right T  F_law_sent_right) (He.glo_ok X G (c.fact 189 (f := .glo "_law_sent_right") rfl)) fun _ _ _ _ _ _ us hl => match us, hl with | [_, _], _ => rfl
  have c_law_take := cal_of (P := P) (w := w) (base := base) F_law_take (ok_law_take T c_read F_law_take) (He.glo_ok X G (c.fact 185 (f := .glo "_law_take") rfl)) fun _ _ _ _ _ _ us hl => match us, hl with | [_, _], _ => rfl
  have c_law_asks := cal_of (P := P) (w := w) (base := base) F_law_asks (ok_law_asks T c_law_draw c_law_pick c_Leg_turn c_Leg_move c_law_next F_law_asks) (He.glo_ok X G (c.fact 187 (f := .glo "_law_asks") rfl)) fun _ _ _ _ _ _ us hl => match us, hl with | [_, _, _, _, _], _ => rfl
  have c_law_replies := cal_of (P := P) (w := w) (base := base) F_law_replies (ok_law_replies T c_law_draw c_law_pick c_Letter_reply_o c_Leg_receive c_law_next F_law_replies) (He.glo_ok X G (c.fact 188 (f := .glo "_law_replies") rfl)) fun _ _ _ _ _ _ us hl => match us, hl with | [_, _, _, _, _, _, _], _ => rfl
  exact ok_law T c_law_state c_law_draw c_law_pick c_law_talking c_law_asks c_law_take c_law_replies c_Letter_reply c_Leg_receive c_Leg_tick c_Leg_take_events c_law_sent_right F_law
end K19
open PySem PySem.W PySem.Calls PyProof.Rows
theorem PySem.Challenge.cw_trunkland_k19_requests_in_turn_holds : PySem.Challenge.rw_trunkland_k19_requests_in_turn.Holds := by
  w_on; o_law
  refine HandSHeadRun.head_any (r := OpenLaw.row PySem.Challenge.rw_trunkland_k19_requests_in_turn) (q := view (OpenLaw.row PySem.Challenge.rw_trunkland_k19_requests_in_turn).prog [79]) (H := K19.hk) (ob := K19.ob) (M := 6000) (loose := K19.loose0 ++ K19.loose1 ++ K19.loose2) (d := HandSHeadRun.topDef (OpenLaw.row PySem.Challenge.rw_trunkland_k19_requests_in_turn).prog 79) (kwd := []) K19.ob_eq
    (by kernel_rfl) (fun s => by kernel_rfl) K19.run (by kernel_rfl) (by kernel_rfl) (by kernel_rfl) (by rfl) (by first | assumption | decide +kernel) (by decide +kernel) ⟨rfl, rfl, rfl, rfl, rfl, by decide +kernel⟩ ?hw ?hc
  case hw => w_witness2
  case hc =>
    refine L2.walk_ofE (l := PySem.Challenge.rw_trunkland_k19_requests_in_turn) (n := 63) (k := 11) (x := "script") (CX := L2.CX0) rfl (by decide) (by kernel_rfl) ⟨rfl, by decide, by decide⟩ ?F (fun _ _ _ _ z => z)
    intro w mg fa h Y G hmg0
    obtain ⟨K, KX, c, cx⟩ := Y
    have hmg : mg ("law" : PySem.Str) = some (.ref fa) := by
      have e : (HandSHeadRun.topDef (OpenLaw.row PySem.Challenge.rw_trunkland_k19_requests_in_turn).prog 79).name = ("law" : PySem.Str) := by kernel_rfl
      rw [← e]
      exact hmg0
    obtain ⟨fd, hb, hF⟩ := K19.facts (P := (PySem.Challenge.rw_trunkland_k19_requests_in_turn).prog) (w := w) KX G hmg c cx
    exact ⟨K, fd, K19.spLaw K, KX, hb, fun H a ns hl _ hS => ⟨a, ns, rfl, hS, hl, fun _ => rfl⟩, hF⟩
