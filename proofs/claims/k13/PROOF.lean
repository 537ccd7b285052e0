import PyProof.Rows.All
import Wide.All
import OpenK.AllK
import Wide.FinOn
import HandS.ForMost
import HandS.Defaults
import HandS.Codes
import HandS.IsInst
import HandS.NoneIn
import HandS.Replace
import HandS.Walk
import HandS.Head0
import HandS.Head1
import HandS.Head2
import HandS.HeadEnd
import HandS.HeadHook1
import HandS.HeadHook2
import HandS.MakeKw
import HandS.MakeKwOnly
import HandS.FStr
import HandS.Deep
import HandS.StrMore
import HandS.Steps
import PyProof.MeetsStr3
import PyProof.Rows.StrNews2
import PyProof.Rows.StrLast
import PyProof.Rows.StrCountLaw
import HandS.Ends
import PyProof.ReprRoads
import PyProof.Rows.RegFStrParts
import HandS.Iter
import HandS.ExcInit
import HandS.ExcIs
import HandS.ExcField
import HandS.ExcCtx
import HandS.ClsMeth
import HandS.Nested
import KE.KExcSuper
import KE.KExcIs
import KE.KIsAll
import HandS.WordsExc
import PyProof.Rows.StrFoldSign
import HandS.Star
import HandS.More
import KE.KDictList
import HandS.SortInts
import KE.SortData
import HandS.ReplaceLit
import HandS.ReplaceList
import PyProof.Rows.RegStrFacts
import HandS.DictTup
import HandS.DictSub
import PySem.Challenge.RW_trunkland_k13_journals_of_any_lines
set_option Elab.async false
set_option linter.all false
set_option maxRecDepth 100000
set_option maxHeartbeats 4000000
/-! Helpers of mine over the hand layer, the same for every law of this program. -/
namespace TK
open PySem PySem.Spec PyProof.Rows L2 C8 SX
section
variable {X : Cx} {x : Str} {pos p : Pos} {k j : Nat} {sp : Sp} {dvs : List V}
theorem pgI {i : Int} (h : ∃ t, X.mg x = some (.int i t)) (hg : Gl X x := by rfl) (hd : (x == ("__debug__" : Str)) = false := by decide) : PE X (.Name x pos) (tC (.int i)) := by
  obtain ⟨t, e⟩ := h
  exact pe_glob hg e ⟨t, rfl⟩ hd
theorem pgS {z : Str} (h : ∃ t, X.mg x = some (.str z t)) (hg : Gl X x := by rfl) (hd : (x == ("__debug__" : Str)) = false := by decide) : PE X (.Name x pos) (tC (.str z)) := by
  obtain ⟨t, e⟩ := h
  exact pe_glob hg e ⟨t, rfl⟩ hd
theorem pgR {a : Addr} (h : X.mg x = some (.ref a)) (hg : Gl X x := by rfl) (hd : (x == ("__debug__" : Str)) = false := by decide) : PE X (.Name x pos) (tC (.ref a)) := pe_glob hg h rfl hd
theorem pe_c0 (c : Cal X.prog X.w X.K X.mg X.base k x sp dvs) (hr : Room j X.A) (hk : k ≤ j) (hg : Gl X x) (hdb : (x == ("__debug__" : Str)) = false := by decide) :
    PE X (.Call (.Name x p) [] [] pos) (tCall sp dvs L2.E0 tNil) := by
  obtain ⟨f, fd, ps, ds, F, hm, kp, b, d⟩ := c.ex
  exact pe_call0 F (hr.mono hk) hg hm kp b d L2.pass0 hdb
end
section
variable {P : Program} {w : World} {K : PySem.W.Frag} {mg : Str → Option Value} {base : Heap}
/-- a def without defaults, as callers want it -/
theorem cal_of {x qual : Str} {params : Arguments} {body : List Stmt} {scope : Scope} {f : Addr} {fd : FuncData} {ps : List Str} {k : Nat} {sp : Sp} (F : FunD K x qual params body scope [] [] f fd) (G : FnOk P w K mg base L2.CX0 k f fd ps sp) (hm : mg x = some (.ref f))
    (h : ∀ (kV doc pm : Value) (an : Option Addr) (cdv ct : Value) (us : List Value), us.length = ps.length → bindArgs (PySem.W.fnOf x qual params body scope .none kV doc pm an cdv ct) ⟨us, []⟩ = pure (ps.zip us)) : Cal P w K mg base k x sp [] :=
  ⟨f, fd, ps, [], G, hm, F.kp, F.bindsN h, .nil⟩
end
/-! ### heaps -/
/-- all that was tracked is as it was, but what stands at two places -/
def Keep (H H' : Hp) (a c : Addr) : Prop := ∀ b o, H b = some o → b ≠ a → b ≠ c → H' b = some o
theorem Keep.refl (H : Hp) (a c : Addr) : Keep H H a c := fun _ _ h _ _ => h
theorem Keep.trans {H H1 H2 : Hp} {a c : Addr} (h : Keep H H1 a c) (k : Keep H1 H2 a c) : Keep H H2 a c := fun b o e h1 h2 => k b o (h b o e h1 h2) h1 h2
theorem Keep.of_same {H H' : Hp} {a c : Addr} (h : Same H H') : Keep H H' a c := fun b o e _ _ => h b o e
theorem same_upd {H : Hp} {p : Addr} {o : HO} (h : H p = none) : Same H (upd H p o) := fun b u e => by
  rw [upd_ne (ne_of_none e h)]
  exact e
/-- the law's source of draws: a list of a list of cells and a seed -/
structure StAt (H : Hp) (s c : Addr) : Prop where
  ne : s ≠ c
  at_ : ∃ n : Int, H s = some (.lst [.ref c, .int n])
  cells : ∃ ns : List Int, H c = some (.lst (ns.map V.int)) ∧ ns.length ≤ 63
theorem StAt.same {H H' : Hp} {s c : Addr} (h : StAt H s c) (e : Same H H') : StAt H' s c := by
  obtain ⟨ne, ⟨n, h1⟩, ns, h2, h3⟩ := h
  exact ⟨ne, ⟨n, e _ _ h1⟩, ns, e _ _ h2, h3⟩
end TK
namespace TK
open PySem PySem.Spec PyProof.Rows L2 C8 SX
/-! ### comprehensions whose elements leave the heap alone -/
theorem lc_pure {J : It} {n : Nat} {G : Hp → Prop} {Y : Nat → Hp → V → Hp → Prop} (w : Walk J n G Y) (f : Nat → V) {g : TG} {tt : TT} {te : TE} {vs : List Nat} {σ : L2.St} {H1 : Hp} {D : Addr} {Qd : Hp → Prop} (hn : n ≤ sizeLine)
    (hG : ∀ i, i ≤ n → G (upd H1 D (.lst ((List.range i).map f))))
    (hs : ∀ (i : Nat) (x : V) (H' : Hp) (k : V → Hp → Prop), i < n → Y i (upd H1 D (.lst ((List.range i).map f))) x H' → k (f i) (upd H1 D (.lst ((List.range i).map f))) →
      g x (wipe σ vs) H' fun σ2 H2 => wipe σ2 vs = wipe σ vs ∧ tt σ2 H2 fun b H3 => b = true ∧ te σ2 H3 k)
    (ht : ∀ σ H Q Q', (∀ b H', Q b H' → Q' b H') → tt σ H Q → tt σ H Q') (hg : ∀ x σ H Q Q', (∀ σ' H', Q σ' H' → Q' σ' H') → g x σ H Q → g x σ H Q')
    (hd : Qd (upd H1 D (.lst ((List.range n).map f)))) :
    ∃ W : Nat → Nat → Hp → Prop, (∃ m, W 0 m (upd H1 D (.lst []))) ∧ ∀ i m H, W i m H →
      (J.stop i H ∧ Qd H) ∨ (J.go i H ∧ ∃ Nx : Hp → Prop, (∀ H', Nx H' → ∃ m', m' < m ∧ W (i + 1) m' H') ∧ ∀ x H', J.yld i H x H' → g x (wipe σ vs) H' fun σ2 H2 => wipe σ2 vs = wipe σ vs ∧ tt σ2 H2 fun b H3 =>
        if b = true then te σ2 H3 fun y H4 => ∃ acc, H4 D = some (.lst acc) ∧ acc.length < sizeLine ∧ Nx (upd H4 D (.lst (acc ++ [y]))) else Nx H3) := by
  refine lc_it w (fun i H => H = upd H1 D (.lst ((List.range i).map f))) rfl (fun i H hi e => e ▸ hG i hi) (fun i x H H' hi e y => ?_) (fun H e => e ▸ hd)
  subst e
  refine hg _ _ _ _ _ (fun σ2 H2 q => ⟨q.1, ht _ _ _ _ (fun b H3 r => ?_) q.2⟩) (hs i x H' (fun y H4 => ∃ acc, H4 D = some (.lst acc) ∧ acc.length < sizeLine ∧ upd H4 D (.lst (acc ++ [y])) = upd H1 D (.lst ((List.range (i + 1)).map f))) hi y ⟨_, upd_same, ?_, ?_⟩)
  · rw [if_pos r.1]
    exact r.2
  · rw [List.length_map, List.length_range]
    omega
  · rw [upd_upd, List.range_succ, List.map_append]
    rfl
/-- the usual target and no test -/
theorem lc_pureN {J : It} {n : Nat} {G : Hp → Prop} {Y : Nat → Hp → V → Hp → Prop} (w : Walk J n G Y) (f : Nat → V) {j : Nat} {te : TE} {vs : List Nat} {σ : L2.St} {H1 : Hp} {D : Addr} {Qd : Hp → Prop} (hn : n ≤ sizeLine)
    (hG : ∀ i, i ≤ n → G (upd H1 D (.lst ((List.range i).map f))))
    (hs : ∀ (i : Nat) (x : V) (H' : Hp) (k : V → Hp → Prop), i < n → Y i (upd H1 D (.lst ((List.range i).map f))) x H' → k (f i) (upd H1 D (.lst ((List.range i).map f))) →
      wipe ((wipe σ vs).set j (some x)) vs = wipe σ vs ∧ te ((wipe σ vs).set j (some x)) H' k)
    (hd : Qd (upd H1 D (.lst ((List.range n).map f)))) :
    ∃ W : Nat → Nat → Hp → Prop, (∃ m, W 0 m (upd H1 D (.lst []))) ∧ ∀ i m H, W i m H →
      (J.stop i H ∧ Qd H) ∨ (J.go i H ∧ ∃ Nx : Hp → Prop, (∀ H', Nx H' → ∃ m', m' < m ∧ W (i + 1) m' H') ∧ ∀ x H', J.yld i H x H' → gName j x (wipe σ vs) H' fun σ2 H2 => wipe σ2 vs = wipe σ vs ∧ tYes σ2 H2 fun b H3 =>
        if b = true then te σ2 H3 fun y H4 => ∃ acc, H4 D = some (.lst acc) ∧ acc.length < sizeLine ∧ Nx (upd H4 D (.lst (acc ++ [y]))) else Nx H3) :=
  lc_pure w f hn hG (fun i x H' k hi y q => ⟨(hs i x H' k hi y q).1, rfl, (hs i x H' k hi y q).2⟩) (fun _ _ _ _ h q => h _ _ q) (fun _ _ _ _ _ h q => h _ _ q) hd
theorem size_tl (z : Str) : z.cps.size = (TL.tl z).length := by simp [TL.tl]
theorem len_eq (z : Str) : z.length = (TL.tl z).length := TL.len_tl z
theorem range_map_getD {α β : Type} (l : List α) (d : α) (f : α → β) : (List.range l.length).map (fun i => f (l.getD i d)) = l.map f := by
  apply List.ext_getElem
  · simp
  · intro i h1 h2
    simp at h1
    simp [h1]
end TK
namespace TK
open PySem PySem.Spec PyProof.Rows L2 SX
theorem ef {b : Bool} (h : ¬ b = true) : b = false := Bool.eq_false_iff.mpr h
/-! ### places in texts -/
theorem at0 {α : Type} {l : List α} (d : α) (h : 0 < l.length) : atI l 0 = some (l.getD 0 d) := by
  cases l with
  | nil => exact absurd h (Nat.lt_irrefl 0)
  | cons a r =>
    show ((if (0 : Int) ≤ 0 then (if (0 : Int) < ((a :: r).length : Nat) then some (0 : Int).toNat else none) else _) : Option Nat).bind _ = _
    rw [if_pos (Int.le_refl 0), if_pos (by rw [List.length_cons]; omega)]
    rfl
theorem atN {α : Type} {l : List α} {i : Int} (d : α) (h0 : 0 ≤ i) (h : i < l.length) : atI l i = some (l.getD i.toNat d) := by
  show ((if (0 : Int) ≤ i then (if i < (l.length : Nat) then some i.toNat else none) else _) : Option Nat).bind _ = _
  rw [if_pos h0, if_pos h]
  show l[i.toNat]? = _
  rw [List.getD_eq_getElem?_getD, List.getElem?_eq_getElem (by omega)]
  rfl
theorem atC {α : Type} (a : α) (r : List α) : atI (a :: r) 0 = some a := at0 a (by simp)
theorem ixP {n : Nat} {i : Int} (h0 : 0 ≤ i) (h : i < n) : ixN n i = some i.toNat := by
  unfold ixN
  rw [if_pos h0, if_pos h]
theorem sqP {n : Nat} {i : Int} (h0 : 0 ≤ i) (h : i < n) : seqIndex? i n = some i.toNat := (ixN_seq (ixP h0 h)).1
theorem ixC {α : Type} (a : α) (r : List α) : ixN (a :: r).length 0 = some 0 := ixP (by decide) (by rw [List.length_cons]; omega)
theorem sqC {α : Type} (a : α) (r : List α) : seqIndex? 0 (a :: r).length = some 0 := sqP (by decide) (by rw [List.length_cons]; omega)
/-- the first place of a sign -/
theorem occ_first1 {l : List Nat} {c : Nat} (h : c ∈ l) : ∃ rest, Builtin.Str.occurrences (S l) (S [c]) 0 (S l).length 1 = l.idxOf c :: rest := by
  have at_iff : ∀ i, StrLaws.At (S l) (S [c]) (S l).length i ↔ l[i]? = some c := by
    intro i
    have e := TL.at_iff (x := S l) (y := S [c]) (by show [c] ≠ []; simp) i
    refine e.trans ?_
    show (((l.drop i).take 1 == [c]) = true) ↔ _
    rw [beq_iff_eq]
    constructor
    · intro q
      cases e2 : l.drop i with
      | nil =>
        rw [e2] at q
        cases q
      | cons a r =>
        rw [e2] at q
        have e3 : a = c := by
          simpa using q
        rw [← e3]
        have e4 : (l.drop i)[0]? = some a := by rw [e2]; rfl
        rw [List.getElem?_drop] at e4
        exact e4
    · intro q
      have hi : i < l.length := (List.getElem?_eq_some_iff.mp q).1
      rw [List.drop_eq_getElem_cons hi]
      have e3 : l[i] = c := (List.getElem?_eq_some_iff.mp q).2
      rw [e3]
      rfl
  rcases StrLaws.occ_head (S l) (S [c]) 1 (Nat.le_refl 1) with ⟨_, hn⟩ | ⟨i, r, e, ha, hn⟩
  · obtain ⟨i, hi, e⟩ := List.mem_iff_getElem.mp h
    exact absurd ((at_iff i).mpr (by rw [List.getElem?_eq_getElem hi, e])) (hn i)
  · refine ⟨r, ?_⟩
    rw [e]
    congr 1
    have h1 := (at_iff i).mp ha
    have hi : i < l.length := (List.getElem?_eq_some_iff.mp h1).1
    have e1 : l[i] = c := (List.getElem?_eq_some_iff.mp h1).2
    have hj : l.idxOf c < l.length := List.idxOf_lt_length_iff.mpr h
    have e2 : l[l.idxOf c] = c := List.getElem_idxOf hj
    rcases Nat.lt_trichotomy i (l.idxOf c) with z | z | z
    · exfalso
      have := List.not_of_lt_findIdx (p := (· == c)) (xs := l) (i := i) z
      simp [e1] at this
    · exact z
    · exfalso
      exact hn _ z ((at_iff _).mpr (by rw [List.getElem?_eq_getElem hj, e2]))
/-- a list cut at the first sign c -/
theorem cut_first {l : List Nat} {c : Nat} (h : c ∈ l) : l = l.take (l.idxOf c) ++ c :: l.drop (l.idxOf c + 1) ∧ c ∉ l.take (l.idxOf c) := by
  have hj : l.idxOf c < l.length := List.idxOf_lt_length_iff.mpr h
  refine ⟨?_, ?_⟩
  · have e2 : l[l.idxOf c] = c := List.getElem_idxOf hj
    have e3 := List.drop_eq_getElem_cons hj
    rw [e2] at e3
    rw [← e3, List.take_append_drop]
  · intro hm
    obtain ⟨i, hi, e⟩ := List.mem_iff_getElem.mp hm
    rw [List.length_take] at hi
    have hi1 : i < l.idxOf c := by omega
    have := List.not_of_lt_findIdx (p := (· == c)) (xs := l) (i := i) hi1
    rw [List.getElem_take] at e
    simp [e] at this
theorem cut_unique {a b a' b' : List Nat} {c : Nat} (h : a ++ c :: b = a' ++ c :: b') (ha : c ∉ a) (ha' : c ∉ a') : a = a' ∧ b = b' := by
  induction a generalizing a' with
  | nil =>
    cases a' with
    | nil => exact ⟨rfl, by simpa using h⟩
    | cons d r =>
      have e : c = d := by simpa using (List.cons.inj h).1
      exact absurd (List.mem_cons.mpr (.inl e)) ha'
  | cons d r ih =>
    cases a' with
    | nil =>
      have e : d = c := by simpa using (List.cons.inj h).1
      exact absurd (List.mem_cons.mpr (.inl e.symm)) ha
    | cons d' r' =>
      obtain ⟨e1, e2⟩ := List.cons.inj h
      obtain ⟨e3, e4⟩ := ih e2 (fun z => ha (List.mem_cons_of_mem _ z)) (fun z => ha' (List.mem_cons_of_mem _ z))
      exact ⟨by rw [e1, e3], e4⟩
end TK
namespace TK
open PySem PySem.Spec PyProof.Rows L2 SX
theorem Keep.upd {H H' : Hp} {s c D : Addr} {o : HO} (k : Keep H H' s c) (hD : H D = none) : Keep H (upd H' D o) s c := fun b u e h1 h2 => by
  rw [upd_ne (ne_of_none e hD)]
  exact k b u e h1 h2
theorem StAt.upd {H : Hp} {s c D : Addr} {o : HO} (h : StAt H s c) (h1 : D ≠ s) (h2 : D ≠ c) : StAt (upd H D o) s c := by
  obtain ⟨ne, ⟨n, a⟩, ns, b, l⟩ := h
  exact ⟨ne, ⟨n, by rw [upd_ne h1.symm]; exact a⟩, ns, by rw [upd_ne h2.symm]; exact b, l⟩
theorem StAt.tracked {H : Hp} {s c D : Addr} (h : StAt H s c) (hD : H D = none) : D ≠ s ∧ D ≠ c := by
  obtain ⟨ne, ⟨n, a⟩, ns, b, l⟩ := h
  exact ⟨fun e => (by rw [e, a] at hD; cases hD), fun e => (by rw [e, b] at hD; cases hD)⟩
theorem Keep.none {H H' : Hp} {s c b : Addr} (k : Keep H H' s c) (h : H' b = Option.none) (h1 : b ≠ s) (h2 : b ≠ c) : H b = Option.none := by
  cases e : H b with
  | none => rfl
  | some o =>
    rw [k b o e h1 h2] at h
    cases h
theorem joinL_nil : ∀ l : List (List Nat), TL.joinL [] l = l.flatten
  | [] => rfl
  | [p] => by simp [TL.joinL]
  | p :: q :: r => by
    show p ++ ([] ++ TL.joinL [] (q :: r)) = _
    rw [joinL_nil (q :: r)]
    rfl
/-- texts of one sign, joined -/
theorem join_ones {ys : List Str} (h : ∀ z ∈ ys, z.length = 1) : (Txt.join "" ys).length = ys.length := by
  have e : (Txt.join ("" : Str) ys) = Str.join "" ys := TL.join_eq "" ys
  rw [e, len_eq, TL.tl_join, show TL.tl ("" : Str) = [] by decide +kernel, joinL_nil]
  induction ys with
  | nil => rfl
  | cons a r ih =>
    have h1 := h a (List.mem_cons_self ..)
    rw [len_eq] at h1
    rw [List.map_cons, List.flatten_cons, List.length_append, ih (fun z hz => h z (List.mem_cons_of_mem _ hz)) (TL.join_eq "" r), List.length_cons, h1]
    omega
theorem sum_ones {ys : List Str} (h : ∀ z ∈ ys, z.length = 1) : (ys.map (·.length)).sum = ys.length := by
  induction ys with
  | nil => rfl
  | cons a r ih =>
    rw [List.map_cons, List.sum_cons, ih (fun z hz => h z (List.mem_cons_of_mem _ hz)), h a (List.mem_cons_self ..), List.length_cons]
    omega
theorem cat_len (a b : Str) : (a ++ b).length = a.length + b.length := by
  rw [len_eq, TL.tl_append, List.length_append, ← len_eq, ← len_eq]
end TK
namespace TK
open PySem PySem.Spec PyProof.Rows L2 SX
/-- lc_it with a plain name as target and no test -/
theorem lc_itN {J : It} {n : Nat} {G : Hp → Prop} {Y : Nat → Hp → V → Hp → Prop} (w : Walk J n G Y) {j : Nat} {te : TE} {vs : List Nat} {σ : L2.St} {H1 : Hp} {D : Addr} {Qd : Hp → Prop} (Pv : Nat → Hp → Prop) (h0 : Pv 0 (upd H1 D (.lst []))) (hG : ∀ i H, i ≤ n → Pv i H → G H)
    (hs : ∀ i x H H', i < n → Pv i H → Y i H x H' → wipe ((wipe σ vs).set j (some x)) vs = wipe σ vs ∧ te ((wipe σ vs).set j (some x)) H' fun y H4 => ∃ acc, H4 D = some (.lst acc) ∧ acc.length < sizeLine ∧ Pv (i + 1) (upd H4 D (.lst (acc ++ [y])))) (hd : ∀ H, Pv n H → Qd H) :
    ∃ W : Nat → Nat → Hp → Prop, (∃ m, W 0 m (upd H1 D (.lst []))) ∧ ∀ i m H, W i m H →
      (J.stop i H ∧ Qd H) ∨ (J.go i H ∧ ∃ Nx : Hp → Prop, (∀ H', Nx H' → ∃ m', m' < m ∧ W (i + 1) m' H') ∧ ∀ x H', J.yld i H x H' → gName j x (wipe σ vs) H' fun σ2 H2 => wipe σ2 vs = wipe σ vs ∧ tYes σ2 H2 fun b H3 =>
        if b = true then te σ2 H3 fun y H4 => ∃ acc, H4 D = some (.lst acc) ∧ acc.length < sizeLine ∧ Nx (upd H4 D (.lst (acc ++ [y]))) else Nx H3) :=
  lc_it w Pv h0 hG (fun i x H H' hi p y => ⟨(hs i x H H' hi p y).1, (hs i x H H' hi p y).2⟩) hd
end TK
namespace TK
open PySem PySem.Spec PyProof.Rows L2 SX
theorem slTo (z : Str) {i : Int} (h : 0 ≤ i) : Txt.slice z none (some i) = S ((TL.tl z).take i.toNat) := slice_to (a := TL.tl z) h
theorem slFrom (z : Str) {i : Int} (h : 0 ≤ i) : Txt.slice z (some i) none = S ((TL.tl z).drop i.toNat) := slice_from (a := TL.tl z) h
theorem log_small {i : Int} (h : i.natAbs < 2 ^ 1900) : i.natAbs.log2 < 1920 := by
  by_cases h0 : i.natAbs = 0
  · rw [h0]
    decide
  · exact (Nat.log2_lt h0).mpr (Nat.lt_of_lt_of_le h (Nat.pow_le_pow_right (by decide) (by decide)))
end TK
namespace TK
open PySem PySem.Spec PyProof.Rows L2 SX
/-! ### comprehensions with a test, the heap left alone -/
theorem lc_filt {J : It} {n : Nat} {G : Hp → Prop} {Y : Nat → Hp → V → Hp → Prop} (w : Walk J n G Y) (f : Nat → V) (b : Nat → Bool) {j : Nat} {tt : TT} {te : TE} {vs : List Nat} {σ : L2.St} {H1 : Hp} {D : Addr} {Qd : Hp → Prop} (hn : n ≤ sizeLine)
    (hG : ∀ i, i ≤ n → G (upd H1 D (.lst (((List.range i).filter b).map f))))
    (ht : ∀ (i : Nat) (x : V) (H' : Hp) (k : Bool → Hp → Prop), i < n → Y i (upd H1 D (.lst (((List.range i).filter b).map f))) x H' → k (b i) (upd H1 D (.lst (((List.range i).filter b).map f))) →
      wipe ((wipe σ vs).set j (some x)) vs = wipe σ vs ∧ tt ((wipe σ vs).set j (some x)) H' k)
    (he : ∀ (i : Nat) (x : V) (H' : Hp) (k : V → Hp → Prop), i < n → b i = true → Y i (upd H1 D (.lst (((List.range i).filter b).map f))) x H' → k (f i) (upd H1 D (.lst (((List.range i).filter b).map f))) →
      te ((wipe σ vs).set j (some x)) (upd H1 D (.lst (((List.range i).filter b).map f))) k)
    (hd : Qd (upd H1 D (.lst (((List.range n).filter b).map f)))) :
    ∃ W : Nat → Nat → Hp → Prop, (∃ m, W 0 m (upd H1 D (.lst []))) ∧ ∀ i m H, W i m H →
      (J.stop i H ∧ Qd H) ∨ (J.go i H ∧ ∃ Nx : Hp → Prop, (∀ H', Nx H' → ∃ m', m' < m ∧ W (i + 1) m' H') ∧ ∀ x H', J.yld i H x H' → gName j x (wipe σ vs) H' fun σ2 H2 => wipe σ2 vs = wipe σ vs ∧ tt σ2 H2 fun b H3 =>
        if b = true then te σ2 H3 fun y H4 => ∃ acc, H4 D = some (.lst acc) ∧ acc.length < sizeLine ∧ Nx (upd H4 D (.lst (acc ++ [y]))) else Nx H3) := by
  refine lc_it w (fun i H => H = upd H1 D (.lst (((List.range i).filter b).map f))) rfl (fun i H hi e => e ▸ hG i hi) (fun i x H H' hi e y => ?_) (fun H e => e ▸ hd)
  subst e
  refine ht i x H' _ hi y ?_
  cases hb : b i with
  | true =>
    refine iteT (he i x H' _ hi hb y ⟨_, upd_same, ?_, ?_⟩)
    · rw [List.length_map]
      exact Nat.lt_of_le_of_lt (List.length_filter_le _ _) (by rw [List.length_range]; omega)
    · rw [upd_upd, List.range_succ, List.filter_append, List.map_append, List.filter_cons_of_pos hb]
      rfl
  | false =>
    refine iteF ?_
    rw [List.range_succ, List.filter_append, List.filter_cons_of_neg (by rw [hb]; exact Bool.false_ne_true), List.filter_nil, List.append_nil]
theorem range_filter_getD {α β : Type} (l : List α) (d : α) (p : α → Bool) (f : α → β) : ((List.range l.length).filter (fun i => p (l.getD i d))).map (fun i => f (l.getD i d)) = (l.filter p).map f := by
  have e := range_map_getD l d (fun x => x)
  rw [List.map_id'] at e
  have h : (l.filter p).map f = (((List.range l.length).map (fun i => l.getD i d)).filter p).map f := by rw [e]
  rw [h, List.filter_map, List.map_map]
  rfl
theorem getD_at {α : Type} {l : List α} {i : Nat} {x : α} (d : α) (h : l[i]? = some x) : l.getD i d = x := by
  rw [List.getD_eq_getElem?_getD, h]
  rfl
/-! ### heads with tables -/
def obsX (n : Nat) (fa : List He.Fa) (fn : List He.DefD) (ex : PySem.W.Frag → List Bool) (g : Addr → Option Obj) : He.AlD :=
  ((He.obsD fa fn (He.frG g (He.asD g n))).1 && (ex (He.frG g (He.asD g n))).all id, (He.obsD fa fn (He.frG g (He.asD g n))).2)
def hookX (n : Nat) (fa : List He.Fa) (fn : List He.DefD) (ex : PySem.W.Frag → List Bool) : PySem.W.Hook where
  α := He.AlD
  obs s := obsX n fa fn ex s.heap.get?
  val _ := He.valD fn
  says _ h := ∃ K : PySem.W.Frag, K.In h ∧ He.SaysD fa fn K ∧ (ex K).all id = true
  of _ _ e := by
    have e1 := congrArg (fun z : He.AlD => z.1) e
    have e2 := congrArg (fun z : He.AlD => z.2) e
    obtain ⟨a, b⟩ := Bool.and_eq_true_iff.mp e1
    exact ⟨_, He.frG_in, Prod.ext a e2, b⟩
  keeps _ _ _ c k := let ⟨K, hK, c1, c2⟩ := c; ⟨K, PySem.W.Frag.In.keeps hK k, c1, c2⟩
theorem obsX_eq {n : Nat} {fa : List He.Fa} {fn : List He.DefD} {ex : PySem.W.Frag → List Bool} {g : Addr → Option Obj} {s : Shared} (h : ∀ a, g a = s.heap.get? a) : obsX n fa fn ex g = (hookX n fa fn ex).obs s := by
  obtain rfl : g = s.heap.get? := funext h
  rfl
theorem exAt {l : List Bool} (h : l.all id = true) (i : Nat) {b : Bool} (e : l[i]? = some b) : b = true := List.all_eq_true.mp h b (List.mem_of_getElem? e)
end TK
namespace TK
open PySem PySem.Spec PyProof.Rows L2 SX
/-! ### rules that name the written part, for use within a comprehension -/
section
variable {X : Cx}
theorem inSeqK (K : PySem.W.Frag) (e : X.K = K) : OpR X (compareOp .In) (rIn K false) := by
  subst e
  exact op_in_seq
theorem notInSeqK (K : PySem.W.Frag) (e : X.K = K) : OpR X (compareOp .NotIn) (rIn K true) := by
  subst e
  exact op_notIn_seq
theorem ixListK (K : PySem.W.Frag) (e : X.K = K) : IxR X (rIxL K) := by
  subst e
  exact ix_list
theorem ixTupK (K : PySem.W.Frag) (e : X.K = K) : IxR X (rIxT K) := by
  subst e
  exact ix_tup
theorem isiK (K : PySem.W.Frag) (e : X.K = K) : CallR X (.builtin "isinstance") (rIsi K) := by
  subst e
  exact call_isi
end
end TK
set_option maxHeartbeats 4000000
namespace TK
open PySem PySem.Spec PyProof.Rows L2 SX
theorem same_upd2 {H H' : Hp} {D : Addr} {o : HO} (s : Same H H') (hD : H D = none) : Same H (upd H' D o) := fun b u e => by
  rw [upd_ne (ne_of_none e hD)]
  exact s b u e
theorem joinL_len (y : List Nat) : ∀ l : List (List Nat), (TL.joinL y l).length ≤ (l.map (·.length)).sum + l.length * y.length
  | [] => by simp [TL.joinL]
  | [p] => by simp [TL.joinL]
  | p :: q :: r => by
    have ih := joinL_len y (q :: r)
    show (p ++ (y ++ TL.joinL y (q :: r))).length ≤ _
    rw [List.length_append, List.length_append, List.map_cons, List.sum_cons, List.length_cons (a := p), Nat.succ_mul]
    omega
theorem join_len (y : Str) (ys : List Str) : (Txt.join y ys).length ≤ (ys.map (·.length)).sum + ys.length * y.length := by
  rw [show Txt.join y ys = Str.join y ys from TL.join_eq y ys, len_eq, TL.tl_join]
  have q := joinL_len (TL.tl y) (ys.map TL.tl)
  rw [List.length_map, List.map_map] at q
  have e : (ys.map (fun x : Str => x.length)) = ys.map ((fun x : List Nat => x.length) ∘ TL.tl) := List.map_congr_left fun x _ => len_eq x
  rw [e, len_eq y]
  exact q
theorem sum_le {m : Nat} : ∀ {ys : List Str}, (∀ z ∈ ys, z.length ≤ m) → (ys.map (·.length)).sum ≤ ys.length * m
  | [], _ => Nat.zero_le _
  | a :: r, h => by
    have ih := sum_le (ys := r) fun z hz => h z (List.mem_cons_of_mem _ hz)
    have h1 := h a (List.mem_cons_self ..)
    rw [List.map_cons, List.sum_cons, List.length_cons, Nat.succ_mul]
    omega
theorem nodup_inr : ∀ ys : List Str, (ys.map (Sum.inr : Str → Key)).Nodup ↔ ys.Nodup
  | [] => by simp
  | a :: r => by
    rw [List.map_cons, List.nodup_cons, List.nodup_cons, nodup_inr r, List.mem_map]
    constructor
    · intro q
      exact ⟨fun m => q.1 ⟨a, m, rfl⟩, q.2⟩
    · intro q
      exact ⟨fun ⟨b, m, e⟩ => q.1 (Sum.inr.inj e ▸ m), q.2⟩
theorem key_strs (ys : List Str) : (ys.map (Sum.inr : Str → Key)).map kV = ys.map V.str := by
  rw [List.map_map]
  rfl
/-- the parts of a text are no longer than the text -/
theorem part_len {z y p : Str} (h : p ∈ Txt.split z y) : p.length ≤ z.length := by
  have j := StrLaws.join_split z y
  have sub : ∀ (l : List (List Nat)) (s : List Nat), ∀ x ∈ l, x.length ≤ (TL.joinL s l).length := by
    intro l s
    induction l with
    | nil => exact fun x hx => nomatch hx
    | cons a r ih =>
      intro x hx
      cases r with
      | nil =>
        rw [List.mem_singleton.mp hx]
        exact Nat.le_refl _
      | cons b r =>
        show x.length ≤ (a ++ (s ++ TL.joinL s (b :: r))).length
        rw [List.length_append, List.length_append]
        rcases List.mem_cons.mp hx with q | q
        · rw [q]
          omega
        · have := ih x q
          omega
  have q := sub ((Txt.split z y).map TL.tl) (TL.tl y) (TL.tl p) (List.mem_map.mpr ⟨p, h, rfl⟩)
  rw [← TL.tl_join, j] at q
  rw [len_eq, len_eq]
  exact q
end TK
namespace TK
open PySem PySem.Spec PyProof.Rows L2 SX
/-! ### a word between an expression and what follows -/
def tCutE (t : TE) : TE := fun σ H Q => ∃ Mid : VK, t σ H Mid ∧ ∀ v H', Mid v H' → Q v H'
def tCutT (t : TT) : TT := fun σ H Q => ∃ Mid : Bool → Hp → Prop, t σ H Mid ∧ ∀ b H', Mid b H' → Q b H'
section
variable {X : Cx} {e : Expr}
theorem pe_cut {t : TE} (h : PE X e t) : PE X e (tCutE t) := ⟨fun pins s σ H _ I ⟨Mid, hm, hq⟩ => thn (h.run pins s σ H Mid I hm) fun _ _ ⟨v, H', I', r, q⟩ => ⟨v, H', I', r, hq v H' q⟩⟩
theorem pt_cut {t : TT} (h : PT X e t) : PT X e (tCutT t) := ⟨fun pins s σ H _ I ⟨Mid, hm, hq⟩ => thn (h.run pins s σ H Mid I hm) fun b _ ⟨H', I', q⟩ => ⟨H', I', hq b H' q⟩⟩
end
end TK
set_option maxHeartbeats 4000000
/-! Own classes: rules that name the class, makers and methods by their promises. -/
namespace TK
open PySem PySem.Spec PyProof.Rows L2 SX
def tFldC (C : Addr) (ta : TE) (f : Str) : TE := fun σ H Q => ta σ H fun x H1 => ∃ a dx fs v, x = .ref a ∧ H1 a = some (.ins C dx fs) ∧ fs.lookup f = some v ∧ Q v H1
def sFldC (C : Addr) (ta tv : TE) (f : Str) : TS := fun D σ H => tv σ H fun y H1 => ta σ H1 fun x H2 => ∃ a dx fs, x = .ref a ∧ H2 a = some (.ins C dx fs) ∧ fs.length < 1000 ∧ D.nx σ (upd H2 a (.ins C dx (putF f y fs)))
section
variable {X : Cx} {K : PySem.W.Frag} {C : Addr} {e o value : Expr} {f : Str} {pos pos' : Pos} {ta tv : TE}
theorem pe_fldC (eK : X.K = K) (c : Cls K C) (n : NoAttr K C f) (he : PE X e ta) (hb : attributeBase e f X.env (eval e X.env) = eval e X.env) : PE X (.Attribute e f pos) (tFldC C ta f) := by
  subst eK
  exact ⟨fun pins s σ H Q I h => (pe_fld (pe_cut he) hb).run pins s σ H Q I ⟨_, h, fun v H' ⟨a, dx, fs, w, e1, e2, e3, q⟩ => ⟨a, C, dx, fs, w, e1, e2, c, n, e3, q⟩⟩⟩
theorem ps_fldC (eK : X.K = K) (c : Cls K C) (n : NoAttr K C f) (ha : PE X o ta) (hv : PE X value tv) (hs : swapsWith value (some (.Attribute o f pos')) pos.line X.env = pure false) : PS X (.Assign [.Attribute o f pos'] value pos) (sFldC C ta tv f) := by
  subst eK
  exact ⟨fun pins s σ H D I h => (ps_fld (pe_cut ha) (pe_cut hv) hs).run pins s σ H D I ⟨_, h, fun v H' h2 => ⟨_, h2, fun x H2 ⟨a, dx, fs, e1, e2, e3, q⟩ => ⟨a, C, dx, fs, e1, e2, c, n, e3, q⟩⟩⟩⟩
end
/-! ### few attributes -/
class SmallF (fs : List (Str × V)) (n : outParam Nat) : Prop where
  le : fs.length ≤ n
instance : SmallF [] 0 := ⟨Nat.le_refl _⟩
instance {x : Str × V} {l : List (Str × V)} {n : Nat} [h : SmallF l n] : SmallF (x :: l) (n + 1) := ⟨Nat.succ_le_succ h.le⟩
theorem putF_len {f : Str} {v : V} : ∀ fs : List (Str × V), (putF f v fs).length ≤ fs.length + 1
  | [] => Nat.le_refl _
  | (g, x) :: r => by
    show (if g = f then (g, v) :: r else (g, x) :: putF f v r).length ≤ _
    by_cases h : g = f
    · rw [if_pos h]
      exact Nat.le_succ _
    · rw [if_neg h]
      exact Nat.succ_le_succ (putF_len r)
instance {f : Str} {v : V} {l : List (Str × V)} {n : Nat} [h : SmallF l n] : SmallF (putF f v l) (n + 1) := ⟨Nat.le_trans (putF_len l) (Nat.succ_le_succ h.le)⟩
theorem sm {fs : List (Str × V)} {n : Nat} [h : SmallF fs n] (hn : n < 1000 := by decide) : fs.length < 1000 := Nat.lt_of_le_of_lt h.le hn
/-! ### makers -/
section
variable {P : Program} {w : World} {K : PySem.W.Frag} {mg : Str → Option Value} {base : Heap}
structure MakK (P : Program) (w : World) (K : PySem.W.Frag) (mg : Str → Option Value) (base : Heap) (k : Nat) (x : Str) (C : Addr) (sp : Sp) (n : Nat) (ks : List Str) (gV : List V → List V → List V) : Prop where
  ex : ∃ (f : Addr) (fd : FuncData) (ps : List Str) (g : List Value → List Value → List Value), Mk K C f ∧ FnOk P w K mg base L2.CX0 k f fd ps sp ∧ mg x = some (.ref C) ∧ KBn K fd ps (n + 1) ks g gV
theorem mak_of {C : Addr} {x n qual : Str} {params : Arguments} {body : List Stmt} {scope : Scope} {f : Addr} {fd : FuncData} {ps : List Str} {k : Nat} {sp : Sp} (M : Mk K C f) (hm : mg x = some (.ref C)) (F : FunD K n qual params body scope [] [] f fd) (G : FnOk P w K mg base L2.CX0 k f fd ps sp)
    (h : ∀ (kV doc pm : Value) (an : Option Addr) (cdv ct : Value) (us : List Value), us.length = ps.length → bindArgs (PySem.W.fnOf n qual params body scope .none kV doc pm an cdv ct) ⟨us, []⟩ = pure (ps.zip us)) : C8.Mak P w K mg base k x C sp [] :=
  ⟨f, fd, ps, [], M, G, hm, F.bindsN h, .nil⟩
theorem met_of {C : Addr} {n qual : Str} {params : Arguments} {body : List Stmt} {scope : Scope} {f : Addr} {fd : FuncData} {ps : List Str} {k : Nat} {sp : Sp} (c : Cls K C) (m : Meth K C n f) (F : FunD K n qual params body scope [] [] f fd) (G : FnOk P w K mg base L2.CX0 k f fd ps sp)
    (h : ∀ (kV doc pm : Value) (an : Option Addr) (cdv ct : Value) (us : List Value), us.length = ps.length → bindArgs (PySem.W.fnOf n qual params body scope .none kV doc pm an cdv ct) ⟨us, []⟩ = pure (ps.zip us)) : C8.Met P w K mg base k C n sp [] :=
  ⟨f, fd, ps, [], c, m, G, F.bindsN h, .nil⟩
theorem metD_of {C : Addr} {n qual : Str} {params : Arguments} {body : List Stmt} {scope : Scope} {dvs : List V} {f : Addr} {fd : FuncData} {ps : List Str} {k : Nat} {sp : Sp} (c : Cls K C) (m : Meth K C n f) (F : FunD K n qual params body scope dvs [] f fd) (G : FnOk P w K mg base L2.CX0 k f fd ps sp) (hd : dvs ≠ []) (hn : dvs.length ≤ ps.length)
    (h : ∀ (T : Addr) (kV doc pm : Value) (an : Option Addr) (cdv ct : Value) (us its : List Value), us.length = ps.length - dvs.length → its.length = dvs.length →
      ∃ k, bindArgs (PySem.W.fnOf n qual params body scope (.ref T) kV doc pm an cdv ct) ⟨us, []⟩ = seqItems? (.ref T) >>= k ∧ k (some its.toArray) = pure (ps.zip (us ++ its.drop 0))) : C8.Met P w K mg base k C n sp dvs := by
  obtain ⟨ds, h1, h2⟩ := F.binds1 (ps := ps) (ps.length - dvs.length) 0 hd (by omega) h
  exact ⟨f, fd, ps, ds, c, m, G, h2, by simpa using h1⟩
end
section
variable {X : Cx} {k j n : Nat} {C : Addr} {x : Str} {sp : Sp} {p pos : Pos} {e : Expr} {es : List Expr} {kws : List Keyword} {ks : List Str} {t tk : TA} {gV : List V → List V → List V}
theorem pe_mk0 {dvs : List V} (c : C8.Mak X.prog X.w X.K X.mg X.base k x C sp dvs) (hr : Room j X.A) (hk : k + 1 ≤ j) (hg : Gl X x) (hdb : (x == ("__debug__" : Str)) = false := by decide) : PE X (.Call (.Name x p) [] [] pos) (tMake C sp dvs L2.E0 tNil) := by
  obtain ⟨f, fd, ps, ds, M, F, hm, b, d⟩ := c.ex
  exact pe_make0 M F (hr.mono hk) hg hm b d L2.pass0 hdb
theorem pe_mkK0 (c : MakK X.prog X.w X.K X.mg X.base k x C sp 0 ks gV) (hr : Room j X.A) (hk : k + 1 ≤ j) (hg : Gl X x) (hkw : PK X kws tk)
    (hall : (backToKw pos (keywordEach kws X.env)).all (·.1.isSome) = true := by rfl) (hks : (backToKw pos (keywordEach kws X.env)).filterMap (·.1) = ks := by rfl) (hdb : (x == ("__debug__" : Str)) = false := by decide)
    (hpl : ((backTo pos (starEach [] X.env)).any (·.1) || (backToKw pos (keywordEach kws X.env)).any (·.1.isNone)) = false := by rfl) :
    PE X (.Call (.Name x p) [] kws pos) (tMakeK C 0 ks.length sp gV L2.E0 tNil tk) := by
  obtain ⟨f, fd, ps, g, M, F, hm, b⟩ := c.ex
  exact pe_makeK0 M F (hr.mono hk) hg hm b L2.pass0 hkw hall hks hdb hpl
end
/-! ### new objects -/
theorem same_own {H : Hp} {x dx C : Addr} {fs : List (Str × V)} (hx : H x = none) (hd : H dx = none) : Same H (upd (upd H dx (.own x)) x (.ins C dx fs)) := fun b o e => by
  rw [upd_ne (ne_of_none e hx), upd_ne (ne_of_none e hd)]
  exact e
theorem Same.upd_of {H H' : Hp} {a : Addr} {o : HO} (s : Same H H') (h : H a = none) : Same H (upd H' a o) := fun b u e => by
  rw [upd_ne (ne_of_none e h)]
  exact s b u e
/-! ### texts that can be laid -/
theorem ok_iff {z : Str} : PyData.strOk z = true ↔ ∀ c ∈ TL.tl z, c < 0x110000 := by
  unfold PyData.strOk TL.tl
  rw [Array.all_eq_true']
  constructor
  · intro h c hc
    simpa using h c (by simpa using hc)
  · intro h c hc
    simpa using h c (by simpa using hc)
theorem ok_cat {a b : Str} (ha : PyData.strOk a = true) (hb : PyData.strOk b = true) : PyData.strOk (a ++ b) = true := by
  rw [ok_iff] at *
  intro c hc
  rw [TL.tl_append, List.mem_append] at hc
  exact hc.elim (ha c) (hb c)
theorem joinL_mem {s : List Nat} {c : Nat} : ∀ l : List (List Nat), c ∈ TL.joinL s l → c ∈ s ∨ ∃ p ∈ l, c ∈ p
  | [], h => by simp [TL.joinL] at h
  | [p], h => .inr ⟨p, List.mem_singleton.mpr rfl, by simpa [TL.joinL] using h⟩
  | p :: q :: r, h => by
    have h2 : c ∈ p ++ (s ++ TL.joinL s (q :: r)) := h
    rw [List.mem_append, List.mem_append] at h2
    rcases h2 with h2 | h2 | h2
    · exact .inr ⟨p, List.mem_cons_self .., h2⟩
    · exact .inl h2
    · rcases joinL_mem (q :: r) h2 with h3 | ⟨x, h3, h4⟩
      · exact .inl h3
      · exact .inr ⟨x, List.mem_cons_of_mem _ h3, h4⟩
theorem ok_join {y : Str} {l : List Str} (hy : PyData.strOk y = true) (hl : ∀ z ∈ l, PyData.strOk z = true) : PyData.strOk (Txt.join y l) = true := by
  rw [TL.join_eq, ok_iff]
  intro c hc
  rw [TL.tl_join] at hc
  rcases joinL_mem _ hc with h | ⟨p, hp, h⟩
  · exact ok_iff.mp hy c h
  · obtain ⟨z, hz, rfl⟩ := List.mem_map.mp hp
    exact ok_iff.mp (hl z hz) c h
def numS (i : Int) : Str := Str.ofString (toString i)
theorem numS_tl {i : Int} (h : 0 ≤ i) : TL.tl (numS i) = TL.numL i.toNat := by
  have e : i = ((i.toNat : Nat) : Int) := (Int.toNat_of_nonneg h).symm
  rw [e]
  exact TL.tl_num _
theorem ok_num {i : Int} (h : 0 ≤ i) : PyData.strOk (numS i) = true := by
  rw [ok_iff, numS_tl h]
  intro c hc
  exact Nat.lt_of_not_le fun q => TL.numL_free (n := i.toNat) (s := c) (.inr (by omega)) hc
theorem numS_len {i : Int} (h : i.natAbs < 1000000000) : (numS i).length ≤ 10 := by
  have e := int_text_length_le10 (a := i) (k := 9) (by decide) (by omega)
  show (Str.ofString (toString i)).length ≤ 10
  rw [PySem.ofString_length]
  omega
theorem numS_log {i : Int} (h : i.natAbs < 1000000000) : i.natAbs.log2 < 1920 := log_small (Nat.lt_of_lt_of_le h (by decide))
theorem szl {z : Str} (h : z.length ≤ 100000) : z.length ≤ sizeLine := Nat.le_trans h (by decide)
theorem ne_ins {H : Hp} {a b C C' dx dx' : Addr} {fs fs' : List (Str × V)} (h : H a = some (.ins C dx fs)) (h' : H b = some (.ins C' dx' fs')) (n : fs.length ≠ fs'.length) : a ≠ b :=
  ne_of h h' fun e => by
    injection e with _ _ e2
    exact n (congrArg List.length e2)
/-- only what stands at A has changed -/
def Fr (A : List Addr) (H H' : Hp) : Prop := ∀ b o, H b = some o → b ∉ A → H' b = some o
theorem Fr.of_same {A : List Addr} {H H' : Hp} (s : Same H H') : Fr A H H' := fun b o e _ => s b o e
theorem Fr.refl (A : List Addr) (H : Hp) : Fr A H H := fun _ _ e _ => e
theorem Fr.trans {A : List Addr} {H H1 H2 : Hp} (s : Fr A H H1) (t : Fr A H1 H2) : Fr A H H2 := fun b o e n => t b o (s b o e n) n
theorem Fr.trans_new {A A' : List Addr} {H H1 H2 : Hp} (s : Fr A H H1) (t : Fr A' H1 H2) (n : ∀ b ∈ A', b ∈ A ∨ H b = none) : Fr A H H2 := fun b o e hn => t b o (s b o e hn) fun m => (n b m).elim hn fun z => by rw [e] at z; cases z
end TK
set_option maxHeartbeats 1000000
namespace TK
open PySem PySem.Spec PyProof.Rows L2 SX
def rRpart : V → List V → Hp → VK → Prop := fun x xs H Q => ∃ z y, x = .str z ∧ xs = [.str y] ∧ (y.length == 0) = false ∧ z.length ≤ sizeLine ∧ ∀ p, H p = none → Q (.ref p) (upd H p (.tup [.str (Txt.rpartition z y).1, .str (Txt.rpartition z y).2.1, .str (Txt.rpartition z y).2.2]))
section
variable {X : Cx} {e o : Expr} {te to : TE}
theorem mt_rpart : MtR X "str.rpartition" rRpart := by
  intro pins s σ H x xs v us Q I rx rs ⟨z, y, ex, exs, hy, hz, h⟩
  subst ex exs
  obtain ⟨tz, rfl⟩ := rx
  match us, rs with
  | [w], .cons r1 .nil =>
    obtain ⟨ty, rfl⟩ := r1
    refine call_meets PySem.F.slot_str_rpartition (typeIs_str _ _ _) PySem.F.entry_str_rpartition (PySem.F.args_str_rpartition_2 _ _) (meets_str_rpartition z y tz ty hy hz) ?_
    have h2 := h
    unfold Txt.rpartition at h2
    revert h2
    cases Builtin.Str.lastOccurrence z y 0 z.length with
    | none => exact fun h2 => laid_parts I h2
    | some i => exact fun h2 => laid_parts I h2
theorem pe_rpartition {apos pos : Pos} (ho : PE X o to) (he : PE X e te) (hs : starEach [e] X.env = [(false, eval e X.env)] := by rfl) (hb : attributeBase o "rpartition" X.env (eval o X.env) = eval o X.env := by rfl) (hl : (apos.endLine == pos.line) = true := by rfl) :
    PE X (.Call (.Attribute o "rpartition" apos) [e] [] pos) (tM1 rRpart to te) := pe_m1 PySem.F.slot_str_rpartition PySem.F.type_str_rpartition mt_rpart ho he hs hb hl
end
/-- what a new object at t, then one at l leaves -/
theorem new2 {H : Hp} {t l : Addr} {o u : HO} (ht : H t = none) (hl : upd H t o l = none) : t ≠ l ∧ H l = none ∧ Same H (upd (upd H t o) l u) ∧ (upd (upd H t o) l u) t = some o ∧ (upd (upd H t o) l u) l = some u := by
  have n : t ≠ l := fun e => by rw [← e, upd_same] at hl; cases hl
  exact ⟨n, by rw [upd_ne n.symm] at hl; exact hl, (same_upd ht).trans (same_upd hl), (upd_ne n).trans upd_same, upd_same⟩
theorem cutV_to (xs : List V) (k : Nat) : cutV xs none (some (k : Int)) = xs.take k := by
  unfold cutV
  have a : HT.sIx xs.length 0 none = 0 := by rfl
  have b : HT.sIx xs.length xs.length (some (k : Int)) = min k xs.length := by
    unfold HT.sIx
    simp
    try omega
  rw [a, b, List.drop_zero, Nat.sub_zero]
  by_cases h : k ≤ xs.length
  · rw [Nat.min_eq_left h]
  · rw [Nat.min_eq_right (by omega), List.take_length, List.take_of_length_le (by omega)]
theorem pi_listK {X : Cx} {tg l : Expr} {tl : TE} (K : PySem.W.Frag) (e : X.K = K) (hl : PE X l tl) : PI X tg l (iList K tl) := by
  subst e
  exact pi_list hl
end TK
set_option maxHeartbeats 1000000
/-! The law's own def at its caller alone, where it is known that no repr is under way; repr of lists and tuples there. -/
namespace TKR
open PySem PySem.Spec PyProof.Rows L2
section
variable {P : Program} {w : World} {K : PySem.W.Frag} {mg : Str → Option Value} {base : Heap}
/-- what FnOk says, but of the law's caller only -/
structure FnC (P : Program) (w : World) (K : PySem.W.Frag) (mg : Str → Option Value) (base : Heap) (f : Addr) (fd : FuncData) (ps : List Str) (sp : Sp) : Prop where
  go : ∀ (s : Shared) (H : Hp) (args : Args) (us : List Value) (vs : List V) (Q : VK), Env0 P w K mg base callerA [] s H → BindsTo s fd args (ps.zip us) → Vals vs us → sp vs H Q (fun _ _ _ => False) → codeAny (model P w) callerA (.call (.ref f) args) (CR CX0 [] P w H s Q fun _ _ _ => False) s
theorem fnC_of {x qual : Str} {params : Arguments} {body : List Stmt} {scope : Scope} {dvs : List V} {kws : List (Str × V)} {f : Addr} {fd : FuncData} {N ps : List Str} {k : Nat} {sp : Sp} (F : FunD K x qual params body scope dvs kws f fd) (S : FnScope N ps scope) (hr : Room (k + 1) callerA)
    (len : ∀ vs H Q E, sp vs H Q E → vs.length = ps.length)
    (hb : ∀ (cdv : Value) (s : Shared) (H : Hp) (vs : List V) (Q : VK) (E : XK), Room k (callerA.deeper (envOfC qual scope s.heap.objs.size f cdv)) → sp vs H Q E →
      ∃ t, PSs (cxOf CX0 P w K mg base N qual scope f cdv callerA [] s H E) body t ∧ t { nx := fun _ H' => Q .non H', rt := Q } (start N vs) H) : FnC P w K mg base f fd ps sp := by
  obtain ⟨oc, od, dV, kV, doc, pm, an, cdv, ct, osl, rfl, lk, hcd, _, _⟩ := F.ex
  constructor
  intro s H args us vs Q ee hbi rv hsp
  have kin : K.In s.heap := ee.mod.kin.keeps fun b o e => (ee.bs b o e).1
  have lim : s.heap.NoLimit := ee.mod.nolimit.keeps fun b o e => (ee.bs b o e).1
  have kinds : ∀ y ∈ ps.zip us, scope.names.lookup y.1 = some .local ∨ (scope.names.lookup y.1 = some .cell ∧ ((cellsFrom (s.heap.objs.size + 1) scope.names []).lookup y.1).isSome = true) := by
    rintro ⟨n, v⟩ hy
    have hn := (List.of_mem_zip hy).1
    exact (S.par n hn).imp (fun q => q) fun q => ⟨q, PySem.W.cellsFrom_some _ _ _ (.inl q)⟩
  refine codeAny_call_function hr.depth (kin _ _ lk) rfl S.co S.gen rfl (PySem.W.codeRec_of kin hcd) (hbi _ _ _ _ (wpAny_newFunctionEnv_cells S.kind kinds fun env he s1 x => ?_))
  subst he
  refine ⟨lim.keeps x.toInCall.keep, codeAny_func ?_⟩
  obtain ⟨t, ht, hq⟩ := hb cdv s H vs Q _ (hr.deeper _) hsp
  have I := inv_start (CX := CX0) (E := fun _ _ _ => False) S hr.hd ee (len _ _ _ _ hsp) rv x
  refine wpAny_mono (ht.run [] s1 _ H _ I hq) (fun fl s' hs => ?_) fun _ _ z => z
  match fl, hs with
  | .ret u, hs =>
    obtain ⟨v, σ', H', J, r, q⟩ := hs
    exact ⟨v, H', J.os, J.bare, J.base, J.hok, r, q⟩
  | .next, hs =>
    obtain ⟨σ', H', J, q⟩ := hs
    exact ⟨V.non, H', J.os, J.bare, J.base, J.hok, rfl, q⟩
  | .brk, hs =>
    obtain ⟨_, _, _, z⟩ := hs
    cases z
  | .cont, hs =>
    obtain ⟨_, _, _, z⟩ := hs
    cases z
theorem call_ofC {mb : Str → Option Value} {fa a : Addr} {fd : FuncData} {x : Str} {sp : Sp} {st : Shared} {us : List Value} {ns : List Int}
    (kx : K.In st.heap) (gm : st.heap.Ns mainGlobals mg) (gb : st.heap.Ns builtinsNs mb) (bb : ∀ y : Str, y ≠ "__name__" → mb y = bootBuiltins y) (nl : st.heap.NoLimit) (ng : st.gens = #[])
    (obj : st.heap.get? a = some { cls := .type "list", data := .seq us.toArray }) (iri : IntsAre us ns) (few : ns.length ≤ sizeLine)
    (F : ∀ base : Heap, K.In base → base.Ns mainGlobals mg → FnC P w K mg base fa fd [x] sp) (bind : ∀ (s : Shared) (u : Value), BindsTo s fd ⟨[u], []⟩ [(x, u)])
    (told : ∀ H : Hp, Only H → SqL K H a (ns.map V.int) → sp [.ref a] H (fun v _ => v = .bl true) fun _ _ _ => False) :
    codeAny (model P w) callerA (.call (.ref fa) ⟨[.ref a], []⟩) (fun r s' => r = .ok (.ret (.bool true)) ∧ OldK st.heap s'.heap ∧ s'.os = st.os ∧ AllBare s'.gens) st := by
  have rel := vals_ints iri
  have size := iri.length
  have main : ∀ H : Hp, Only H → SqL K H a (ns.map V.int) → HOk P w H st.heap → (∀ c, H c ≠ none → c = a) → (H a ≠ none → K.lookup a = none) →
      codeAny (model P w) callerA (.call (.ref fa) ⟨[.ref a], []⟩) (fun r s' => r = .ok (.ret (.bool true)) ∧ OldK st.heap s'.heap ∧ s'.os = st.os ∧ AllBare s'.gens) st := by
    intro H only sq hok one free
    have back : ∀ {c : Addr} {o : Obj}, st.heap.get? c = some o → H c = none → (hidT st.heap H).get? c = some o := fun e n => hidT_get e n
    have dicts : ∀ {c : Addr} {o : Obj} {es : Array DictEntry} {ep : Nat}, st.heap.get? c = some o → o.data = .dict es ep → H c = none := by
      intro c o es ep e d
      by_cases q : H c = none
      · exact q
      · have ec := one c q
        subst ec
        rw [obj] at e
        cases e
        exact Data.noConfusion d
    have names : ∀ {c : Addr} {m : Str → Option Value}, st.heap.Ns c m → (hidT st.heap H).Ns c m := by
      rintro c m ⟨o, es, ep, e, d, r⟩
      exact ⟨o, es, ep, back e (dicts e d), d, r⟩
    have inb : K.In (hidT st.heap H) := by
      intro c o e
      refine back (kx c o e) ?_
      by_cases q : H c = none
      · exact q
      · have ec := one c q
        subst ec
        rw [free q] at e
        cases e
    have md : Mod K mg (hidT st.heap H) := ⟨inb, names gm, ⟨mb, names gb, bb⟩, nl.elim fun mc z => ⟨mc, names z.1, z.2⟩⟩
    have ee : Env0 P w K mg (hidT st.heap H) callerA [] st H := ⟨rfl, md, fun _ _ e => of_hidT e, Nat.le_of_eq (hidT_size _ _), trivial, (fun c hc => nomatch hc), hok, .of_eq ng⟩
    refine codeAny_mono ((F _ inb (names gm)).go st H ⟨[.ref a], []⟩ [.ref a] [.ref a] _ ee (bind st (.ref a)) (.cons rfl .nil) (told H only sq)) (fun r s' h => ?_)
    match r, h with
    | .error e, h => exact False.elim h
    | .ok .next, h => exact False.elim h
    | .ok .brk, h => exact False.elim h
    | .ok .cont, h => exact False.elim h
    | .ok (.ret u), h =>
      obtain ⟨v, H', eo, bare, un, ok2, rv, ev⟩ := h
      have ev' : v = .bl true := ev
      subst ev'
      obtain rfl : u = Value.bool true := rv
      refine ⟨rfl, OldK.of_keep (fun c o e => ?_), eo, bare⟩
      rcases only c with z | ⟨oc, xs, z⟩
      · exact un.keep c o e z (fun q => nomatch q) (fun q => nomatch q)
      · have e1 := (hok c _ z).1
        have e2 := (ok2 c _ (un.frzs c oc _ z)).1
        rw [e] at e1
        cases e1
        exact e2
  by_cases hk : K.lookup a = none
  · refine main (fun c => if c = a then some (.frz { cls := .type "list", data := .seq us.toArray } (.lst (ns.map V.int))) else none) (fun c => ?_) (.inl (.inr ⟨_, if_pos rfl⟩)) (fun c u z => ?_) (fun c z => ?_) (fun _ => hk)
    · by_cases h : c = a
      · exact .inr ⟨_, _, if_pos h⟩
      · exact .inl (if_neg h)
    · by_cases h : c = a
      · subst h
        dsimp only at z
        rw [if_pos rfl] at z
        cases z
        exact ⟨obj, by rw [List.length_map]; exact few, us, _, rel, obj⟩
      · dsimp only at z
        rw [if_neg h] at z
        cases z
    · by_cases h : c = a
      · exact h
      · rw [if_neg h] at z
        exact absurd rfl z
  · obtain ⟨o, ho⟩ := Option.ne_none_iff_exists'.mp hk
    have e := kx a o ho
    rw [obj] at e
    cases e
    exact main (fun _ => none) (fun _ => .inl rfl) (.inr ⟨_, us.toArray, _, ho, rfl, rfl, rfl, by rw [List.size_toArray, size]; exact few, by simpa using rel⟩) (fun _ _ z => nomatch z) (fun _ z => absurd rfl z) (fun z => absurd rfl z)
end
theorem walk_ofC {l : PySem.W.OpenLaw} {n : Nat} {q : Program} {loose : List Str} {XP : (Str → Option Value) → Heap → Prop} {YP : World → Heap → Prop} {d : DefRec} {x : Str} (hn : l.most = some n) (hz : n ≤ sizeLine) (hdf : d.params.defaults = [])
    (F : ∀ (w : World) (mg : Str → Option Value) (fa : Addr) (h : Heap), YP w h → h.Ns mainGlobals mg → mg d.name = some (.ref fa) →
      ∃ (K : PySem.W.Frag) (fd : FuncData) (sp : Sp), K.In h ∧ (∀ (s : Shared) (u : Value), BindsTo s fd ⟨[u], []⟩ [(x, u)]) ∧
        (∀ (H : Hp) (a : Addr) (ns : List Int), ns.length ≤ n → Only H → SqL K H a (ns.map V.int) → sp [.ref a] H (fun v _ => v = .bl true) fun _ _ _ => False) ∧ ∀ base : Heap, K.In base → base.Ns mainGlobals mg → FnC l.prog w K mg base fa fd [x] sp) :
    PySem.W.WalkO q loose XP YP l.row.toRowW d [] (fun f vs => PySem.call f vs) := by
  refine Att.attach_call hn hdf (fun w _ st mg mb fa o pm cd doc a us ns G Y _ _ _ hm obj iri hl hg => ?_)
  obtain ⟨K, fd, sp, kx, hb, hs, hF⟩ := F w mg fa _ Y G.T.g hm
  exact call_ofC kx G.T.g G.T.b G.T.builtins G.T.nolimit hg obj iri (Nat.le_trans hl hz) hF hb (fun H ho hq => hs H a ns hl ho hq)
/-! ### repr -/
def rRep (K : PySem.W.Frag) : List V → Hp → VK → Prop := fun xs H Q => ∃ (a : Addr) (d : PyData), xs = [.ref a] ∧ Dp K H (.ref a) d ∧ d.showable = true ∧ d.hasDict = false ∧ d.depth ≤ 8 ∧ d.shown.length ≤ sizeLine ∧ Q (.str d.shown) H
theorem call_repr {X : Cx} (hg : X.A.guards = some []) (hu : X.A.units + 64 < cLine) : CallR X (.builtin "repr") (rRep X.K) := by
  intro pins s σ H xs us Q I r h
  obtain ⟨a, d, rfl, hd, hs, hn, hp, hz, q⟩ := h
  obtain ⟨u, rfl, ru⟩ := r.one
  obtain rfl : u = Value.ref a := ru
  obtain ⟨as, rd⟩ := Dp.reads I d _ _ hd rfl
  exact PySem.repr_of_reads' rd hs (fun z => by rw [hn] at z; cases z) hg (by omega) (fun _ _ e => e) (fun h' u tk kk => ⟨.str d.shown, H, I.kept kk, ⟨u, rfl⟩, q⟩) hz
end TKR
set_option maxHeartbeats 1000000
/-! for i, x in enumerate(xs) with an invariant. -/
namespace TK
open PySem PySem.Spec PyProof.Rows L2 SX
theorem for_enum {K : PySem.W.Frag} {a : Addr} {xs : List V} {g : TG} {tb : TS} {D : Ends} {σ : L2.St} {H : Hp} (Pv : Nat → L2.St → Hp → Prop) (h0 : Pv 0 σ H) (hl : ∀ i σ H, i ≤ xs.length → Pv i σ H → SqL K H a xs)
    (hs : ∀ i x T σ H, xs[i]? = some x → Pv i σ H → H T = none → g (.ref T) σ (upd H T (.tup [.int (i : Nat), x])) fun σ2 H2 => tb { D with nx := Pv (i + 1), ct := Pv (i + 1), bk := D.nx } σ2 H2) (hd : ∀ σ H, Pv xs.length σ H → D.nx σ H) :
    ∃ W : Nat → Nat → L2.St → Hp → Prop, (∃ m, W 0 m σ H) ∧ ∀ i m σ H, W i m σ H →
      ((Ite K a).stop i H ∧ D.nx σ H) ∨ ((Ite K a).go i H ∧ ∃ N : L2.St → Hp → Prop, (∀ σ' H', N σ' H' → ∃ m', m' < m ∧ W (i + 1) m' σ' H') ∧ ∀ x H', (Ite K a).yld i H x H' → g x σ H' fun σ2 H2 => tb { D with nx := N, ct := N, bk := D.nx } σ2 H2) := by
  refine ⟨fun i m σ H => m + i = xs.length ∧ Pv i σ H, ⟨xs.length, rfl, h0⟩, fun i m σ H q => ?_⟩
  obtain ⟨e, p⟩ := q
  have sq := hl i σ H (by omega) p
  by_cases lt : i < xs.length
  · refine .inr ⟨⟨xs, xs[i], sq, List.getElem?_eq_getElem lt⟩, Pv (i + 1), fun σ' H' z => ⟨m - 1, by omega, by omega, z⟩, fun x H' y => ?_⟩
    obtain ⟨T, v, rfl, hT, rfl, hx⟩ := y
    exact hs i v T σ H (hx xs sq) p hT
  · obtain rfl : i = xs.length := by omega
    exact .inl ⟨⟨xs, sq, Nat.le_refl _⟩, hd σ H p⟩
end TK
set_option maxHeartbeats 2000000
/-! Own exceptions over own classes over ValueError, whose __init__ says super().__init__(text) and keeps one field. -/
namespace TKE
open PySem PySem.Spec PyProof.Rows L2
structure SupTxt (K : PySem.W.Frag) (P : Program) (C fI cda cc : Addr) : Prop where
  oex : OexC K C
  iC : PySem.W.findIn K (.ref C) "__init__" = some (some (.ref fI))
  tI : PySem.W.typeIn K (.ref fI) = some (.type "function")
  sup : PySem.W.ks_superIn K C C "__init__" = some (some (.builtin "ValueError.__init__"))
  subVE : PySem.W.subIn K (.ref C) (.type "ValueError") = some true
  mroC : PySem.W.mroIn K C (.ref C) = some true
  hop : PySem.W.nsIn K cStatics "thirdparty.any" = some none
  code : ∃ ccl cdd vs ccs file tf, K.lookup cda = some ⟨ccl, cdd, .fields vs, ccs⟩ ∧ vs[2]? = some (.str file tf) ∧ ((P.main.file : Str) == file) = true
  cell : ∃ cl cld csl, K.lookup cc = some ⟨cl, cld, .cell (some (.ref C)), csl⟩
section
variable {prog : Program} {w : World} {A : Around} {E : Value → Shared → Prop} {h : Heap} {g : Array GenState} {d : Drawn} {t : Nat} {os : OsState}
/-- the bound ValueError.__init__, called -/
theorem mw_call {nm q : Str} {C N u a t0 : Addr} {bs bm : List Value} {hdct : Bool} {sn : List Str} {sub : List Value} {ab : Bool} {col : Option Bool} {dd : Option Addr} {k0 k1 k2 k3 k5 : Option Value} {rest : List Value} {Q : Value → Shared → Prop}
    (hC : h.get? C = some (excClassObj nm q C N bs bm hdct sn sub ab col dd k0 k1 k2 k3 k5 "ValueError.__new__"))
    (he : h.get? a = some ({ cls := .ref C, dict := none, data := .fields #[.ref t0, .none, .none, .none, .bool false, .none] } : Obj)) (hu : h.get? u = some (PySem.W.kxs_mw "ValueError.__init__" a)) (hz : rest.length ≤ sizeLine)
    (hq : ∀ h' t', (∀ b o, b ≠ a → h.get? b = some o → h'.get? b = some o) → h'.get? a = some ({ cls := .ref C, dict := none, data := .fields #[.ref t', .none, .none, .none, .bool false, .none] } : Obj) → Q .none ⟨h', g, d, t, os⟩) :
    wpAny (model prog w) A (call (.ref u) rest) Q E ⟨h, g, d, t, os⟩ := by
  have FB := F.excBase_ValueError
  refine wpAny_call (codeAny_of_tree ?_)
  change wpAny _ A.in1 (callAny (.ref u) ⟨rest, []⟩) _ _ _
  simp only [callAny]
  refine wpAny_bind (wpAny_load hu ?_)
  have em : (Value.type "method-wrapper" == Value.type "method" || Value.type "method-wrapper" == Value.type "builtin_function_or_method" || Value.type "method-wrapper" == Value.type "method-wrapper") = true := by decide
  simp only [PySem.W.kxs_mw, em, if_true]
  refine PySem.W.KFB.if_so (by decide) ?_
  refine wpAny_bind (PySem.W.check_bound_init FB.toExcCallFacts hC he rfl (wpAny_bind (wpAny_pure (wpAny_pure ?_))))
  refine ⟨plainId_quiet FB.init.plain _, codeAny_builtin FB.initEntry (PySem.W.exc_init_tree (t0 := t0) (cls := .ref C) (dv := none) (c2 := .none) (c3 := .none) (b4 := .bool false) he hz fun h' k e' _ => hq h' _ k e')⟩
end
theorem boot_super : bootBuiltins "super" = some (.type "super") := by first | boot_by_name | rfl | kernel_rfl
section
variable {X : Cx} {pins : List (Addr × Obj)} {σ : L2.St} {H : Hp} {s : Shared} {C fI cda cc a : Addr} {body : List Stmt} {p0 p1 apos pos pos' : Pos} {e : Expr} {te : TE} {pl : Sem Bool} {fd : FuncData} {ar : Arg} {Q' : Hp → Prop} {oc : Value} {od : Option Addr} {osl : Array (Option Value)}
theorem sup_stmt (T : SupTxt X.K X.prog C fI cda cc) (hfu : X.env.func = some fI) (hf : X.K.lookup fI = some ⟨oc, od, .func fd, osl⟩) (hp : (fd.params.posonlyargs ++ fd.params.args).head? = some ar) (hco : X.env.code = .ref cda)
    (hks : X.env.kindOf "super" = some .globalImplicit) (hkc : X.env.kindOf "__class__" = some .free) (hcl : X.env.cells.lookup ("__class__" : Str) = some cc) (hka : X.env.kindOf ar.arg = some .local) (hN : X.N[0]? = some ar.arg)
    (hm : X.mg "super" = none) (htop : (X.prog.main.scope.names.lookup ("super" : Str)).isSome = false)
    (I : Inv X pins σ H s) (hσ : σ[0]? = some (some (.ref a))) (ha : H a = some (exo a C none)) (he : PE X e te) (h : te σ H fun v H1 => H1 a = some (exo a C none) ∧ Q' H1 ∧ [v].length = 1)
    (hev : eval (.Call (.Attribute (.Call (.Name "super" p0) [] [] p1) "__init__" apos) [e] [] pos) X.env = (do
      let ov ← attributeBase (.Call (.Name "super" p0) [] [] p1) "__init__" X.env (eval (.Call (.Name "super" p0) [] [] p1) X.env)
      standAt apos.atName
      let (f, first) ← holding [ov] (getMethod ov "__init__" pl)
      callWith pos f first (backTo pos (starEach [e] X.env)) []))
    (hi : interactive X.env = false) (hsw : swapsWith (.Call (.Attribute (.Call (.Name "super" p0) [] [] p1) "__init__" apos) [e] [] pos) none pos'.line X.env = pure false)
    (hst : starEach [e] X.env = (false, eval e X.env) :: starEach [] X.env) :
    _root_.PySem.wpAt (model X.prog X.w) X.A (.func body X.env) (exec (.Expr (.Call (.Attribute (.Call (.Name "super" p0) [] [] p1) "__init__" apos) [e] [] pos) pos') X.env) (fun fl s' => fl = .next ∧ ∃ H1, Inv X pins σ H1 s' ∧ Q' H1) X.xe s := by
  have KX := I.kIn
  refine ks_wpAt_Expr_any (ks_wpAt_MethodCall (pl := pl) ?_ hev) hi hsw
  obtain ⟨ccl, cdd, vs, ccs, file, tf, hcd, hvs, hfile⟩ := T.code
  obtain ⟨cl, cld, csl, hcc⟩ := T.cell
  refine ks_wpAt_super_base hks hkc (by decide) hfu (KX _ _ hf) rfl hp hco (KX _ _ hcd) rfl hvs hfile htop ?_
  obtain ⟨mb, hb1, hb2⟩ := I.mod.blt
  refine PySem.W.ks_loadName_global I.ok.kind hks (Calls.loadGlobal_builtin (by rw [I.ok.glob]; exact I.mod.glob.keeps I.bk) hm (by rw [I.ok.blt]; exact hb1.keeps I.bk) ((hb2 _ (by decide)).trans boot_super) ⟨rfl, ?_⟩)
  refine wpAny_loadName_free I.ok.kind hkc hcl ⟨_, KX _ _ hcc, rfl⟩ ?_
  obtain ⟨m, hns, hloc⟩ := I.loc
  obtain ⟨u, ru, hlk⟩ := hloc 0 ar.arg (.ref a) hN hσ (.inl hka)
  obtain rfl : u = Value.ref a := ru
  have hv : m ar.arg = some (.ref a) := by
    rcases hlk with ⟨_, z⟩ | ⟨z, _⟩
    · exact z
    · rw [hka] at z
      rcases z with z | z <;> cases z
  refine wpAny_loadName_local I.ok.kind hka hns hv ?_
  obtain ⟨nm, q, N, bs, bm, sn, sub, ab, col, dd, k0, k1, k2, k3, k5, hC, hbm⟩ := T.oex.cls
  obtain ⟨t1, ho⟩ := exo_at I.hok ha
  have hkC := KX _ _ hC
  obtain ⟨hp0, g, d, t, os⟩ := s
  refine ks_wpAny_isType_cls hkC rfl ⟨rfl, ?_⟩
  refine ks_wpAny_call_super hkC rfl ho rfl (fun c z => nomatch z) (PySem.W.looks_mroIn KX T.mroC) (fun h1 e1 kk => ?_)
  have I1 : Inv X pins σ H ⟨h1, g, d, t, os⟩ := I.kept (t' := t) kk
  have ho1 := kk _ _ ho
  have aC : a ≠ C := fun z => by
    rw [z] at ho
    have := ho.symm.trans hkC
    cases this
  have hcls : PySem.W.clsIn X.K C = some { name := nm, bases := bs, mro := .ref C :: bm, ns := N, qualname := q, hasDict := true, slotNames := sn, subclasses := sub, abstract := ab, collection := col, hasDel := false } := by unfold PySem.W.clsIn; rw [hC] <;> rfl
  have hsup := T.sup
  unfold PySem.W.ks_superIn at hsup
  rw [hcls] at hsup
  have II : PySem.W.InstAt h1 a ({ cls := .ref C, dict := none, data := .fields #[.ref t1, .none, .none, .none, .bool false, .none] } : Obj) C none := ⟨ho1, rfl, rfl, trivial⟩
  refine PySem.W.kxs_getMethod PySem.W.kxs_ValueError e1 (PySem.W.looks_opaque I1.kIn T.hop) (fun A Q E s k q => wpAny_bind ((PySem.W.looks_clsIn I1.kIn hcls) A _ E s k (wpAny_pure q))) rfl I1.kIn hsup (II.type.andThen (PySem.W.looks_subIn I1.kIn T.subVE)) aC (by decide) ?_
  have I2 : Inv X ((h1.objs.size, PySem.W.kxs_mw "ValueError.__init__" a) :: pins) σ H ⟨h1.push (PySem.W.kxs_mw "ValueError.__init__" a), g, d, t + 1, os⟩ :=
    ClX.pin_new I1 (fun b o z => Heap.get?_push_of_some _ z) (Nat.le_refl _) (Heap.get?_push_at rfl rfl) (fun v z => nomatch z)
  refine PySem.W.kxs_callWith (i := "ValueError.__init__") (x := a) (by rw [hst]; rfl) ?_
  rw [hst]
  refine Calls.evalArgs_plain ?_
  have hpa := (pa_cons he pa_nil hst).run pos _ _ σ H (fun vs H1 => H1 a = some (exo a C none) ∧ Q' H1 ∧ vs.length = 1) I2 h
  rw [hst] at hpa
  refine thn hpa fun us s2 ⟨vs2, H2, I3, r, q1, q2, q3⟩ => ?_
  obtain ⟨t2, ho2⟩ := exo_at I3.hok q1
  refine ⟨ClX.pin_at I3, ?_⟩
  obtain ⟨hp2, g2, d2, t2', os2⟩ := s2
  refine mw_call (I3.kIn _ _ hC) ho2 (ClX.pin_at I3) (by show us.length ≤ sizeLine; rw [← r.length, q3]; decide) fun h' t' k' e' => ⟨rfl, H2, ?_, q2⟩
  have J := (ClX.unpin I3).write (t' := t2') (x := a) (e := a) (o := exo a C none) (by rw [q1]; exact True.intro) (.inl rfl) k' ⟨_, e'⟩ (exo_ok e')
  have eu : upd H2 a (exo a C none) = H2 := by
    funext b
    by_cases hb : b = a
    · rw [hb, upd_same, q1]
    · rw [upd_ne hb]
  rw [eu] at J
  exact J
end
end TKE
set_option maxHeartbeats 2000000
set_option pp.maxSteps 300
/-! The __init__ of such an exception as a def; raising it; makers that may raise; isinstance of a caught one. -/
namespace TKE
open PySem PySem.Spec PyProof.Rows L2 NdefX
section
variable {P : Program} {w : World} {K : PySem.W.Frag} {mg : Str → Option Value} {base : Heap}
abbrev supN (x : Str) : List Str := ["self", x, "__class__"]
abbrev supF (qual : Str) (params : Arguments) (body : List Stmt) (scope : Scope) (cda cc : Addr) : NF := ⟨"__init__", qual, params, body, scope, [("__class__", cc)], cda⟩
theorem fnok_sup {C fI cda cc : Addr} {qual x : Str} {params : Arguments} {body : List Stmt} {scope : Scope} {doc pm ct : Value} {an : Option Addr} {oc : Value} {od : Option Addr} {osl : Array (Option Value)} {sp : Sp}
    {p0 p1 apos pos pos' : Pos} {e : Expr} {rest : List Stmt} {ar : Arg} {pl : Sem Bool}
    (T : SupTxt K P C fI cda cc)
    (hK : K.lookup fI = some ⟨oc, od, .func (PySem.W.fnX "__init__" qual params body scope [("__class__", cc)] .none .none doc pm an (.ref cda) ct), osl⟩) (hcd : PySem.W.codeIn K (.ref cda) qual = true)
    (S : NScope (supN x) ["self", x] ["__class__"] scope) (hsup : scope.names.lookup ("super" : Str) = some .globalImplicit) (hcls : scope.names.lookup ("__class__" : Str) = some .free)
    (hp : (params.posonlyargs ++ params.args).head? = some ar) (har : ar.arg = "self")
    (hbody : body = .Expr (.Call (.Attribute (.Call (.Name "super" p0) [] [] p1) "__init__" apos) [e] [] pos) pos' :: rest)
    (hm : mg "super" = none) (htop : (P.main.scope.names.lookup ("super" : Str)).isSome = false)
    (len : ∀ vs H Q E, sp vs H Q E → vs.length = 2)
    (hb : ∀ (A : Around) (outer : List Env) (s : Shared) (H : Hp) (vs : List V) (Q : VK) (E : XK), sp vs H Q E → ∃ (a : Addr) (y : V) (te : TE) (t2 : TS), vs = [.ref a, y] ∧ H a = some (exo a C none) ∧
      PE (ncx CX0 P w K mg base (supN x) (supF qual params body scope cda cc) fI A outer s H E) e te ∧ PSs (ncx CX0 P w K mg base (supN x) (supF qual params body scope cda cc) fI A outer s H E) rest t2 ∧
      te (startF (supN x) vs [none]) H fun v H1 => H1 a = some (exo a C none) ∧ t2 { nx := fun _ H' => Q .non H', rt := Q } (startF (supN x) vs [none]) H1 ∧ [v].length = 1)
    (hev : ∀ (A : Around) (outer : List Env) (s : Shared) (H : Hp) (E : XK), eval (.Call (.Attribute (.Call (.Name "super" p0) [] [] p1) "__init__" apos) [e] [] pos) (ncx CX0 P w K mg base (supN x) (supF qual params body scope cda cc) fI A outer s H E).env = (do
      let ov ← attributeBase (.Call (.Name "super" p0) [] [] p1) "__init__" (ncx CX0 P w K mg base (supN x) (supF qual params body scope cda cc) fI A outer s H E).env (eval (.Call (.Name "super" p0) [] [] p1) (ncx CX0 P w K mg base (supN x) (supF qual params body scope cda cc) fI A outer s H E).env)
      standAt apos.atName
      let (f, first) ← holding [ov] (getMethod ov "__init__" pl)
      callWith pos f first (backTo pos (starEach [e] (ncx CX0 P w K mg base (supN x) (supF qual params body scope cda cc) fI A outer s H E).env)) []))
    (hi : ∀ (A : Around) (outer : List Env) (s : Shared) (H : Hp) (E : XK), interactive (ncx CX0 P w K mg base (supN x) (supF qual params body scope cda cc) fI A outer s H E).env = false)
    (hsw : ∀ (A : Around) (outer : List Env) (s : Shared) (H : Hp) (E : XK), swapsWith (.Call (.Attribute (.Call (.Name "super" p0) [] [] p1) "__init__" apos) [e] [] pos) none pos'.line (ncx CX0 P w K mg base (supN x) (supF qual params body scope cda cc) fI A outer s H E).env = pure false)
    (hst : ∀ (A : Around) (outer : List Env) (s : Shared) (H : Hp) (E : XK), starEach [e] (ncx CX0 P w K mg base (supN x) (supF qual params body scope cda cc) fI A outer s H E).env = (false, eval e (ncx CX0 P w K mg base (supN x) (supF qual params body scope cda cc) fI A outer s H E).env) :: starEach [] (ncx CX0 P w K mg base (supN x) (supF qual params body scope cda cc) fI A outer s H E).env) :
    FnOk P w K mg base CX0 1 fI (PySem.W.fnX "__init__" qual params body scope [("__class__", cc)] .none .none doc pm an (.ref cda) ct) ["self", x] sp := by
  refine ⟨len, fun A outer s H args us vs Q E hr e0 hbi r hsp => ?_⟩
  have KX : K.In s.heap := e0.mod.kin.keeps fun b o z => (e0.bs b o z).1
  have lim : s.heap.NoLimit := e0.mod.nolimit.keeps fun b o z => (e0.bs b o z).1
  have hl : vs.length = (["self", x] : List Str).length := len _ _ _ _ hsp
  obtain ⟨cl, cld, csl, hcc⟩ := T.cell
  have cat : CellsAt [("__class__", cc)] ["__class__"] [none] s.heap H := by
    have hcell : s.heap.IsCell cc (some (.ref C)) := ⟨_, KX _ _ hcc, rfl⟩
    have hnone : H cc = none := (e0.bs cc _ (e0.mod.kin _ _ hcc)).2
    have key : ∀ (y : Str) (c : Addr), List.lookup y [(("__class__" : Str), cc)] = some c → c = cc ∧ y = "__class__" := by
      intro y c hy
      rw [List.lookup_cons] at hy
      by_cases q : (y == ("__class__" : Str)) = true
      · rw [q] at hy
        exact ⟨(Option.some.inj hy).symm, beq_iff_eq.mp q⟩
      · rw [show (y == ("__class__" : Str)) = false by simpa using q] at hy
        cases hy
    refine ⟨rfl, fun y c hy => ?_, fun y z c h1 h2 => ?_, fun i y hy => ?_⟩
    · obtain ⟨rfl, _⟩ := key y c hy
      exact ⟨hnone, _, hcell⟩
    · rw [(key y c h1).2, (key z c h2).2]
    · refine ⟨cc, ?_, fun v hv => ?_⟩
      · match i, hy with
        | 0, hy =>
          cases hy
          rfl
      · match i, hv with
        | 0, hv => cases hv
  obtain ⟨a, y, te, t2, ev, ha, he, h2, hq⟩ := hb A outer s H vs Q E hsp
  refine ks_codeAny_call_defAt (fd := PySem.W.fnX "__init__" qual params body scope [("__class__", cc)] .none .none doc pm an (.ref cda) ct) (body := body) (binds := (["self", x] : List Str).zip us) hr.depth (KX _ _ hK) rfl lim (PySem.W.codeRec_of KX hcd) rfl hbi S.nocell
    (fun ⟨n, _⟩ hy => S.par n (List.of_mem_zip hy).1) (fun h₁ hns kp => ?_) S.co S.gen S.kind
  have I : Inv (ncx CX0 P w K mg base (supN x) (supF qual params body scope cda cc) fI A outer s H E) [] (startF (supN x) vs [none]) H { s with heap := h₁, toks := s.toks + ((["self", x] : List Str).zip us).length } := inv_startN S hr.hd e0 hl r cat hns kp
  have hT : SupTxt (ncx CX0 P w K mg base (supN x) (supF qual params body scope cda cc) fI A outer s H E).K (ncx CX0 P w K mg base (supN x) (supF qual params body scope cda cc) fI A outer s H E).prog C fI cda cc := T
  have q1 := sup_stmt (body := body) (pl := pl) (ar := ar) hT rfl hK hp rfl hsup hcls rfl (by rw [har]; exact S.par _ (List.mem_cons_self ..)) (by rw [har]; rfl) hm htop I (by rw [ev]; rfl) ha he hq (hev A outer s H E) (hi A outer s H E) (hsw A outer s H E) (hst A outer s H E)
  have fin : ∀ {σ' : L2.St} {H' : Hp} {v : V} {u : Value} {s' : Shared}, Inv (ncx CX0 P w K mg base (supN x) (supF qual params body scope cda cc) fI A outer s H E) [] σ' H' s' → RelV v u → Q v H' → CE outer P w H s Q u s' := fun {σ' H' v u s'} J rv q => ⟨v, H', J.os, J.bare, J.base, J.hok, rv, q⟩
  rw [hbody] at q1 ⊢
  refine ks_wpAt_execs_cons (ks_wpAt_mono q1 (fun fl s' hfl => ?_) fun e s' z => z)
  obtain ⟨rfl, H1, I1, q⟩ := hfl
  refine wpAt_of_wpAny (wpAny_mono (h2.run [] _ _ H1 _ I1 q) (fun fl s' hs => ?_) fun e s' z => z)
  cases fl with
  | ret u =>
    obtain ⟨v, σ', H', J, rv, q⟩ := hs
    exact fin J rv q
  | next =>
    obtain ⟨σ', H', J, q⟩ := hs
    exact fin (v := V.non) (u := Value.none) J rfl q
  | brk =>
    obtain ⟨_, _, _, z⟩ := hs
    exact False.elim z
  | cont =>
    obtain ⟨_, _, _, z⟩ := hs
    exact False.elim z
end
end TKE
set_option maxHeartbeats 2000000
set_option pp.maxSteps 300
/-! Raising such an exception; makers that may raise; isinstance of a caught one. -/
namespace TKE
open PySem PySem.Spec PyProof.Rows L2 NdefX TK
/-- the promise of its __init__ -/
def spExc (C : Addr) (fld : Str) (ok : V → Prop) : Sp := fun vs H Q _ => ∃ (a : Addr) (y : V), vs = [.ref a, y] ∧ ok y ∧ H a = some (exo a C none) ∧ ∀ dx, H dx = none → dx ≠ a → Q .non (upd (upd H dx (exd dx [(fld, y)])) a (exo a C (some dx)))
section
variable {P : Program} {w : World} {K : PySem.W.Frag} {mg : Str → Option Value} {base : Heap}
structure ExcMk (P : Program) (w : World) (K : PySem.W.Frag) (mg : Str → Option Value) (base : Heap) (x : Str) (C : Addr) (fld : Str) (ok : V → Prop) : Prop where
  ex : ∃ (fI : Addr) (fd : FuncData) (ps : List Str), OexC K C ∧ PySem.W.findIn K (.ref C) "__init__" = some (some (.ref fI)) ∧ PySem.W.typeIn K (.ref fI) = some (.type "function") ∧ FnOk P w K mg base CX0 1 fI fd ps (spExc C fld ok) ∧ Binds K fd ps [] ∧ mg x = some (.ref C)
end
section
variable {X : Cx} {W : WX} {C : Addr} {x fld : Str} {ok : V → Prop} {p pos pos' : Pos} {e : Expr} {es : List Expr} {te : TE} {j : Nat}
theorem ps_raiseE (c : ExcMk X.prog X.w X.K X.mg X.base x C fld ok) (hc : X.calm = true) (tk : Takes X W) (hr : Room j X.A) (hk : 2 ≤ j) (hg : Gl X x) (he : PE X e te)
    (hdb : (x == ("__debug__" : Str)) = false := by decide) (hs : starEach (e :: es) X.env = (false, eval e X.env) :: starEach es X.env := by rfl) (hes : es = [] := by rfl) (hpl : (backTo pos (starEach es X.env)).any (·.1) = false := by rfl) :
    PS X (.Raise (some (.Call (.Name x p) (e :: es) [] pos)) none pos') (fun _ σ H => te σ H fun y H1 => ok y ∧ ∀ d, H1 d = none → W (.ref C) (some d) σ (upd H1 d (.xd [(fld, y)]))) := by
  subst hes
  obtain ⟨fI, fd, ps, T, iC, tI, F1, hb, hm⟩ := c.ex
  refine ⟨fun pins s σ H D I h => ?_⟩
  refine (ps_raise hc tk (pmk_oex T iC tI F1 (hr.mono hk) hb .nil (fun _ _ _ _ _ _ _ z => z.elim) hg hm (pa_cons (pe_cut he) pa_nil hs) hdb hs hpl)).run pins s σ H D I ?_
  refine ⟨_, h, fun y H1 hy => ⟨by show 1 ≤ 1000; decide, fun a ha => ⟨a, y, rfl, hy.1, upd_same, fun dx hdx hne => ⟨rfl, dx, [(fld, y)], upd_same, ?_, ?_, ?_⟩⟩⟩⟩
  · rw [upd_ne hne, upd_same]
  · rw [upd_ne hne] at hdx
    exact hdx
  · have hd1 : H1 dx = none := by
      rw [upd_ne hne] at hdx
      exact hdx
    have q := hy.2 dx hd1
    have eh : upd (L2.del (upd (upd (upd H1 a (exo a C none)) dx (exd dx [(fld, y)])) a (exo a C (some dx))) a) dx (.xd [(fld, y)]) = upd H1 dx (.xd [(fld, y)]) := by
      funext b
      by_cases h1 : b = dx
      · rw [h1, upd_same, upd_same]
      · rw [upd_ne h1, upd_ne h1]
        by_cases h2 : b = a
        · rw [h2, L2.del_same, ha]
        · rw [L2.del_ne h2, upd_ne h2, upd_ne h1, upd_ne h2]
    rw [eh]
    exact q
end
/-! ### makers that may raise -/
section
variable {P : Program} {w : World} {K : PySem.W.Frag} {mg : Str → Option Value} {base : Heap}
structure MakX (P : Program) (w : World) (K : PySem.W.Frag) (mg : Str → Option Value) (base : Heap) (k : Nat) (x : Str) (C : Addr) (sp : Sp) (n : Nat) (ks : List Str) (gV : List V → List V → List V) : Prop where
  ex : ∃ (f : Addr) (fd : FuncData) (ps : List Str) (g : List Value → List Value → List Value), Mk K C f ∧ FnOk P w K mg base (L2.CX P w) k f fd ps sp ∧ mg x = some (.ref C) ∧ KBn K fd ps (n + 1) ks g gV
/-- C(e, ..) as an expression: at σ, what it lets out is WE W σ -/
def tMakX (C : Addr) (n m : Nat) (sp : Sp) (gV : List V → List V → List V) (E : L2.St → XK) (t tk : TA) : TE := fun σ H Q => t σ H fun vs H1 => tk σ H1 fun zs H2 => vs.length = n ∧ zs.length = m ∧ ∀ x dx, H2 x = none → H2 dx = none → dx ≠ x →
  sp (gV (.ref x :: vs) zs) (upd (upd H2 dx (.own x)) x (.ins C dx [])) (fun v H3 => v = .non ∧ Q (.ref x) H3) (E σ)
end
section
variable {X : Cx} {W : WX} {k j n : Nat} {f C : Addr} {fd : FuncData} {ps ks : List Str} {sp : Sp} {x : Str} {p pos : Pos} {e : Expr} {es : List Expr} {kws : List Keyword} {t tk : TA} {g : List Value → List Value → List Value} {gV : List V → List V → List V}
theorem run_makX {pins : List (Addr × Obj)} {σ : L2.St} {H : Hp} {s : Shared} {Q : VK} {us ws : List Value} {vs zs : List V} {E : XK} (M : Mk X.K C f) (F : FnOk X.prog X.w X.K X.mg X.base (L2.CX X.prog X.w) k f fd ps sp) (hr : Room (k + 1) X.A) (hb : KBn X.K fd ps (n + 1) ks g gV) (hx : PassesAt (L2.CX X.prog X.w) X σ E)
    (I : Inv X pins σ H s) (r : Vals vs us) (rz : Vals zs ws) (l1 : vs.length = n) (l2 : zs.length = ks.length)
    (h : ∀ x dx, H x = none → H dx = none → dx ≠ x → sp (gV (.ref x :: vs) zs) (upd (upd H dx (.own x)) x (.ins C dx [])) (fun v H2 => v = .non ∧ Q (.ref x) H2) E) :
    wpAny (model X.prog X.w) X.A (call (.ref C) us (ks.zip ws)) (EP X pins σ Q) X.xe s := by
  let q := s.heap.objs.size
  have fr1 : H (q + 1) = none := I.hok.fresh (Nat.le_succ q)
  have fr2 : H q = none := I.hok.fresh (Nat.le_refl q)
  have told := h (q + 1) q fr1 fr2 (Nat.ne_of_lt (Nat.lt_succ_self q))
  have J := Inv.made (C := C) I
  have ra : Vals (V.ref (q + 1) :: vs) (Value.ref (q + 1) :: us) := .cons rfl r
  have na : (Value.ref (q + 1) :: us).length = n + 1 := by
    have := ra.length
    rw [← this, List.length_cons, l1]
  have run := F.run _ X.stack _ _ ⟨Value.ref (q + 1) :: us, ks.zip ws⟩ (g (Value.ref (q + 1) :: us) ws) _ _ E (hr.make C us (ks.zip ws)) (J.env0.make C us (ks.zip ws)) (hb.to _ (Value.ref (q + 1) :: us) ws J.kIn na (rz.length.symm.trans l2)) (hb.rel ra rz) told
  refine wpAny_call (make_map (f := f) I.kIn M.makes M.init (beq_iff_eq.mp M.fn) (codeAny_mono run fun o s' ho => ?_))
  match o, ho with
  | .error e, ho => exact hx pins _ _ e s' J ho
  | .ok (.ret u), ho =>
    obtain ⟨v, H', I3, rv, ev, q3⟩ := J.after ho
    subst ev
    exact ⟨rv, ⟨V.ref (q + 1), H', I3, rfl, q3⟩⟩
  | .ok .next, ho => exact False.elim ho
  | .ok .brk, ho => exact False.elim ho
  | .ok .cont, ho => exact False.elim ho
theorem pe_makX {E : L2.St → XK} (c : MakX X.prog X.w X.K X.mg X.base k x C sp n [] gV) (hr : Room j X.A) (hk : k + 1 ≤ j) (hx : ∀ σ, PassesAt (L2.CX X.prog X.w) X σ (E σ)) (hg : Gl X x) (ha : PA X (e :: es) t)
    (hdb : (x == ("__debug__" : Str)) = false := by decide) (he : starEach (e :: es) X.env = (false, eval e X.env) :: starEach es X.env := by rfl) (hpl : (backTo pos (starEach es X.env)).any (·.1) = false := by rfl) :
    PE X (.Call (.Name x p) (e :: es) [] pos) (tMakX C n 0 sp gV E t tNil) := by
  obtain ⟨f, fd, ps, g, M, F, hm, b⟩ := c.ex
  refine ⟨fun pins s σ H Q I h => ?_⟩
  refine wpAny_Call_Name_kw (ld_glob I hg hm ?_ hdb)
  refine PySem.W.callWith_K (h₀ := X.base) I.ok.mod.kin M.kp (thn (ha.run pos pins s σ H _ I h) fun us s1 ⟨vs, H1, I1, r, l1, l2, q⟩ => ⟨I1.kIn, ?_⟩) he hpl
  exact run_makX (zs := []) (ws := []) M F (hr.mono hk) b (hx σ) I1 r .nil l1 rfl q
theorem pe_makXK {E : L2.St → XK} (c : MakX X.prog X.w X.K X.mg X.base k x C sp 0 ks gV) (hr : Room j X.A) (hk : k + 1 ≤ j) (hx : ∀ σ, PassesAt (L2.CX X.prog X.w) X σ (E σ)) (hg : Gl X x) (hkw : PK X kws tk)
    (hall : (backToKw pos (keywordEach kws X.env)).all (·.1.isSome) = true := by rfl) (hks : (backToKw pos (keywordEach kws X.env)).filterMap (·.1) = ks := by rfl) (hdb : (x == ("__debug__" : Str)) = false := by decide)
    (hpl : ((backTo pos (starEach [] X.env)).any (·.1) || (backToKw pos (keywordEach kws X.env)).any (·.1.isNone)) = false := by rfl) :
    PE X (.Call (.Name x p) [] kws pos) (tMakX C 0 ks.length sp gV E tNil tk) := by
  obtain ⟨f, fd, ps, g, M, F, hm, b⟩ := c.ex
  refine ⟨fun pins s σ H Q I h => ?_⟩
  refine wpAny_Call_Name_kw (ld_glob I hg hm ?_ hdb)
  refine PySem.W.callWith_KW0 (h₀ := X.base) I.ok.mod.kin M.kp hall ?_ hpl
  refine thn (hkw.run pos pins s σ H _ I h) fun ws s2 ⟨zs, H2, I2, rz, l1, l2, q2⟩ => ⟨I2.kIn, ?_⟩
  rw [hks]
  exact run_makX (us := []) (vs := []) M F (hr.mono hk) b (hx σ) I2 .nil rz rfl l2 q2
/-- nothing is let out here -/
theorem none_out {X : Cx} : ∀ σ : L2.St, PassesAt (L2.CX X.prog X.w) X σ E0 := fun _ _ _ _ _ _ _ z => by
  obtain ⟨_, _, _, _, _, _, _, _, _, _, _, _, y⟩ := z
  exact y.elim
end
end TKE
set_option maxHeartbeats 2000000
set_option pp.maxSteps 300
/-! isinstance of a caught exception that has its dict; what is to be looked up of such a class; a hook with such defs. -/
namespace TKE
open PySem PySem.Spec PyProof.Rows L2 NdefX TK
def rIsD (K : PySem.W.Frag) (D a : Addr) (cls : Value) (d : Option Addr) : List V → Hp → VK → Prop := fun xs H Q => ∃ (c : V) (cv : Value) (b : Bool) (dd : Addr) (fs : List (Str × V)), xs = [.ref a, c] ∧ (∀ u, RelV c u → u = cv) ∧ PySem.W.kitOne K (.ref D) cv = some b ∧ cls = .ref D ∧ d = some dd ∧ H dd = some (.xd fs) ∧ Q (.bl b) H
theorem call_isD {X : Cx} {a D : Addr} {oe : Obj} {cls : Value} {d : Option Addr} {pn : List (Addr × Obj)} (C : ExcC X.K D) (hz : Zc cls d oe) (hf : ∃ vs, oe.data = .fields vs) : CallR (X.suite a ((a, oe) :: pn)) (.builtin "isinstance") (rIsD X.K D a cls d) := by
  intro pins s σ H xs us Q I r h
  obtain ⟨c, cv, b, dd, fs, rfl, hcv, e, rfl, rfl, ed, q⟩ := h
  obtain ⟨u1, u2, rfl, rx, rt⟩ : ∃ u1 u2, us = [u1, u2] ∧ RelV (.ref a) u1 ∧ RelV c u2 := by
    cases r with
    | cons h1 t1 =>
      cases t1 with
      | cons h2 t2 =>
        cases t2
        exact ⟨_, _, rfl, h1, h2⟩
  obtain rfl : u1 = Value.ref a := rx
  obtain rfl := hcv _ rt
  obtain ⟨hget, _⟩ := I.pin (a, oe) (List.mem_append.mpr (.inl List.mem_cons_self))
  obtain ⟨vs, hv⟩ := hf
  have ob : ObjOk X.prog X.w H s.heap dd (.xd fs) := I.hok dd _ ed
  obtain ⟨mA, ⟨od, es, ep, ho, hr2⟩, hr⟩ := ob
  have J : PySem.W.InstAt s.heap a oe D (some od) := ⟨hget, hz.1, by unfold PySem.W.notCls; rw [hv] <;> rfl, by rw [hz.2]; exact ho⟩
  have hcl : (PySem.W.clsIn X.K D).isSome = true := by
    obtain ⟨cd, hc, _⟩ := PySem.W.any_some C.hd
    rw [hc]
    rfl
  exact PySem.W.kia_one (PySem.W.kitx_exc hcl C.hg C.hk C.hs C.ha C.hn C.ht C.hm) I.kIn J e (fun z => nomatch z) fun tk => ⟨.bl b, H, I.kept (t' := tk) fun _ _ z => z, rfl, q⟩
end TKE
set_option maxHeartbeats 2000000
set_option pp.maxSteps 300
/-! What the heap behind the top says of such classes: a check, what it gives, a hook with their __init__. -/
namespace TKE
open PySem PySem.Spec PyProof.Rows L2 NdefX TK
open He (ga ma)
def clsB (K : PySem.W.Frag) (C : Addr) : Bool := match K.lookup C with
  | some ⟨.type "type", _, .cls cd, sl⟩ => (match cd.mro, sl.toList with
    | .ref C' :: bm, [_, _, _, _, some (.builtin n), _] => C' == C && (n == "ValueError.__new__" && (!cd.hasDel && (cd.hasDict && PySem.HandSPX.refsVE bm)))
    | _, _ => false)
  | _ => false
theorem clsB_ok {K : PySem.W.Frag} {C : Addr} (q : clsB K C = true) : ∃ nm q N bs bm sn sub ab col dd k0 k1 k2 k3 k5, K.lookup C = some (excClassObj nm q C N bs bm true sn sub ab col dd k0 k1 k2 k3 k5 "ValueError.__new__") ∧ PySem.HandSPX.refsVE bm = true := by
  unfold clsB at q
  split at q
  · rename_i dd cd sl ho
    split at q
    · rename_i C' bm k0 k1 k2 k3 n k5 hm hs
      simp only [Bool.and_eq_true, beq_iff_eq, Bool.not_eq_true'] at q
      obtain ⟨rfl, rfl, hdel, hd, ht⟩ := q
      obtain ⟨nm, bs, mro, ns, qn, hd', sn, sub, ab, col, del⟩ := cd
      dsimp only at hm hdel hd
      subst hm hdel hd
      have hsl : sl = #[k0, k1, k2, k3, some (.builtin "ValueError.__new__"), k5] := by
        obtain ⟨l⟩ := sl
        simp only at hs
        rw [hs]
      subst hsl
      exact ⟨nm, qn, ns, bs, bm, sn, sub, ab, col, dd, k0, k1, k2, k3, k5, ho, ht⟩
    · cases q
  · cases q
def cellB (K : PySem.W.Frag) (cc C : Addr) : Bool := match K.lookup cc with
  | some ⟨_, _, .cell (some (.ref C')), _⟩ => C' == C
  | _ => false
theorem cellB_ok {K : PySem.W.Frag} {cc C : Addr} (q : cellB K cc C = true) : ∃ cl cld csl, K.lookup cc = some ⟨cl, cld, .cell (some (.ref C)), csl⟩ := by
  unfold cellB at q
  split at q
  · rename_i cl cld C' csl ho
    obtain rfl := beq_iff_eq.mp q
    exact ⟨_, _, _, ho⟩
  · cases q
def fileB (K : PySem.W.Frag) (cda : Addr) (file : Str) : Bool := match K.lookup cda with
  | some ⟨_, _, .fields vs, _⟩ => (match (vs[2]? : Option Value) with
    | some (Value.str f _) => file == f
    | _ => false)
  | _ => false
theorem fileB_ok {K : PySem.W.Frag} {cda : Addr} {file : Str} (q : fileB K cda file = true) : ∃ ccl cdd vs ccs f tf, K.lookup cda = some ⟨ccl, cdd, .fields vs, ccs⟩ ∧ vs[2]? = some (.str f tf) ∧ (file == f) = true := by
  unfold fileB at q
  split at q
  · rename_i cl cld vs csl ho
    split at q
    · rename_i f tf hv
      exact ⟨_, _, _, _, _, _, ho, hv, q⟩
    · cases q
  · cases q
def fnB (K : PySem.W.Frag) (f C : Addr) (qual file : Str) : Bool := match K.lookup f with
  | some ⟨_, _, .func fd, _⟩ => (match fd.closure, fd.code, fd.defaults, fd.kwdefaults with
    | [(n, cc)], .ref cda, .none, .none => n == "__class__" && (PySem.W.codeIn K (.ref cda) qual && (cellB K cc C && fileB K cda file))
    | _, _, _, _ => false)
  | _ => false
def fnC (K : PySem.W.Frag) (p : Str × Option Str) : He.FnW := match K.lookup (He.fAd K p) with
  | some ⟨_, _, .func fd, _⟩ => some (fd.name, fd.qualname, fd.params, fd.body, fd.scope, fd.globals, [], fd.builtins)
  | _ => none
theorem fnB_ok {K : PySem.W.Frag} {p : Str × Option Str} {C : Addr} {nm qual file : Str} {params : Arguments} {body : List Stmt} {scope : Scope} (e : fnC K p = He.DefD.val ⟨p, nm, qual, params, body, scope, [], []⟩) (q : fnB K (He.fAd K p) C qual file = true) :
    ∃ cda cc oc od doc pm an ct osl, K.lookup (He.fAd K p) = some ⟨oc, od, .func (PySem.W.fnX nm qual params body scope [("__class__", cc)] .none .none doc pm an (.ref cda) ct), osl⟩ ∧ PySem.W.codeIn K (.ref cda) qual = true ∧ cellB K cc C = true ∧ fileB K cda file = true := by
  unfold fnB at q
  unfold fnC at e
  split at q
  · rename_i oc od fd osl ho
    rw [ho] at e
    split at q
    · rename_i n cc cda h1 h2 h3 h4
      simp only [Bool.and_eq_true, beq_iff_eq] at q
      obtain ⟨rfl, q1, q2, q3⟩ := q
      obtain ⟨n1, n2, n3, n4, n5, n6, n7, n8, n9, n10, n11, n12, n13, n14, n15⟩ := fd
      dsimp only at h1 h2 h3 h4
      subst h1 h2 h3 h4
      have e2 : (some (n1, n2, n3, n4, n5, n6, [], n15) : He.FnW) = some (nm, qual, params, .stmts body, scope, mainGlobals, [], builtinsNs) := e
      simp only [Option.some.injEq, Prod.mk.injEq] at e2
      obtain ⟨h1, h2, h3, h4, h5, h6, h7, h8⟩ := e2
      subst h1 h2 h3 h4 h5 h6 h8
      exact ⟨cda, cc, oc, od, _, _, _, _, osl, ho, q1, q2, q3⟩
    · cases q
  · cases q
/-- the class named x, its field fld, its __init__'s qualified name, the text's file -/
def excB (K : PySem.W.Frag) (x fld qual file : Str) : List Bool := [clsB K (ga K x),
  decide (PySem.W.findIn K (.ref (ga K x)) "__setattr__" = some (some (.builtin "object.__setattr__"))), decide (PySem.W.subIn K (.ref (ga K x)) (.type "BaseException") = some true), decide (PySem.W.typeIn K (.ref (ga K x)) = some (.type "type")), PySem.W.keepIn K (.ref (ga K x)),
  decide (PySem.W.findIn K (.ref (ga K x)) "__init__" = some (some (.ref (ma K (ga K x) "__init__")))), decide (PySem.W.typeIn K (.ref (ma K (ga K x) "__init__")) = some (.type "function")), decide (PySem.W.ks_superIn K (ga K x) (ga K x) "__init__" = some (some (.builtin "ValueError.__init__"))),
  decide (PySem.W.subIn K (.ref (ga K x)) (.type "ValueError") = some true), decide (PySem.W.mroIn K (ga K x) (.ref (ga K x)) = some true), decide (PySem.W.nsIn K cStatics "thirdparty.any" = some none),
  fnB K (ma K (ga K x) "__init__") (ga K x) qual file, decide (PySem.W.findIn K (.ref (ga K x)) fld = some none),
  decide (PySem.W.findIn K (.ref (ga K x)) "__getattribute__" = some (some (.builtin "BaseException.__getattribute__"))), decide (PySem.W.findIn K (.ref (ga K x)) "__getattr__" = some none), PySem.W.hasDictIn K (ga K x),
  decide (PySem.W.findIn K (.ref (ga K x)) "__class__" = some (some (.builtin "object.__class__"))), decide (PySem.W.specialIn K (.builtin "object.__class__") "__get__" = some (some (.builtin "getset_descriptor.__get__"))),
  decide (PySem.W.takesIn K (.builtin "object.__class__") = some true), decide (PySem.W.mroIn K (ga K x) (.type "object") = some true)]
def excAll (K : PySem.W.Frag) (x fld qual file : Str) : Bool := (excB K x fld qual file).all id
structure ExTxt (K : PySem.W.Frag) (P : Program) (x fld qual : Str) (params : Arguments) (body : List Stmt) (scope : Scope) : Prop where
  ex : ∃ cda cc oc od doc pm an ct osl, SupTxt K P (ga K x) (ma K (ga K x) "__init__") cda cc ∧ K.lookup (ma K (ga K x) "__init__") = some ⟨oc, od, .func (PySem.W.fnX "__init__" qual params body scope [("__class__", cc)] .none .none doc pm an (.ref cda) ct), osl⟩ ∧ PySem.W.codeIn K (.ref cda) qual = true
  no : PySem.W.findIn K (.ref (ga K x)) fld = some none
  ec : ExcC K (ga K x)
  xf : XfC K (ga K x)
theorem exTxt_of {K : PySem.W.Frag} {P : Program} {x fld qual file : Str} {params : Arguments} {body : List Stmt} {scope : Scope} (h : excAll K x fld qual file = true) (hP : P.main.file = file)
    (e : fnC K (x, some "__init__") = He.DefD.val ⟨(x, some "__init__"), "__init__", qual, params, body, scope, [], []⟩) : ExTxt K P x fld qual params body scope := by
  have a : ∀ (i : Nat) (b : Bool), (excB K x fld qual file)[i]? = some b → b = true := fun i b hi => exAt h i hi
  obtain ⟨cda, cc, oc, od, doc, pm, an, ct, osl, hl, hcd, hcell, hfile⟩ := fnB_ok (C := ga K x) (file := file) e (a 11 _ rfl)
  have h2 := of_decide_eq_true (a 2 _ rfl)
  have h13 := of_decide_eq_true (a 13 _ rfl)
  have h14 := of_decide_eq_true (a 14 _ rfl)
  have oex : OexC K (ga K x) := ⟨clsB_ok (a 0 _ rfl), of_decide_eq_true (a 1 _ rfl), h2, of_decide_eq_true (a 3 _ rfl), a 4 _ rfl⟩
  refine ⟨⟨cda, cc, oc, od, doc, pm, an, ct, osl, ⟨oex, of_decide_eq_true (a 5 _ rfl), of_decide_eq_true (a 6 _ rfl), of_decide_eq_true (a 7 _ rfl), of_decide_eq_true (a 8 _ rfl), of_decide_eq_true (a 9 _ rfl), of_decide_eq_true (a 10 _ rfl), ?_, cellB_ok hcell⟩, hl, hcd⟩, of_decide_eq_true (a 12 _ rfl),
    ⟨h13, h14, h2, a 15 _ rfl, of_decide_eq_true (a 16 _ rfl), of_decide_eq_true (a 17 _ rfl), of_decide_eq_true (a 18 _ rfl), of_decide_eq_true (a 19 _ rfl)⟩, ⟨h13, h14, h2, a 15 _ rfl⟩⟩
  rw [hP]
  obtain ⟨ccl, cdd, vs, ccs, f, tf, z⟩ := fileB_ok hfile
  exact ⟨ccl, cdd, vs, ccs, f, tf, z⟩
/-! ### the hook -/
def asE (g : Addr → Option Obj) (n : Nat) (es : List He.DefD) : List Addr :=
  He.asD g n ++ (cStatics :: es.flatMap fun d => match (He.frG g (He.asD g n)).lookup (He.fAd (He.frG g (He.asD g n)) d.at_) with
    | some ⟨_, _, .func fd, _⟩ => fd.closure.map (·.2)
    | _ => [])
abbrev AlE : Type := He.AlD × List He.FnW
def obsE (n : Nat) (fa : List He.Fa) (fn : List He.DefD) (ex : PySem.W.Frag → List Bool) (es : List He.DefD) (g : Addr → Option Obj) : AlE :=
  let K := He.frG g (asE g n es)
  (((He.obsD fa fn K).1 && (ex K).all id, (He.obsD fa fn K).2), es.map fun d => fnC K d.at_)
def hookE (n : Nat) (fa : List He.Fa) (fn : List He.DefD) (ex : PySem.W.Frag → List Bool) (es : List He.DefD) : PySem.W.Hook where
  α := AlE
  obs s := obsE n fa fn ex es s.heap.get?
  val _ := (He.valD fn, es.map He.DefD.val)
  says _ h := ∃ K : PySem.W.Frag, K.In h ∧ He.SaysD fa fn K ∧ (ex K).all id = true ∧ es.map (fun d => fnC K d.at_) = es.map He.DefD.val
  of _ _ e := by
    have e0 := congrArg (fun z : AlE => z.1) e
    have e1 := congrArg (fun z : He.AlD => z.1) e0
    have e2 := congrArg (fun z : He.AlD => z.2) e0
    have e3 := congrArg (fun z : AlE => z.2) e
    obtain ⟨a, b⟩ := Bool.and_eq_true_iff.mp e1
    exact ⟨_, He.frG_in, Prod.ext a e2, b, e3⟩
  keeps _ _ _ c k := let ⟨K, hK, c⟩ := c; ⟨K, PySem.W.Frag.In.keeps hK k, c⟩
theorem obsE_eq {n : Nat} {fa : List He.Fa} {fn : List He.DefD} {ex : PySem.W.Frag → List Bool} {es : List He.DefD} {g : Addr → Option Obj} {s : Shared} (h : ∀ a, g a = s.heap.get? a) : obsE n fa fn ex es g = (hookE n fa fn ex es).obs s := by
  obtain rfl : g = s.heap.get? := funext h
  rfl
theorem fnC_at {K : PySem.W.Frag} {es : List He.DefD} (h : es.map (fun d => fnC K d.at_) = es.map He.DefD.val) (i : Nat) {d : He.DefD} (hd : es[i]? = some d) : fnC K d.at_ = d.val := by
  have e2 : (es.map fun d => fnC K d.at_)[i]? = (es.map He.DefD.val)[i]? := by rw [h]
  rw [List.getElem?_map, List.getElem?_map, hd] at e2
  exact Option.some.inj e2
end TKE
set_option maxHeartbeats 2000000
set_option pp.maxSteps 300
/-! Texts with such classes: the pieces that the generated terms name. -/
namespace TKE
open PySem PySem.Spec PyProof.Rows L2 NdefX TK
def isS : V → Prop := fun y => ∃ z : Str, y = .str z ∧ z.length ≤ 1000
def isI : V → Prop := fun y => ∃ z : Int, y = .int z ∧ z.natAbs.log2 < 1920 ∧ (toString z : Str).length ≤ 1000
theorem ex_l1 {z : Str} (hz : z.length ≤ 1000) : z.length ≤ sizeLine := Nat.le_trans hz (by decide)
theorem ex_l2 {p z : Str} (hp : p.length ≤ 200) (hz : z.length ≤ 1000) : (p ++ z).length ≤ sizeLine := by
  rw [cat_len, sizeLine_eq]
  omega
theorem ex_l3 {p z q : Str} (hp : p.length ≤ 200) (hq : q.length ≤ 200) (hz : z.length ≤ 1000) : (p ++ z ++ q).length ≤ sizeLine := by
  rw [cat_len, cat_len, sizeLine_eq]
  omega
theorem pg_tupK {X : Cx} (K : PySem.W.Frag) (e : X.K = K) {es : List Expr} {k : Nat} {t : TGs} {n : Nat} {pos : Pos} (hc : X.calm = true) (h : PGs X es t)
    (hn : (assignEach es X.env).length = n := by rfl) (hst : (assignEach es X.env).findIdx? (·.1) = none := by rfl) : PG X (.Tuple es k pos) (gTup K n t) := by
  subst e
  exact pg_tup hc h hn hst
def rTupOf (K : PySem.W.Frag) : List V → Hp → VK → Prop := fun xs H Q => ∃ p ys, xs = [.ref p] ∧ ((SqL K H p ys ∧ ∀ l, H l = none → Q (.ref l) (upd H l (.tup ys))) ∨ (SqT K H p ys ∧ Q (.ref p) H))
theorem tupOfK {X : Cx} (K : PySem.W.Frag) (e : X.K = K) : CallR X (.type "tuple") (rTupOf K) := by
  subst e
  exact call_tuple_of
section
variable {P : Program} {w : World} {K : PySem.W.Frag} {mg : Str → Option Value} {base : Heap}
theorem makX_of {x qual : Str} {C f : Addr} {params : Arguments} {body : List Stmt} {scope : Scope} {fd : FuncData} {ps : List Str} {k n : Nat} {sp : Sp} (M : Mk K C f) (hm : mg x = some (.ref C)) (F : FunD K "__init__" qual params body scope [] [] f fd) (G : FnOk P w K mg base (L2.CX P w) k f fd ps sp) (hn : ps.length = n + 1)
    (h : ∀ (kV doc pm : Value) (an : Option Addr) (cdv ct : Value) (us : List Value), us.length = ps.length → bindArgs (PySem.W.fnOf "__init__" qual params body scope .none kV doc pm an cdv ct) ⟨us, []⟩ = pure (ps.zip us)) : MakX P w K mg base k x C sp n [] (fun vs _ => vs) :=
  ⟨f, fd, ps, fun us _ => us, M, G, hm, ⟨fun s us ws _ h1 _ => F.bindsA h s us (h1.trans hn.symm), fun r _ => r⟩⟩
end
end TKE
set_option maxHeartbeats 1000000
namespace K11
open PySem PySem.Spec PyProof.Rows L2 SX TK
/-! ### the mathematics of a journal, over lists of code points -/
def cks (l : List Nat) : Nat := l.foldl (fun t c => (t * 31 + c) % 9973) 7
def lnL (r : List Nat) : List Nat := r ++ 32 :: TL.numL (cks r)
def sealL (r : List Nat) : List Nat := lnL r ++ [10]
def cat (rows : List (List Nat)) : List Nat := (rows.map sealL).flatten
theorem lnL_free {r : List Nat} (h : 10 ∉ r) : 10 ∉ lnL r := by
  unfold lnL
  rw [List.mem_append, List.mem_cons, not_or, not_or]
  exact ⟨h, by decide, TL.numL_free (.inl (by decide))⟩
theorem hX0' : Txt.split (S []) (S [10]) = [S []] := by decide +kernel
theorem split_cons {a X : List Nat} (h : 10 ∉ a) : Txt.split (S (a ++ 10 :: X)) (S [10]) = S a :: Txt.split (S X) (S [10]) := by
  have j := StrLaws.join_split (S X) (S [10])
  have f := StrLaws.split_free (S X) 10
  have hne : Txt.split (S X) (S [10]) ≠ [] := by
    intro e
    rw [e] at j
    have q := congrArg TL.tl j
    rw [TL.tl_join] at q
    have q2 : X = [] := q.symm
    rw [q2, hX0'] at e
    cases e
  generalize Txt.split (S X) (S [10]) = ps at j f hne ⊢
  have e : Txt.join (S [10]) (S a :: ps) = S (a ++ 10 :: X) := by
    apply TL.ext_tl
    rw [TL.join_eq, TL.tl_join]
    cases ps with
    | nil => exact absurd rfl hne
    | cons p r =>
      have j2 : TL.joinL [10] ((p :: r).map TL.tl) = X := by
        have := congrArg TL.tl j
        rw [TL.tl_join] at this
        exact this
      show TL.tl (S a) ++ ([10] ++ TL.joinL [10] ((p :: r).map TL.tl)) = _
      rw [j2]
      rfl
  rw [← e]
  exact TL.split_join (s := 10) (S := []) rfl (by decide +kernel) (by intro z; cases z) fun p hp => (List.mem_cons.mp hp).elim (fun z => by rw [z]; exact h) (f p)

theorem split_one {a : List Nat} (h : 10 ∉ a) : Txt.split (S a) (S [10]) = [S a] := by
  have e : Txt.join (S [10]) [S a] = S a := by
    apply TL.ext_tl
    rw [TL.join_eq, TL.tl_join]
    rfl
  rw [← e]
  exact (TL.split_join (s := 10) (S := []) rfl (by decide +kernel) (by intro z; cases z) fun p hp => by rw [List.mem_singleton.mp hp]; exact h).trans (by rw [e])
/-- what stands ahead of the last blank of a line -/
theorem told_ln (r : List Nat) : (Txt.rpartition (S (lnL r)) " ").1 = S r := by
  have at_iff : ∀ i, StrLaws.At (S (lnL r)) " " (S (lnL r)).length i ↔ (lnL r)[i]? = some 32 := by
    intro i
    have e := TL.at_iff (x := S (lnL r)) (y := " ") (by show TL.tl " " ≠ []; decide +kernel) i
    refine e.trans ?_
    rw [show TL.tl (" " : Str) = [32] by decide +kernel]
    show (TL.pre [32] ((lnL r).drop i) = true) ↔ _
    have h0 : (lnL r)[i]? = ((lnL r).drop i)[0]? := by rw [List.getElem?_drop]; simp
    rw [h0]
    cases (lnL r).drop i with
    | nil => exact ⟨(fun h => by cases h), (fun h => by cases h)⟩
    | cons a q =>
      show ((((a :: q).take 1) == [32]) = true) ↔ _
      rw [beq_iff_eq]
      show [a] = [32] ↔ some a = some 32
      simp
  have h32 : (lnL r)[r.length]? = some 32 := by
    unfold lnL
    rw [List.getElem?_append_right (Nat.le_refl _), Nat.sub_self]
    rfl
  unfold Txt.rpartition
  rcases StrLaws.last_spec (S (lnL r)) " " with ⟨_, hn⟩ | ⟨i, e, hi, hn⟩
  · exact absurd ((at_iff _).mpr h32) (hn _)
  · rw [e]
    have ei : i = r.length := by
      rcases Nat.lt_trichotomy i r.length with z | z | z
      · exact absurd ((at_iff _).mpr h32) (hn _ z)
      · exact z
      · exfalso
        have q := (at_iff i).mp hi
        unfold lnL at q
        rw [List.getElem?_append_right (Nat.le_of_lt z)] at q
        obtain ⟨k, ek⟩ : ∃ k, i - r.length = k + 1 := ⟨i - r.length - 1, by omega⟩
        rw [ek, List.getElem?_cons_succ] at q
        exact TL.numL_free (.inl (by decide)) (List.mem_of_getElem? q)
    show Builtin.Str.strSub (S (lnL r)) 0 i = S r
    rw [ei]
    apply TL.ext_tl
    show ((S (lnL r)).cps.extract 0 r.length).toList = r
    rw [Array.toList_extract]
    show ((lnL r).take r.length).drop 0 = r
    unfold lnL
    rw [List.drop_zero, List.take_left]
def sealT (z : Str) : Str := Str.empty ++ z ++ " " ++ numS (cks (TL.tl z)) ++ "\n"
theorem tl_seal (z : Str) : TL.tl (sealT z) = sealL (TL.tl z) := by
  unfold sealT sealL lnL
  rw [TL.tl_append, TL.tl_append, TL.tl_append, TL.tl_append, numS_tl (by omega), show TL.tl Str.empty = [] from rfl, show TL.tl (" " : Str) = [32] by decide +kernel, show TL.tl ("\n" : Str) = [10] by decide +kernel]
  simp
/-- the texts of the lines up to the first wrong one -/
def readL : List Str → List Str
  | [] => []
  | l :: r => if sealT (Txt.rpartition l " ").1 = l ++ "\n" then (Txt.rpartition l " ").1 :: readL r else []
def readJ (z : Str) : List Str := readL (Txt.split z "\n").dropLast
theorem nl_S : ("\n" : Str) = S [10] := by decide +kernel
theorem readJ_seal {r X : List Nat} (h : 10 ∉ r) : readJ (S (sealL r ++ X)) = S r :: readJ (S X) := by
  unfold readJ
  rw [nl_S, show sealL r ++ X = lnL r ++ 10 :: X by unfold sealL; simp, split_cons (lnL_free h)]
  have hne : Txt.split (S X) (S [10]) ≠ [] := fun e => by
    have q := congrArg TL.tl (StrLaws.join_split (S X) (S [10]))
    rw [e, TL.tl_join] at q
    have q2 : X = [] := q.symm
    rw [q2, hX0'] at e
    cases e
  rw [List.dropLast_cons_of_ne_nil hne]
  show (if sealT (Txt.rpartition (S (lnL r)) " ").1 = S (lnL r) ++ "\n" then _ else _) = _
  rw [told_ln, if_pos]
  apply TL.ext_tl
  rw [tl_seal, TL.tl_append, nl_S]
  rfl
theorem readJ_free {X : List Nat} (h : 10 ∉ X) : readJ (S X) = [] := by
  unfold readJ
  rw [nl_S, split_one h]
  rfl
theorem cat_cons (r : List Nat) (rs : List (List Nat)) : cat (r :: rs) = sealL r ++ cat rs := rfl
theorem readJ_cat {X : List Nat} : ∀ rows : List (List Nat), (∀ r ∈ rows, 10 ∉ r) → readJ (S (cat rows ++ X)) = rows.map S ++ readJ (S X)
  | [], _ => rfl
  | r :: rs, h => by
    rw [cat_cons, List.append_assoc, readJ_seal (h r (List.mem_cons_self ..)), readJ_cat rs fun q m => h q (List.mem_cons_of_mem _ m)]
    rfl
/-- the rows whose lines stand whole at the front -/
def wholeL : List (List Nat) → List Nat → List (List Nat)
  | [], _ => []
  | r :: rs, t => if t.take (sealL r).length = sealL r then r :: wholeL rs (t.drop (sealL r).length) else []
theorem dec : ∀ (rows : List (List Nat)) (n : Nat), (∀ r ∈ rows, 10 ∉ r) → ∃ k X, k ≤ rows.length ∧ (cat rows).take n = cat (rows.take k) ++ X ∧ 10 ∉ X ∧ wholeL rows ((cat rows).take n) = rows.take k ∧ ∀ j, j ≤ rows.length → (cat (rows.take j)).length ≤ n → j ≤ k
  | [], n, _ => ⟨0, [], Nat.le_refl _, by simp [cat], by simp, rfl, fun j h _ => h⟩
  | r :: rs, n, h => by
    by_cases hn : (sealL r).length ≤ n
    · obtain ⟨k, X, h1, h2, h3, h4, h5⟩ := dec rs (n - (sealL r).length) fun q m => h q (List.mem_cons_of_mem _ m)
      have e : (cat (r :: rs)).take n = sealL r ++ (cat rs).take (n - (sealL r).length) := by
        rw [cat_cons, List.take_append, List.take_of_length_le hn]
      refine ⟨k + 1, X, Nat.succ_le_succ h1, ?_, h3, ?_, fun j hj hl => ?_⟩
      · rw [e, h2, List.take_succ_cons, cat_cons, List.append_assoc]
      · rw [e]
        show (if (sealL r ++ _).take (sealL r).length = sealL r then _ else _) = _
        rw [List.take_left, if_pos rfl, List.drop_left, h4]
        rfl
      · cases j with
        | zero => exact Nat.zero_le _
        | succ j =>
          rw [List.take_succ_cons, cat_cons, List.length_append] at hl
          exact Nat.succ_le_succ (h5 j (Nat.le_of_succ_le_succ hj) (by omega))
    · have hn2 : n ≤ (lnL r).length := by
        have : (sealL r).length = (lnL r).length + 1 := by unfold sealL; rw [List.length_append]; rfl
        omega
      have e : (cat (r :: rs)).take n = (lnL r).take n := by
        rw [cat_cons]
        unfold sealL
        rw [List.append_assoc, List.take_append_of_le_length hn2]
      refine ⟨0, (lnL r).take n, Nat.zero_le _, by rw [e]; rfl, fun m => lnL_free (h r (List.mem_cons_self ..)) (List.mem_of_mem_take m), ?_, fun j hj hl => ?_⟩
      · rw [e]
        show (if ((lnL r).take n).take (sealL r).length = sealL r then _ else _) = _
        refine (if_neg fun z => ?_).trans rfl
        have := congrArg List.length z
        rw [List.length_take, List.length_take] at this
        omega
      · cases j with
        | zero => exact Nat.zero_le _
        | succ j =>
          rw [List.take_succ_cons, cat_cons, List.length_append] at hl
          omega
theorem count10 : ∀ (rows : List (List Nat)) (X : List Nat), (∀ r ∈ rows, 10 ∉ r) → 10 ∉ X → (cat rows ++ X).count 10 = rows.length
  | [], X, _, hx => List.count_eq_zero.mpr hx
  | r :: rs, X, h, hx => by
    rw [cat_cons, List.append_assoc, List.count_append, count10 rs X (fun q m => h q (List.mem_cons_of_mem _ m)) hx]
    unfold sealL
    rw [List.count_append, List.count_eq_zero.mpr (lnL_free (h r (List.mem_cons_self ..)))]
    show 0 + 1 + rs.length = rs.length + 1
    omega
theorem count_S (l : List Nat) : Txt.count (S l) "\n" = ((l.count 10 : Nat) : Int) := by
  rw [nl_S]
  refine (count_is (S l) 10).trans ?_
  show countIn _ (l.map fun n => PyData.str ⟨#[n]⟩) = _
  rw [countIn_signs_sum]
  induction l with
  | nil => rfl
  | cons a r ih =>
    rw [List.map_cons, List.sum_cons, ih, List.count_cons]
    by_cases h : a = 10
    · rw [if_pos (decide_eq_true h), if_pos (by rw [h]; rfl)]
      omega
    · rw [if_neg (by rw [decide_eq_false h]; exact Bool.false_ne_true), if_neg (by simpa using h)]
      omega
end K11
set_option maxHeartbeats 1000000
namespace LD
open PySem PySem.Spec PyProof.Rows L2 SX TK
/-! ### the mathematics of a ledger: its records, what stands in it -/
inductive Rc where
  | op (n : Int) (c a : Str) (t : Int)
  | cl (n e k : Int)
structure Un where
  n : Int
  c : Str
  a : Str
  t : Int
structure Bi where
  n : Int
  c : Str
  a : Str
  t : Int
  e : Int
  k : Int
def Un.kv (u : Un) : Int × List V := (u.n, [.str u.c, .str u.a, .int u.t])
def Bi.v (b : Bi) : List V := [.int b.n, .str b.c, .str b.a, .int b.t, .int b.e, .int b.k]
def Bi.kv (b : Bi) : Int × List V := (b.n, b.v)
structure Lg where
  un : List Un
  fi : List Bi
def toBi (u : Un) (e k : Int) : Bi := ⟨u.n, u.c, u.a, u.t, e, k⟩
def Lg.step (S : Lg) : Rc → Lg
  | .op n c a t => ⟨S.un ++ [⟨n, c, a, t⟩], S.fi⟩
  | .cl n e k => match S.un.find? (fun u => decide (u.n = n)) with
    | some u => ⟨S.un.filter (fun x => decide (x.n ≠ n)), S.fi ++ [⟨n, u.c, u.a, u.t, e, k⟩]⟩
    | none => S
theorem step_cl (S : Lg) (n e k : Int) : S.step (.cl n e k) = match S.un.find? (fun u => decide (u.n = n)) with
    | some u => ⟨S.un.filter (fun x => decide (x.n ≠ n)), S.fi ++ [⟨n, u.c, u.a, u.t, e, k⟩]⟩
    | none => S := rfl
theorem any_find {α : Type} (p : α → Bool) (l : List α) : (l.find? p).isSome = l.any p := by
  rw [Bool.eq_iff_iff, List.find?_isSome, List.any_eq_true]
def Lg.opens (S : Lg) (n : Int) : Bool := S.un.any fun u => decide (u.n = n)
def Lg.knows (S : Lg) (n : Int) : Bool := S.opens n || S.fi.any fun b => decide (b.n = n)
def Lg.legal (S : Lg) : Rc → Bool
  | .op n .. => !S.knows n
  | .cl n .. => S.opens n
def st (rs : List Rc) : Lg := rs.foldl Lg.step ⟨[], []⟩
theorem st_snoc (rs : List Rc) (r : Rc) : st (rs ++ [r]) = (st rs).step r := by
  unfold st
  rw [List.foldl_append]
  rfl
theorem un_len (rs : List Rc) : (st rs).un.length ≤ rs.length ∧ (st rs).fi.length ≤ rs.length := by
  have one : ∀ (S : Lg) (r : Rc), (S.step r).un.length ≤ S.un.length + 1 ∧ (S.step r).fi.length ≤ S.fi.length + 1 := by
    intro S r
    cases r with
    | op n c a t => exact ⟨by show (S.un ++ _).length ≤ _; rw [List.length_append]; exact Nat.le_refl _, Nat.le_succ _⟩
    | cl n e k =>
      rw [step_cl]
      cases S.un.find? (fun u => decide (u.n = n)) with
      | none => exact ⟨Nat.le_succ _, Nat.le_succ _⟩
      | some u => exact ⟨Nat.le_succ_of_le (List.length_filter_le _ _), by show (S.fi ++ _).length ≤ _; rw [List.length_append]; exact Nat.le_refl _⟩
  have key : ∀ i, i ≤ rs.length → (st (rs.take i)).un.length ≤ i ∧ (st (rs.take i)).fi.length ≤ i := by
    intro i
    induction i with
    | zero => exact fun _ => ⟨Nat.le_refl _, Nat.le_refl _⟩
    | succ i ih =>
      intro hi
      have e : rs[i]? = some rs[i] := List.getElem?_eq_getElem (by omega)
      rw [List.take_add_one, e]
      show (st (rs.take i ++ [rs[i]])).un.length ≤ _ ∧ (st (rs.take i ++ [rs[i]])).fi.length ≤ _
      rw [st_snoc]
      have := one (st (rs.take i)) rs[i]
      have := ih (by omega)
      omega
  have := key rs.length (Nat.le_refl _)
  rw [List.take_length] at this
  exact this
def Good (rs : List Rc) : Prop := ∀ i r, rs[i]? = some r → (st (rs.take i)).legal r = true
theorem Good.nil : Good [] := fun i r h => by simp at h
theorem Good.snoc {rs : List Rc} {r : Rc} (h : Good rs) (k : (st rs).legal r = true) : Good (rs ++ [r]) := by
  intro i x hx
  by_cases hi : i < rs.length
  · rw [List.getElem?_append_left hi] at hx
    rw [List.take_append_of_le_length (by omega)]
    exact h i x hx
  · rw [List.getElem?_append_right (by omega)] at hx
    have e : i = rs.length := by
      by_cases q : i - rs.length = 0
      · omega
      · rw [List.getElem?_eq_none (by show 1 ≤ _; omega)] at hx
        cases hx
    subst e
    rw [Nat.sub_self] at hx
    obtain rfl : r = x := Option.some.inj hx
    rw [List.take_left]
    exact k
theorem Good.take {rs : List Rc} (h : Good rs) (m : Nat) : Good (rs.take m) := by
  intro i x hx
  rw [List.getElem?_take] at hx
  split at hx
  · rename_i hi
    rw [List.take_take, Nat.min_eq_left (by omega)]
    exact h i x hx
  · cases hx
def Disj (S : Lg) : Prop := ∀ u ∈ S.un, ∀ b ∈ S.fi, u.n ≠ b.n
theorem Disj.step {S : Lg} {r : Rc} (h : Disj S) (k : S.legal r = true) : Disj (S.step r) := by
  cases r with
  | op n c a t =>
    have k1 : (S.un.any fun u => decide (u.n = n)) = false ∧ (S.fi.any fun b => decide (b.n = n)) = false := by
      have : (!(S.opens n || S.fi.any fun b => decide (b.n = n))) = true := k
      rw [Bool.not_eq_true', Bool.or_eq_false_iff] at this
      exact this
    intro u hu b hb
    rcases List.mem_append.mp hu with z | z
    · exact h u z b hb
    · rw [List.mem_singleton.mp z]
      intro e
      have := List.any_eq_false.mp k1.2 b hb
      exact this (decide_eq_true e.symm)
  | cl n e k =>
    rw [step_cl]
    cases q : S.un.find? (fun u => decide (u.n = n)) with
    | none => exact h
    | some u =>
      intro x hx b hb
      obtain ⟨h1, h2⟩ := List.mem_filter.mp hx
      rcases List.mem_append.mp hb with z | z
      · exact h x h1 b z
      · rw [List.mem_singleton.mp z]
        exact of_decide_eq_true h2
theorem Good.disj : ∀ {rs : List Rc}, Good rs → Disj (st rs) := by
  intro rs h
  have key : ∀ i, i ≤ rs.length → Disj (st (rs.take i)) := by
    intro i
    induction i with
    | zero => exact fun _ u hu => by cases hu
    | succ i ih =>
      intro hi
      have e : rs[i]? = some rs[i] := List.getElem?_eq_getElem (by omega)
      rw [List.take_add_one, e]
      show Disj (st (rs.take i ++ [rs[i]]))
      rw [st_snoc]
      exact (ih (by omega)).step (h i _ e)
  have := key rs.length (Nat.le_refl _)
  rw [List.take_length] at this
  exact this
/-- what a reader of records takes -/
def eat (rs : List Rc) : Option Rc → List Rc
  | some r => if (st rs).legal r = true then rs ++ [r] else rs
  | none => rs
def eats (os : List (Option Rc)) : List Rc := os.foldl eat []
theorem eats_snoc (os : List (Option Rc)) (o : Option Rc) : eats (os ++ [o]) = eat (eats os) o := by
  unfold eats
  rw [List.foldl_append]
  rfl
theorem eat_good {rs : List Rc} (h : Good rs) (o : Option Rc) : Good (eat rs o) := by
  unfold eat
  cases o with
  | none => exact h
  | some r =>
    dsimp only
    split
    · rename_i k
      exact h.snoc k
    · exact h
theorem eats_good {rs : List Rc} (h : Good rs) : eats (rs.map some) = rs := by
  have key : ∀ i, i ≤ rs.length → eats ((rs.take i).map some) = rs.take i := by
    intro i
    induction i with
    | zero => exact fun _ => rfl
    | succ i ih =>
      intro hi
      have e : rs[i]? = some rs[i] := List.getElem?_eq_getElem (by omega)
      rw [List.take_add_one, e]
      show eats ((rs.take i ++ [rs[i]]).map some) = rs.take i ++ [rs[i]]
      rw [List.map_append]
      show eats (_ ++ [some rs[i]]) = _
      rw [eats_snoc, ih (by omega)]
      exact if_pos (h i _ e)
  have := key rs.length (Nat.le_refl _)
  rw [List.take_length] at this
  exact this
theorem sort_uniq {a b : List Int} (p : a.Perm b) (ha : a.Pairwise (· ≤ ·)) (hb : b.Pairwise (· < ·)) : a = b :=
  List.Perm.eq_of_pairwise (le := (· ≤ ·)) (fun _ _ _ _ h1 h2 => Int.le_antisymm h1 h2) ha (hb.imp Int.le_of_lt) p
/-- closing all that is open, in any order of different numbers -/
def clR (g : Un → Int × Int) (u : Un) : Rc := .cl u.n (g u).1 (g u).2
theorem fold_cl (g : Un → Int × Int) : ∀ (us : List Un) (S : Lg), S.un.Perm us → (us.map (·.n)).Pairwise (· < ·) → (us.map (clR g)).foldl Lg.step S = ⟨[], S.fi ++ us.map fun u => toBi u (g u).1 (g u).2⟩
  | [], S, h, _ => by
    obtain ⟨un, fi⟩ := S
    have : un = [] := List.Perm.eq_nil h
    subst this
    show (⟨[], fi⟩ : Lg) = ⟨[], fi ++ []⟩
    rw [List.append_nil]
  | u :: r, S, h, hp => by
    rw [List.map_cons, List.pairwise_cons] at hp
    have hn : ∀ x ∈ r, x.n ≠ u.n := fun x hx => by
      have := hp.1 x.n (List.mem_map.mpr ⟨x, hx, rfl⟩)
      omega
    have hf : S.un.find? (fun x => decide (x.n = u.n)) = some u := by
      cases q : S.un.find? (fun x => decide (x.n = u.n)) with
      | none =>
        have := List.find?_eq_none.mp q u (h.symm.subset (List.mem_cons_self ..))
        exact absurd (decide_eq_true rfl) this
      | some x =>
        have h1 := List.mem_of_find?_eq_some q
        have h2 : x.n = u.n := by simpa using List.find?_some (p := fun (x : Un) => decide (x.n = u.n)) q
        rcases List.mem_cons.mp (h.subset h1) with z | z
        · rw [z]
        · exact absurd h2 (hn x z)
    have hs : S.step (clR g u) = ⟨S.un.filter (fun x => decide (x.n ≠ u.n)), S.fi ++ [toBi u (g u).1 (g u).2]⟩ := by
      unfold clR
      rw [step_cl, hf]
      rfl
    have hp2 : (S.un.filter (fun x => decide (x.n ≠ u.n))).Perm r := by
      refine (h.filter _).trans ?_
      rw [List.filter_cons_of_neg (by simp), List.filter_eq_self.mpr fun x hx => decide_eq_true (hn x hx)]
    rw [List.map_cons, List.foldl_cons, hs, fold_cl g r _ hp2 hp.2]
    show (⟨[], (S.fi ++ [toBi u (g u).1 (g u).2]) ++ _⟩ : Lg) = _
    rw [List.append_assoc]
    rfl
/-- closing the first of what is open -/
theorem cl_step (g : Un → Int × Int) {S : Lg} {u : Un} {r : List Un} (h : S.un.Perm (u :: r)) (hn : ∀ x ∈ r, x.n ≠ u.n) : S.un.find? (fun x => decide (x.n = u.n)) = some u ∧ (S.step (clR g u)).un.Perm r ∧ S.legal (clR g u) = true := by
  have hf : S.un.find? (fun x => decide (x.n = u.n)) = some u := by
    cases q : S.un.find? (fun x => decide (x.n = u.n)) with
    | none =>
      have := List.find?_eq_none.mp q u (h.symm.subset (List.mem_cons_self ..))
      exact absurd (decide_eq_true rfl) this
    | some x =>
      have h1 := List.mem_of_find?_eq_some q
      have h2 : x.n = u.n := by simpa using List.find?_some (p := fun (x : Un) => decide (x.n = u.n)) q
      rcases List.mem_cons.mp (h.subset h1) with z | z
      · rw [z]
      · exact absurd h2 (hn x z)
  refine ⟨hf, ?_, ?_⟩
  · unfold clR
    rw [step_cl, hf]
    refine (h.filter _).trans ?_
    rw [List.filter_cons_of_neg (by simp), List.filter_eq_self.mpr fun x hx => decide_eq_true (hn x hx)]
  · show (S.un.any fun x => decide (x.n = u.n)) = true
    rw [← any_find, hf]
    rfl
theorem cl_some (g : Un → Int × Int) {rs : List Rc} {us : List Un} (hg : Good rs) (h : us.Perm (st rs).un) (hp : (us.map (·.n)).Pairwise (· < ·)) : ∀ i, i ≤ us.length → Good (rs ++ (us.take i).map (clR g)) ∧ (st (rs ++ (us.take i).map (clR g))).un.Perm (us.drop i) := by
  intro i
  induction i with
  | zero =>
    intro _
    show Good (rs ++ []) ∧ (st (rs ++ [])).un.Perm us
    rw [List.append_nil]
    exact ⟨hg, h.symm⟩
  | succ i ih =>
    intro hi
    obtain ⟨g1, p1⟩ := ih (by omega)
    rw [List.drop_eq_getElem_cons (show i < us.length by omega)] at p1
    have hn : ∀ x ∈ us.drop (i + 1), x.n ≠ us[i].n := fun x hx => by
      obtain ⟨k, hk, ek⟩ := List.mem_iff_getElem.mp hx
      rw [List.length_drop] at hk
      rw [List.getElem_drop] at ek
      have := List.pairwise_iff_getElem.mp hp i (i + 1 + k) (by rw [List.length_map]; omega) (by rw [List.length_map]; omega) (by omega)
      rw [List.getElem_map, List.getElem_map, ek] at this
      omega
    obtain ⟨_, a2, a3⟩ := cl_step g p1 hn
    have e : rs ++ (us.take (i + 1)).map (clR g) = (rs ++ (us.take i).map (clR g)) ++ [clR g us[i]] := by
      rw [List.take_add_one, List.getElem?_eq_getElem (show i < us.length by omega)]
      show rs ++ (us.take i ++ [us[i]]).map (clR g) = _
      rw [List.map_append, ← List.append_assoc]
      rfl
    rw [e, st_snoc]
    exact ⟨g1.snoc a3, a2⟩
theorem cl_find (g : Un → Int × Int) {rs : List Rc} {us : List Un} (hg : Good rs) (h : us.Perm (st rs).un) (hp : (us.map (·.n)).Pairwise (· < ·)) {i : Nat} (hi : i < us.length) : (st (rs ++ (us.take i).map (clR g))).un.find? (fun x => decide (x.n = us[i].n)) = some us[i] := by
  obtain ⟨_, p1⟩ := cl_some g hg h hp i (Nat.le_of_lt hi)
  rw [List.drop_eq_getElem_cons hi] at p1
  refine (cl_step g p1 fun x hx => ?_).1
  obtain ⟨k, hk, ek⟩ := List.mem_iff_getElem.mp hx
  rw [List.length_drop] at hk
  rw [List.getElem_drop] at ek
  have := List.pairwise_iff_getElem.mp hp i (i + 1 + k) (by rw [List.length_map]; omega) (by rw [List.length_map]; omega) (by omega)
  rw [List.getElem_map, List.getElem_map, ek] at this
  omega
theorem st_all (g : Un → Int × Int) {rs : List Rc} {us : List Un} (h : us.Perm (st rs).un) (hp : (us.map (·.n)).Pairwise (· < ·)) : st (rs ++ us.map (clR g)) = ⟨[], (st rs).fi ++ us.map fun u => toBi u (g u).1 (g u).2⟩ := by
  unfold st
  rw [List.foldl_append]
  exact fold_cl g us _ h.symm hp
/-! ### a dict at an address -/
def DAt (H : Hp) : List (Key × V) → List (Int × List V) → Prop
  | [], [] => True
  | kv :: r, x :: r2 => kv.1 = Sum.inl x.1 ∧ (∃ t, kv.2 = .ref t ∧ H t = some (.tup x.2)) ∧ DAt H r r2
  | _, _ => False
theorem DAt.mono {H H' : Hp} (s : ∀ x b, H x = some (.tup b) → H' x = some (.tup b)) : ∀ {a : List (Key × V)} {b : List (Int × List V)}, DAt H a b → DAt H' a b
  | [], [], _ => trivial
  | _ :: _, _ :: _, ⟨h1, ⟨t, h2, h3⟩, h4⟩ => ⟨h1, ⟨t, h2, s _ _ h3⟩, DAt.mono s h4⟩
  | [], _ :: _, h => h
  | _ :: _, [], h => h
theorem DAt.len {H : Hp} : ∀ {a : List (Key × V)} {b : List (Int × List V)}, DAt H a b → a.length = b.length
  | [], [], _ => rfl
  | _ :: _, _ :: _, ⟨_, _, h⟩ => congrArg Nat.succ (DAt.len h)
  | [], _ :: _, h => h.elim
  | _ :: _, [], h => h.elim
theorem DAt.keys {H : Hp} : ∀ {a : List (Key × V)} {b : List (Int × List V)}, DAt H a b → a.map (·.1) = (b.map (·.1)).map Sum.inl
  | [], [], _ => rfl
  | _ :: _, _ :: _, ⟨h1, _, h⟩ => by
    rw [List.map_cons, List.map_cons, List.map_cons, DAt.keys h, h1]
  | [], _ :: _, h => h.elim
  | _ :: _, [], h => h.elim
theorem DAt.keyVs {H : Hp} {a : List (Key × V)} {b : List (Int × List V)} (h : DAt H a b) : (a.map fun kv => kV kv.1) = (b.map (·.1)).map V.int := by
  have e := congrArg (List.map kV) h.keys
  rw [List.map_map, List.map_map] at e
  exact e
theorem DAt.val {H : Hp} (n : Int) : ∀ {a : List (Key × V)} {b : List (Int × List V)}, DAt H a b → (b.find? (fun x => decide (x.1 = n)) = none ∧ valV a (Sum.inl n) = none) ∨ ∃ x t, b.find? (fun x => decide (x.1 = n)) = some x ∧ valV a (Sum.inl n) = some (.ref t) ∧ H t = some (.tup x.2)
  | [], [], _ => .inl ⟨rfl, rfl⟩
  | kv :: r, x :: r2, ⟨h1, ⟨t, h2, h3⟩, h⟩ => by
    by_cases q : x.1 = n
    · refine .inr ⟨x, t, by rw [List.find?_cons_of_pos (by simp [q])], ?_, h3⟩
      rw [valV_pos (by rw [h1, q]), h2]
    · rw [List.find?_cons_of_neg (by simp [q]), valV_neg (by rw [h1]; exact fun z => q (Sum.inl.inj z))]
      exact DAt.val n h
  | [], _ :: _, h => h.elim
  | _ :: _, [], h => h.elim
theorem DAt.some_ {H : Hp} (n : Int) {a : List (Key × V)} {b : List (Int × List V)} (h : DAt H a b) : (valV a (Sum.inl n)).isSome = b.any fun x => decide (x.1 = n) := by
  rw [← any_find]
  rcases h.val n with ⟨e1, e2⟩ | ⟨x, t, e1, e2, _⟩
  · rw [e1, e2]; rfl
  · rw [e1, e2]; rfl
theorem DAt.snoc {H : Hp} {t : Addr} {x : Int × List V} (ht : H t = some (.tup x.2)) : ∀ {a : List (Key × V)} {b : List (Int × List V)}, DAt H a b → DAt H (a ++ [(Sum.inl x.1, .ref t)]) (b ++ [x])
  | [], [], _ => ⟨rfl, ⟨t, rfl, ht⟩, trivial⟩
  | _ :: _, _ :: _, ⟨h1, h2, h⟩ => ⟨h1, h2, DAt.snoc ht h⟩
  | [], _ :: _, h => h.elim
  | _ :: _, [], h => h.elim
theorem DAt.put {H : Hp} {t : Addr} {x : Int × List V} {a : List (Key × V)} {b : List (Int × List V)} (h : DAt H a b) (ht : H t = some (.tup x.2)) (hn : (b.any fun y => decide (y.1 = x.1)) = false) : DAt H (putK a (Sum.inl x.1) (.ref t)) (b ++ [x]) := by
  have e := h.some_ x.1
  rw [hn] at e
  have e2 : valV a (Sum.inl x.1) = none := by
    cases q : valV a (Sum.inl x.1) with
    | none => rfl
    | some v => rw [q] at e; cases e
  rw [putK_new _ e2]
  exact h.snoc ht
theorem DAt.drop {H : Hp} (n : Int) : ∀ {a : List (Key × V)} {b : List (Int × List V)}, DAt H a b → DAt H (dropK a (Sum.inl n)) (b.filter fun x => decide (x.1 ≠ n))
  | [], [], _ => trivial
  | kv :: r, x :: r2, ⟨h1, h2, h⟩ => by
    have ih := DAt.drop n h
    unfold dropK at *
    by_cases q : x.1 = n
    · rw [List.filter_cons_of_neg (by rw [h1, q]; simp), List.filter_cons_of_neg (by simp [q])]
      exact ih
    · rw [List.filter_cons_of_pos (by rw [h1]; exact decide_eq_true fun z => q (Sum.inl.inj z)), List.filter_cons_of_pos (by simp [q])]
      exact ⟨h1, h2, ih⟩
  | [], _ :: _, h => h.elim
  | _ :: _, [], h => h.elim
end LD
set_option maxHeartbeats 1000000
namespace PySem
section
variable {prog : Program} {w : World} {A : Around} {E : Value → Shared → Prop} {s : Shared} {T : String} {r d : Addr} {n : Nat} {P : Nat → Value → Prop} {OK : Heap → Prop}
theorem W.iadd_kdl {R : Result → Shared → Prop} (K : W.KdlSrc prog w T r d n P OK) (hh : A.handled = none) (hok : OK s.heap) (S : Addr) (hSr : S ≠ r) (hSd : S ≠ d) (hS : s.heap.get? S = some { cls := .type "list", data := .seq #[] }) (hn : n ≤ sizeLine)
    (hR : ∀ h' tk (acc' : Array Value) c', (∀ b o, b ≠ S → s.heap.get? b = some o → h'.get? b = some o) → h'.get? S = some { cls := .type "list", dict := none, data := .seq acc' c', slots := #[] } → ItemsOf P acc' n → R (.ok (.ret (.ref S))) { s with heap := h', toks := tk }) :
    codeAny (model prog w) A (.builtin "list.__iadd__" ⟨[.ref S, .ref r], []⟩) R s := by
  refine codeAny_builtin F.entry_list_iadd ?_
  rw [Around.under_plainId F.plain_list_iadd _]
  exact W.kdl_extend (A := A) (R := R) K hh hok S hSr hSd _ 0 hS hR hn
theorem W.collect_kdl {Q : List Value → Shared → Prop} (K : W.KdlSrc prog w T r d n P OK) (hh : A.handled = none) (hok : OK s.heap) (hn : n ≤ sizeLine)
    (hQ : ∀ h' tk (acc : Array Value), (∀ b o, s.heap.get? b = some o → h'.get? b = some o) → ItemsOf P acc n → Q acc.toList { s with heap := h', toks := tk }) :
    wpAny (model prog w) A (collect (.ref r)) Q E s := by
  have hlt := K.there _ hok
  unfold collect
  refine wpAny_bind (wpAny_runValue (codeAny_builtin F.entry_proto_collect ?_))
  rw [Around.under_plainId F.plain_proto_collect _]
  show wpAny _ A.in1 (newList [] >>= fun l => again (.builtin "list.__iadd__" ⟨[l, .ref r], []⟩)) _ _ s
  refine wpAny_bind (wpAny_newObj_type ?_)
  have hS : (s.heap.push { cls := .type "list", data := .seq ([] : List Value).toArray }).get? s.heap.objs.size = some { cls := .type "list", data := .seq ([] : List Value).toArray } := Heap.get?_push_size _ rfl
  refine wpAny_pure ⟨plainId_quiet F.plain_list_iadd _, W.iadd_kdl (A := A) (s := { s with heap := s.heap.push { cls := .type "list", data := .seq ([] : List Value).toArray } }) K hh (K.keep _ _ hok fun b _ o e => Heap.get?_push_of_some _ e) s.heap.objs.size (Nat.ne_of_gt hlt.1) (Nat.ne_of_gt hlt.2) hS hn fun h' tk acc' c' hk hS' hacc => ?_⟩
  show wpAny _ A (load s.heap.objs.size >>= _) _ _ _
  refine wpAny_bind (wpAny_load hS' ?_)
  exact wpAny_pure (hQ h' tk acc' (fun b o e => hk b o (Nat.ne_of_lt (Heap.lt_size e)) (Heap.get?_push_of_some _ e)) hacc)
end
end PySem
namespace TK
open PySem PySem.Spec PyProof.Rows L2 SX
section
variable {X : Cx} {pins : List (Addr × Obj)} {σ : L2.St} {H : Hp} {s : Shared}
theorem star_dict (hcalm : X.calm = true) {a : Addr} {kvs : List (Key × V)} {E : Value → Shared → Prop} {Q : List Value → Shared → Prop} (I : Inv X pins σ H s) (hd : Rd H a (.dK kvs)) (hQ : ∀ us s', Inv X pins σ H s' → Vals (kvs.map fun kv => kV kv.1) us → Q us s') : PySem.W.StarOf (model X.prog X.w) X.A E (.ref a) Q s := by
  obtain ⟨z, lo, vs, rel, dd⟩ := dk_rd I.hok hd
  obtain ⟨ep, hat⟩ := dd.dictAt
  have ek : (kvs.map fun kv => kV kv.1) = vs.map fun p => kV p.1 := by
    have e := congrArg (List.map kV) rel.keys
    rw [List.map_map, List.map_map] at e
    exact e
  have q : wpAny (model X.prog X.w) X.A (collect (.ref a)) Q E s := by
    refine PySem.W.collect_kdl (PySem.W.kdl_dict (knd := mixKind X.prog X.w) (kvs := vs) (ep := ep) lo) (I.ok.hd hcalm) hat (by rw [← rel.length]; exact z) fun h' tk acc hk hacc => ?_
    have hv : Vals (vs.map fun p => kV p.1) acc.toList := keys_at (by rw [Array.length_toList]; exact hacc.1) fun j v e => hacc.2 j v (by rw [← Array.getElem?_toList]; exact e)
    exact hQ _ _ (I.kept (t' := tk) hk) (by rw [ek]; exact hv)
  unfold PySem.W.StarOf notIterableAtAll
  exact wpAny_bind (wpAny_specialOf dd.typeIs PySem.F.slot_dict_iter.lookup (wpAny_pure ⟨rfl, q⟩))
theorem slListK {X : Cx} (K : PySem.W.Frag) (e : X.K = K) : SlR X (rSlL K) := by
  subst e
  exact sl_list
/-- *d, d a dict -/
def tStarD (te : TE) (t : TA) : TA := fun σ H Q => te σ H fun x H1 => ∃ p kvs, x = V.ref p ∧ H1 p = some (.dK kvs) ∧ t σ H1 fun ys H2 => Q ((kvs.map fun kv => kV kv.1) ++ ys) H2
theorem pa_starD {e : Expr} {es : List Expr} {te : TE} {t : TA} {p : Pos} (hcalm : X.calm = true) (he : PE X e te) (hr : PA X es t) (hs : starEach (.Starred e p :: es) X.env = (true, eval e X.env) :: starEach es X.env := by rfl) : PA X (.Starred e p :: es) (tStarD te t) := by
  refine ⟨fun pos pins s σ H Q I h => ?_⟩
  refine PySem.W.items_star (thn (he.run pins s σ H _ I h) fun v s1 ⟨y, H1, I1, ry, a, kvs, ey, hx, q⟩ => ?_) hs
  subst ey
  obtain rfl : v = Value.ref a := ry
  refine star_dict hcalm I1 (.inl hx) fun us s2 I2 rv => ?_
  exact thn (hr.run pos pins s2 σ H1 _ I2 q) fun ws s3 ⟨vs, H3, I3, r3, q3⟩ => ⟨_, H3, I3, rv.append r3, q3⟩
end
end TK
set_option maxHeartbeats 1000000
namespace TK
open PySem PySem.Spec PyProof.Rows L2 SX
/-- sorted(xs), xs a list of lists of plain data -/
def rwD (x : Addr × List PyData) : PyData := .list x.2
def rSortRows (K : PySem.W.Frag) : List V → Hp → VK → Prop := fun vs H Q => ∃ (a : Addr) (L : List (Addr × List PyData)), vs = [V.ref a] ∧ SqL K H a (L.map fun x => V.ref x.1) ∧ (∀ x ∈ L, Dp K H (.ref x.1) (rwD x)) ∧
  (∀ x ∈ L, ∀ y ∈ L, PySem.W.alike (rwD x) (rwD y) = true) ∧ (∀ x ∈ L, (rwD x).depth ≤ 8) ∧
  ∀ p, H p = none → Q (.ref p) (upd H p (.lst ((L.mergeSort (PySem.W.dataLe false rwD)).map fun x => V.ref x.1)))
theorem refs_its : ∀ {L : List (Addr × List PyData)} {its : List Value}, Vals (L.map fun x => V.ref x.1) its → its = L.map fun x => Value.ref x.1
  | [], [], _ => rfl
  | x :: L, u :: us, h => by
    cases h with
    | cons h1 h2 =>
      have e : u = Value.ref x.1 := h1
      rw [e, refs_its h2]
      rfl
  | [], _ :: _, h => by cases h
  | _ :: _, [], h => by cases h
theorem each_of {α β : Type} {R : α → β → Prop} (f : β → α) : ∀ {l : List β}, (∀ x ∈ l, R (f x) x) → PySem.W.EachIs R (l.map f) l
  | [], _ => .nil
  | x :: r, h => .cons (h x (List.mem_cons_self ..)) (each_of f fun y hy => h y (List.mem_cons_of_mem _ hy))
theorem each_out : ∀ {out : List Value} {L : List (Addr × List PyData)}, PySem.W.EachIs (fun v b => v = Value.ref b.1) out L → out = L.map fun x => Value.ref x.1
  | _, _, .nil => rfl
  | _, _, .cons h t => by rw [h, each_out t]; rfl
theorem vals_refs : ∀ L : List (Addr × List PyData), Vals (L.map fun x => V.ref x.1) (L.map fun x => Value.ref x.1)
  | [] => .nil
  | x :: r => .cons rfl (vals_refs r)
section
variable {X : Cx}
theorem cr_sortedRows (hu : X.A.units + 64 < cLine) : CallR X (.builtin "sorted") (rSortRows X.K) := by
  intro pins s σ H vs us Q I r h
  obtain ⟨a, L, rfl, hs, hd, hal, hdp, q⟩ := h
  obtain ⟨its, rv, hl, hz⟩ := I.list hs
  rw [Vals.ref1 r]
  obtain rfl := refs_its rv
  refine PySem.W.sorted_data (R := fun v b => v = Value.ref b.1) (enc := rwD) (bs := L) hl.isList (each_of (fun x : Addr × List PyData => Value.ref x.1) fun x _ => rfl) (each_of (fun x : Addr × List PyData => Value.ref x.1) fun x hx => Dp.reads I _ _ _ (hd x hx) rfl) ?_ ?_ (by rw [List.length_map] at hz; exact hz) (fun b hb => by have := hdp b hb; omega) fun out h1 h2 => ?_
  · intro d hd1 d' hd2
    obtain ⟨x, hx, rfl⟩ := List.mem_map.mp hd1
    obtain ⟨y, hy, rfl⟩ := List.mem_map.mp hd2
    exact hal x hx y hy
  · exact .inr fun d hd1 => by
      obtain ⟨x, hx, rfl⟩ := List.mem_map.mp hd1
      exact ⟨(by intro z; cases z), fun xs z => by cases z⟩
  · obtain rfl := each_out h2
    obtain ⟨ep, he'⟩ := PyProof.Rows.sortedAll_at s.heap (L.map fun x => Value.ref x.1) ((L.mergeSort (PySem.W.dataLe false rwD)).map fun x => Value.ref x.1).toArray
    have hlen : ((L.mergeSort (PySem.W.dataLe false rwD)).map fun x => V.ref x.1).length ≤ sizeLine := by
      rw [List.length_map, List.length_mergeSort]
      rw [List.length_map] at hz
      exact hz
    exact ⟨.ref _, upd H (s.heap.objs.size + 1) (.lst ((L.mergeSort (PySem.W.dataLe false rwD)).map fun x => V.ref x.1)), I.laid (t' := s.toks) (fun _ _ => PyProof.Rows.sortedAll_old) (Nat.le_succ _) ⟨hlen, _, ep, vals_refs _, he'⟩, rfl, q _ (I.hok.fresh (Nat.le_succ _))⟩
end
/-- rows whose first items are different numbers: the list sorted by those -/
theorem sort_firsts {L L' : List (Addr × List PyData)} (k : Addr × List PyData → Int) (r : Addr × List PyData → List PyData) (hk : ∀ x ∈ L, x.2 = .int (k x) :: r x) (hp : L'.Perm L) (hs : (L'.map k).Pairwise (· < ·)) : L.mergeSort (PySem.W.dataLe false rwD) = L' := by
  have T := PySem.W.sortLe_total (PyProof.Rows.listOrd PyProof.Rows.itemOrd) false fun b => PySem.W.keyToks (rwD b)
  have p1 := PySem.W.sort_pairwise (le := PySem.W.dataLe false rwD) T L
  have p2 := List.mergeSort_perm L (PySem.W.dataLe false rwD)
  have lt : ∀ x ∈ L, ∀ y ∈ L, k x < k y → PySem.W.dataLe false rwD y x = false := fun x hx y hy h => by
    rw [PySem.W.dataLe_eq]
    show (!PySem.W.dataLt (.list x.2) (.list y.2)) = false
    rw [hk x hx, hk y hy, PySem.W.dataLt_list, PySem.W.dataLt_cons (by simp [PySem.W.alike])]
    have e : PyData.eqv (.int (k x)) (.int (k y)) = false := by
      simp only [PyData.eqv, beq_eq_false_iff_ne]
      omega
    rw [e, if_neg Bool.false_ne_true, PySem.W.dataLt_int, decide_eq_true h]
    rfl
  have hs2 : L'.Pairwise fun x y => k x < k y := List.pairwise_map.mp hs
  have inj : ∀ x ∈ L', ∀ y ∈ L', k x = k y → x = y := fun x hx y hy e => by
    obtain ⟨i, hi, rfl⟩ := List.mem_iff_getElem.mp hx
    obtain ⟨j, hj, rfl⟩ := List.mem_iff_getElem.mp hy
    have pw := List.pairwise_iff_getElem.mp hs2
    rcases Nat.lt_trichotomy i j with z | z | z
    · have := pw i j hi hj z; omega
    · subst z; rfl
    · have := pw j i hj hi z; omega
  refine List.Perm.eq_of_pairwise (le := fun x y => k x ≤ k y) (fun x y hx hy h1 h2 => inj x (hp.symm.subset (p2.subset hx)) y hy (Int.le_antisymm h1 h2)) ?_ (hs2.imp Int.le_of_lt) (p2.trans hp.symm)
  refine p1.imp_of_mem fun {x y} hx hy h => ?_
  by_cases q : k y < k x
  · rw [lt y (p2.subset hy) x (p2.subset hx) q] at h
    cases h
  · omega
end TK
set_option maxHeartbeats 1000000
namespace TK
open PySem PySem.Spec PyProof.Rows L2 SX
/-- a test behind which a token is out -/
def PTt (X : Cx) (e : Expr) (t : TT) : Prop :=
  ∀ (pins : List (Addr × Obj)) (s : Shared) (σ : L2.St) (H : Hp) (Q : Bool → Hp → Prop), Inv X pins σ H s → t σ H Q → wpAny (model X.prog X.w) X.A (isTrue e X.env (eval e X.env)) (fun b s' => 1 ≤ s'.toks ∧ TP X pins σ Q b s') X.xe s
section
variable {X : Cx} {a b c e : Expr} {ta tb : TE} {pos cp : Pos} {j : Nat}
theorem ptt_cmpI {op : CmpOp} {r : R2} {i : Int} (ho : OpR X (compareOp op) r) (ha : PE X a ta) (hm : behindInMarks op (.Constant (.int i) j cp) = false := by exact nomark _) : PTt X (.Compare a [op] [.Constant (.int i) j cp] pos) (tTest (tOp r ta (tC (.int i)))) := by
  intro pins s σ H Q I h
  refine wpAny_isTrue_Compare1 (thn (ha.run pins s σ H _ I h) fun v s1 ⟨x, H1, I1, r1, q1⟩ => wpAny_Constant_int ?_) hm
  refine wpAny_mono (PySem.wpAny_toks (ho pins { s1 with toks := s1.toks + 1 } σ H1 x (.int i) v (.int i s1.toks) _ (I1.tok _) r1 ⟨_, rfl⟩ q1)) (fun d s3 q => ?_) fun _ _ z => z.2
  obtain ⟨hk, z, H3, I3, r3, k, e, q3⟩ := q
  subst e
  cases r3
  have : s1.toks + 1 ≤ s3.toks := hk
  exact wpAny_truthy_bool ⟨by omega, H3, I3, q3⟩
theorem ps_ifT {x y : List Stmt} {tc : TT} {t u : TS} (hc : PTt X c tc) (ha : PSsT X x t) (hb : PSs X y u) : PS X (.If c x y pos) (tIfS tc t u) := by
  refine ⟨fun pins s σ H D I h => ?_⟩
  refine wpAny_If (thn (hc pins s σ H (fun b H1 => if b = true then t D σ H1 else u D σ H1) I h) fun d s1 ⟨h0, H1, I1, q1⟩ => ?_)
  cases d with
  | true => exact ha pins s1 σ H1 D h0 I1 q1
  | false => exact hb.run pins s1 σ H1 D I1 q1
theorem pet_ifExp {tA : TT} (hc : PT X c tA) (ha : PET X a ta) (hb : PET X b tb) : PET X (.IfExp c a b pos) (tIf tA ta tb) := by
  intro pins s σ H Q h0 I h
  refine wpAny_IfExp (wpAny_mono (PySem.wpAny_toks (hc.run pins s σ H _ I h)) (fun d s1 q => ?_) fun _ _ z => z.2)
  obtain ⟨hk, H1, I1, q1⟩ := q
  cases d with
  | true => exact ha pins s1 σ H1 Q (Nat.le_trans h0 hk) I1 q1
  | false => exact hb pins s1 σ H1 Q (Nat.le_trans h0 hk) I1 q1
end
/-! ### one sign put for another, or left out -/
theorem hit1 {c : Nat} {r : List Nat} {d : Nat} : (d :: r).take [c].length = [c] ↔ d = c := by
  show [d] = [c] ↔ _
  constructor
  · intro h; injection h
  · rintro rfl; rfl
theorem repl1_len (c : Nat) (z : List Nat) (hz : z.length ≤ 2) : ∀ l : List Nat, (PySem.StrLaws.replL [c] z l).length ≤ 2 * l.length
  | [] => by rw [PySem.StrLaws.replL_nil]; exact Nat.le_refl _
  | d :: r => by
    have ih := repl1_len c z hz r
    by_cases q : d = c
    · rw [PySem.StrLaws.replL_hit (by intro e; cases e) (hit1.mpr q), List.length_append]
      show z.length + (PySem.StrLaws.replL [c] z r).length ≤ _
      rw [List.length_cons]
      omega
    · rw [PySem.StrLaws.replL_miss fun e => q (hit1.mp e), List.length_cons, List.length_cons]
      omega
theorem repl1_mem (c : Nat) (z : List Nat) (k : Nat) : ∀ l : List Nat, k ∈ PySem.StrLaws.replL [c] z l → k ∈ l ∨ k ∈ z
  | [], h => by rw [PySem.StrLaws.replL_nil] at h; cases h
  | d :: r, h => by
    have ih := repl1_mem c z k r
    by_cases q : d = c
    · rw [PySem.StrLaws.replL_hit (by intro e; cases e) (hit1.mpr q)] at h
      rcases List.mem_append.mp h with m | m
      · exact .inr m
      · rcases ih m with m | m
        · exact .inl (List.mem_cons_of_mem _ m)
        · exact .inr m
    · rw [PySem.StrLaws.replL_miss fun e => q (hit1.mp e)] at h
      rcases List.mem_cons.mp h with m | m
      · exact .inl (by rw [m]; exact List.mem_cons_self ..)
      · rcases ih m with m | m
        · exact .inl (List.mem_cons_of_mem _ m)
        · exact .inr m
end TK
set_option maxHeartbeats 1000000
namespace LD
open PySem PySem.Spec PyProof.Rows L2 SX TK
/-! ### a law's rows at their addresses: what a reader of records takes of any records -/
structure Rx where
  n : Int
  c : Str
  a : Str
  t : Int
  e : Option (Int × Int)
def Rx.un (r : Rx) : Un := ⟨r.n, r.c, r.a, r.t⟩
abbrev Px := List (Addr × Rx)
def opn (x : Addr × Rx) : Bool := x.2.e.isNone
def opP (P : Px) : List Un := (P.filter opn).map fun x => x.2.un
def clP (P : Px) : List Bi := P.filterMap fun x => x.2.e.map fun y => toBi x.2.un y.1 y.2
structure AgrP (S : Lg) (P : Px) : Prop where
  f : S.fi.Perm (clP P)
  u : S.un.Perm (opP P)
  n : (P.map (·.2.n)).Nodup
theorem clP_app (A B : Px) : clP (A ++ B) = clP A ++ clP B := List.filterMap_append ..
theorem opP_app (A B : Px) : opP (A ++ B) = opP A ++ opP B := by
  unfold opP
  rw [List.filter_append, List.map_append]
theorem cl1 (x : Addr × Rx) : clP [x] = match x.2.e with | some y => [toBi x.2.un y.1 y.2] | none => [] := by
  unfold clP
  cases h : x.2.e with
  | none => rw [List.filterMap_cons_none (by rw [h]; rfl)]; rfl
  | some y => rw [List.filterMap_cons_some (by rw [h]; rfl)]; rfl
theorem op1 (x : Addr × Rx) : opP [x] = match x.2.e with | some _ => [] | none => [x.2.un] := by
  unfold opP
  cases h : x.2.e with
  | none => rw [List.filter_cons_of_pos (by unfold opn; rw [h]; rfl)]; rfl
  | some y => rw [List.filter_cons_of_neg (by unfold opn; rw [h]; exact Bool.false_ne_true)]; rfl
theorem mem_op {P : Px} {u : Un} (h : u ∈ opP P) : ∃ x ∈ P, u = x.2.un ∧ x.2.e = none := by
  obtain ⟨x, hx, rfl⟩ := List.mem_map.mp h
  obtain ⟨h1, h2⟩ := List.mem_filter.mp hx
  exact ⟨x, h1, rfl, Option.isNone_iff_eq_none.mp h2⟩
theorem mem_cl {P : Px} {b : Bi} (h : b ∈ clP P) : ∃ x ∈ P, ∃ y, x.2.e = some y ∧ b = toBi x.2.un y.1 y.2 := by
  obtain ⟨x, hx, e⟩ := List.mem_filterMap.mp h
  cases q : x.2.e with
  | none => rw [q] at e; cases e
  | some y => rw [q] at e; exact ⟨x, hx, y, q, (Option.some.inj e).symm⟩
theorem AgrP.opens {S : Lg} {P : Px} (h : AgrP S P) (n : Int) : S.opens n = true ↔ ∃ x ∈ P, x.2.n = n ∧ x.2.e = none := by
  unfold Lg.opens
  rw [List.any_eq_true]
  constructor
  · rintro ⟨u, hu, e⟩
    obtain ⟨x, hx, rfl, q⟩ := mem_op (h.u.subset hu)
    exact ⟨x, hx, of_decide_eq_true e, q⟩
  · rintro ⟨x, hx, e, q⟩
    refine ⟨x.2.un, h.u.symm.subset (List.mem_map.mpr ⟨x, List.mem_filter.mpr ⟨hx, ?_⟩, rfl⟩), decide_eq_true e⟩
    unfold opn
    rw [q]; rfl
theorem AgrP.knows {S : Lg} {P : Px} (h : AgrP S P) (n : Int) : S.knows n = true ↔ ∃ x ∈ P, x.2.n = n := by
  unfold Lg.knows
  rw [Bool.or_eq_true, h.opens, List.any_eq_true]
  constructor
  · rintro (⟨x, hx, e, _⟩ | ⟨b, hb, e⟩)
    · exact ⟨x, hx, e⟩
    · obtain ⟨x, hx, y, q, rfl⟩ := mem_cl (h.f.subset hb)
      exact ⟨x, hx, of_decide_eq_true e⟩
  · rintro ⟨x, hx, e⟩
    cases q : x.2.e with
    | none => exact .inl ⟨x, hx, e, q⟩
    | some y =>
      refine .inr ⟨toBi x.2.un y.1 y.2, h.f.symm.subset (List.mem_filterMap.mpr ⟨x, hx, by rw [q]; rfl⟩), decide_eq_true e⟩
theorem AgrP.op {S : Lg} {P : Px} (h : AgrP S P) (x : Addr) {n t : Int} {c a : Str} (hn : ∀ y ∈ P, y.2.n ≠ n) : S.legal (.op n c a t) = true ∧ AgrP (S.step (.op n c a t)) (P ++ [(x, ⟨n, c, a, t, none⟩)]) := by
  refine ⟨?_, ?_, ?_, ?_⟩
  · show (!S.knows n) = true
    rw [Bool.not_eq_true', ← Bool.not_eq_true]
    intro z
    obtain ⟨y, hy, e⟩ := (h.knows n).mp z
    exact hn y hy e
  · rw [clP_app, cl1]
    show S.fi.Perm (clP P ++ [])
    rw [List.append_nil]
    exact h.f
  · rw [opP_app, op1]
    exact h.u.append_right _
  · rw [List.map_append, List.nodup_append]
    refine ⟨h.n, by simp, fun i hi j hj => ?_⟩
    obtain ⟨y, hy, rfl⟩ := List.mem_map.mp hi
    rw [List.mem_singleton.mp hj]
    exact hn y hy
theorem AgrP.op_no {S : Lg} {P : Px} (h : AgrP S P) {n t : Int} {c a : Str} (hn : ∃ y ∈ P, y.2.n = n) : S.legal (.op n c a t) = false := by
  show (!S.knows n) = false
  rw [(h.knows n).mpr hn]
  rfl
theorem AgrP.cl_no {S : Lg} {P : Px} (h : AgrP S P) {n e k : Int} (hn : ∀ y ∈ P, y.2.n = n → y.2.e ≠ none) : S.legal (.cl n e k) = false := by
  show S.opens n = false
  rw [← Bool.not_eq_true]
  intro z
  obtain ⟨y, hy, e1, e2⟩ := (h.opens n).mp z
  exact hn y hy e1 e2
theorem AgrP.cl {S : Lg} {A B : Px} {x : Addr × Rx} (h : AgrP S (A ++ x :: B)) (he : x.2.e = none) (e k : Int) :
    S.legal (.cl x.2.n e k) = true ∧ AgrP (S.step (.cl x.2.n e k)) (A ++ (x.1, { x.2 with e := some (e, k) }) :: B) := by
  have hi := h.n
  rw [List.map_append, List.nodup_append, List.map_cons, List.nodup_cons] at hi
  have hA : ∀ y ∈ A, y.2.n ≠ x.2.n := fun y hy => hi.2.2 _ (List.mem_map.mpr ⟨y, hy, rfl⟩) _ (List.mem_cons_self ..)
  have hB : ∀ y ∈ B, y.2.n ≠ x.2.n := fun y hy z => hi.2.1.1 (List.mem_map.mpr ⟨y, hy, z⟩)
  have e1 : opP (A ++ x :: B) = opP A ++ x.2.un :: opP B := by
    rw [show x :: B = [x] ++ B from rfl, opP_app, opP_app, op1, he]
    rfl
  have hp : S.un.Perm (x.2.un :: (opP A ++ opP B)) := h.u.trans (by rw [e1]; exact List.perm_middle)
  have hn : ∀ y ∈ opP A ++ opP B, y.n ≠ x.2.un.n := fun y hy => by
    rcases List.mem_append.mp hy with z | z
    · obtain ⟨w, hw, rfl, _⟩ := mem_op z
      exact hA w hw
    · obtain ⟨w, hw, rfl, _⟩ := mem_op z
      exact hB w hw
  obtain ⟨c1, c2, c3⟩ := cl_step (fun _ => (e, k)) hp hn
  refine ⟨c3, ?_, ?_, ?_⟩
  · rw [step_cl]
    have c1' : S.un.find? (fun y => decide (y.n = x.2.n)) = some x.2.un := c1
    rw [c1']
    have e2 : clP (A ++ (x.1, { x.2 with e := some (e, k) }) :: B) = clP A ++ toBi x.2.un e k :: clP B := by
      rw [show (x.1, ({ x.2 with e := some (e, k) } : Rx)) :: B = [(x.1, ({ x.2 with e := some (e, k) } : Rx))] ++ B from rfl, clP_app, clP_app, cl1]
      rfl
    have e3 : clP (A ++ x :: B) = clP A ++ clP B := by
      rw [show x :: B = [x] ++ B from rfl, clP_app, clP_app, cl1, he]
      rfl
    rw [e2]
    have hf := h.f
    rw [e3] at hf
    show (S.fi ++ [toBi x.2.un e k]).Perm _
    exact (hf.append_right _).trans (List.perm_append_comm.trans (show (toBi x.2.un e k :: (clP A ++ clP B)).Perm _ from List.perm_middle.symm))
  · have e2 : opP (A ++ (x.1, { x.2 with e := some (e, k) }) :: B) = opP A ++ opP B := by
      rw [show (x.1, ({ x.2 with e := some (e, k) } : Rx)) :: B = [(x.1, ({ x.2 with e := some (e, k) } : Rx))] ++ B from rfl, opP_app, opP_app, op1]
      rfl
    rw [e2]
    exact c2
  · have e4 : (A ++ (x.1, ({ x.2 with e := some (e, k) } : Rx)) :: B).map (·.2.n) = (A ++ x :: B).map (·.2.n) := by
      rw [List.map_append, List.map_append]
      rfl
    rw [e4]
    exact h.n
/-- all rows, the open ones closed by g -/
def fillR (g : Un → Int × Int) (r : Rx) : Rx := match r.e with
  | some _ => r
  | none => { r with e := some (g r.un) }
def biR (r : Rx) : Bi := match r.e with
  | some y => toBi r.un y.1 y.2
  | none => toBi r.un 0 0
theorem bills_all (g : Un → Int × Int) : ∀ P : Px, (clP P ++ (opP P).map fun u => toBi u (g u).1 (g u).2).Perm (P.map fun x => biR (fillR g x.2))
  | [] => .nil
  | x :: q => by
    have ih := bills_all g q
    rw [show x :: q = [x] ++ q from rfl, clP_app, opP_app, cl1, op1, List.map_append, List.map_append]
    cases e : x.2.e with
    | some y =>
      have : biR (fillR g x.2) = toBi x.2.un y.1 y.2 := by unfold fillR; rw [e]; unfold biR; rw [e]
      show (toBi x.2.un y.1 y.2 :: (clP q) ++ ([] ++ _)).Perm (biR (fillR g x.2) :: _)
      rw [this]
      exact ih.cons _
    | none =>
      have : biR (fillR g x.2) = toBi x.2.un (g x.2.un).1 (g x.2.un).2 := by unfold fillR; rw [e]; rfl
      show (([] ++ clP q) ++ (toBi x.2.un (g x.2.un).1 (g x.2.un).2 :: _)).Perm (biR (fillR g x.2) :: _)
      rw [this]
      exact List.perm_middle.trans (ih.cons _)
theorem biR_n (r : Rx) : (biR r).n = r.n := by
  unfold biR
  split <;> rfl
theorem fill_n (g : Un → Int × Int) (r : Rx) : (fillR g r).n = r.n := by
  unfold fillR
  split <;> rfl
/-- by their numbers -/
def srt {α : Type} (k : α → Int) (l : List α) : List α := l.mergeSort fun x y => decide (k x ≤ k y)
theorem srt_perm {α : Type} (k : α → Int) (l : List α) : (srt k l).Perm l := List.mergeSort_perm ..
theorem srt_pw {α : Type} (k : α → Int) (l : List α) (h : (l.map k).Nodup) : ((srt k l).map k).Pairwise (· < ·) := by
  have p := List.pairwise_mergeSort (le := fun x y => decide (k x ≤ k y)) (fun a b c h1 h2 => decide_eq_true (Int.le_trans (of_decide_eq_true h1) (of_decide_eq_true h2))) (fun a b => by
    rw [Bool.or_eq_true, decide_eq_true_eq, decide_eq_true_eq]
    omega) l
  have n : ((srt k l).map k).Nodup := ((srt_perm k l).map k).nodup_iff.mpr h
  have p2 : ((srt k l).map k).Pairwise (· ≤ ·) := List.pairwise_map.mpr (p.imp fun h => of_decide_eq_true h)
  exact (p2.and n).imp fun h => by have := h.1; have := h.2; omega
end LD
set_option maxHeartbeats 1000000
set_option pp.maxSteps 500
namespace K13
open PySem PySem.Spec PyProof.Rows L2 SX TK NdefX K11 LD
open C8 (pe_c)
def top (i : Nat) : Stmt := PySem.Challenge.pw_trunkland_k13_journals_of_any_lines.main.body.getD i (.Pass ⟨0, 0, 0, 0⟩)
abbrev s_wall : Stmt := top 0
abbrev s_Journal___init : Stmt := inClass (top 5) 0
abbrev s_Journal_append : Stmt := inClass (top 5) 1
abbrev s_Journal_sync : Stmt := inClass (top 5) 2
abbrev s_Journal_after_crash : Stmt := inClass (top 5) 3
abbrev s_checksum : Stmt := top 6
abbrev s_sealed : Stmt := top 7
abbrev s_read_journal : Stmt := top 8
abbrev s_is_name : Stmt := top 15
abbrev s_is_address : Stmt := top 16
abbrev s_read_number : Stmt := top 17
abbrev s_split_address : Stmt := top 18
abbrev s_consists_of : Stmt := top 19
abbrev s_Ledger___init : Stmt := inClass (top 22) 0
abbrev s_Ledger_begin : Stmt := inClass (top 22) 1
abbrev s_Ledger_finish : Stmt := inClass (top 22) 2
abbrev s_Ledger_close : Stmt := inClass (top 22) 3
abbrev s_Ledger_is_open : Stmt := inClass (top 22) 4
abbrev s_Ledger_is_known : Stmt := inClass (top 22) 5
abbrev s_Ledger_answer_of : Stmt := inClass (top 22) 6
abbrev s_Ledger_bills : Stmt := inClass (top 22) 7
abbrev s_Ledger_pending : Stmt := inClass (top 22) 8
abbrev s_Ledger_greatest : Stmt := inClass (top 22) 9
abbrev s_recover : Stmt := top 23
abbrev s_take_record : Stmt := top 24
abbrev s_take_open : Stmt := top 25
abbrev s_take_close : Stmt := top 26
abbrev s_Tariff___init : Stmt := inClass (top 34) 0
abbrev s_Tariff_units : Stmt := inClass (top 34) 1
abbrev s_Tariff_cost : Stmt := inClass (top 34) 2
abbrev s_is_unit : Stmt := top 35
abbrev s_is_price : Stmt := top 36
abbrev s_are_bands : Stmt := top 37
abbrev s_law_state : Stmt := top 39
abbrev s_law_draw : Stmt := top 40
abbrev s_law_pick : Stmt := top 41
abbrev s_law_number : Stmt := top 42
abbrev s_law_right : Stmt := top 43
abbrev s_law_line : Stmt := top 44
abbrev s_law_is_number : Stmt := top 45
abbrev s_law_is_name : Stmt := top 46
abbrev s_law_is_address : Stmt := top 47
abbrev s_law_take : Stmt := top 48
abbrev s_law : Stmt := top 49
abbrev si_ConfigError : Stmt := inClass (top 29) 0
theorem sc_wall : FnScope ["k"] ["k"] (defScope s_wall) := ⟨rfl, rfl, rfl, by decide +kernel, rfl, by decide +kernel, by decide +kernel⟩
theorem sc_Journal___init : FnScope ["self"] ["self"] (defScope s_Journal___init) := ⟨rfl, rfl, rfl, by decide +kernel, rfl, by decide +kernel, by decide +kernel⟩
theorem sc_Journal_append : FnScope ["self", "text"] ["self", "text"] (defScope s_Journal_append) := ⟨rfl, rfl, rfl, by decide +kernel, rfl, by decide +kernel, by decide +kernel⟩
theorem sc_Journal_sync : FnScope ["self"] ["self"] (defScope s_Journal_sync) := ⟨rfl, rfl, rfl, by decide +kernel, rfl, by decide +kernel, by decide +kernel⟩
theorem sc_Journal_after_crash : FnScope ["self", "kept"] ["self", "kept"] (defScope s_Journal_after_crash) := ⟨rfl, rfl, rfl, by decide +kernel, rfl, by decide +kernel, by decide +kernel⟩
theorem sc_checksum : FnScope ["text", "total", "mark"] ["text"] (defScope s_checksum) := ⟨rfl, rfl, rfl, by decide +kernel, rfl, by decide +kernel, by decide +kernel⟩
theorem sc_sealed : FnScope ["text"] ["text"] (defScope s_sealed) := ⟨rfl, rfl, rfl, by decide +kernel, rfl, by decide +kernel, by decide +kernel⟩
theorem sc_read_journal : FnScope ["text", "lines", "texts", "line", "told"] ["text"] (defScope s_read_journal) := ⟨rfl, rfl, rfl, by decide +kernel, rfl, by decide +kernel, by decide +kernel⟩
theorem sc_is_name : FnScope ["word"] ["word"] (defScope s_is_name) := ⟨rfl, rfl, rfl, by decide +kernel, rfl, by decide +kernel, by decide +kernel⟩
theorem sc_is_address : FnScope ["word"] ["word"] (defScope s_is_address) := ⟨rfl, rfl, rfl, by decide +kernel, rfl, by decide +kernel, by decide +kernel⟩
theorem sc_read_number : FnScope ["word", "most", "number"] ["word", "most"] (defScope s_read_number) := ⟨rfl, rfl, rfl, by decide +kernel, rfl, by decide +kernel, by decide +kernel⟩
theorem sc_split_address : FnScope ["word", "parts", "user", "host"] ["word"] (defScope s_split_address) := ⟨rfl, rfl, rfl, by decide +kernel, rfl, by decide +kernel, by decide +kernel⟩
theorem sc_consists_of : FnScope ["word", "marks", "longest", "mark"] ["word", "marks", "longest"] (defScope s_consists_of) := ⟨rfl, rfl, rfl, by decide +kernel, rfl, by decide +kernel, by decide +kernel⟩
theorem sc_Ledger___init : FnScope ["self", "tariff"] ["self", "tariff"] (defScope s_Ledger___init) := ⟨rfl, rfl, rfl, by decide +kernel, rfl, by decide +kernel, by decide +kernel⟩
theorem sc_Ledger_begin : FnScope ["self", "number", "caller", "callee", "now"] ["self", "number", "caller", "callee", "now"] (defScope s_Ledger_begin) := ⟨rfl, rfl, rfl, by decide +kernel, rfl, by decide +kernel, by decide +kernel⟩
theorem sc_Ledger_finish : FnScope ["self", "number", "now"] ["self", "number", "now"] (defScope s_Ledger_finish) := ⟨rfl, rfl, rfl, by decide +kernel, rfl, by decide +kernel, by decide +kernel⟩
theorem sc_Ledger_close : FnScope ["self", "number", "now", "cost", "caller", "callee", "answer"] ["self", "number", "now", "cost"] (defScope s_Ledger_close) := ⟨rfl, rfl, rfl, by decide +kernel, rfl, by decide +kernel, by decide +kernel⟩
theorem sc_Ledger_is_open : FnScope ["self", "number"] ["self", "number"] (defScope s_Ledger_is_open) := ⟨rfl, rfl, rfl, by decide +kernel, rfl, by decide +kernel, by decide +kernel⟩
theorem sc_Ledger_is_known : FnScope ["self", "number"] ["self", "number"] (defScope s_Ledger_is_known) := ⟨rfl, rfl, rfl, by decide +kernel, rfl, by decide +kernel, by decide +kernel⟩
theorem sc_Ledger_answer_of : FnScope ["self", "number"] ["self", "number"] (defScope s_Ledger_answer_of) := ⟨rfl, rfl, rfl, by decide +kernel, rfl, by decide +kernel, by decide +kernel⟩
theorem sc_Ledger_bills : FnScope ["self", "number"] ["self"] (defScope s_Ledger_bills) := ⟨rfl, rfl, rfl, by decide +kernel, rfl, by decide +kernel, by decide +kernel⟩
theorem sc_Ledger_pending : FnScope ["self"] ["self"] (defScope s_Ledger_pending) := ⟨rfl, rfl, rfl, by decide +kernel, rfl, by decide +kernel, by decide +kernel⟩
theorem sc_Ledger_greatest : FnScope ["self"] ["self"] (defScope s_Ledger_greatest) := ⟨rfl, rfl, rfl, by decide +kernel, rfl, by decide +kernel, by decide +kernel⟩
theorem sc_recover : FnScope ["tariff", "text", "now", "ledger", "record", "number"] ["tariff", "text", "now"] (defScope s_recover) := ⟨rfl, rfl, rfl, by decide +kernel, rfl, by decide +kernel, by decide +kernel⟩
theorem sc_take_record : FnScope ["ledger", "words"] ["ledger", "words"] (defScope s_take_record) := ⟨rfl, rfl, rfl, by decide +kernel, rfl, by decide +kernel, by decide +kernel⟩
theorem sc_take_open : FnScope ["ledger", "words", "number", "answer", "are_right"] ["ledger", "words"] (defScope s_take_open) := ⟨rfl, rfl, rfl, by decide +kernel, rfl, by decide +kernel, by decide +kernel⟩
theorem sc_take_close : FnScope ["ledger", "words", "number", "end", "cost", "word"] ["ledger", "words"] (defScope s_take_close) := ⟨rfl, rfl, rfl, by decide +kernel, rfl, by decide +kernel, by decide +kernel⟩
theorem sc_Tariff___init : FnScope ["self", "unit", "bands", "last", "band"] ["self", "unit", "bands", "last"] (defScope s_Tariff___init) := ⟨rfl, rfl, rfl, by decide +kernel, rfl, by decide +kernel, by decide +kernel⟩
theorem sc_Tariff_units : FnScope ["self", "span"] ["self", "span"] (defScope s_Tariff_units) := ⟨rfl, rfl, rfl, by decide +kernel, rfl, by decide +kernel, by decide +kernel⟩
theorem sc_Tariff_cost : FnScope ["self", "span", "left", "total", "many", "price", "taken"] ["self", "span"] (defScope s_Tariff_cost) := ⟨rfl, rfl, rfl, by decide +kernel, rfl, by decide +kernel, by decide +kernel⟩
theorem sc_is_unit : FnScope ["number"] ["number"] (defScope s_is_unit) := ⟨rfl, rfl, rfl, by decide +kernel, rfl, by decide +kernel, by decide +kernel⟩
theorem sc_is_price : FnScope ["number"] ["number"] (defScope s_is_price) := ⟨rfl, rfl, rfl, by decide +kernel, rfl, by decide +kernel, by decide +kernel⟩
theorem sc_are_bands : FnScope ["bands", "many", "price"] ["bands"] (defScope s_are_bands) := ⟨rfl, rfl, rfl, by decide +kernel, rfl, by decide +kernel, by decide +kernel⟩
theorem sc_law_state : FnScope ["script", "seed", "cell"] ["script"] (defScope s_law_state) := ⟨rfl, rfl, rfl, by decide +kernel, rfl, by decide +kernel, by decide +kernel⟩
theorem sc_law_draw : FnScope ["state", "many", "cells", "value", "mixed"] ["state", "many"] (defScope s_law_draw) := ⟨rfl, rfl, rfl, by decide +kernel, rfl, by decide +kernel, by decide +kernel⟩
theorem sc_law_pick : FnScope ["state", "row"] ["state", "row"] (defScope s_law_pick) := ⟨rfl, rfl, rfl, by decide +kernel, rfl, by decide +kernel, by decide +kernel⟩
theorem sc_law_number : FnScope ["state"] ["state"] (defScope s_law_number) := ⟨rfl, rfl, rfl, by decide +kernel, rfl, by decide +kernel, by decide +kernel⟩
theorem sc_law_right : FnScope ["state", "who"] ["state"] (defScope s_law_right) := ⟨rfl, rfl, rfl, by decide +kernel, rfl, by decide +kernel, by decide +kernel⟩
theorem sc_law_line : FnScope ["state", "kind", "text"] ["state"] (defScope s_law_line) := ⟨rfl, rfl, rfl, by decide +kernel, rfl, by decide +kernel, by decide +kernel⟩
theorem sc_law_is_number : FnScope ["word", "char"] ["word"] (defScope s_law_is_number) := ⟨rfl, rfl, rfl, by decide +kernel, rfl, by decide +kernel, by decide +kernel⟩
theorem sc_law_is_name : FnScope ["word", "small", "char"] ["word"] (defScope s_law_is_name) := ⟨rfl, rfl, rfl, by decide +kernel, rfl, by decide +kernel, by decide +kernel⟩
theorem sc_law_is_address : FnScope ["word", "parts"] ["word"] (defScope s_law_is_address) := ⟨rfl, rfl, rfl, by decide +kernel, rfl, by decide +kernel, by decide +kernel⟩
theorem sc_law_take : FnScope ["rows", "words", "row", "word"] ["rows", "words"] (defScope s_law_take) := ⟨rfl, rfl, rfl, by decide +kernel, rfl, by decide +kernel, by decide +kernel⟩
theorem sc_law : FnScope ["script", "state", "tariff", "rows", "kept", "text", "cell", "line", "now", "row", "ledger"] ["script"] (defScope s_law) := ⟨rfl, rfl, rfl, by decide +kernel, rfl, by decide +kernel, by decide +kernel⟩
structure Tx (K : PySem.W.Frag) (mg : Str → Option Value) : Prop where
  g_DIGITS : ∃ t, mg "DIGITS" = some (.str "0123456789" t)
  g_FACTOR : ∃ t, mg "FACTOR" = some (.int 31 t)
  g_FIRST_SUM : ∃ t, mg "FIRST_SUM" = some (.int 7 t)
  g_GREATEST_NUMBER : ∃ t, mg "GREATEST_NUMBER" = some (.int 999999999 t)
  g_GREATEST_PRICE : ∃ t, mg "GREATEST_PRICE" = some (.int 10000 t)
  g_GREATEST_UNIT : ∃ t, mg "GREATEST_UNIT" = some (.int 10000 t)
  g_LONGEST_NUMBER : ∃ t, mg "LONGEST_NUMBER" = some (.int 9 t)
  g_LONGEST_WORD : ∃ t, mg "LONGEST_WORD" = some (.int 16 t)
  g_MODULUS : ∃ t, mg "MODULUS" = some (.int 9973 t)
  g_MOST_BANDS : ∃ t, mg "MOST_BANDS" = some (.int 8 t)
  g_NAME_MARKS : ∃ t, mg "NAME_MARKS" = some (.str "abcdefghijklmnopqrstuvwxyz0123456789" t)
  g_SMALL_LETTERS : ∃ t, mg "SMALL_LETTERS" = some (.str "abcdefghijklmnopqrstuvwxyz" t)
  f_abs : mg "abs" = none
  f_all : mg "all" = none
  f_int : mg "int" = none
  f_len : mg "len" = none
  f_max : mg "max" = none
  f_min : mg "min" = none
  f_ord : mg "ord" = none
  f_sorted : mg "sorted" = none
  f_str : mg "str" = none
  f_super : mg "super" = none
  f_tuple : mg "tuple" = none
  cl_Journal : Cls K (He.ga K "Journal")
  na_Journal_text : NoAttr K (He.ga K "Journal") "text"
  na_Journal_synced : NoAttr K (He.ga K "Journal") "synced"
  cl_Ledger : Cls K (He.ga K "Ledger")
  na_Ledger_tariff : NoAttr K (He.ga K "Ledger") "tariff"
  na_Ledger_journal : NoAttr K (He.ga K "Ledger") "journal"
  na_Ledger__unfinished : NoAttr K (He.ga K "Ledger") "_unfinished"
  na_Ledger__finished : NoAttr K (He.ga K "Ledger") "_finished"
  cl_Tariff : Cls K (He.ga K "Tariff")
  na_Tariff_unit : NoAttr K (He.ga K "Tariff") "unit"
  na_Tariff_bands : NoAttr K (He.ga K "Tariff") "bands"
  na_Tariff_last : NoAttr K (He.ga K "Tariff") "last"
  g_TrunklandError : mg "TrunklandError" = some (.ref (He.ga K "TrunklandError"))
  g_ConfigError : mg "ConfigError" = some (.ref (He.ga K "ConfigError"))
  xf_ConfigError : XfC K (He.ga K "ConfigError")
  ec_ConfigError : ExcC K (He.ga K "ConfigError")
  no_ConfigError : PySem.W.findIn K (.ref (He.ga K "ConfigError")) "setting" = some none
theorem ok_exc_ConfigError {P : Program} {w : World} {K : PySem.W.Frag} {mg : Str → Option Value} {base : Heap} (hm : mg "super" = none) (htop : (P.main.scope.names.lookup ("super" : Str)).isSome = false) (hg : mg "ConfigError" = some (.ref (He.ga K "ConfigError")))
    (T : TKE.ExTxt K P "ConfigError" "setting" "ConfigError.__init__" (defArgs si_ConfigError) (defBody si_ConfigError) (defScope si_ConfigError)) : TKE.ExcMk P w K mg base "ConfigError" (He.ga K "ConfigError") "setting" TKE.isS := by
  obtain ⟨cda, cc, oc, od, doc, pm, an, ct, osl, S, hl, hcd⟩ := T.ex
  refine ⟨_, _, ["self", "setting"], S.oex, S.iC, S.tI, TKE.fnok_sup S hl hcd (nscope_by (by decide +kernel)) rfl rfl rfl rfl rfl hm htop (fun vs H Q E h => ?_) (fun A outer s H vs Q E h => ?_) (fun _ _ _ _ _ => rfl) (fun _ _ _ _ _ => rfl) (fun _ _ _ _ _ => rfl) (fun _ _ _ _ _ => rfl), .all (fun us hl => match us, hl with | [_, _], _ => rfl), hg⟩
  · obtain ⟨a, y, rfl, _⟩ := h
    rfl
  · obtain ⟨a, y, rfl, ⟨z, rfl, hz⟩, ha, k⟩ := h
    refine ⟨a, _, _, _, rfl, ha, pe_joined (PJ.cons pe_str (PJ.cons (pe_fmt (pv 1)) (PJ.cons pe_str PJ.nil))), pss_one (ps_ost (pv 0) (pv 1)), _, rfl, by decide +kernel, _, rfl, ?_⟩
    refine .inl ⟨z, rfl, TKE.ex_l1 hz, _, rfl, TKE.ex_l2 (by decide +kernel) hz, _, rfl, TKE.ex_l3 (by decide +kernel) (by decide +kernel) hz, ?_⟩
    exact ⟨ha, ⟨_, rfl, _, rfl, a, _, rfl, S.oex, T.no, .inl ⟨ha, k⟩⟩, rfl⟩
/-! ### the law's source of draws -/
def spState (K : PySem.W.Frag) : Sp := fun vs H Q _ => ∃ (a : Addr) (ns : List Int), vs = [.ref a] ∧ SqL K H a (ns.map V.int) ∧ ns.length ≤ 63 ∧ ∀ s c H', Same H H' → H s = none → H c = none → StAt H' s c → Q (.ref s) H'
theorem ok_law_state {P : Program} {w : World} {K : PySem.W.Frag} {mg : Str → Option Value} {base : Heap} {f : Addr} {fd : FuncData} (T : Tx K mg) 
    (F : FunD K "_law_state" "_law_state" (defArgs s_law_state) (defBody s_law_state) (defScope s_law_state) [] [] f fd) : FnOk P w K mg base CX0 1 f fd ["script"] (spState K) := by
  refine F.ok sc_law_state (fun vs H Q E h => ?_) (fun cdv A outer s H vs Q E hr h => ?_)
  · obtain ⟨a, ns, rfl, _⟩ := h
    rfl
  · obtain ⟨a, ns, rfl, hS, hn, k⟩ := h
    refine ⟨_, PSs.nox (pss_cons (ps_set (i := 1) sc_law_state.nd rfl (Or.inl rfl) pe_int) (pss_cons (ps_for PassesOwn.never rfl (pi_list (pv 0)) (pg_name (i := 2) sc_law_state.nd rfl (Or.inl rfl)) (pss_one (ps_set (i := 1) sc_law_state.nd rfl (Or.inl rfl) (pe_op op_mod (pe_callTy call_int1 rfl T.f_int (by decide +kernel) (pa_cons (pe_op op_add (pe_op op_mul (pv 1) pe_int) (pv 2)) pa_nil)) pe_int)))) (pss_one (ps_ret (pe_lst (pa_cons (pe_lc (own := [("cell", 2)]) (g := gName 2) rfl sc_law_state.nd (pi_list (pv 0)) (blkOk_by (own := [("cell", 2)]) (N := ["script", "seed", "cell"]) (sc := defScope s_law_state) (by decide +kernel)) (fun _ _ _ _ _ => pg_name (i := 2) sc_law_state.nd rfl (Or.inl rfl)) (fun _ _ _ _ _ => pts_nil) (fun _ _ _ _ _ => (pe_callB call_abs rfl T.f_abs (by decide +kernel) (pa_cons (pv 2) pa_nil)))) (pa_cons (pe_op op_add (pv 1) pe_int) pa_nil))))))), ?_⟩
    refine ⟨_, rfl, a, rfl, ⟨_, hS⟩, for_list (K := K) (a := a) (xs := ns.map V.int) (fun i σ H' => H' = H ∧ ∃ (n : Int) (v : Option V), σ = [some (.ref a), some (.int n), v]) ⟨rfl, 7, none, rfl⟩ (fun i σ H' _ q => q.1 ▸ hS) ?_ ?_⟩
    · rintro i y σ H' hi ⟨rfl, n, v, rfl⟩
      obtain ⟨z, rfl⟩ : ∃ z, y = V.int z := by
        obtain ⟨z, _, e⟩ := List.mem_map.mp (List.mem_of_getElem? hi)
        exact ⟨z, e.symm⟩
      refine ⟨_, rfl, _, _, rfl, rfl, .inr ⟨by decide, by decide⟩, _, rfl, _, _, rfl, rfl, .inl ⟨_, rfl, _, _, rfl, rfl, (by show (0 : Int) < 1000003; decide), rfl, _, _, rfl⟩⟩
    · rintro σ H' ⟨rfl, n, v, rfl⟩
      refine ⟨_, rfl, a, rfl, ⟨_, hS⟩, fun D hD => ?_⟩
      have hS2 : ∀ o, SqL K (upd H' D o) a (ns.map V.int) := fun o => (same_upd hD).seq hS
      refine lc_pureN walk_list (fun i => V.int (if ns.getD i 0 < 0 then -(ns.getD i 0) else ns.getD i 0)) (by rw [List.length_map]; exact Nat.le_trans hn (by decide)) (fun _ _ => hS2 _) (fun i x H1 kk hi y q => ?_) ?_
      · obtain ⟨rfl, hx⟩ := y
        refine ⟨rfl, _, rfl, ns.getD i 0, ?_, q⟩
        rw [List.getElem?_map] at hx
        rw [List.length_map] at hi
        rw [List.getElem?_eq_getElem hi] at hx
        rw [List.getD_eq_getElem?_getD, List.getElem?_eq_getElem hi]
        exact congrArg (fun v => [v]) (Option.some.inj hx).symm
      · refine ⟨_, rfl, _, _, rfl, rfl, by show 2 ≤ sizeLine; decide, fun p hp => ?_⟩
        have npD : p ≠ D := fun e => by
          rw [e, upd_same] at hp
          cases hp
        have hp0 : H' p = none := by
          rw [upd_ne npD] at hp
          exact hp
        refine k p D _ ((same_upd hD).trans (same_upd hp)) hp0 hD ⟨npD, ⟨_, upd_same⟩, ns.map (fun i => if i < 0 then -i else i), ?_, ?_⟩
        · rw [upd_ne npD.symm, upd_same, List.length_map, List.map_map]
          exact congrArg (fun l => some (HO.lst l)) (range_map_getD ns 0 fun i => V.int (if i < 0 then -i else i))
        · rw [List.length_map]
          exact hn
def spDraw : Sp := fun vs H Q _ => ∃ (s c : Addr) (m : Int), vs = [.ref s, .int m] ∧ StAt H s c ∧ 0 < m ∧ m < 1073741824 ∧ ∀ r H', 0 ≤ r → r < m → StAt H' s c → Keep H H' s c → Q (.int r) H'
theorem ok_law_draw {P : Program} {w : World} {K : PySem.W.Frag} {mg : Str → Option Value} {base : Heap} {f : Addr} {fd : FuncData} (T : Tx K mg) 
    (F : FunD K "_law_draw" "_law_draw" (defArgs s_law_draw) (defBody s_law_draw) (defScope s_law_draw) [] [] f fd) : FnOk P w K mg base CX0 1 f fd ["state", "many"] spDraw := by
  refine F.ok sc_law_draw (fun vs H Q E h => ?_) (fun cdv A outer s0 H vs Q E hr h => ?_)
  · obtain ⟨s, c, m, rfl, _⟩ := h
    rfl
  · obtain ⟨s, c, m, rfl, ⟨ne, ⟨n, h1⟩, ns, h2, h3⟩, hm0, hm1, k⟩ := h
    refine ⟨_, PSs.nox (pss_cons (ps_set (i := 2) sc_law_draw.nd rfl (Or.inl rfl) (pe_ix ix_list (pv 0) pe_int (fun _ _ => rfl))) (C8.pss_cut (ps_while PassesOwn.never (PW.pt (pw_and (pt_cmpR op_gt (pe_callB call_len_seq rfl T.f_len PySem.boot_len (pa_cons (pv 2) pa_nil)) pe_int (nomark _)) (pw_and1 (pt_cmpR op_eq (pe_ix ix_list (pv 2) pe_int (fun _ _ => rfl)) pe_int (nomark _))))) (pss_one (ps_expr (pe_bm PySem.F.plainAttrs_list PySem.F.slot_list_pop PySem.F.type_list_pop mt_popAt (pv 2) (pa_cons pe_int pa_nil))))) (C8.pss_cut (ps_if (pt_cmpR op_gt (pe_callB call_len_seq rfl T.f_len PySem.boot_len (pa_cons (pv 2) pa_nil)) pe_int (nomark _)) (pss_cons (ps_set (i := 3) sc_law_draw.nd rfl (Or.inl rfl) (pe_ix ix_list (pv 2) pe_int (fun _ _ => rfl))) (pss_cons (ps_asg (pe_op op_fdiv (pv 3) (pv 1)) (pg_sub (pv 2) pe_int set_list)) (pss_one (ps_ret (pe_op op_mod (pe_callTy call_int1 rfl T.f_int (by decide +kernel) (pa_cons (pv 3) pa_nil)) (pv 1)))))) pss_nil) (pss_cons (ps_set (i := 4) sc_law_draw.nd rfl (Or.inl rfl) (pe_op op_mod (pe_callTy call_int1 rfl T.f_int (by decide +kernel) (pa_cons (pe_op op_add (pe_op op_mul (pe_ix ix_list (pv 0) pe_int (fun _ _ => rfl)) pe_int) pe_int) pa_nil)) pe_int)) (pss_cons (ps_asg (pv 4) (pg_sub (pv 0) pe_int set_list)) (pss_one (ps_ret (pe_op op_mod (pe_callTy call_int1 rfl T.f_int (by decide +kernel) (pa_cons (pe_op op_fdiv (pv 4) pe_int) pa_nil)) (pv 1))))))))), ?_⟩
    refine ⟨_, rfl, s, _, 0, _, rfl, rfl, SqL.of h1, rfl, ?_⟩
    let I : L2.St → Hp → List Int → Prop := fun σ H' ns' => σ = [some (.ref s), some (.int m), some (.ref c), none, none] ∧ H' s = some (.lst [.ref c, .int n]) ∧ Keep H H' s c ∧ H' c = some (.lst (ns'.map V.int)) ∧ ns'.length ≤ 63
    refine ⟨fun σ H' => ∃ ns', I σ H' ns', ?_, ?_⟩
    · refine ⟨fun l σ H' => ∃ ns', l = ns'.length ∧ I σ H' ns', ⟨ns.length, ns, rfl, rfl, h1, Keep.refl _ _ _, h2, h3⟩, ?_⟩
      rintro l σ H' ⟨ns', rfl, rfl, g1, kp, g2, g3⟩
      refine ⟨_, rfl, c, _, rfl, .inl (SqL.of g2), _, _, rfl, rfl, _, rfl, ?_⟩
      cases ns' with
      | nil => exact iteF (iteF ⟨[], rfl, g1, kp, g2, g3⟩)
      | cons v r =>
        rw [List.length_map, decide_eq_true (by rw [List.length_cons]; omega)]
        refine iteT ?_
        refine ⟨_, rfl, c, _, 0, V.int v, rfl, rfl, SqL.of g2, atC _ _, rfl, _, rfl, ?_⟩
        refine ite2 (fun h5 => ?_) (fun h5 => ⟨v :: r, rfl, g1, kp, g2, g3⟩)
        refine ⟨fun σ' H2 => ∃ l, l < (v :: r).length ∧ ∃ ns', l = ns'.length ∧ I σ' H2 ns', fun _ _ q => q, ?_⟩
        refine ⟨_, rfl, .inl ⟨rfl, _, SqL.of g2⟩, c, _, 0, 0, V.int v, rfl, rfl, g2, by decide, by decide, sqC _ _, rfl, ?_⟩
        refine ⟨r.length, Nat.lt_succ_self _, r, rfl, rfl, ?_, fun b o e q1 q2 => ?_, upd_same, Nat.le_of_succ_le g3⟩
        · rw [upd_ne ne]
          exact g1
        · rw [upd_ne q2]
          exact kp b o e q1 q2
    · rintro σ H' ⟨ns', rfl, g1, kp, g2, g3⟩
      refine ⟨fun σ' H2 => σ' = [some (.ref s), some (.int m), some (.ref c), none, none] ∧ H2 = H', ?_, ?_⟩
      · refine ⟨_, rfl, c, _, rfl, .inl (SqL.of g2), _, _, rfl, rfl, _, rfl, ?_⟩
        cases ns' with
        | nil => exact iteF ⟨rfl, rfl⟩
        | cons v r =>
          rw [List.length_map, decide_eq_true (by rw [List.length_cons]; omega)]
          refine iteT ?_
          refine ⟨_, rfl, c, _, 0, V.int v, rfl, rfl, SqL.of g2, atC _ _, ?_⟩
          refine ⟨_, rfl, _, rfl, _, _, rfl, rfl, ⟨hm0, hm1⟩, _, rfl, c, _, 0, 0, rfl, rfl, g2, ixC _ _, ?_⟩
          refine ⟨_, rfl, .inl ⟨_, rfl, _, rfl, _, _, rfl, rfl, hm0, ?_⟩⟩
          refine k _ _ (Int.emod_nonneg _ (by omega)) (Int.emod_lt_of_pos _ hm0) ⟨ne, ⟨n, ?_⟩, (v / m) :: r, upd_same, g3⟩ (fun b o e q1 q2 => ?_)
          · rw [upd_ne ne]
            exact g1
          · rw [upd_ne q2]
            exact kp b o e q1 q2
      · rintro σ' H2 ⟨rfl, rfl⟩
        refine ⟨_, rfl, s, _, 1, _, rfl, rfl, SqL.of g1, rfl, _, _, rfl, rfl, .inr ⟨by decide, by decide⟩, _, _, rfl, rfl, .inl ⟨_, rfl, _, _, rfl, rfl, (by show (0 : Int) < 2147483647; decide), ?_⟩⟩
        refine ⟨_, rfl, _, rfl, s, _, 1, 1, rfl, rfl, g1, rfl, ?_⟩
        refine ⟨_, rfl, _, _, rfl, rfl, ⟨by decide, by decide⟩, .inl ⟨_, rfl, _, rfl, _, _, rfl, rfl, hm0, ?_⟩⟩
        refine k _ _ (Int.emod_nonneg _ (by omega)) (Int.emod_lt_of_pos _ hm0) ⟨ne, ⟨_, upd_same⟩, ns', ?_, g3⟩ (fun b o e q1 q2 => ?_)
        · rw [upd_ne ne.symm]
          exact g2
        · rw [upd_ne q1]
          exact kp b o e q1 q2
/-- of a text: one of its signs; of a list: one of its items -/
def spPick : Sp := fun vs H Q _ => ∃ (s c : Addr) (x : V), vs = [.ref s, x] ∧ StAt H s c ∧
  ((∃ z : Str, x = .str z ∧ 0 < z.length ∧ z.length ≤ 1000 ∧ ∀ ch H', ch ∈ TL.tl z → StAt H' s c → Keep H H' s c → Q (.str (S [ch])) H') ∨
   (∃ a xs, x = .ref a ∧ H a = some (.lst xs) ∧ a ≠ s ∧ a ≠ c ∧ 0 < xs.length ∧ xs.length ≤ 1000 ∧ ∀ v ∈ xs, ∀ H', StAt H' s c → Keep H H' s c → Q v H'))
theorem ok_law_pick {P : Program} {w : World} {K : PySem.W.Frag} {mg : Str → Option Value} {base : Heap} {f : Addr} {fd : FuncData} (T : Tx K mg) (c_law_draw : C8.Cal P w K mg base 1 "_law_draw" spDraw [])
    (F : FunD K "_law_pick" "_law_pick" (defArgs s_law_pick) (defBody s_law_pick) (defScope s_law_pick) [] [] f fd) : FnOk P w K mg base CX0 2 f fd ["state", "row"] spPick := by
  refine F.ok sc_law_pick (fun vs H Q E h => ?_) (fun cdv A outer s0 H vs Q E hr h => ?_)
  · obtain ⟨s, c, x, rfl, _⟩ := h
    rfl
  · obtain ⟨s, c, x, rfl, hst, h⟩ := h
    refine ⟨_, PSs.nox (pss_one (ps_ret (pe_ix ix_seq (pv 1) (pe_c c_law_draw hr (by decide) rfl (pa_cons (pv 0) (pa_cons (pe_callB call_len rfl T.f_len PySem.boot_len (pa_cons (pv 1) pa_nil)) pa_nil))) (fun _ _ => rfl)))), ?_⟩
    rcases h with ⟨z, rfl, z0, z1, k⟩ | ⟨a, xs, rfl, ha, as, ac, x0, x1, k⟩
    · have hz2 : z.length ≤ sizeLine := Nat.le_trans z1 (by decide)
      refine ⟨_, rfl, _, rfl, _, rfl, _, z.length, rfl, ⟨hz2, rfl⟩, s, c, _, rfl, hst, by omega, by omega, fun r H' r0 r1 st' kp' => ?_⟩
      have hl : r < ((TL.tl z).length : Nat) := by rw [← len_eq]; exact r1
      refine .inr (.inr ⟨z, r, _, rfl, rfl, hz2, atN 0 r0 hl, ?_⟩)
      refine k _ H' ?_ st' kp'
      have hl2 : r.toNat < (TL.tl z).length := by omega
      rw [List.getD_eq_getElem?_getD, List.getElem?_eq_getElem hl2]
      exact List.getElem_mem _
    · have hx2 : xs.length ≤ sizeLine := Nat.le_trans x1 (by decide)
      refine ⟨_, rfl, _, rfl, _, rfl, _, xs.length, rfl, .inl ⟨xs, SqL.of ha, rfl⟩, s, c, _, rfl, hst, by omega, by omega, fun r H' r0 r1 st' kp' => ?_⟩
      refine .inl ⟨a, xs, r, _, rfl, rfl, SqL.of (kp' a _ ha as ac), atN .non r0 r1, ?_⟩
      refine k _ ?_ H' st' kp'
      rw [List.getD_eq_getElem?_getD, List.getElem?_eq_getElem (by omega)]
      exact List.getElem_mem _

end K13
set_option maxHeartbeats 1000000
set_option pp.maxSteps 500
namespace K13
open PySem PySem.Spec PyProof.Rows L2 SX TK NdefX K11 LD
open C8 (pe_c)
/-! ### what the program's defs answer -/
def consL (l m : List Nat) (n : Int) : Bool := (decide ((1 : Int) ≤ (l.length : Int)) && decide ((l.length : Int) ≤ n)) && l.all fun c => decide (c ∈ m)
def consB (z m : Str) (n : Int) : Bool := consL (TL.tl z) (TL.tl m) n
theorem consB_len {z m : Str} {n : Int} (h : consB z m n = true) : 0 < (TL.tl z).length ∧ ((TL.tl z).length : Int) ≤ n ∧ ∀ c ∈ TL.tl z, c ∈ TL.tl m := by
  unfold consB consL at h
  rw [Bool.and_eq_true, Bool.and_eq_true, decide_eq_true_eq, decide_eq_true_eq] at h
  refine ⟨by omega, h.1.2, fun c hc => ?_⟩
  exact of_decide_eq_true (List.all_eq_true.mp h.2 c hc)
def spCons : Sp := fun vs H Q _ => ∃ (z m : Str) (n : Int), vs = [.str z, .str m, .int n] ∧ z.length ≤ 1000 ∧ ∀ H', Same H H' → Q (.bl (consB z m n)) H'
theorem ok_consists_of {P : Program} {w : World} {K : PySem.W.Frag} {mg : Str → Option Value} {base : Heap} {f : Addr} {fd : FuncData} (T : Tx K mg) 
    (F : FunD K "_consists_of" "_consists_of" (defArgs s_consists_of) (defBody s_consists_of) (defScope s_consists_of) [] [] f fd) : FnOk P w K mg base CX0 1 f fd ["word", "marks", "longest"] spCons := by
  refine F.ok sc_consists_of (fun vs H Q E h => ?_) (fun cdv A outer s H vs Q E hr h => ?_)
  · obtain ⟨z, m, n, rfl, _⟩ := h
    rfl
  · obtain ⟨z, m, n, rfl, hz, k⟩ := h
    have hz2 : z.length ≤ sizeLine := Nat.le_trans hz (by decide)
    have eB : consB z m n = ((decide ((1 : Int) ≤ (z.length : Int)) && decide ((z.length : Int) ≤ n)) && (TL.tl z).all fun c => decide (c ∈ TL.tl m)) := by
      unfold consB consL
      rw [len_eq]
    refine ⟨_, PSs.nox (pss_one (ps_ret (pe_and (pe_chain op_le op_le pe_int (pe_callB call_len_str rfl T.f_len PySem.boot_len (pa_cons (pv 0) pa_nil)) (pv 2)) (pe_one (pe_callB (cr_all rfl) rfl T.f_all (by decide +kernel) (pa_cons (pe_lc (own := [("mark", 3)]) (g := gName 3) rfl sc_consists_of.nd (pi_str (pv 0)) (blkOk_by (own := [("mark", 3)]) (N := ["word", "marks", "longest", "mark"]) (sc := defScope s_consists_of) (by decide +kernel)) (fun _ _ _ _ _ => pg_name (i := 3) sc_consists_of.nd rfl (Or.inl rfl)) (fun _ _ _ _ _ => pts_nil) (fun _ _ _ _ _ => (pe_cmpR op_in_sign (pv 3) (pv 1) (by with_unfolding_all rfl)))) pa_nil)))))), ?_⟩
    refine ⟨_, rfl, _, rfl, hz2, _, _, rfl, rfl, _, rfl, ?_⟩
    refine ite2 (fun h1 => ?_) (fun h1 => ?_)
    · refine ⟨_, rfl, _, _, rfl, rfl, _, rfl, ?_⟩
      refine ite2 (fun h2 => ?_) (fun h2 => ?_)
      · refine ⟨_, rfl, _, rfl, fun D hD => ?_⟩
        have hn : z.cps.size ≤ sizeLine := by
          rw [size_tl, ← len_eq]
          exact hz2
        refine lc_pureN walk_str (fun i => V.bl (decide ((TL.tl z).getD i 0 ∈ TL.tl m))) hn (fun _ _ => trivial) (fun i x H' kk hi y q => ?_) ?_
        · obtain ⟨rfl, c, hc, rfl⟩ := y
          refine ⟨rfl, _, rfl, _, rfl, _, _, rfl, rfl, ?_⟩
          have e : (TL.tl z).getD i 0 = c := by
            have h5 : (TL.tl z)[i]? = some c := by
              show z.cps.toList[i]? = some c
              rw [Array.getElem?_toList]
              exact hc
            rw [List.getD_eq_getElem?_getD, h5]
            rfl
          rw [← e]
          exact q
        · refine ⟨D, (TL.tl z).map fun c => decide (c ∈ TL.tl m), rfl, SqL.of ?_, ?_⟩
          · rw [upd_same, size_tl, List.map_map]
            exact congrArg (fun l => some (HO.lst l)) (range_map_getD (TL.tl z) 0 fun c => V.bl (decide (c ∈ TL.tl m)))
          · have e : (List.map (fun c => decide (c ∈ TL.tl m)) (TL.tl z)).all id = consB z m n := by
              rw [eB, h1, h2, List.all_map]
              rfl
            rw [e]
            exact k _ (same_upd hD)
      · have e : consB z m n = false := by
          rw [eB, ef h2, Bool.and_false, Bool.false_and]
        have q := k H (Same.refl H)
        rw [e] at q
        exact q
    · have e : consB z m n = false := by
        rw [eB, ef h1, Bool.false_and, Bool.false_and]
      refine ⟨false, rfl, iteF ?_⟩
      have q := k H (Same.refl H)
      rw [e] at q
      exact q

/-! ### names, tags -/
abbrev zSM : Str := "abcdefghijklmnopqrstuvwxyz"
abbrev zNM : Str := "abcdefghijklmnopqrstuvwxyz0123456789"
abbrev zTM : Str := "ABCDEFGHIJKLMNOPQRSTUVWXYZabcdefghijklmnopqrstuvwxyz0123456789"
abbrev zDG : Str := "0123456789"
def nameB (z : Str) : Bool := consB z zNM 16 && decide ((TL.tl z).getD 0 0 ∈ TL.tl zSM)
def spName : Sp := fun vs H Q _ => ∃ z : Str, vs = [.str z] ∧ z.length ≤ 1000 ∧ ∀ H', Same H H' → Q (.bl (nameB z)) H'
theorem ok_is_name {P : Program} {w : World} {K : PySem.W.Frag} {mg : Str → Option Value} {base : Heap} {f : Addr} {fd : FuncData} (T : Tx K mg) (c_consists_of : C8.Cal P w K mg base 1 "_consists_of" spCons [])
    (F : FunD K "is_name" "is_name" (defArgs s_is_name) (defBody s_is_name) (defScope s_is_name) [] [] f fd) : FnOk P w K mg base CX0 2 f fd ["word"] spName := by
  refine F.ok sc_is_name (fun vs H Q E h => ?_) (fun cdv A outer s H vs Q E hr h => ?_)
  · obtain ⟨z, rfl, _⟩ := h
    rfl
  · obtain ⟨z, rfl, hz, k⟩ := h
    have hz2 : z.length ≤ sizeLine := Nat.le_trans hz (by decide)
    refine ⟨_, PSs.nox (pss_one (ps_ret (pe_and (pe_c c_consists_of hr (by decide) rfl (pa_cons (pv 0) (pa_cons (pgS T.g_NAME_MARKS) (pa_cons (pgI T.g_LONGEST_WORD) pa_nil)))) (pe_one (pe_cmpR op_in_sign (pe_ix ix_str (pv 0) pe_int (fun _ _ => rfl)) (pgS T.g_SMALL_LETTERS) (by with_unfolding_all rfl)))))), ?_⟩
    refine ⟨_, rfl, z, zNM, 16, rfl, hz, fun H1 s1 => ⟨_, rfl, ?_⟩⟩
    refine ite2 (fun h1 => ?_) (fun h1 => ?_)
    · refine ⟨_, rfl, _, 0, _, rfl, rfl, hz2, at0 0 (consB_len h1).1, _, _, rfl, rfl, ?_⟩
      have e : decide ((TL.tl z).getD 0 0 ∈ TL.tl zSM) = nameB z := by
        unfold nameB
        rw [h1, Bool.true_and]
      have q := k H1 s1
      rw [← e] at q
      exact q
    · have e : nameB z = false := by
        unfold nameB
        rw [ef h1, Bool.false_and]
      have q := k H1 s1
      rw [e] at q
      exact q

/-! ### numbers -/
def numV (z : Str) (most : Int) : V :=
  if consB z zDG 9 = true then
    (if (decide (V.str (S [(TL.tl z).getD 0 0]) = V.str "0") && !decide (V.str z = V.str "0")) = true then .non
     else if ((NumText.digitsVal (TL.tl z) : Nat) : Int) ≤ most then .int (NumText.digitsVal (TL.tl z) : Nat) else .non)
  else .non
theorem digits_of {z : Str} (h : ∀ c ∈ TL.tl z, c ∈ TL.tl zDG) : ∀ c ∈ TL.tl z, 48 ≤ c ∧ c ≤ 57 := fun c hc => by
  have h1 := h c hc
  have h2 : ∀ c ∈ TL.tl zDG, 48 ≤ c ∧ c ≤ 57 := by decide +kernel
  exact h2 c h1
def spNum : Sp := fun vs H Q _ => ∃ (z : Str) (m : Int), vs = [.str z, .int m] ∧ z.length ≤ 1000 ∧ ∀ H', Same H H' → Q (numV z m) H'
theorem ok_read_number {P : Program} {w : World} {K : PySem.W.Frag} {mg : Str → Option Value} {base : Heap} {f : Addr} {fd : FuncData} (T : Tx K mg) (c_consists_of : C8.Cal P w K mg base 1 "_consists_of" spCons [])
    (F : FunD K "read_number" "read_number" (defArgs s_read_number) (defBody s_read_number) (defScope s_read_number) [] [] f fd) : FnOk P w K mg base CX0 2 f fd ["word", "most"] spNum := by
  refine F.ok sc_read_number (fun vs H Q E h => ?_) (fun cdv A outer s H vs Q E hr h => ?_)
  · obtain ⟨z, m, rfl, _⟩ := h
    rfl
  · obtain ⟨z, m, rfl, hz, k⟩ := h
    have hz2 : z.length ≤ sizeLine := Nat.le_trans hz (by decide)
    refine ⟨_, PSs.nox (C8.pss_cut (ps_if (pt_not (pt_val (pe_c c_consists_of hr (by decide) rfl (pa_cons (pv 0) (pa_cons (pgS T.g_DIGITS) (pa_cons (pgI T.g_LONGEST_NUMBER) pa_nil)))))) (pss_one (ps_ret pe_non)) pss_nil) (C8.pss_cut (ps_if (PW.pt (pw_and (pt_cmpR op_eq (pe_ix ix_str (pv 0) pe_int (fun _ _ => rfl)) pe_str (nomark _)) (pw_and1 (pt_cmpR op_ne (pv 0) pe_str (nomark _))))) (pss_one (ps_ret pe_non)) pss_nil) (pss_cons (ps_set (i := 2) sc_read_number.nd rfl (Or.inl rfl) (pe_callTy call_int_str rfl T.f_int (by decide +kernel) (pa_cons (pv 0) pa_nil))) (pss_one (ps_ret (pe_ifExp (pt_cmpR op_le (pv 2) (pv 1) (nomark _)) (pv 2) pe_non)))))), ?_⟩
    refine ⟨fun σ' H' => σ' = [some (.str z), some (.int m), none] ∧ Same H H' ∧ consB z zDG 9 = true, ?_, ?_⟩
    · refine ⟨_, rfl, z, zDG, 9, rfl, hz, fun H1 s1 => ⟨_, rfl, ?_⟩⟩
      have q := k H1 s1
      unfold numV at q
      by_cases h1 : consB z zDG 9 = true
      · rw [h1]
        exact iteF ⟨rfl, s1, rfl⟩
      · rw [if_neg h1] at q
        rw [ef h1]
        exact iteT q
    · rintro σ' H1 ⟨rfl, s1, h1⟩
      have q := k H1 s1
      unfold numV at q
      rw [if_pos h1] at q
      have hl := consB_len h1
      by_cases h2 : (decide (V.str (S [(TL.tl z).getD 0 0]) = V.str "0") && !decide (V.str z = V.str "0")) = true
      · rw [if_pos h2] at q
        rw [Bool.and_eq_true] at h2
        refine ⟨fun σ' H' => False, ?_, fun _ _ z => z.elim⟩
        refine ⟨_, rfl, _, 0, _, rfl, rfl, hz2, at0 0 hl.1, rfl, _, rfl, ?_⟩
        refine ite2 (fun _ => ?_) (fun h3 => absurd h2.1 h3)
        refine ⟨_, rfl, rfl, _, rfl, ?_⟩
        refine ite2 (fun _ => q) (fun h3 => absurd h2.2 h3)
      · rw [if_neg h2] at q
        refine ⟨fun σ' H' => σ' = [some (.str z), some (.int m), none] ∧ H' = H1, ?_, ?_⟩
        · refine ⟨_, rfl, _, 0, _, rfl, rfl, hz2, at0 0 hl.1, rfl, _, rfl, ?_⟩
          refine ite2 (fun h3 => ?_) (fun h3 => iteF ⟨rfl, rfl⟩)
          refine ⟨_, rfl, rfl, _, rfl, ?_⟩
          refine ite2 (fun h4 => absurd (Bool.and_eq_true_iff.mpr ⟨h3, h4⟩) h2) (fun _ => ⟨rfl, rfl⟩)
        · rintro σ' H' ⟨rfl, rfl⟩
          refine ⟨_, rfl, z, _, rfl, PySem.intText_digits (x := z) (digits_of hl.2.2) (List.length_pos_iff.mp hl.1) (by rw [len_eq]; omega), by rw [len_eq]; omega, ?_⟩
          refine ⟨_, rfl, _, rfl, _, _, rfl, rfl, _, rfl, ?_⟩
          by_cases h5 : ((NumText.digitsVal (TL.tl z) : Nat) : Int) ≤ m
          · rw [if_pos h5] at q
            rw [decide_eq_true h5]
            exact iteT ⟨_, rfl, q⟩
          · rw [if_neg h5] at q
            rw [decide_eq_false h5]
            exact iteF q

/-! ### addresses -/
def splitO : List Str → Option (Str × Str)
  | [u, h] => if (nameB u && nameB h) = true then some (u, h) else none
  | _ => none
def splitB (z : Str) : Option (Str × Str) := splitO (Txt.split z "@")
/-- None, or a tuple of two texts -/
def PairV (H : Hp) (x : V) : Option (Str × Str) → Prop
  | none => x = .non
  | some (u, h) => ∃ p, x = .ref p ∧ H p = some (.tup [.str u, .str h])
theorem at_len : ("@" : Str) = S [64] := by decide +kernel
theorem split_parts {z u h : Str} (e : Txt.split z "@" = [u, h]) : TL.tl z = TL.tl u ++ 64 :: TL.tl h ∧ 64 ∉ TL.tl u ∧ 64 ∉ TL.tl h := by
  rw [at_len] at e
  have j := StrLaws.join_split z (S [64])
  rw [e] at j
  have f := StrLaws.split_free z 64
  refine ⟨?_, f u (by rw [e]; simp), f h (by rw [e]; simp)⟩
  have e2 := TL.tl_join (S [64]) [u, h]
  rw [← j, e2]
  rfl
theorem split_two {z : Str} {a b : List Nat} (e : TL.tl z = a ++ 64 :: b) (ha : 64 ∉ a) (hb : 64 ∉ b) : Txt.split z "@" = [S a, S b] := by
  rw [at_len]
  have e1 : z = S (a ++ 64 :: b) := by
    rw [← e]
  rw [e1, split_S (by simp) (by decide)]
  have e2 : a ++ 64 :: b = TL.joinL [64] [a, b] := rfl
  rw [e2, spl_join (by simp) (by
    intro p hp
    rcases List.mem_cons.mp hp with z | z
    · rw [z]; exact ha
    · rw [List.mem_singleton.mp z]; exact hb)]
  rfl
def spSplit : Sp := fun vs H Q _ => ∃ z : Str, vs = [.str z] ∧ z.length ≤ 1000 ∧ ∀ x H', Same H H' → PairV H' x (splitB z) → Q x H'
theorem ok_split_address {P : Program} {w : World} {K : PySem.W.Frag} {mg : Str → Option Value} {base : Heap} {f : Addr} {fd : FuncData} (T : Tx K mg) (c_is_name : C8.Cal P w K mg base 2 "is_name" spName [])
    (F : FunD K "split_address" "split_address" (defArgs s_split_address) (defBody s_split_address) (defScope s_split_address) [] [] f fd) : FnOk P w K mg base CX0 3 f fd ["word"] spSplit := by
  refine F.ok sc_split_address (fun vs H Q E h => ?_) (fun cdv A outer s H vs Q E hr h => ?_)
  · obtain ⟨z, rfl, _⟩ := h
    rfl
  · obtain ⟨z, rfl, hz, k⟩ := h
    have hz2 : z.length + 2 ≤ sizeLine := Nat.le_trans (Nat.add_le_add_right hz 2) (by decide)
    refine ⟨_, PSs.nox (pss_cons (ps_set (i := 1) sc_split_address.nd rfl (Or.inl rfl) (pe_split (pv 0) pe_str)) (C8.pss_cut (ps_if (pt_cmpR op_ne (pe_callB call_len_seq rfl T.f_len PySem.boot_len (pa_cons (pv 1) pa_nil)) pe_int (nomark _)) (pss_one (ps_ret pe_non)) pss_nil) (pss_cons (ps_asg (pv 1) (pg_unl rfl (pgs_cons (pg_name (i := 2) sc_split_address.nd rfl (Or.inl rfl)) (pgs_cons (pg_name (i := 3) sc_split_address.nd rfl (Or.inl rfl)) pgs_nil)))) (pss_one (ps_ret (pe_ifExp (PW.pt (pw_and (pt_val (pe_c c_is_name hr (by decide) rfl (pa_cons (pv 2) pa_nil))) (pw_and1 (pt_val (pe_c c_is_name hr (by decide) rfl (pa_cons (pv 3) pa_nil)))))) (pe_tup (pa_cons (pv 2) (pa_cons (pv 3) pa_nil))) pe_non)))))), ?_⟩
    refine ⟨_, rfl, ⟨_, rfl⟩, z, "@", rfl, rfl, by decide +kernel, hz2, fun p hp => ?_⟩
    have s1 := same_upd (o := .lst ((Txt.split z "@").map V.str)) hp
    generalize eY : Txt.split z "@" = ys at *
    refine ⟨fun σ' H' => σ' = [some (.str z), some (.ref p), none, none] ∧ H' = upd H p (.lst (ys.map V.str)) ∧ ys.length = 2, ?_, ?_⟩
    · refine ⟨_, rfl, p, _, rfl, .inl (SqL.of upd_same), rfl, _, rfl, ?_⟩
      rw [List.length_map]
      by_cases h2 : ys.length = 2
      · rw [h2]
        exact iteF ⟨rfl, rfl, rfl⟩
      · have e : decide (V.int (ys.length : Nat) = V.int 2) = false := decide_eq_false fun q => h2 (by
          have := V.int.inj q
          omega)
        rw [e]
        refine iteT ?_
        refine k _ _ s1 ?_
        unfold splitB
        rw [eY]
        unfold splitO
        split
        · exact absurd rfl h2
        · rfl
    · rintro σ' H' ⟨rfl, rfl, h2⟩
      obtain ⟨u, ys, rfl⟩ : ∃ u r, ys = u :: r := by
        cases ys with
        | nil => cases h2
        | cons u r => exact ⟨u, r, rfl⟩
      obtain ⟨h, ys, rfl⟩ : ∃ u r, ys = u :: r := by
        cases ys with
        | nil => cases h2
        | cons u r => exact ⟨u, r, rfl⟩
      obtain rfl : ys = [] := List.length_eq_zero_iff.mp (by
        rw [List.length_cons, List.length_cons] at h2
        omega)
      obtain ⟨ez, _, _⟩ := split_parts eY
      have el := congrArg List.length ez
      rw [List.length_append, List.length_cons, ← len_eq, ← len_eq, ← len_eq] at el
      refine ⟨_, rfl, p, _, rfl, SqL.of upd_same, rfl, _, _, rfl, _, _, rfl, rfl, ?_⟩
      refine ⟨_, rfl, u, rfl, by omega, fun H2 s2 => ⟨_, rfl, ?_⟩⟩
      have eB : splitB z = if (nameB u && nameB h) = true then some (u, h) else none := by
        unfold splitB
        rw [eY]
        rfl
      by_cases h3 : nameB u = true
      · rw [h3]
        refine iteT ⟨_, rfl, h, rfl, by omega, fun H3 s3 => ⟨_, rfl, ?_⟩⟩
        by_cases h4 : nameB h = true
        · rw [h4]
          refine iteT ⟨_, rfl, _, rfl, by show 2 ≤ sizeLine; decide, fun t ht => ?_⟩
          refine k _ _ (((s1.trans s2).trans s3).trans (same_upd ht)) ?_
          rw [eB, h3, h4]
          exact ⟨t, rfl, upd_same⟩
        · rw [ef h4]
          refine iteF (k _ _ ((s1.trans s2).trans s3) ?_)
          rw [eB, h3, ef h4]
          rfl
      · rw [ef h3]
        refine iteF (iteF (k _ _ (s1.trans s2) ?_))
        rw [eB, ef h3]
        rfl
def spIsAddr : Sp := fun vs H Q _ => ∃ z : Str, vs = [.str z] ∧ z.length ≤ 1000 ∧ ∀ H', Same H H' → Q (.bl (splitB z).isSome) H'
theorem PairV.none_iff {H : Hp} {x : V} {o : Option (Str × Str)} (h : PairV H x o) : (!decide (x = .non)) = o.isSome := by
  cases o with
  | none =>
    cases (show x = .non from h)
    rfl
  | some q =>
    obtain ⟨u, w⟩ := q
    obtain ⟨p, rfl, _⟩ := h
    rfl
theorem ok_is_address {P : Program} {w : World} {K : PySem.W.Frag} {mg : Str → Option Value} {base : Heap} {f : Addr} {fd : FuncData} (T : Tx K mg) (c_split_address : C8.Cal P w K mg base 3 "split_address" spSplit [])
    (F : FunD K "is_address" "is_address" (defArgs s_is_address) (defBody s_is_address) (defScope s_is_address) [] [] f fd) : FnOk P w K mg base CX0 4 f fd ["word"] spIsAddr := by
  refine F.ok sc_is_address (fun vs H Q E h => ?_) (fun cdv A outer s H vs Q E hr h => ?_)
  · obtain ⟨z, rfl, _⟩ := h
    rfl
  · obtain ⟨z, rfl, hz, k⟩ := h
    refine ⟨_, PSs.nox (pss_one (ps_ret (pe_cmpR op_notN (pe_c c_split_address hr (by decide) rfl (pa_cons (pv 0) pa_nil)) pe_non (nomark _)))), ?_⟩
    refine ⟨_, rfl, z, rfl, hz, fun x H1 s1 hp => ⟨rfl, ?_⟩⟩
    rw [hp.none_iff]
    exact k H1 s1

end K13
set_option maxHeartbeats 1000000
set_option pp.maxSteps 500
namespace K13
open PySem PySem.Spec PyProof.Rows L2 SX TK NdefX K11 LD
open C8 (pe_c)
def jfl (t : Str) (n : Int) : List (Str × V) := [("text", .str t), ("synced", .int n)]
instance {t : Str} {n : Int} : SmallF (jfl t n) 2 := ⟨Nat.le_refl _⟩
def JAt (K : PySem.W.Frag) (H : Hp) (p : Addr) (t : Str) (n : Int) : Prop := ∃ dx, H p = some (.ins (He.ga K "Journal") dx (jfl t n))
def spJInit (K : PySem.W.Frag) : Sp := fun vs H Q _ => ∃ (p dx : Addr), vs = [.ref p] ∧ H p = some (.ins (He.ga K "Journal") dx []) ∧ Q .non (upd H p (.ins (He.ga K "Journal") dx (jfl "" 0)))
theorem ok_Journal___init {P : Program} {w : World} {K : PySem.W.Frag} {mg : Str → Option Value} {base : Heap} {f : Addr} {fd : FuncData} (T : Tx K mg) 
    (F : FunD K "__init__" "Journal.__init__" (defArgs s_Journal___init) (defBody s_Journal___init) (defScope s_Journal___init) [] [] f fd) : FnOk P w K mg base CX0 1 f fd ["self"] (spJInit K) := by
  refine F.ok sc_Journal___init (fun vs H Q E h => ?_) (fun cdv A outer s H vs Q E hr h => ?_)
  · obtain ⟨p, dx, rfl, _⟩ := h
    rfl
  · obtain ⟨p, dx, rfl, hp, k⟩ := h
    refine ⟨_, PSs.nox (pss_cons (ps_fldC rfl T.cl_Journal T.na_Journal_text (pv 0) pe_str rfl) (pss_one (ps_fldC rfl T.cl_Journal T.na_Journal_synced (pv 0) pe_int rfl))), ?_⟩
    refine ⟨_, rfl, p, dx, _, rfl, hp, sm, _, rfl, p, dx, _, rfl, upd_same, sm, ?_⟩
    rw [upd_upd]
    exact k
def spCks : Sp := fun vs H Q _ => ∃ z : Str, vs = [.str z] ∧ Q (.int (cks (TL.tl z) : Nat)) H
theorem ok_checksum {P : Program} {w : World} {K : PySem.W.Frag} {mg : Str → Option Value} {base : Heap} {f : Addr} {fd : FuncData} (T : Tx K mg) 
    (F : FunD K "checksum" "checksum" (defArgs s_checksum) (defBody s_checksum) (defScope s_checksum) [] [] f fd) : FnOk P w K mg base CX0 1 f fd ["text"] spCks := by
  refine F.ok sc_checksum (fun vs H Q E h => ?_) (fun cdv A outer s H vs Q E hr h => ?_)
  · obtain ⟨z, rfl, _⟩ := h
    rfl
  · obtain ⟨z, rfl, k⟩ := h
    refine ⟨_, PSs.nox (pss_cons (ps_set (i := 1) sc_checksum.nd rfl (Or.inl rfl) (pgI T.g_FIRST_SUM)) (pss_cons (ps_for PassesOwn.never rfl (pi_str (pv 0)) (pg_name (i := 2) sc_checksum.nd rfl (Or.inl rfl)) (pss_one (ps_set (i := 1) sc_checksum.nd rfl (Or.inl rfl) (pe_op op_mod (pe_op op_add (pe_op op_mul (pv 1) (pgI T.g_FACTOR)) (pe_callB call_ord rfl T.f_ord (by decide +kernel) (pa_cons (pv 2) pa_nil))) (pgI T.g_MODULUS))))) (pss_one (ps_ret (pv 1))))), ?_⟩
    refine ⟨_, rfl, z, rfl, for_it walk_str (fun i σ H1 => H1 = H ∧ ∃ v, σ = [some (.str z), some (.int (cks ((TL.tl z).take i) : Nat)), v]) ⟨rfl, none, rfl⟩ (fun _ _ _ _ _ => trivial) ?_ ?_⟩
    · rintro i x σ H1 H2 hi ⟨rfl, v, rfl⟩ ⟨rfl, c, hc, rfl⟩
      have e : (TL.tl z)[i]? = some c := by
        show z.cps.toList[i]? = some c
        rw [Array.getElem?_toList]
        exact hc
      refine ⟨_, rfl, _, _, rfl, rfl, .inr ⟨by decide, by decide⟩, _, rfl, _, rfl, rfl, _, _, rfl, rfl, _, _, rfl, rfl, (by show (0 : Int) < 9973; decide), rfl, some (.str (S [c])), ?_⟩
      have e3 : (TL.tl z).take (i + 1) = (TL.tl z).take i ++ [c] := by
        rw [List.take_add_one, e]
        rfl
      rw [e3]
      unfold cks
      rw [List.foldl_append]
      refine congrArg (fun v => [some (V.str z), some (V.int v), some (V.str (S [c]))]) ?_
      show ((_ : Int) * 31 + ((c : Nat) : Int)) % 9973 = (((_ * 31 + c) % 9973 : Nat) : Int)
      omega
    · rintro σ H1 ⟨rfl, v, rfl⟩
      rw [List.take_of_length_le (by rw [size_tl]; exact Nat.le_refl _)]
      exact ⟨_, rfl, k⟩
def spSeal : Sp := fun vs H Q _ => ∃ z : Str, vs = [.str z] ∧ z.length ≤ 10000 ∧ Q (.str (sealT z)) H
theorem cks_lt (l : List Nat) : cks l < 9973 := by
  unfold cks
  cases l with
  | nil => decide
  | cons a r =>
    have : ∀ (l : List Nat) (t : Nat), t < 9973 → l.foldl (fun t c => (t * 31 + c) % 9973) t < 9973 := by
      intro l
      induction l with
      | nil => exact fun t h => h
      | cons b q ih => exact fun t h => ih _ (Nat.mod_lt _ (by decide))
    exact this (a :: r) 7 (by decide)
theorem k_bl : (" " : Str).length = 1 := by decide +kernel
theorem k_nl : ("\n" : Str).length = 1 := by decide +kernel
theorem emp0 : Str.empty.length = 0 := rfl
theorem cks_small (z : Str) : ((cks (TL.tl z) : Nat) : Int).natAbs < 1000000000 := by
  have := cks_lt (TL.tl z)
  omega
theorem seal_len (z : Str) : (sealT z).length ≤ z.length + 12 := by
  unfold sealT
  have := numS_len (cks_small z)
  rw [cat_len, cat_len, cat_len, cat_len, emp0, k_bl, k_nl]
  omega
theorem ok_sealed {P : Program} {w : World} {K : PySem.W.Frag} {mg : Str → Option Value} {base : Heap} {f : Addr} {fd : FuncData} (T : Tx K mg) (c_checksum : C8.Cal P w K mg base 1 "checksum" spCks [])
    (F : FunD K "sealed" "sealed" (defArgs s_sealed) (defBody s_sealed) (defScope s_sealed) [] [] f fd) : FnOk P w K mg base CX0 2 f fd ["text"] spSeal := by
  refine F.ok sc_sealed (fun vs H Q E h => ?_) (fun cdv A outer s H vs Q E hr h => ?_)
  · obtain ⟨z, rfl, _⟩ := h
    rfl
  · obtain ⟨z, rfl, hz, k⟩ := h
    have hn := numS_len (cks_small z)
    refine ⟨_, PSs.nox (pss_one (ps_ret (pe_joined (PJ.cons (pe_fmt (pv 0)) (PJ.cons pe_str (PJ.cons (pe_fmt (pe_c c_checksum hr (by decide) rfl (pa_cons (pv 0) pa_nil))) (PJ.cons pe_str PJ.nil))))))), ?_⟩
    refine ⟨_, rfl, .inl ⟨_, rfl, szl (by omega), _, rfl, szl (by rw [cat_len, emp0]; omega), _, rfl, szl (by rw [cat_len, cat_len, emp0, k_bl]; omega), ?_⟩⟩
    refine ⟨_, rfl, z, rfl, .inr ⟨_, rfl, numS_log (cks_small z), ?_⟩⟩
    refine ⟨_, rfl, szl (by show (_ ++ _ ++ _ ++ numS _).length ≤ _; rw [cat_len, cat_len, cat_len, emp0, k_bl]; omega), _, rfl, szl (by show (_ ++ _ ++ _ ++ numS _ ++ _).length ≤ _; rw [cat_len, cat_len, cat_len, cat_len, emp0, k_bl, k_nl]; omega), k⟩
def spJAppend (K : PySem.W.Frag) : Sp := fun vs H Q _ => ∃ (p : Addr) (t z : Str) (n : Int), vs = [.ref p, .str z] ∧ JAt K H p t n ∧ t.length ≤ 10000 ∧ z.length ≤ 10000 ∧ ∀ H', JAt K H' p (t ++ sealT z) n → (∀ c o, H c = some o → c ≠ p → H' c = some o) → Q .non H'
theorem ok_Journal_append {P : Program} {w : World} {K : PySem.W.Frag} {mg : Str → Option Value} {base : Heap} {f : Addr} {fd : FuncData} (T : Tx K mg) (c_sealed : C8.Cal P w K mg base 2 "sealed" spSeal [])
    (F : FunD K "append" "Journal.append" (defArgs s_Journal_append) (defBody s_Journal_append) (defScope s_Journal_append) [] [] f fd) : FnOk P w K mg base CX0 3 f fd ["self", "text"] (spJAppend K) := by
  refine F.ok sc_Journal_append (fun vs H Q E h => ?_) (fun cdv A outer s H vs Q E hr h => ?_)
  · obtain ⟨p, t, z, n, rfl, _⟩ := h
    rfl
  · obtain ⟨p, t, z, n, rfl, ⟨dx, hp⟩, ht, hz, k⟩ := h
    refine ⟨_, PSs.nox (pss_one (ps_fldaug (pv 0) (pe_c c_sealed hr (by decide) rfl (pa_cons (pv 1) pa_nil)) in_addS)), ?_⟩
    have := seal_len z
    refine ⟨_, rfl, p, _, dx, _, _, rfl, hp, T.cl_Journal, T.na_Journal_text, rfl, _, rfl, z, rfl, hz, _, _, rfl, rfl, Nat.le_trans (show t.length + (sealT z).length ≤ 100000 by omega) (by decide), dx, _, hp, sm, ?_⟩
    exact k _ ⟨dx, upd_same⟩ fun c o e hc => (upd_ne hc).trans e
def spJSync (K : PySem.W.Frag) : Sp := fun vs H Q _ => ∃ (p : Addr) (t : Str) (n : Int), vs = [.ref p] ∧ JAt K H p t n ∧ t.length ≤ 10000 ∧ ∀ H', JAt K H' p t (t.length : Nat) → (∀ c o, H c = some o → c ≠ p → H' c = some o) → Q .non H'
theorem ok_Journal_sync {P : Program} {w : World} {K : PySem.W.Frag} {mg : Str → Option Value} {base : Heap} {f : Addr} {fd : FuncData} (T : Tx K mg) 
    (F : FunD K "sync" "Journal.sync" (defArgs s_Journal_sync) (defBody s_Journal_sync) (defScope s_Journal_sync) [] [] f fd) : FnOk P w K mg base CX0 1 f fd ["self"] (spJSync K) := by
  refine F.ok sc_Journal_sync (fun vs H Q E h => ?_) (fun cdv A outer s H vs Q E hr h => ?_)
  · obtain ⟨p, t, n, rfl, _⟩ := h
    rfl
  · obtain ⟨p, t, n, rfl, ⟨dx, hp⟩, ht, k⟩ := h
    refine ⟨_, PSs.nox (pss_one (ps_fldC rfl T.cl_Journal T.na_Journal_synced (pv 0) (pe_callB call_len_str rfl T.f_len PySem.boot_len (pa_cons (pe_fldC rfl T.cl_Journal T.na_Journal_text (pv 0) rfl) pa_nil)) rfl)), ?_⟩
    refine ⟨_, rfl, p, dx, _, _, rfl, hp, rfl, t, rfl, szl (by omega), _, rfl, p, dx, _, rfl, hp, sm, ?_⟩
    exact k _ ⟨dx, upd_same⟩ fun c o e hc => (upd_ne hc).trans e

theorem split_ne (z : Str) : Txt.split z "\n" ≠ [] := by
  rw [nl_S]
  intro e
  have q := congrArg TL.tl (StrLaws.join_split z (S [10]))
  rw [e, TL.tl_join] at q
  have q2 : TL.tl z = [] := q.symm
  have e2 : z = S [] := TL.ext_tl (by rw [q2])
  rw [e2, hX0'] at e
  cases e
theorem readL_cons (l : Str) (r : List Str) : readL (l :: r) = if sealT (Txt.rpartition l " ").1 = l ++ "\n" then (Txt.rpartition l " ").1 :: readL r else [] := rfl
theorem vstr (a b : Str) : decide (V.str a = V.str b) = decide (a = b) := by
  by_cases h : a = b
  · rw [h, decide_eq_true rfl, decide_eq_true rfl]
  · rw [decide_eq_false h, decide_eq_false fun e => h (V.str.inj e)]
def spRead : Sp := fun vs H Q _ => ∃ z : Str, vs = [.str z] ∧ z.length ≤ 9000 ∧ ∀ r H', Same H H' → H' r = some (.lst ((readJ z).map V.str)) → Q (.ref r) H'
theorem joinL_ge : ∀ l : List (List Nat), l.length ≤ (TL.joinL [10] l).length + 1
  | [] => Nat.zero_le _
  | [p] => by simp
  | p :: a :: r => by
    have ih := joinL_ge (a :: r)
    show (a :: r).length + 1 ≤ (p ++ ([10] ++ TL.joinL [10] (a :: r))).length + 1
    rw [List.length_append, List.length_append]
    have : ([10] : List Nat).length = 1 := rfl
    omega
theorem parts_le (z : Str) : (Txt.split z "\n").length ≤ z.length + 1 := by
  have e := congrArg TL.tl (StrLaws.join_split z "\n")
  rw [TL.tl_join, nl_S] at e
  have q := joinL_ge ((Txt.split z (S [10])).map TL.tl)
  rw [List.length_map, show TL.joinL [10] ((Txt.split z (S [10])).map TL.tl) = TL.tl z from e, ← len_eq] at q
  rw [nl_S]
  exact q
theorem ok_read_journal {P : Program} {w : World} {K : PySem.W.Frag} {mg : Str → Option Value} {base : Heap} {f : Addr} {fd : FuncData} (T : Tx K mg) (c_sealed : C8.Cal P w K mg base 2 "sealed" spSeal [])
    (F : FunD K "read_journal" "read_journal" (defArgs s_read_journal) (defBody s_read_journal) (defScope s_read_journal) [] [] f fd) : FnOk P w K mg base CX0 4 f fd ["text"] spRead := by
  refine F.ok sc_read_journal (fun vs H Q E h => ?_) (fun cdv A outer s H vs Q E hr h => ?_)
  · obtain ⟨z, rfl, _⟩ := h
    rfl
  · obtain ⟨z, rfl, hz, k⟩ := h
    refine ⟨_, PSs.nox (pss_cons (ps_set (i := 1) sc_read_journal.nd rfl (Or.inl rfl) (pe_split (pv 0) pe_str)) (pss_cons (ps_expr (pe_bm0 PySem.F.plainAttrs_list PySem.F.slot_list_pop PySem.F.type_list_pop mt_pop (pv 1))) (pss_cons (ps_set (i := 2) sc_read_journal.nd rfl (Or.inl rfl) (pe_lst pa_nil)) (pss_cons (ps_for PassesOwn.never rfl (pi_list (pv 1)) (pg_name (i := 3) sc_read_journal.nd rfl (Or.inl rfl)) (pss_cons (ps_set (i := 4) sc_read_journal.nd rfl (Or.inl rfl) (pe_ix ix_tup (TK.pe_rpartition (pv 3) pe_str) pe_int (fun _ _ => rfl))) (C8.pss_cut (ps_if (pt_cmpR op_ne (pe_c c_sealed hr (by decide) rfl (pa_cons (pv 4) pa_nil)) (pe_op op_add_str (pv 3) pe_str) (nomark _)) (pss_one (ps_ret (pv 2))) pss_nil) (pss_one (ps_expr (pe_bm PySem.F.plainAttrs_list PySem.F.slot_list_append PySem.F.type_list_append mt_append (pv 2) (pa_cons (pv 4) pa_nil))))))) (pss_one (ps_ret (pv 2))))))), ?_⟩
    refine ⟨_, rfl, ⟨_, rfl⟩, z, "\n", rfl, rfl, by decide +kernel, Nat.le_trans (Nat.add_le_add_right hz 2) (by decide), fun l hl => ?_⟩
    have hne := split_ne z
    have hpl : ∀ x ∈ Txt.split z "\n", x.length ≤ z.length := fun x hx => part_len hx
    have hle := parts_le z
    have k2 : ∀ r H', Same H H' → H' r = some (.lst ((readL (Txt.split z "\n").dropLast).map V.str)) → Q (.ref r) H' := k
    generalize Txt.split z "\n" = ps at hne hpl hle k2 ⊢
    -- lines.pop()
    have hlast : (ps.map V.str)[(ps.map V.str).length - 1]? = some (.str (ps.getLast hne)) := by
      rw [List.length_map, List.getElem?_map, List.getLast_eq_getElem]
      rw [List.getElem?_eq_getElem (by have := List.length_pos_iff.mpr hne; omega)]
      rfl
    refine ⟨_, rfl, .inl ⟨rfl, _, SqL.of upd_same⟩, l, _, _, rfl, rfl, upd_same, hlast, ?_⟩
    rw [upd_upd, ← List.map_dropLast]
    have hd : ∀ x ∈ ps.dropLast, x.length ≤ 9000 := fun x hx => Nat.le_trans (hpl x (List.dropLast_subset ps hx)) hz
    have hdl : ps.dropLast.length ≤ 9001 := by rw [List.length_dropLast]; omega
    generalize ps.dropLast = ls at hd hdl k2 ⊢
    refine ⟨by show 0 ≤ sizeLine; decide, fun t ht => ?_⟩
    obtain ⟨lt, ht0, s2, q1, q2⟩ := new2 (u := .lst []) hl ht
    refine ⟨_, rfl, l, rfl, ⟨_, SqL.of q1⟩, for_list (K := K) (a := l) (xs := ls.map V.str) (fun i σ H1 => ∃ (acc : List Str) (v3 v4 : Option V), σ = [some (.str z), some (.ref l), some (.ref t), v3, v4] ∧ Same H H1 ∧ H1 l = some (.lst (ls.map V.str)) ∧ H1 t = some (.lst (acc.map V.str)) ∧ acc.length = i ∧ i ≤ ls.length ∧ readL ls = acc ++ readL (ls.drop i)) ⟨[], none, none, rfl, s2, q1, q2, rfl, Nat.zero_le _, rfl⟩ (fun i σ H1 _ ⟨_, _, _, _, _, q, _⟩ => SqL.of q) ?_ ?_⟩
    · rintro i y σ H1 hi ⟨acc, v3, v4, rfl, s1, h1, h2, h3, h4, h5⟩
      have hi2 : i < ls.length := by
        have := (List.getElem?_eq_some_iff.mp hi).1
        rw [List.length_map] at this
        exact this
      rw [List.getElem?_map, List.getElem?_eq_getElem hi2] at hi
      obtain rfl := Option.some.inj hi
      have hx := hd _ (List.getElem_mem hi2)
      have hf := (fact_rpartition ls[i] " ").1
      have hd2 : ls.drop i = ls[i] :: ls.drop (i + 1) := List.drop_eq_getElem_cons hi2
      refine ⟨_, rfl, ⟨_, rfl⟩, ls[i], " ", rfl, rfl, by decide +kernel, szl (by omega), fun p hp => ?_⟩
      have sp := same_upd (o := .tup [.str (Txt.rpartition ls[i] " ").1, .str (Txt.rpartition ls[i] " ").2.1, .str (Txt.rpartition ls[i] " ").2.2]) hp
      refine ⟨p, _, 0, _, rfl, rfl, SqT.of upd_same, rfl, ?_⟩
      have h1' := sp _ _ h1
      have h2' := sp _ _ h2
      have s1' := s1.trans sp
      generalize upd H1 p (.tup [.str (Txt.rpartition ls[i] " ").1, .str (Txt.rpartition ls[i] " ").2.1, .str (Txt.rpartition ls[i] " ").2.2]) = H2 at h1' h2' s1' ⊢
      have hsl := seal_len (Txt.rpartition ls[i] " ").1
      rw [hd2, readL_cons] at h5
      refine ⟨fun σ' H' => σ' = [some (.str z), some (.ref l), some (.ref t), some (.str ls[i]), some (.str (Txt.rpartition ls[i] " ").1)] ∧ H' = H2 ∧ sealT (Txt.rpartition ls[i] " ").1 = ls[i] ++ "\n", ?_, ?_⟩
      · refine ⟨_, rfl, _, rfl, by omega, _, rfl, _, _, rfl, rfl, Nat.le_trans (Nat.add_le_add hx (Nat.le_of_eq k_nl)) (by decide), rfl, _, rfl, ?_⟩
        rw [vstr]
        by_cases hs : sealT (Txt.rpartition ls[i] " ").1 = ls[i] ++ "\n"
        · rw [decide_eq_true hs]
          exact iteF ⟨rfl, rfl, hs⟩
        · rw [decide_eq_false hs]
          rw [if_neg hs, List.append_nil] at h5
          exact iteT ⟨_, rfl, k2 t H2 s1' (by rw [h5]; exact h2')⟩
      rintro σ' H' ⟨rfl, rfl, hs⟩
      rw [if_pos hs] at h5
      refine ⟨_, rfl, .inl ⟨rfl, _, SqL.of h2'⟩, _, rfl, t, _, _, rfl, rfl, h2', by rw [List.length_map, h3]; exact Nat.lt_of_lt_of_le (show i < 10000 by omega) (by decide), ?_⟩
      exact ⟨acc ++ [(Txt.rpartition ls[i] " ").1], _, _, rfl, TK.Same.upd_of s1' ht0, (upd_ne lt).trans h1', by rw [List.map_append]; exact upd_same, by rw [List.length_append, h3]; rfl, hi2, by rw [h5, List.append_assoc]; rfl⟩
    · rintro σ H1 ⟨acc, v3, v4, rfl, s1, h1, h2, h3, h4, h5⟩
      rw [List.length_map, List.drop_length] at h5
      exact ⟨_, rfl, k2 t H1 s1 (by rw [h5]; unfold readL; rw [List.append_nil]; exact h2)⟩

end K13
set_option maxHeartbeats 1000000
set_option pp.maxSteps 500
namespace K13
open PySem PySem.Spec PyProof.Rows L2 SX TK NdefX K11 LD
open C8 (pe_c)
abbrev Bd : Type := Int × Int
def tupV (b : Bd) : List V := [.int b.1, .int b.2]
def TupsAt (H : Hp) : List Addr → List Bd → Prop
  | [], [] => True
  | t :: ts, b :: bs => H t = some (.tup (tupV b)) ∧ TupsAt H ts bs
  | _, _ => False
theorem TupsAt.mono {H H' : Hp} (s : ∀ x b, H x = some (.tup (tupV b)) → H' x = some (.tup (tupV b))) : ∀ {ts : List Addr} {bs : List Bd}, TupsAt H ts bs → TupsAt H' ts bs
  | [], [], _ => trivial
  | t :: ts, b :: bs, h => ⟨s _ _ h.1, TupsAt.mono s h.2⟩
  | [], _ :: _, h => h
  | _ :: _, [], h => h
theorem TupsAt.snoc {H : Hp} {t : Addr} {b : Bd} (ht : H t = some (.tup (tupV b))) : ∀ {ts : List Addr} {bs : List Bd}, TupsAt H ts bs → TupsAt H (ts ++ [t]) (bs ++ [b])
  | [], [], _ => ⟨ht, trivial⟩
  | _ :: _, _ :: _, h => ⟨h.1, TupsAt.snoc ht h.2⟩
  | [], _ :: _, h => h.elim
  | _ :: _, [], h => h.elim
theorem TupsAt.app {H : Hp} : ∀ {ts ts' : List Addr} {bs bs' : List Bd}, TupsAt H ts bs → TupsAt H ts' bs' → TupsAt H (ts ++ ts') (bs ++ bs')
  | [], _, [], _, _, h => h
  | _ :: _, _, _ :: _, _, h, h' => ⟨h.1, TupsAt.app h.2 h'⟩
  | [], _, _ :: _, _, h, _ => h.elim
  | _ :: _, _, [], _, h, _ => h.elim
theorem TupsAt.take {H : Hp} : ∀ {ts : List Addr} {bs : List Bd} (n : Nat), TupsAt H ts bs → TupsAt H (ts.take n) (bs.take n)
  | [], [], n, _ => by rw [List.take_nil, List.take_nil]; trivial
  | _ :: _, _ :: _, 0, _ => trivial
  | _ :: _, _ :: _, n + 1, h => ⟨h.1, TupsAt.take n h.2⟩
  | [], _ :: _, _, h => h.elim
  | _ :: _, [], _, h => h.elim
theorem TupsAt.drop {H : Hp} : ∀ {ts : List Addr} {bs : List Bd} (n : Nat), TupsAt H ts bs → TupsAt H (ts.drop n) (bs.drop n)
  | [], [], n, _ => by rw [List.drop_nil, List.drop_nil]; trivial
  | _ :: _, _ :: _, 0, h => h
  | _ :: _, _ :: _, n + 1, h => TupsAt.drop n h.2
  | [], _ :: _, _, h => h.elim
  | _ :: _, [], _, h => h.elim
theorem TupsAt.len {H : Hp} : ∀ {ts : List Addr} {bs : List Bd}, TupsAt H ts bs → ts.length = bs.length
  | [], [], _ => rfl
  | _ :: _, _ :: _, h => congrArg Nat.succ (TupsAt.len h.2)
  | [], _ :: _, h => h.elim
  | _ :: _, [], h => h.elim
theorem TupsAt.at_ {H : Hp} : ∀ {ts : List Addr} {bs : List Bd}, TupsAt H ts bs → ∀ (i : Nat) (x : V), (ts.map V.ref)[i]? = some x → ∃ t, x = .ref t ∧ ts[i]? = some t ∧ i < bs.length ∧ H t = some (.tup (tupV (bs.getD i (0, 0))))
  | [], [], _, i, x, h => by cases h
  | t :: _, b :: _, h, 0, x, e => ⟨t, (Option.some.inj e).symm, rfl, Nat.succ_pos _, h.1⟩
  | _ :: ts, _ :: bs, h, i + 1, x, e => by
    obtain ⟨t, e1, e2, e3, e4⟩ := TupsAt.at_ h.2 i x e
    exact ⟨t, e1, e2, Nat.succ_lt_succ e3, e4⟩
  | [], _ :: _, h, _, _, _ => h.elim
  | _ :: _, [], h, _, _, _ => h.elim
def BAt (H : Hp) (r : Addr) (bs : List Bd) : Prop := ∃ ts : List Addr, H r = some (.lst (ts.map V.ref)) ∧ TupsAt H ts bs
theorem BAt.same {H H' : Hp} {r : Addr} {bs : List Bd} (h : BAt H r bs) (s : Same H H') : BAt H' r bs := by
  obtain ⟨ts, e, t⟩ := h
  exact ⟨ts, s _ _ e, t.mono fun x b e => s _ _ e⟩
theorem BAt.keep {H H' : Hp} {r s c : Addr} {bs : List Bd} (h : BAt H r bs) (hs : StAt H s c) (k : Keep H H' s c) (h1 : r ≠ s) (h2 : r ≠ c) : BAt H' r bs := by
  obtain ⟨ts, e, t⟩ := h
  obtain ⟨_, ⟨n, hn⟩, ns, hc, _⟩ := hs
  exact ⟨ts, k _ _ e h1 h2, t.mono fun x b e => k _ _ e (ne_of e hn (by intro z; cases z)) (ne_of e hc (by intro z; cases z))⟩
def okU (i : Int) : Bool := if 1 ≤ i then decide (i ≤ 10000) else false
def okP (i : Int) : Bool := if 0 ≤ i then decide (i ≤ 10000) else false
def okD (b : Bd) : Bool := if okU b.1 = true then okP b.2 else false
def okB (bs : List Bd) : Bool := if bs.length ≤ 8 then bs.all okD else false
def spIsU : Sp := fun vs H Q _ => ∃ i : Int, vs = [.int i] ∧ Q (.bl (okU i)) H
def spIsP : Sp := fun vs H Q _ => ∃ i : Int, vs = [.int i] ∧ Q (.bl (okP i)) H
def spAreB (K : PySem.W.Frag) : Sp := fun vs H Q _ => ∃ (r : Addr) (bs : List Bd), vs = [.ref r] ∧ BAt H r bs ∧ bs.length ≤ 40 ∧ ∀ H', Same H H' → Q (.bl (okB bs)) H'
theorem ok_is_unit {P : Program} {w : World} {K : PySem.W.Frag} {mg : Str → Option Value} {base : Heap} {f : Addr} {fd : FuncData} (T : Tx K mg) 
    (F : FunD K "_is_unit" "_is_unit" (defArgs s_is_unit) (defBody s_is_unit) (defScope s_is_unit) [] [] f fd) : FnOk P w K mg base CX0 1 f fd ["number"] spIsU := by
  refine F.ok sc_is_unit (fun vs H Q E h => ?_) (fun cdv A outer s0 H vs Q E hr h => ?_)
  · obtain ⟨i, rfl, _⟩ := h
    rfl
  · obtain ⟨i, rfl, k⟩ := h
    refine ⟨_, PSs.nox (pss_one (ps_ret (pe_chain op_le op_le pe_int (pv 0) (pgI T.g_GREATEST_UNIT)))), ?_⟩
    refine ⟨_, rfl, _, _, rfl, rfl, _, rfl, ?_⟩
    unfold okU at k
    by_cases c : 1 ≤ i
    · rw [if_pos c] at k
      rw [decide_eq_true c]
      exact iteT ⟨_, _, rfl, rfl, k⟩
    · rw [if_neg c] at k
      rw [decide_eq_false c]
      exact iteF k
theorem ok_is_price {P : Program} {w : World} {K : PySem.W.Frag} {mg : Str → Option Value} {base : Heap} {f : Addr} {fd : FuncData} (T : Tx K mg) 
    (F : FunD K "_is_price" "_is_price" (defArgs s_is_price) (defBody s_is_price) (defScope s_is_price) [] [] f fd) : FnOk P w K mg base CX0 1 f fd ["number"] spIsP := by
  refine F.ok sc_is_price (fun vs H Q E h => ?_) (fun cdv A outer s0 H vs Q E hr h => ?_)
  · obtain ⟨i, rfl, _⟩ := h
    rfl
  · obtain ⟨i, rfl, k⟩ := h
    refine ⟨_, PSs.nox (pss_one (ps_ret (pe_chain op_le op_le pe_int (pv 0) (pgI T.g_GREATEST_PRICE)))), ?_⟩
    refine ⟨_, rfl, _, _, rfl, rfl, _, rfl, ?_⟩
    unfold okP at k
    by_cases c : 0 ≤ i
    · rw [if_pos c] at k
      rw [decide_eq_true c]
      exact iteT ⟨_, _, rfl, rfl, k⟩
    · rw [if_neg c] at k
      rw [decide_eq_false c]
      exact iteF k
theorem ok_are_bands {P : Program} {w : World} {K : PySem.W.Frag} {mg : Str → Option Value} {base : Heap} {f : Addr} {fd : FuncData} (T : Tx K mg) (c_is_unit : C8.Cal P w K mg base 1 "_is_unit" spIsU []) (c_is_price : C8.Cal P w K mg base 1 "_is_price" spIsP [])
    (F : FunD K "_are_bands" "_are_bands" (defArgs s_are_bands) (defBody s_are_bands) (defScope s_are_bands) [] [] f fd) : FnOk P w K mg base CX0 2 f fd ["bands"] (spAreB K) := by
  refine F.ok sc_are_bands (fun vs H Q E h => ?_) (fun cdv A outer s0 H vs Q E hr h => ?_)
  · obtain ⟨r, bs, rfl, _⟩ := h
    rfl
  · obtain ⟨r, bs, rfl, hB, hn, k⟩ := h
    refine ⟨_, PSs.nox (pss_one (ps_ret (pe_and (pe_cmpR op_le (pe_callB call_len_seq rfl T.f_len PySem.boot_len (pa_cons (pv 0) pa_nil)) (pgI T.g_MOST_BANDS) (nomark _)) (pe_one (pe_callB (cr_all rfl) rfl T.f_all (by decide +kernel) (pa_cons (pe_lc (own := [("many", 1), ("price", 2)]) rfl sc_are_bands.nd (pi_list (pv 0)) (blkOk_by (own := [("many", 1), ("price", 2)]) (N := ["bands", "many", "price"]) (sc := defScope s_are_bands) (by decide +kernel)) (fun _ _ _ _ _ => TKE.pg_tupK (n := 2) K rfl rfl (pgs_cons (pg_name (i := 1) sc_are_bands.nd rfl (Or.inl rfl)) (pgs_cons (pg_name (i := 2) sc_are_bands.nd rfl (Or.inl rfl)) pgs_nil))) (fun _ _ _ _ _ => pts_nil) (fun _ _ _ _ _ => (pe_and (pe_c c_is_unit hr (by decide) rfl (pa_cons (pv 1) pa_nil)) (pe_one (pe_c c_is_price hr (by decide) rfl (pa_cons (pv 2) pa_nil)))))) pa_nil)))))), ?_⟩
    obtain ⟨ts, e, q⟩ := hB
    refine ⟨_, rfl, r, _, rfl, .inl (SqL.of e), _, _, rfl, rfl, _, rfl, ?_⟩
    have hl := q.len
    unfold okB at k
    by_cases c : bs.length ≤ 8
    · rw [List.length_map, hl, decide_eq_true (by omega)]
      simp only [if_pos c] at k
      refine iteT ?_
      refine ⟨_, rfl, r, rfl, ⟨_, SqL.of e⟩, fun D hD => ?_⟩
      have hnm : (ts.map V.ref).length ≤ sizeLine := by rw [List.length_map, hl, sizeLine_eq]; omega
      have hR : ∀ o, SqL K (upd H D o) r (ts.map V.ref) := fun o => SqL.of ((same_upd hD) _ _ e)
      refine lc_pure walk_list (fun i => V.bl (okD (bs.getD i (0, 0)))) hnm (fun _ _ => hR _) (fun i x H1 kk hi y qq => ?_) (fun _ _ _ _ h q => h _ _ q) (fun x σ H Q Q' h z => ?_) ?_
      · obtain ⟨rfl, hx⟩ := y
        obtain ⟨t, rfl, _, _, ht⟩ := q.at_ i x hx
        refine ⟨t, _, rfl, SqT.of ((same_upd hD) _ _ ht), rfl, _, _, rfl, _, _, rfl, rfl, rfl, rfl, ?_⟩
        generalize bs.getD i (0, 0) = b at qq
        refine ⟨_, rfl, b.1, rfl, _, rfl, ?_⟩
        unfold okD at qq
        by_cases c1 : okU b.1 = true
        · rw [if_pos c1] at qq
          rw [c1]
          exact iteT ⟨_, rfl, b.2, rfl, qq⟩
        · rw [if_neg c1] at qq
          rw [ef c1]
          exact iteF qq
      · obtain ⟨a, xs, e1, e2, e3, v1, r1, e4, v2, r2, e5, e6, q⟩ := z
        exact ⟨a, xs, e1, e2, e3, v1, r1, e4, v2, r2, e5, e6, h _ _ q⟩
      · refine ⟨D, bs.map okD, rfl, ?_, ?_⟩
        · have e9 : (List.range (ts.map V.ref).length).map (fun i => V.bl (okD (bs.getD i (0, 0)))) = (bs.map okD).map V.bl := by
            rw [List.length_map, hl, range_map_getD bs (0, 0) fun b => V.bl (okD b), List.map_map]
            rfl
          rw [e9]
          exact SqL.of upd_same
        · rw [List.all_map] 
          exact k _ (same_upd hD)
    · rw [List.length_map, hl, decide_eq_false (by omega)]
      simp only [if_neg c] at k
      exact iteF (k _ fun _ _ e => e)

end K13
set_option maxHeartbeats 1000000
set_option pp.maxSteps 500
namespace K13
open PySem PySem.Spec PyProof.Rows L2 SX TK NdefX K11 LD
open C8 (pe_c)
def minI (i j : Int) : Int := if j < i then j else i
def step (s : Int × Int) (b : Bd) : Int × Int := (s.1 - minI s.1 b.1, s.2 + minI s.1 b.1 * b.2)
def unitsI (u span : Int) : Int := (span + u - 1) / u
def costI (u : Int) (bs : List Bd) (l span : Int) : Int := (bs.foldl step (unitsI u span, 0)).2 + (bs.foldl step (unitsI u span, 0)).1 * l
def tfl (u : Int) (r : Addr) (l : Int) : List (Str × V) := [("unit", .int u), ("bands", .ref r), ("last", .int l)]
def TAt (K : PySem.W.Frag) (H : Hp) (p r : Addr) (u : Int) (bs : List Bd) (l : Int) : Prop := ∃ dx, H p = some (.ins (He.ga K "Tariff") dx (tfl u r l)) ∧ BAt H r bs
theorem TAt.same {K : PySem.W.Frag} {H H' : Hp} {p r : Addr} {u : Int} {bs : List Bd} {l : Int} (h : TAt K H p r u bs l) (s : Same H H') : TAt K H' p r u bs l := by
  obtain ⟨dx, e, t⟩ := h
  exact ⟨dx, s _ _ e, t.same s⟩
theorem okD_get {bs : List Bd} (h : okB bs = true) {i : Nat} (hi : i < bs.length) : okU (bs.getD i (0, 0)).1 = true ∧ okP (bs.getD i (0, 0)).2 = true := by
  unfold okB at h
  by_cases c : bs.length ≤ 8
  · rw [if_pos c, List.all_eq_true] at h
    have e := h (bs.getD i (0, 0)) (by rw [List.getD_eq_getElem?_getD, List.getElem?_eq_getElem hi]; exact List.getElem_mem _)
    unfold okD at e
    by_cases c1 : okU (bs.getD i (0, 0)).1 = true
    · rw [if_pos c1] at e
      exact ⟨c1, e⟩
    · rw [if_neg c1] at e
      cases e
  · rw [if_neg c] at h
    cases h
theorem okB_len {bs : List Bd} (h : okB bs = true) : bs.length ≤ 8 := by
  unfold okB at h
  by_cases c : bs.length ≤ 8
  · exact c
  · rw [if_neg c] at h
    cases h
theorem okU_to {i : Int} (h : okU i = true) : 1 ≤ i ∧ i ≤ 10000 := by
  unfold okU at h
  by_cases c : 1 ≤ i
  · rw [if_pos c] at h
    exact ⟨c, of_decide_eq_true h⟩
  · rw [if_neg c] at h
    cases h
theorem okP_to {i : Int} (h : okP i = true) : 0 ≤ i ∧ i ≤ 10000 := by
  unfold okP at h
  by_cases c : 0 ≤ i
  · rw [if_pos c] at h
    exact ⟨c, of_decide_eq_true h⟩
  · rw [if_neg c] at h
    cases h
theorem take_step {bs : List Bd} {i : Nat} (hi : i < bs.length) (s0 : Int × Int) : (bs.take (i + 1)).foldl step s0 = step ((bs.take i).foldl step s0) (bs.getD i (0, 0)) := by
  rw [List.take_add_one, List.getElem?_eq_getElem hi, List.foldl_append, List.getD_eq_getElem?_getD, List.getElem?_eq_getElem hi]
  rfl
def spUnits (K : PySem.W.Frag) : Sp := fun vs H Q _ => ∃ (p dx r : Addr) (u l span : Int), vs = [.ref p, .int span] ∧ H p = some (.ins (He.ga K "Tariff") dx (tfl u r l)) ∧ 1 ≤ u ∧ u ≤ 10000 ∧ Q (.int (unitsI u span)) H
theorem ok_Tariff_units {P : Program} {w : World} {K : PySem.W.Frag} {mg : Str → Option Value} {base : Heap} {f : Addr} {fd : FuncData} (T : Tx K mg) 
    (F : FunD K "units" "Tariff.units" (defArgs s_Tariff_units) (defBody s_Tariff_units) (defScope s_Tariff_units) [] [] f fd) : FnOk P w K mg base CX0 1 f fd ["self", "span"] (spUnits K) := by
  refine F.ok sc_Tariff_units (fun vs H Q E h => ?_) (fun cdv A outer s0 H vs Q E hr h => ?_)
  · obtain ⟨p, dx, r, u, l, span, rfl, _⟩ := h
    rfl
  · obtain ⟨p, dx, r, u, l, span, rfl, hp, h1, h2, k⟩ := h
    refine ⟨_, PSs.nox (pss_one (ps_ret (pe_op op_fdiv (pe_op op_sub (pe_op op_add (pv 1) (pe_fldC rfl T.cl_Tariff T.na_Tariff_unit (pv 0) rfl)) pe_int) (pe_fldC rfl T.cl_Tariff T.na_Tariff_unit (pv 0) rfl)))), ?_⟩
    exact ⟨_, rfl, _, rfl, p, dx, _, _, rfl, hp, rfl, _, _, rfl, rfl, _, _, rfl, rfl, _, rfl, p, dx, _, _, rfl, hp, rfl, _, _, rfl, rfl, ⟨by omega, by omega⟩, k⟩
def spCost (K : PySem.W.Frag) : Sp := fun vs H Q _ => ∃ (p r : Addr) (u l span : Int) (bs : List Bd), vs = [.ref p, .int span] ∧ TAt K H p r u bs l ∧ okU u = true ∧ okB bs = true ∧ okP l = true ∧ Q (.int (costI u bs l span)) H
theorem ok_Tariff_cost {P : Program} {w : World} {K : PySem.W.Frag} {mg : Str → Option Value} {base : Heap} {f : Addr} {fd : FuncData} (T : Tx K mg) (c_Tariff_units : C8.Met P w K mg base 1 (He.ga K "Tariff") "units" (spUnits K) [])
    (F : FunD K "cost" "Tariff.cost" (defArgs s_Tariff_cost) (defBody s_Tariff_cost) (defScope s_Tariff_cost) [] [] f fd) : FnOk P w K mg base CX0 2 f fd ["self", "span"] (spCost K) := by
  refine F.ok sc_Tariff_cost (fun vs H Q E h => ?_) (fun cdv A outer s0 H vs Q E hr h => ?_)
  · obtain ⟨p, r, u, l, span, bs, rfl, _⟩ := h
    rfl
  · obtain ⟨p, r, u, l, span, bs, rfl, ⟨dx, hp, ts, e, q⟩, h1, h2, h3, k⟩ := h
    refine ⟨_, PSs.nox (pss_cons (ps_set (i := 2) sc_Tariff_cost.nd rfl (Or.inl rfl) (C8.pe_mt c_Tariff_units hr (by decide) (pv 0) (pa_cons (pv 1) pa_nil))) (pss_cons (ps_set (i := 3) sc_Tariff_cost.nd rfl (Or.inl rfl) pe_int) (pss_cons (ps_for PassesOwn.never rfl (pi_list (pe_fldC rfl T.cl_Tariff T.na_Tariff_bands (pv 0) rfl)) (pg_tup rfl (pgs_cons (pg_name (i := 4) sc_Tariff_cost.nd rfl (Or.inl rfl)) (pgs_cons (pg_name (i := 5) sc_Tariff_cost.nd rfl (Or.inl rfl)) pgs_nil))) (pss_cons (ps_set (i := 6) sc_Tariff_cost.nd rfl (Or.inl rfl) (pe_callB (call_min2 rfl) rfl T.f_min (by decide +kernel) (pa_cons (pv 2) (pa_cons (pv 4) pa_nil)))) (pss_cons (ps_aug (i := 3) sc_Tariff_cost.nd rfl (Or.inl rfl) (pe_op op_mul (pv 6) (pv 5)) ip_add) (pss_one (ps_aug (i := 2) sc_Tariff_cost.nd rfl (Or.inl rfl) (pv 6) ip_sub))))) (pss_one (ps_ret (pe_op op_add (pv 3) (pe_op op_mul (pv 2) (pe_fldC rfl T.cl_Tariff T.na_Tariff_last (pv 0) rfl)))))))), ?_⟩
    have hl := q.len
    have hu := okU_to h1
    have hlp := okP_to h3
    refine ⟨_, rfl, p, dx, _, rfl, hp, rfl, _, rfl, p, dx, r, u, l, span, rfl, hp, hu.1, hu.2, ?_⟩
    refine ⟨_, rfl, p, dx, _, _, rfl, hp, rfl, r, rfl, ⟨_, SqL.of e⟩, for_list (K := K) (a := r) (xs := ts.map V.ref) (fun i σ H' => H' = H ∧ ∃ (v1 v2 v3 : Option V), σ = [some (.ref p), some (.int span), some (.int ((bs.take i).foldl step (unitsI u span, 0)).1), some (.int ((bs.take i).foldl step (unitsI u span, 0)).2), v1, v2, v3]) ⟨rfl, none, none, none, rfl⟩ (fun i σ H' _ q => q.1 ▸ SqL.of e) ?_ ?_⟩
    · rintro i y σ H' hi ⟨rfl, v1, v2, v3, rfl⟩
      obtain ⟨t, rfl, _, hib, ht⟩ := q.at_ i y hi
      obtain ⟨b1, b2⟩ := okD_get h2 hib
      have hb2 := okP_to b2
      have e9 := take_step hib (unitsI u span, 0)
      rw [e9]
      generalize (bs.take i).foldl step (unitsI u span, 0) = st
      generalize bs.getD i (0, 0) = b at ht b1 b2 hb2
      refine ⟨t, _, rfl, SqT.of ht, rfl, _, _, rfl, _, _, rfl, rfl, ?_⟩
      refine ⟨_, rfl, _, rfl, _, _, rfl, ?_⟩
      refine ⟨_, rfl, _, rfl, _, rfl, _, _, rfl, rfl, .inr ⟨by omega, by omega⟩, ?_⟩
      exact ⟨_, _, rfl, rfl, _, rfl, _, rfl, _, _, rfl, rfl, rfl, some (.int b.1), some (.int b.2), some (.int (minI st.1 b.1)), rfl⟩
    · rintro σ H' ⟨rfl, v1, v2, v3, rfl⟩
      rw [List.length_map, hl, List.take_length]
      refine ⟨_, rfl, _, rfl, _, rfl, p, dx, _, _, rfl, hp, rfl, _, _, rfl, rfl, .inr ⟨by omega, by omega⟩, _, _, rfl, rfl, k⟩
def fltS (u : Int) (bs : List Bd) (l : Int) : Str := if okU u = true then (if okB bs = true then (if okP l = true then "" else "last") else "bands") else "unit"
def spTrInit (K : PySem.W.Frag) : Sp := fun vs H Q E => ∃ (p dx a : Addr) (u l : Int) (bs : List Bd), vs = [.ref p, .int u, .ref a, .int l] ∧ H p = some (.ins (He.ga K "Tariff") dx []) ∧ BAt H a bs ∧ bs.length ≤ 40 ∧
  (fltS u bs l = "" → ∀ r H', H' p = some (.ins (He.ga K "Tariff") dx (tfl u r l)) → BAt H' r bs → H r = none → (∀ c o, H c = some o → c ≠ p → H' c = some o) → Q .non H') ∧
  (fltS u bs l ≠ "" → ∀ d H', H' d = some (.xd [("setting", .str (fltS u bs l))]) → Same H H' → E (.ref (He.ga K "ConfigError")) (some d) H')
theorem ok_Tariff___init {P : Program} {w : World} {K : PySem.W.Frag} {mg : Str → Option Value} {base : Heap} {f : Addr} {fd : FuncData} (T : Tx K mg) (x_ConfigError : TKE.ExcMk P w K mg base "ConfigError" (He.ga K "ConfigError") "setting" TKE.isS) (c_is_unit : C8.Cal P w K mg base 1 "_is_unit" spIsU []) (c_is_price : C8.Cal P w K mg base 1 "_is_price" spIsP []) (c_are_bands : C8.Cal P w K mg base 2 "_are_bands" (spAreB K) [])
    (F : FunD K "__init__" "Tariff.__init__" (defArgs s_Tariff___init) (defBody s_Tariff___init) (defScope s_Tariff___init) [] [] f fd) : FnOk P w K mg base (L2.CX P w) 3 f fd ["self", "unit", "bands", "last"] (spTrInit K) := by
  refine F.ok sc_Tariff___init (fun vs H Q E h => ?_) (fun cdv A outer s0 H vs Q E hr h => ?_)
  · obtain ⟨p, dx, a, u, l, bs, rfl, _⟩ := h
    rfl
  · obtain ⟨p, dx, a, u, l, bs, rfl, hp, hB, hn, k1, k2⟩ := h
    refine ⟨_, (C8.pss_cut (ps_if (pt_not (pt_val (pe_c c_is_unit hr (by decide) rfl (pa_cons (pv 1) pa_nil)))) (pss_one (TKE.ps_raiseE x_ConfigError rfl (takes_of rfl rfl rfl rfl) hr (by decide) rfl pe_str)) pss_nil) (C8.pss_cut (ps_if (pt_not (pt_val (pe_c c_are_bands hr (by decide) rfl (pa_cons (pv 2) pa_nil)))) (pss_one (TKE.ps_raiseE x_ConfigError rfl (takes_of rfl rfl rfl rfl) hr (by decide) rfl pe_str)) pss_nil) (C8.pss_cut (ps_if (pt_not (pt_val (pe_c c_is_price hr (by decide) rfl (pa_cons (pv 3) pa_nil)))) (pss_one (TKE.ps_raiseE x_ConfigError rfl (takes_of rfl rfl rfl rfl) hr (by decide) rfl pe_str)) pss_nil) (pss_cons (ps_fldC rfl T.cl_Tariff T.na_Tariff_unit (pv 0) (pv 1) rfl) (pss_cons (ps_fldC rfl T.cl_Tariff T.na_Tariff_bands (pv 0) (pe_lc (own := [("band", 4)]) (g := gName 4) rfl sc_Tariff___init.nd (pi_list (pv 2)) (blkOk_by (own := [("band", 4)]) (N := ["self", "unit", "bands", "last", "band"]) (sc := defScope s_Tariff___init) (by decide +kernel)) (fun _ _ _ _ _ => pg_name (i := 4) sc_Tariff___init.nd rfl (Or.inl rfl)) (fun _ _ _ _ _ => pts_nil) (fun _ _ _ _ _ => (pe_callTy (TKE.tupOfK K rfl) rfl T.f_tuple (by decide +kernel) (pa_cons (pv 4) pa_nil)))) rfl) (pss_one (ps_fldC rfl T.cl_Tariff T.na_Tariff_last (pv 0) (pv 3) rfl))))))), ?_⟩
    refine ⟨fun σ' H' => okU u = true ∧ σ' = [some (.ref p), some (.int u), some (.ref a), some (.int l), none] ∧ H' = H, ?_, ?_⟩
    · refine ⟨_, rfl, u, rfl, _, rfl, ?_⟩
      by_cases c : okU u = true
      · rw [c]
        exact iteF ⟨rfl, rfl, rfl⟩
      · rw [ef c]
        refine iteT ⟨⟨"unit", rfl, by decide⟩, fun d hd => ?_⟩
        have ef1 : fltS u bs l = "unit" := by unfold fltS; rw [if_neg c]
        exact k2 (by rw [ef1]; decide) d _ (by rw [ef1]; exact upd_same) (same_upd hd)
    · rintro σ' H' ⟨cu, rfl, rfl⟩
      refine ⟨fun σ' H2 => okB bs = true ∧ σ' = [some (.ref p), some (.int u), some (.ref a), some (.int l), none] ∧ Same H' H2, ?_, ?_⟩
      · refine ⟨_, rfl, a, bs, rfl, hB, hn, fun H1 s1 => ⟨_, rfl, ?_⟩⟩
        by_cases c : okB bs = true
        · rw [c]
          exact iteF ⟨rfl, rfl, s1⟩
        · rw [ef c]
          refine iteT ⟨⟨"bands", rfl, by decide⟩, fun d hd => ?_⟩
          have ef1 : fltS u bs l = "bands" := by unfold fltS; rw [if_pos cu, if_neg c]
          exact k2 (by rw [ef1]; decide) d _ (by rw [ef1]; exact upd_same) (s1.trans (same_upd hd))
      · rintro σ' H2 ⟨cb, rfl, s2⟩
        refine ⟨fun σ' H3 => okP l = true ∧ σ' = [some (.ref p), some (.int u), some (.ref a), some (.int l), none] ∧ H3 = H2, ?_, ?_⟩
        · refine ⟨_, rfl, l, rfl, _, rfl, ?_⟩
          by_cases c : okP l = true
          · rw [c]
            exact iteF ⟨rfl, rfl, rfl⟩
          · rw [ef c]
            refine iteT ⟨⟨"last", rfl, by decide⟩, fun d hd => ?_⟩
            have ef1 : fltS u bs l = "last" := by unfold fltS; rw [if_pos cu, if_pos cb, if_neg c]
            exact k2 (by rw [ef1]; decide) d _ (by rw [ef1]; exact upd_same) (s2.trans (same_upd hd))
        · rintro σ' H3 ⟨cl, rfl, rfl⟩
          have ef1 : fltS u bs l = "" := by unfold fltS; rw [if_pos cu, if_pos cb, if_pos cl]
          have k := k1 ef1
          clear k1 k2
          have hp3 := s2 _ _ hp
          obtain ⟨ts, e, q⟩ := hB.same s2
          have pa : a ≠ p := ne_of e hp3 (by intro z; cases z)
          refine ⟨_, rfl, _, rfl, p, dx, _, rfl, hp3, sm, ?_⟩
          refine ⟨_, rfl, a, rfl, ⟨_, SqL.of ((upd_ne pa).trans e)⟩, fun D hD => ?_⟩
          have Dp : D ≠ p := fun z => by rw [z, upd_same] at hD; cases hD
          have hD3 : H3 D = none := by rw [upd_ne Dp] at hD; exact hD
          have aD : a ≠ D := ne_of_none e hD3
          have hl := q.len
          have hR : ∀ o, SqL K (upd (upd H3 p (.ins (He.ga K "Tariff") dx (putF "unit" (.int u) []))) D o) a (ts.map V.ref) := fun o => SqL.of ((upd_ne aD).trans ((upd_ne pa).trans e))
          refine lc_pureN walk_list (fun i => V.ref (ts.getD i 0)) (by rw [List.length_map, hl, sizeLine_eq]; omega) (fun _ _ => hR _) (fun i x H1 kk hi y qq => ?_) ?_
          · obtain ⟨rfl, hx⟩ := y
            obtain ⟨t, rfl, ht0, _, ht⟩ := q.at_ i x hx
            refine ⟨rfl, _, rfl, t, _, rfl, .inr ⟨SqT.of ((upd_ne (ne_of_none ht hD3)).trans ((upd_ne (ne_of ht hp3 (by intro z; cases z))).trans ht)), ?_⟩⟩
            have e0 : ts.getD i 0 = t := getD_at 0 ht0
            rw [e0] at qq
            exact qq
          · have e9 : (List.range (ts.map V.ref).length).map (fun i => V.ref (ts.getD i 0)) = ts.map V.ref := by
              rw [List.length_map, range_map_getD ts 0 V.ref]
            rw [e9]
            refine ⟨_, rfl, p, dx, _, rfl, (upd_ne Dp.symm).trans upd_same, sm, ?_⟩
            refine ⟨_, rfl, _, rfl, p, dx, _, rfl, upd_same, sm, ?_⟩
            rw [upd_upd]
            have hH : ∀ c o, H3 c = some o → c ≠ p → (upd (upd (upd H3 p (.ins (He.ga K "Tariff") dx (putF "unit" (.int u) []))) D (.lst (ts.map V.ref))) p (.ins (He.ga K "Tariff") dx (tfl u D l))) c = some o := fun c o ec hc =>
              (upd_ne hc).trans ((upd_ne (ne_of_none ec hD3)).trans ((upd_ne hc).trans ec))
            refine k D _ upd_same ⟨ts, (upd_ne Dp).trans upd_same, q.mono fun x b ex => hH _ _ ex (ne_of ex hp3 (by intro z; cases z))⟩ ?_ fun c o ec hc => hH c o (s2 _ _ ec) hc
            cases eD : H' D with
            | none => rfl
            | some o => rw [s2 _ _ eD] at hD3; cases hD3

end K13
set_option maxHeartbeats 1000000
set_option pp.maxSteps 500
namespace K13
open PySem PySem.Spec PyProof.Rows L2 SX TK NdefX K11 LD
open C8 (pe_c)
/-! ### the ledger -/
def lineS : Rc → Str
  | .op n c a t => Str.empty ++ "open " ++ numS n ++ " " ++ c ++ " " ++ a ++ " " ++ numS t
  | .cl n e k => Str.empty ++ "close " ++ numS n ++ " " ++ numS e ++ " " ++ numS k
def catS (rs : List Rc) : Str := S (cat (rs.map fun r => TL.tl (lineS r)))
theorem catS_snoc (rs : List Rc) (r : Rc) : catS (rs ++ [r]) = catS rs ++ sealT (lineS r) := by
  apply TL.ext_tl
  rw [TL.tl_append, tl_seal]
  show cat ((rs ++ [r]).map _) = cat (rs.map _) ++ _
  unfold cat
  rw [List.map_append, List.map_append, List.flatten_append]
  simp
theorem catS_len : ∀ {rs : List Rc}, (∀ r ∈ rs, (lineS r).length ≤ 60) → (catS rs).length ≤ 72 * rs.length := by
  intro rs h
  have key : ∀ i, i ≤ rs.length → (catS (rs.take i)).length ≤ 72 * i := by
    intro i
    induction i with
    | zero => exact fun _ => Nat.le_of_eq rfl
    | succ i ih =>
      intro hi
      have e : rs[i]? = some rs[i] := List.getElem?_eq_getElem (by omega)
      rw [List.take_add_one, e]
      show (catS (rs.take i ++ [rs[i]])).length ≤ _
      rw [catS_snoc, cat_len]
      have := seal_len (lineS rs[i])
      have := h _ (List.getElem_mem (show i < rs.length by omega))
      have := ih (by omega)
      omega
  have := key rs.length (Nat.le_refl _)
  rw [List.take_length] at this
  exact this
def adr (z : Str) : Prop := (splitB z).isSome = true ∧ 32 ∉ TL.tl z ∧ 10 ∉ TL.tl z
def nOk (i : Int) : Prop := 0 ≤ i ∧ i ≤ 999999999
theorem nOk.ab {i : Int} (h : nOk i) : i.natAbs < 1000000000 := by
  have := h.1
  have := h.2
  omega
def RcOk : Rc → Prop
  | .op n c a t => nOk n ∧ nOk t ∧ adr c ∧ adr a ∧ (lineS (.op n c a t)).length ≤ 60
  | .cl n e k => nOk n ∧ nOk e ∧ nOk k ∧ (lineS (.cl n e k)).length ≤ 60
theorem RcOk.len {r : Rc} (h : RcOk r) : (lineS r).length ≤ 60 := by
  cases r with
  | op n c a t => exact h.2.2.2.2
  | cl n e k => exact h.2.2.2
def lfl (tr j d1 d2 : Addr) : List (Str × V) := [("tariff", .ref tr), ("journal", .ref j), ("_unfinished", .ref d1), ("_finished", .ref d2)]
instance {a b c d : Addr} : SmallF (lfl a b c d) 4 := ⟨Nat.le_refl _⟩
structure LedAt (K : PySem.W.Frag) (H : Hp) (p tr j d1 d2 : Addr) (rs : List Rc) (sy : Int) : Prop where
  o : ∃ dx, H p = some (.ins (He.ga K "Ledger") dx (lfl tr j d1 d2))
  jt : JAt K H j (catS rs) sy
  u : ∃ kvs, H d1 = some (.dK kvs) ∧ DAt H kvs ((st rs).un.map Un.kv)
  f : ∃ kvs, H d2 = some (.dK kvs) ∧ DAt H kvs ((st rs).fi.map Bi.kv)
  ne : d1 ≠ d2
theorem LedAt.via {K : PySem.W.Frag} {H H' : Hp} {p tr j d1 d2 : Addr} {rs : List Rc} {sy : Int} (h : LedAt K H p tr j d1 d2 rs sy) (s : ∀ x o, H x = some o → (x = p ∨ x = j ∨ x = d1 ∨ x = d2 ∨ ∃ b, o = .tup b) → H' x = some o) : LedAt K H' p tr j d1 d2 rs sy := by
  obtain ⟨⟨dx, o⟩, ⟨dj, jt⟩, ⟨k1, u1, u2⟩, ⟨k2, f1, f2⟩, ne⟩ := h
  have t : ∀ x b, H x = some (.tup b) → H' x = some (.tup b) := fun x b e => s x _ e (.inr (.inr (.inr (.inr ⟨b, rfl⟩))))
  exact ⟨⟨dx, s _ _ o (.inl rfl)⟩, ⟨dj, s _ _ jt (.inr (.inl rfl))⟩, ⟨k1, s _ _ u1 (.inr (.inr (.inl rfl))), u2.mono t⟩, ⟨k2, s _ _ f1 (.inr (.inr (.inr (.inl rfl)))), f2.mono t⟩, ne⟩
theorem LedAt.same {K : PySem.W.Frag} {H H' : Hp} {p tr j d1 d2 : Addr} {rs : List Rc} {sy : Int} (h : LedAt K H p tr j d1 d2 rs sy) (s : Same H H') : LedAt K H' p tr j d1 d2 rs sy := h.via fun x o e _ => s x o e
/-- all but a journal and two dicts stays -/
def FrL (H H' : Hp) (j d1 d2 : Addr) : Prop := ∀ b o, H b = some o → b ≠ j → b ≠ d1 → b ≠ d2 → H' b = some o
theorem FrL.trans {H H1 H2 : Hp} {j d1 d2 : Addr} (a : FrL H H1 j d1 d2) (b : FrL H1 H2 j d1 d2) : FrL H H2 j d1 d2 := fun x o e h1 h2 h3 => b x o (a x o e h1 h2 h3) h1 h2 h3
theorem FrL.of_same {H H1 : Hp} {j d1 d2 : Addr} (a : Same H H1) : FrL H H1 j d1 d2 := fun x o e _ _ _ => a x o e
def spLdInit (K : PySem.W.Frag) : Sp := fun vs H Q _ => ∃ (p dx tr : Addr), vs = [.ref p, .ref tr] ∧ H p = some (.ins (He.ga K "Ledger") dx []) ∧ ∀ j d1 d2 H', H j = none → H d1 = none → H d2 = none → LedAt K H' p tr j d1 d2 [] 0 → (∀ b o, H b = some o → b ≠ p → H' b = some o) → Q .non H'
theorem ok_Ledger___init {P : Program} {w : World} {K : PySem.W.Frag} {mg : Str → Option Value} {base : Heap} {f : Addr} {fd : FuncData} (T : Tx K mg) (c_mk_Journal : C8.Mak P w K mg base 1 "Journal" (He.ga K "Journal") (spJInit K) [])
    (F : FunD K "__init__" "Ledger.__init__" (defArgs s_Ledger___init) (defBody s_Ledger___init) (defScope s_Ledger___init) [] [] f fd) : FnOk P w K mg base CX0 3 f fd ["self", "tariff"] (spLdInit K) := by
  refine F.ok sc_Ledger___init (fun vs H Q E h => ?_) (fun cdv A outer s0 H vs Q E hr h => ?_)
  · obtain ⟨p, dx, tr, rfl, _⟩ := h
    rfl
  · obtain ⟨p, dx, tr, rfl, hp, k⟩ := h
    refine ⟨_, PSs.nox (pss_cons (ps_fldC rfl T.cl_Ledger T.na_Ledger_tariff (pv 0) (pv 1) rfl) (pss_cons (ps_fldC rfl T.cl_Ledger T.na_Ledger_journal (pv 0) (pe_mk0 c_mk_Journal hr (by decide) rfl) rfl) (pss_cons (ps_fldC rfl T.cl_Ledger T.na_Ledger__unfinished (pv 0) pe_dnewK rfl) (pss_one (ps_fldC rfl T.cl_Ledger T.na_Ledger__finished (pv 0) pe_dnewK rfl))))), ?_⟩
    refine ⟨_, rfl, _, rfl, p, dx, _, rfl, hp, sm, ?_⟩
    refine fun j dj hj hdj ne => ⟨j, dj, rfl, upd_same, ⟨rfl, ?_⟩⟩
    rw [upd_upd]
    have pj : j ≠ p := fun z => by rw [z, upd_same] at hj; cases hj
    have pdj : dj ≠ p := fun z => by rw [z, upd_same] at hdj; cases hdj
    have hj0 : H j = none := by rw [upd_ne pj] at hj; exact hj
    refine ⟨_, rfl, p, dx, _, rfl, (upd_ne pj.symm).trans ((upd_ne pdj.symm).trans upd_same), sm, ?_⟩
    have fr : ∀ b o, H b = some o → b ≠ p → (upd (upd (upd (upd H p (.ins (He.ga K "Ledger") dx [("tariff", .ref tr)])) dj (.own j)) j (.ins (He.ga K "Journal") dj (jfl "" 0))) p (.ins (He.ga K "Ledger") dx [("tariff", .ref tr), ("journal", .ref j)])) b = some o := fun b o e hb => by
      have e1 : H dj = none := by rw [upd_ne pdj] at hdj; exact hdj
      exact (upd_ne hb).trans ((upd_ne (ne_of_none e hj0)).trans ((upd_ne (ne_of_none e e1)).trans ((upd_ne hb).trans e)))
    have hpj : (upd (upd (upd (upd H p (.ins (He.ga K "Ledger") dx [("tariff", .ref tr)])) dj (.own j)) j (.ins (He.ga K "Journal") dj (jfl "" 0))) p (.ins (He.ga K "Ledger") dx [("tariff", .ref tr), ("journal", .ref j)])) j = some (.ins (He.ga K "Journal") dj (jfl "" 0)) := (upd_ne pj).trans upd_same
    have hpp : (upd (upd (upd (upd H p (.ins (He.ga K "Ledger") dx [("tariff", .ref tr)])) dj (.own j)) j (.ins (He.ga K "Journal") dj (jfl "" 0))) p (.ins (He.ga K "Ledger") dx [("tariff", .ref tr), ("journal", .ref j)])) p = some (.ins (He.ga K "Ledger") dx [("tariff", .ref tr), ("journal", .ref j)]) := upd_same
    intro d1 hd1
    refine ⟨_, rfl, p, dx, _, rfl, (upd_ne (ne_of_none hpp hd1)).trans hpp, sm, fun d2 hd2 => ?_⟩
    have n1 : d1 ≠ p := (ne_of_none hpp hd1).symm
    have n2 : d1 ≠ j := (ne_of_none hpj hd1).symm
    have m1 : d2 ≠ p := fun z => by rw [z, upd_same] at hd2; cases hd2
    rw [upd_ne m1] at hd2
    have m2 : d2 ≠ d1 := fun z => by rw [z, upd_same] at hd2; cases hd2
    rw [upd_ne m2] at hd2
    have m3 : d2 ≠ j := (ne_of_none hpj hd2).symm
    refine ⟨_, rfl, p, dx, _, rfl, (upd_ne m1.symm).trans upd_same, sm, ?_⟩
    have z1 : H d1 = none := by
      cases eq : H d1 with
      | none => rfl
      | some o => exact absurd ((fr _ _ eq n1).symm.trans hd1) (by intro z; cases z)
    have z2 : H d2 = none := by
      cases eq : H d2 with
      | none => rfl
      | some o => exact absurd ((fr _ _ eq m1).symm.trans hd2) (by intro z; cases z)
    refine k j d1 d2 _ hj0 z1 z2 ⟨⟨dx, upd_same⟩, ⟨dj, (upd_ne pj).trans ((upd_ne m3.symm).trans ((upd_ne pj).trans ((upd_ne n2.symm).trans hpj)))⟩, ⟨[], (upd_ne n1).trans ((upd_ne m2.symm).trans ((upd_ne n1).trans upd_same)), trivial⟩, ⟨[], (upd_ne m1).trans upd_same, trivial⟩, m2.symm⟩ fun b o e hb => ?_
    exact (upd_ne hb).trans ((upd_ne (ne_of_none e z2)).trans ((upd_ne hb).trans ((upd_ne (ne_of_none e z1)).trans (fr _ _ e hb))))

end K13
set_option maxHeartbeats 1000000
set_option pp.maxSteps 500
namespace K13
open PySem PySem.Spec PyProof.Rows L2 SX TK NdefX K11 LD
open C8 (pe_c)
theorem k_op : ("open " : Str).length = 5 := by decide +kernel
theorem k_cl : ("close " : Str).length = 6 := by decide +kernel
theorem un_kv_any (l : List Un) (n : Int) : ((l.map Un.kv).any fun x => decide (x.1 = n)) = l.any fun u => decide (u.n = n) := by
  rw [List.any_map]
  rfl
theorem fi_kv_any (l : List Bi) (n : Int) : ((l.map Bi.kv).any fun x => decide (x.1 = n)) = l.any fun u => decide (u.n = n) := by
  rw [List.any_map]
  rfl
theorem un_kv_filter (l : List Un) (n : Int) : ((l.map Un.kv).filter fun x => decide (x.1 ≠ n)) = (l.filter fun u => decide (u.n ≠ n)).map Un.kv := by
  rw [List.filter_map]
  rfl
theorem un_kv_find (l : List Un) (n : Int) : ((l.map Un.kv).find? fun x => decide (x.1 = n)) = (l.find? fun u => decide (u.n = n)).map Un.kv := by
  rw [List.find?_map]
  rfl
theorem fi_kv_find (l : List Bi) (n : Int) : ((l.map Bi.kv).find? fun x => decide (x.1 = n)) = (l.find? fun u => decide (u.n = n)).map Bi.kv := by
  rw [List.find?_map]
  rfl
def spLBegin (K : PySem.W.Frag) : Sp := fun vs H Q _ => ∃ (p tr j d1 d2 : Addr) (rs : List Rc) (sy n t : Int) (c a : Str), vs = [.ref p, .int n, .str c, .str a, .int t] ∧ LedAt K H p tr j d1 d2 rs sy ∧ nOk n ∧ nOk t ∧ (lineS (.op n c a t)).length ≤ 60 ∧ (∀ r ∈ rs, (lineS r).length ≤ 60) ∧ rs.length ≤ 110 ∧ (st rs).legal (.op n c a t) = true ∧
  ∀ H', LedAt K H' p tr j d1 d2 (rs ++ [.op n c a t]) ((catS (rs ++ [.op n c a t])).length : Nat) → FrL H H' j d1 d2 → Q .non H'
theorem ok_Ledger_begin {P : Program} {w : World} {K : PySem.W.Frag} {mg : Str → Option Value} {base : Heap} {f : Addr} {fd : FuncData} (T : Tx K mg) (c_Journal_append : C8.Met P w K mg base 3 (He.ga K "Journal") "append" (spJAppend K) []) (c_Journal_sync : C8.Met P w K mg base 1 (He.ga K "Journal") "sync" (spJSync K) [])
    (F : FunD K "begin" "Ledger.begin" (defArgs s_Ledger_begin) (defBody s_Ledger_begin) (defScope s_Ledger_begin) [] [] f fd) : FnOk P w K mg base CX0 4 f fd ["self", "number", "caller", "callee", "now"] (spLBegin K) := by
  refine F.ok sc_Ledger_begin (fun vs H Q E h => ?_) (fun cdv A outer s0 H vs Q E hr h => ?_)
  · obtain ⟨p, tr, j, d1, d2, rs, sy, n, t, c, a, rfl, _⟩ := h
    rfl
  · obtain ⟨p, tr, j, d1, d2, rs, sy, n, t, c, a, rfl, hL, hn, ht, hl, hls, hlr, hg, k⟩ := h
    refine ⟨_, PSs.nox (pss_cons (ps_dput (hu_of hr) (pe_fldC rfl T.cl_Ledger T.na_Ledger__unfinished (pv 0) rfl) (pv 1) (pe_tup (pa_cons (pv 2) (pa_cons (pv 3) (pa_cons (pv 4) pa_nil)))) rfl) (pss_cons (ps_expr (C8.pe_mt c_Journal_append hr (by decide) (pe_fldC rfl T.cl_Ledger T.na_Ledger_journal (pv 0) rfl) (pa_cons (pe_joined (PJ.cons pe_str (PJ.cons (pe_fmt (pv 1)) (PJ.cons pe_str (PJ.cons (pe_fmt (pv 2)) (PJ.cons pe_str (PJ.cons (pe_fmt (pv 3)) (PJ.cons pe_str (PJ.cons (pe_fmt (pv 4)) PJ.nil))))))))) pa_nil))) (pss_one (ps_expr (C8.pe_mt0 c_Journal_sync hr (by decide) (pe_fldC rfl T.cl_Ledger T.na_Ledger_journal (pv 0) rfl)))))), ?_⟩
    obtain ⟨⟨dx, hp⟩, ⟨dj, hj⟩, ⟨k1, u1, u2⟩, ⟨k2, f1, f2⟩, ne⟩ := hL
    have hcl := catS_len hls
    have lk1 := u2.len
    have hkn : ((st rs).un.any fun u => decide (u.n = n)) = false ∧ ((st rs).fi.any fun b => decide (b.n = n)) = false := by
      have : (!((st rs).opens n || (st rs).fi.any fun b => decide (b.n = n))) = true := hg
      rw [Bool.not_eq_true', Bool.or_eq_false_iff] at this
      exact this
    have hu9 : (st rs).un.length ≤ rs.length := (un_len rs).1
    refine ⟨_, rfl, _, rfl, _, rfl, by show 3 ≤ sizeLine; decide, fun x hx => ?_⟩
    have sx := same_upd (o := .tup [.str c, .str a, .int t]) hx
    have ex : (upd H x (.tup [.str c, .str a, .int t])) x = some (.tup [.str c, .str a, .int t]) := upd_same
    refine ⟨_, rfl, p, dx, _, _, rfl, sx _ _ hp, rfl, _, rfl, d1, _, rfl, DPut.k (k := Sum.inl n) (sx _ _ u1) (by rw [lk1, List.length_map, sizeLine_eq]; omega), ?_⟩
    have tk : ∀ {y b}, H y = some (.tup b) → (upd (upd H x (.tup [.str c, .str a, .int t])) d1 (.dK (putK k1 (Sum.inl n) (.ref x)))) y = some (.tup b) := fun z => (upd_ne (ne_of (sx _ _ z) (sx _ _ u1) (by intro z; cases z))).trans (sx _ _ z)
    have nk : ∀ {y C d fs}, H y = some (.ins C d fs) → (upd (upd H x (.tup [.str c, .str a, .int t])) d1 (.dK (putK k1 (Sum.inl n) (.ref x)))) y = some (.ins C d fs) := fun z => (upd_ne (ne_of (sx _ _ z) (sx _ _ u1) (by intro z; cases z))).trans (sx _ _ z)
    have ex2 : (upd (upd H x (.tup [.str c, .str a, .int t])) d1 (.dK (putK k1 (Sum.inl n) (.ref x)))) x = some (.tup [.str c, .str a, .int t]) := (upd_ne (ne_of ex (sx _ _ u1) (by intro z; cases z))).trans ex
    have eu : (upd (upd H x (.tup [.str c, .str a, .int t])) d1 (.dK (putK k1 (Sum.inl n) (.ref x)))) d1 = some (.dK (putK k1 (Sum.inl n) (.ref x))) := upd_same
    have ef : (upd (upd H x (.tup [.str c, .str a, .int t])) d1 (.dK (putK k1 (Sum.inl n) (.ref x)))) d2 = some (.dK k2) := (upd_ne ne.symm).trans (sx _ _ f1)
    have fr : FrL H (upd (upd H x (.tup [.str c, .str a, .int t])) d1 (.dK (putK k1 (Sum.inl n) (.ref x)))) j d1 d2 := fun b o e b1 b2 b3 => (upd_ne b2).trans (sx _ _ e)
    have u2b : DAt (upd (upd H x (.tup [.str c, .str a, .int t])) d1 (.dK (putK k1 (Sum.inl n) (.ref x)))) (putK k1 (Sum.inl n) (.ref x)) ((st rs).un.map Un.kv ++ [(n, [.str c, .str a, .int t])]) := (u2.mono fun y b z => tk z).put (x := (n, [.str c, .str a, .int t])) ex2 (by rw [un_kv_any]; exact hkn.1)
    have f2b := f2.mono fun y b z => tk z
    have hp2 := nk hp
    have hj2 := nk hj
    clear tk nk ex2 sx ex hx u1 f1
    generalize upd (upd H x (.tup [.str c, .str a, .int t])) d1 (.dK (putK k1 (Sum.inl n) (.ref x))) = H1 at *
    have hl2 := hl
    unfold lineS at hl2
    simp only [cat_len] at hl2
    refine ⟨_, rfl, p, dx, _, _, rfl, hp2, rfl, j, dj, _, rfl, hj2, rfl, ?_⟩
    refine ⟨_, rfl, szl (by simp only [cat_len]; omega), _, rfl, .inr ⟨_, rfl, numS_log hn.ab, _, rfl, szl (by simp only [cat_len]; unfold numS at hl2; omega), _, rfl, szl (by simp only [cat_len]; unfold numS at hl2; omega), _, rfl, .inl ⟨_, rfl, szl (by omega), _, rfl, szl (by simp only [cat_len]; unfold numS at hl2; omega), _, rfl, szl (by simp only [cat_len]; unfold numS at hl2; omega), _, rfl, .inl ⟨_, rfl, szl (by omega), _, rfl, szl (by simp only [cat_len]; unfold numS at hl2; omega), _, rfl, szl (by simp only [cat_len]; unfold numS at hl2; omega), _, rfl, .inr ⟨_, rfl, numS_log ht.ab, _, rfl, szl (by simp only [cat_len]; unfold numS at hl2; omega), ?_⟩⟩⟩⟩⟩
    refine ⟨j, catS rs, lineS (.op n c a t), sy, rfl, ⟨dj, hj2⟩, by omega, by omega, fun H2 hj3 fr2 => ?_⟩
    have hp3 := fr2 _ _ hp2 (by rintro rfl; rw [hj2] at hp2; injection hp2 with z; injection z with _ _ z; cases z)
    obtain ⟨dj3, hj3⟩ := hj3
    refine ⟨_, rfl, p, dx, _, _, rfl, hp3, rfl, j, dj3, _, rfl, hj3, rfl, j, _, sy, rfl, ⟨dj3, hj3⟩, ?_, fun H3 hj4 fr3 => ?_⟩
    · rw [← catS_snoc]
      have := catS_len (rs := rs ++ [.op n c a t]) (by
        intro r hr
        rcases List.mem_append.mp hr with z | z
        · exact hls r z
        · rw [List.mem_singleton.mp z]; exact hl)
      rw [List.length_append] at this
      have e1 : [Rc.op n c a t].length = 1 := rfl
      omega
    · rw [← catS_snoc] at hj4
      have keep : ∀ {y o}, H1 y = some o → y ≠ j → H3 y = some o := fun z q => fr3 _ _ (fr2 _ _ z q) q
      have t3 : ∀ y b, H1 y = some (.tup b) → H3 y = some (.tup b) := fun y b z => keep z (ne_of z hj2 (by intro z; cases z))
      refine k H3 ⟨⟨dx, keep hp2 (by rintro rfl; rw [hj2] at hp2; injection hp2 with z; injection z with _ _ z; cases z)⟩, hj4, ⟨_, keep eu (ne_of eu hj2 (by intro z; cases z)), ?_⟩, ⟨_, keep ef (ne_of ef hj2 (by intro z; cases z)), ?_⟩, ne⟩ fun b o e b1 b2 b3 => keep (fr b o e b1 b2 b3) b1
      · rw [st_snoc]
        show DAt H3 _ (((st rs).un ++ [(⟨n, c, a, t⟩ : Un)]).map Un.kv)
        rw [List.map_append]
        exact u2b.mono t3
      · rw [st_snoc]
        exact f2b.mono t3

end K13
set_option maxHeartbeats 1000000
set_option pp.maxSteps 500
namespace K13
open PySem PySem.Spec PyProof.Rows L2 SX TK NdefX K11 LD
open C8 (pe_c)
theorem find_n {l : List Un} {n : Int} {u : Un} (h : l.find? (fun x => decide (x.n = n)) = some u) : u.n = n ∧ u ∈ l := ⟨by simpa using List.find?_some (p := fun (x : Un) => decide (x.n = n)) h, List.mem_of_find?_eq_some h⟩
theorem jt_ne {K : PySem.W.Frag} {H : Hp} {p j dx dj : Addr} {a b c d : Addr} {t : Str} {n : Int} (hp : H p = some (.ins (He.ga K "Ledger") dx (lfl a b c d))) (hj : H j = some (.ins (He.ga K "Journal") dj (jfl t n))) : p ≠ j := by
  rintro rfl
  rw [hj] at hp
  injection hp with z
  injection z with _ _ z
  cases z
def spLClose (K : PySem.W.Frag) : Sp := fun vs H Q _ => ∃ (p tr j d1 d2 : Addr) (rs : List Rc) (sy n e k : Int) (u : Un), vs = [.ref p, .int n, .int e, .int k] ∧ LedAt K H p tr j d1 d2 rs sy ∧ nOk n ∧ nOk e ∧ nOk k ∧ (lineS (.cl n e k)).length ≤ 60 ∧ (∀ r ∈ rs, (lineS r).length ≤ 60) ∧ rs.length ≤ 110 ∧ (st rs).un.find? (fun x => decide (x.n = n)) = some u ∧ Disj (st rs) ∧
  ∀ H', LedAt K H' p tr j d1 d2 (rs ++ [.cl n e k]) sy → FrL H H' j d1 d2 → Q .non H'
theorem ok_Ledger_close {P : Program} {w : World} {K : PySem.W.Frag} {mg : Str → Option Value} {base : Heap} {f : Addr} {fd : FuncData} (T : Tx K mg) (c_Journal_append : C8.Met P w K mg base 3 (He.ga K "Journal") "append" (spJAppend K) [])
    (F : FunD K "close" "Ledger.close" (defArgs s_Ledger_close) (defBody s_Ledger_close) (defScope s_Ledger_close) [] [] f fd) : FnOk P w K mg base CX0 4 f fd ["self", "number", "now", "cost"] (spLClose K) := by
  refine F.ok sc_Ledger_close (fun vs H Q E h => ?_) (fun cdv A outer s0 H vs Q E hr h => ?_)
  · obtain ⟨p, tr, j, d1, d2, rs, sy, n, e, k, u, rfl, _⟩ := h
    rfl
  · obtain ⟨p, tr, j, d1, d2, rs, sy, n, e, k, u, rfl, hL, hn, he, hk9, hl, hls, hlr, hf, hdj, k0⟩ := h
    refine ⟨_, PSs.nox (pss_cons (ps_asg (pe_dpop1 (pe_fldC rfl T.cl_Ledger T.na_Ledger__unfinished (pv 0) rfl) (pv 1) ⟨rfl, by rfl, rfl, rfl⟩) (pg_tup rfl (pgs_cons (pg_name (i := 4) sc_Ledger_close.nd rfl (Or.inl rfl)) (pgs_cons (pg_name (i := 5) sc_Ledger_close.nd rfl (Or.inl rfl)) (pgs_cons (pg_name (i := 6) sc_Ledger_close.nd rfl (Or.inl rfl)) pgs_nil))))) (pss_cons (ps_dput (hu_of hr) (pe_fldC rfl T.cl_Ledger T.na_Ledger__finished (pv 0) rfl) (pv 1) (pe_tup (pa_cons (pv 1) (pa_cons (pv 4) (pa_cons (pv 5) (pa_cons (pv 6) (pa_cons (pv 2) (pa_cons (pv 3) pa_nil))))))) rfl) (pss_one (ps_expr (C8.pe_mt c_Journal_append hr (by decide) (pe_fldC rfl T.cl_Ledger T.na_Ledger_journal (pv 0) rfl) (pa_cons (pe_joined (PJ.cons pe_str (PJ.cons (pe_fmt (pv 1)) (PJ.cons pe_str (PJ.cons (pe_fmt (pv 2)) (PJ.cons pe_str (PJ.cons (pe_fmt (pv 3)) PJ.nil))))))) pa_nil)))))), ?_⟩
    obtain ⟨⟨dx, hp⟩, ⟨dj, hj⟩, ⟨k1, u1, u2⟩, ⟨k2, f1, f2⟩, ne⟩ := hL
    have hcl := catS_len hls
    have lk2 := f2.len
    have hu9 := un_len rs
    obtain ⟨en, hmem⟩ := find_n hf
    obtain ⟨t, hv, ht⟩ : ∃ t, valV k1 (Sum.inl n) = some (.ref t) ∧ H t = some (.tup [.str u.c, .str u.a, .int u.t]) := by
      rcases u2.val n with ⟨a1, _⟩ | ⟨x, t, a1, a2, a3⟩
      · rw [un_kv_find, hf] at a1; cases a1
      · rw [un_kv_find, hf] at a1
        obtain rfl : Un.kv u = x := Option.some.inj a1
        exact ⟨t, a2, a3⟩
    refine ⟨_, rfl, p, dx, _, _, rfl, hp, rfl, d1, rfl, .inl ⟨_, .inl u1⟩, _, rfl, k1, Sum.inl n, .ref t, u1, rfl, hv, ?_⟩
    have tk : ∀ {y b}, H y = some (.tup b) → (upd H d1 (.dK (dropK k1 (Sum.inl n)))) y = some (.tup b) := fun z => (upd_ne (ne_of z u1 (by intro z; cases z))).trans z
    have nk : ∀ {y C d fs}, H y = some (.ins C d fs) → (upd H d1 (.dK (dropK k1 (Sum.inl n)))) y = some (.ins C d fs) := fun z => (upd_ne (ne_of z u1 (by intro z; cases z))).trans z
    have eu : (upd H d1 (.dK (dropK k1 (Sum.inl n)))) d1 = some (.dK (dropK k1 (Sum.inl n))) := upd_same
    have ef : (upd H d1 (.dK (dropK k1 (Sum.inl n)))) d2 = some (.dK k2) := (upd_ne ne.symm).trans f1
    have u2b : DAt (upd H d1 (.dK (dropK k1 (Sum.inl n)))) (dropK k1 (Sum.inl n)) (((st rs).un.filter fun x => decide (x.n ≠ n)).map Un.kv) := by
      rw [← un_kv_filter]
      exact (u2.drop n).mono fun y b z => tk z
    have f2b := f2.mono fun y b z => tk z
    have hp2 := nk hp
    have hj2 := nk hj
    have ht2 := tk ht
    have fr1 : FrL H (upd H d1 (.dK (dropK k1 (Sum.inl n)))) j d1 d2 := fun b o e b1 b2 b3 => (upd_ne b2).trans e
    clear tk nk u1 u2 f1 f2 hv
    refine ⟨t, _, rfl, SqT.of ht2, rfl, _, _, rfl, _, _, rfl, _, _, rfl, rfl, ?_⟩
    generalize upd H d1 (.dK (dropK k1 (Sum.inl n))) = H1 at *
    refine ⟨_, rfl, _, rfl, _, rfl, _, rfl, _, rfl, _, rfl, by show 6 ≤ sizeLine; decide, fun x hx => ?_⟩
    have sx := same_upd (o := .tup [.int n, .str u.c, .str u.a, .int u.t, .int e, .int k]) hx
    have ex : (upd H1 x (.tup [.int n, .str u.c, .str u.a, .int u.t, .int e, .int k])) x = some (.tup [.int n, .str u.c, .str u.a, .int u.t, .int e, .int k]) := upd_same
    refine ⟨_, rfl, p, dx, _, _, rfl, sx _ _ hp2, rfl, _, rfl, d2, _, rfl, DPut.k (k := Sum.inl n) (sx _ _ ef) (by rw [lk2, List.length_map, sizeLine_eq]; omega), ?_⟩
    have tk : ∀ {y b}, H1 y = some (.tup b) → (upd (upd H1 x (.tup [.int n, .str u.c, .str u.a, .int u.t, .int e, .int k])) d2 (.dK (putK k2 (Sum.inl n) (.ref x)))) y = some (.tup b) := fun z => (upd_ne (ne_of (sx _ _ z) (sx _ _ ef) (by intro z; cases z))).trans (sx _ _ z)
    have nk : ∀ {y C d fs}, H1 y = some (.ins C d fs) → (upd (upd H1 x (.tup [.int n, .str u.c, .str u.a, .int u.t, .int e, .int k])) d2 (.dK (putK k2 (Sum.inl n) (.ref x)))) y = some (.ins C d fs) := fun z => (upd_ne (ne_of (sx _ _ z) (sx _ _ ef) (by intro z; cases z))).trans (sx _ _ z)
    have ex2 : (upd (upd H1 x (.tup [.int n, .str u.c, .str u.a, .int u.t, .int e, .int k])) d2 (.dK (putK k2 (Sum.inl n) (.ref x)))) x = some (.tup [.int n, .str u.c, .str u.a, .int u.t, .int e, .int k]) := (upd_ne (ne_of ex (sx _ _ ef) (by intro z; cases z))).trans ex
    have eu2 : (upd (upd H1 x (.tup [.int n, .str u.c, .str u.a, .int u.t, .int e, .int k])) d2 (.dK (putK k2 (Sum.inl n) (.ref x)))) d1 = some (.dK (dropK k1 (Sum.inl n))) := (upd_ne ne).trans (sx _ _ eu)
    have ef2 : (upd (upd H1 x (.tup [.int n, .str u.c, .str u.a, .int u.t, .int e, .int k])) d2 (.dK (putK k2 (Sum.inl n) (.ref x)))) d2 = some (.dK (putK k2 (Sum.inl n) (.ref x))) := upd_same
    have fr2 : FrL H (upd (upd H1 x (.tup [.int n, .str u.c, .str u.a, .int u.t, .int e, .int k])) d2 (.dK (putK k2 (Sum.inl n) (.ref x)))) j d1 d2 := fun b o e b1 b2 b3 => (upd_ne b3).trans (sx _ _ (fr1 b o e b1 b2 b3))
    have hno : ((st rs).fi.any fun b => decide (b.n = n)) = false := by
      rw [List.any_eq_false]
      intro b hb
      have := hdj u hmem b hb
      rw [en] at this
      simp [Ne.symm this]
    have f3b : DAt (upd (upd H1 x (.tup [.int n, .str u.c, .str u.a, .int u.t, .int e, .int k])) d2 (.dK (putK k2 (Sum.inl n) (.ref x)))) (putK k2 (Sum.inl n) (.ref x)) ((st rs).fi.map Bi.kv ++ [(n, [.int n, .str u.c, .str u.a, .int u.t, .int e, .int k])]) := (f2b.mono fun y b z => tk z).put (x := (n, [.int n, .str u.c, .str u.a, .int u.t, .int e, .int k])) ex2 (by rw [fi_kv_any]; exact hno)
    have u3b := u2b.mono fun y b z => tk z
    have hp3 := nk hp2
    have hj3 := nk hj2
    clear tk nk ex2 sx ex hx eu ef u2b f2b hp2 hj2
    generalize upd (upd H1 x (.tup [.int n, .str u.c, .str u.a, .int u.t, .int e, .int k])) d2 (.dK (putK k2 (Sum.inl n) (.ref x))) = H2 at *
    have hl2 := hl
    unfold lineS at hl2
    simp only [cat_len] at hl2
    refine ⟨_, rfl, p, dx, _, _, rfl, hp3, rfl, j, dj, _, rfl, hj3, rfl, ?_⟩
    refine ⟨_, rfl, szl (by simp only [cat_len]; omega), _, rfl, .inr ⟨_, rfl, numS_log hn.ab, _, rfl, szl (by simp only [cat_len]; unfold numS at hl2; omega), _, rfl, szl (by simp only [cat_len]; unfold numS at hl2; omega), _, rfl, .inr ⟨_, rfl, numS_log he.ab, _, rfl, szl (by simp only [cat_len]; unfold numS at hl2; omega), _, rfl, szl (by simp only [cat_len]; unfold numS at hl2; omega), _, rfl, .inr ⟨_, rfl, numS_log hk9.ab, _, rfl, szl (by simp only [cat_len]; unfold numS at hl2; omega), ?_⟩⟩⟩⟩
    refine ⟨j, catS rs, lineS (.cl n e k), sy, rfl, ⟨dj, hj3⟩, by omega, by omega, fun H3 hj4 fr3 => ?_⟩
    rw [← catS_snoc] at hj4
    have est : st (rs ++ [.cl n e k]) = ⟨(st rs).un.filter (fun x => decide (x.n ≠ n)), (st rs).fi ++ [⟨n, u.c, u.a, u.t, e, k⟩]⟩ := by
      rw [st_snoc, step_cl, hf]
    refine k0 H3 ⟨⟨dx, fr3 _ _ hp3 (jt_ne hp3 hj3)⟩, hj4, ⟨_, fr3 _ _ eu2 (ne_of eu2 hj3 (by intro z; cases z)), ?_⟩, ⟨_, fr3 _ _ ef2 (ne_of ef2 hj3 (by intro z; cases z)), ?_⟩, ne⟩ fun b o e b1 b2 b3 => fr3 _ _ (fr2 b o e b1 b2 b3) b1
    · rw [est]
      exact u3b.mono fun y b z => fr3 _ _ z (ne_of z hj3 (by intro z; cases z))
    · rw [est]
      show DAt H3 _ (((st rs).fi ++ [(⟨n, u.c, u.a, u.t, e, k⟩ : Bi)]).map Bi.kv)
      rw [List.map_append]
      exact f3b.mono fun y b z => fr3 _ _ z (ne_of z hj3 (by intro z; cases z))
def spLOpen (K : PySem.W.Frag) : Sp := fun vs H Q _ => ∃ (p tr j d1 d2 : Addr) (rs : List Rc) (sy n : Int), vs = [.ref p, .int n] ∧ LedAt K H p tr j d1 d2 rs sy ∧ Q (.bl ((st rs).opens n)) H
theorem ok_Ledger_is_open {P : Program} {w : World} {K : PySem.W.Frag} {mg : Str → Option Value} {base : Heap} {f : Addr} {fd : FuncData} (T : Tx K mg) 
    (F : FunD K "is_open" "Ledger.is_open" (defArgs s_Ledger_is_open) (defBody s_Ledger_is_open) (defScope s_Ledger_is_open) [] [] f fd) : FnOk P w K mg base CX0 1 f fd ["self", "number"] (spLOpen K) := by
  refine F.ok sc_Ledger_is_open (fun vs H Q E h => ?_) (fun cdv A outer s0 H vs Q E hr h => ?_)
  · obtain ⟨p, tr, j, d1, d2, rs, sy, n, rfl, _⟩ := h
    rfl
  · obtain ⟨p, tr, j, d1, d2, rs, sy, n, rfl, hL, k⟩ := h
    refine ⟨_, PSs.nox (pss_one (ps_ret (pe_cmp (pc_din (hu_of hr) (pv 1) (pe_fldC rfl T.cl_Ledger T.na_Ledger__unfinished (pv 0) rfl)) rfl))), ?_⟩
    obtain ⟨⟨dx, hp⟩, _, ⟨k1, u1, u2⟩, _, _⟩ := hL
    refine ⟨_, rfl, _, rfl, p, dx, _, _, rfl, hp, rfl, d1, _, rfl, DGet.k (k := Sum.inl n) u1, ?_⟩
    rw [u2.some_ n, un_kv_any]
    exact k
def spLKnown (K : PySem.W.Frag) : Sp := fun vs H Q _ => ∃ (p tr j d1 d2 : Addr) (rs : List Rc) (sy n : Int), vs = [.ref p, .int n] ∧ LedAt K H p tr j d1 d2 rs sy ∧ Q (.bl ((st rs).knows n)) H
theorem ok_Ledger_is_known {P : Program} {w : World} {K : PySem.W.Frag} {mg : Str → Option Value} {base : Heap} {f : Addr} {fd : FuncData} (T : Tx K mg) 
    (F : FunD K "is_known" "Ledger.is_known" (defArgs s_Ledger_is_known) (defBody s_Ledger_is_known) (defScope s_Ledger_is_known) [] [] f fd) : FnOk P w K mg base CX0 1 f fd ["self", "number"] (spLKnown K) := by
  refine F.ok sc_Ledger_is_known (fun vs H Q E h => ?_) (fun cdv A outer s0 H vs Q E hr h => ?_)
  · obtain ⟨p, tr, j, d1, d2, rs, sy, n, rfl, _⟩ := h
    rfl
  · obtain ⟨p, tr, j, d1, d2, rs, sy, n, rfl, hL, k⟩ := h
    refine ⟨_, PSs.nox (pss_one (ps_ret (pe_or (pe_cmp (pc_din (hu_of hr) (pv 1) (pe_fldC rfl T.cl_Ledger T.na_Ledger__unfinished (pv 0) rfl)) rfl) (pe_one (pe_cmp (pc_din (hu_of hr) (pv 1) (pe_fldC rfl T.cl_Ledger T.na_Ledger__finished (pv 0) rfl)) rfl))))), ?_⟩
    obtain ⟨⟨dx, hp⟩, _, ⟨k1, u1, u2⟩, ⟨k2, f1, f2⟩, _⟩ := hL
    refine ⟨_, rfl, _, rfl, p, dx, _, _, rfl, hp, rfl, d1, _, rfl, DGet.k (k := Sum.inl n) u1, _, rfl, ?_⟩
    rw [u2.some_ n, un_kv_any]
    unfold Lg.knows Lg.opens at k
    cases q : (st rs).un.any fun u => decide (u.n = n) with
    | true =>
      rw [q, Bool.true_or] at k
      exact iteT k
    | false =>
      rw [q, Bool.false_or] at k
      refine iteF ⟨_, rfl, _, rfl, p, dx, _, _, rfl, hp, rfl, d2, _, rfl, DGet.k (k := Sum.inl n) f1, ?_⟩
      rw [f2.some_ n, fi_kv_any]
      exact k
def spLAns (K : PySem.W.Frag) : Sp := fun vs H Q _ => ∃ (p tr j d1 d2 : Addr) (rs : List Rc) (sy n : Int) (u : Un), vs = [.ref p, .int n] ∧ LedAt K H p tr j d1 d2 rs sy ∧ (st rs).un.find? (fun x => decide (x.n = n)) = some u ∧ Q (.int u.t) H
theorem ok_Ledger_answer_of {P : Program} {w : World} {K : PySem.W.Frag} {mg : Str → Option Value} {base : Heap} {f : Addr} {fd : FuncData} (T : Tx K mg) 
    (F : FunD K "answer_of" "Ledger.answer_of" (defArgs s_Ledger_answer_of) (defBody s_Ledger_answer_of) (defScope s_Ledger_answer_of) [] [] f fd) : FnOk P w K mg base CX0 1 f fd ["self", "number"] (spLAns K) := by
  refine F.ok sc_Ledger_answer_of (fun vs H Q E h => ?_) (fun cdv A outer s0 H vs Q E hr h => ?_)
  · obtain ⟨p, tr, j, d1, d2, rs, sy, n, u, rfl, _⟩ := h
    rfl
  · obtain ⟨p, tr, j, d1, d2, rs, sy, n, u, rfl, hL, hf, k⟩ := h
    refine ⟨_, PSs.nox (pss_one (ps_ret (pe_ix ix_tup (pe_dget (hu_of hr) (pe_fldC rfl T.cl_Ledger T.na_Ledger__unfinished (pv 0) rfl) (pv 1) (fun _ _ => rfl)) pe_int (fun _ _ => rfl)))), ?_⟩
    obtain ⟨⟨dx, hp⟩, _, ⟨k1, u1, u2⟩, _, _⟩ := hL
    obtain ⟨t, hv, ht⟩ : ∃ t, valV k1 (Sum.inl n) = some (.ref t) ∧ H t = some (.tup [.str u.c, .str u.a, .int u.t]) := by
      rcases u2.val n with ⟨a1, _⟩ | ⟨x, t, a1, a2, a3⟩
      · rw [un_kv_find, hf] at a1; cases a1
      · rw [un_kv_find, hf] at a1
        obtain rfl : Un.kv u = x := Option.some.inj a1
        exact ⟨t, a2, a3⟩
    exact ⟨_, rfl, p, dx, _, _, rfl, hp, rfl, _, rfl, d1, .ref t, rfl, by rw [← hv]; exact DGet.k (k := Sum.inl n) u1, t, _, 2, .int u.t, rfl, rfl, SqT.of ht, rfl, k⟩

end K13
set_option maxHeartbeats 1000000
set_option pp.maxSteps 500
namespace K13
open PySem PySem.Spec PyProof.Rows L2 SX TK NdefX K11 LD
open C8 (pe_c)
def TsAt (H : Hp) : List Addr → List (List V) → Prop
  | [], [] => True
  | t :: ts, b :: bs => H t = some (.tup b) ∧ TsAt H ts bs
  | _, _ => False
theorem TsAt.mono {H H' : Hp} (s : ∀ x b, H x = some (.tup b) → H' x = some (.tup b)) : ∀ {ts : List Addr} {bs : List (List V)}, TsAt H ts bs → TsAt H' ts bs
  | [], [], _ => trivial
  | t :: ts, b :: bs, h => ⟨s _ _ h.1, TsAt.mono s h.2⟩
  | [], _ :: _, h => h
  | _ :: _, [], h => h
theorem TsAt.snoc {H : Hp} {t : Addr} {b : List V} (ht : H t = some (.tup b)) : ∀ {ts : List Addr} {bs : List (List V)}, TsAt H ts bs → TsAt H (ts ++ [t]) (bs ++ [b])
  | [], [], _ => ⟨ht, trivial⟩
  | _ :: _, _ :: _, h => ⟨h.1, TsAt.snoc ht h.2⟩
  | [], _ :: _, h => h.elim
  | _ :: _, [], h => h.elim
theorem TsAt.len {H : Hp} : ∀ {ts : List Addr} {bs : List (List V)}, TsAt H ts bs → ts.length = bs.length
  | [], [], _ => rfl
  | _ :: _, _ :: _, h => congrArg Nat.succ (TsAt.len h.2)
  | [], _ :: _, h => h.elim
  | _ :: _, [], h => h.elim
theorem TsAt.at_ {H : Hp} : ∀ {ts : List Addr} {bs : List (List V)}, TsAt H ts bs → ∀ (i : Nat) (x : V), (ts.map V.ref)[i]? = some x → ∃ t b, x = .ref t ∧ bs[i]? = some b ∧ H t = some (.tup b)
  | [], [], _, i, x, h => by cases h
  | t :: _, b :: _, h, 0, x, e => ⟨t, b, (Option.some.inj e).symm, rfl, h.1⟩
  | _ :: ts, _ :: bs, h, i + 1, x, e => TsAt.at_ h.2 i x e
  | [], _ :: _, h, _, _, _ => h.elim
  | _ :: _, [], h, _, _, _ => h.elim
theorem TsAt.get {H : Hp} : ∀ {ts : List Addr} {bs : List (List V)}, TsAt H ts bs → ∀ (i : Nat) (b : List V), bs[i]? = some b → ∃ t, (ts.map V.ref)[i]? = some (.ref t) ∧ H t = some (.tup b)
  | [], [], _, i, x, h => by cases h
  | t :: _, b :: _, h, 0, x, e => ⟨t, rfl, by rw [← Option.some.inj e]; exact h.1⟩
  | _ :: ts, _ :: bs, h, i + 1, x, e => TsAt.get h.2 i x e
  | [], _ :: _, h, _, _, _ => h.elim
  | _ :: _, [], h, _, _, _ => h.elim

def spLPend (K : PySem.W.Frag) : Sp := fun vs H Q _ => ∃ (p tr j d1 d2 : Addr) (rs : List Rc) (sy : Int) (us : List Un), vs = [.ref p] ∧ LedAt K H p tr j d1 d2 rs sy ∧ rs.length ≤ 110 ∧ us.Perm (st rs).un ∧ us.length < 64 ∧ (us.map (·.n)).Pairwise (· < ·) ∧ ∀ r H', Same H H' → H r = none → H' r = some (.lst ((us.map (·.n)).map V.int)) → Q (.ref r) H'
theorem ok_Ledger_pending {P : Program} {w : World} {K : PySem.W.Frag} {mg : Str → Option Value} {base : Heap} {f : Addr} {fd : FuncData} (T : Tx K mg) 
    (F : FunD K "pending" "Ledger.pending" (defArgs s_Ledger_pending) (defBody s_Ledger_pending) (defScope s_Ledger_pending) [] [] f fd) : FnOk P w K mg base CX0 1 f fd ["self"] (spLPend K) := by
  refine F.ok sc_Ledger_pending (fun vs H Q E h => ?_) (fun cdv A outer s0 H vs Q E hr h => ?_)
  · obtain ⟨p, tr, j, d1, d2, rs, sy, us, rfl, _⟩ := h
    rfl
  · obtain ⟨p, tr, j, d1, d2, rs, sy, us, rfl, hL, hlr, hp9, h64, hpw, k⟩ := h
    refine ⟨_, PSs.nox (pss_one (ps_ret (pe_callB (call_sortedDI rfl) rfl T.f_sorted (by decide +kernel) (pa_cons (pe_fldC rfl T.cl_Ledger T.na_Ledger__unfinished (pv 0) rfl) pa_nil)))), ?_⟩
    obtain ⟨⟨dx, hp⟩, _, ⟨k1, u1, u2⟩, _, _⟩ := hL
    refine ⟨_, rfl, p, dx, _, _, rfl, hp, rfl, d1, k1, (st rs).un.map (·.n), rfl, .inl u1, ?_, ?_, fun ys q hperm hpw2 hq => ?_⟩
    · rw [u2.keys]
      simp only [List.map_map]
      rfl
    · rw [List.length_map, ← hp9.length_eq]
      exact h64
    · have e : ys = us.map (·.n) := sort_uniq (hperm.trans (hp9.map _).symm) hpw2 hpw
      rw [e]
      exact k q _ (same_upd hq) hq upd_same
def spLBills (K : PySem.W.Frag) : Sp := fun vs H Q _ => ∃ (p tr j d1 d2 : Addr) (rs : List Rc) (sy : Int) (bs : List Bi), vs = [.ref p] ∧ LedAt K H p tr j d1 d2 rs sy ∧ rs.length ≤ 110 ∧ bs.Perm (st rs).fi ∧ bs.length < 64 ∧ (bs.map (·.n)).Pairwise (· < ·) ∧ ∀ r ts H', Same H H' → H r = none → H' r = some (.lst (ts.map V.ref)) → TsAt H' ts (bs.map Bi.v) → Q (.ref r) H'
theorem ok_Ledger_bills {P : Program} {w : World} {K : PySem.W.Frag} {mg : Str → Option Value} {base : Heap} {f : Addr} {fd : FuncData} (T : Tx K mg) 
    (F : FunD K "bills" "Ledger.bills" (defArgs s_Ledger_bills) (defBody s_Ledger_bills) (defScope s_Ledger_bills) [] [] f fd) : FnOk P w K mg base CX0 1 f fd ["self"] (spLBills K) := by
  refine F.ok sc_Ledger_bills (fun vs H Q E h => ?_) (fun cdv A outer s0 H vs Q E hr h => ?_)
  · obtain ⟨p, tr, j, d1, d2, rs, sy, bs, rfl, _⟩ := h
    rfl
  · obtain ⟨p, tr, j, d1, d2, rs, sy, bs, rfl, hL, hlr, hp9, h64, hpw, k⟩ := h
    refine ⟨_, PSs.nox (pss_one (ps_ret (pe_lc (own := [("number", 1)]) (g := gName 1) rfl sc_Ledger_bills.nd (pi_list (pe_callB (call_sortedDI rfl) rfl T.f_sorted (by decide +kernel) (pa_cons (pe_fldC rfl T.cl_Ledger T.na_Ledger__finished (pv 0) rfl) pa_nil))) (blkOk_by (own := [("number", 1)]) (N := ["self", "number"]) (sc := defScope s_Ledger_bills) (by decide +kernel)) (fun _ _ _ _ _ => pg_name (i := 1) sc_Ledger_bills.nd rfl (Or.inl rfl)) (fun _ _ _ _ _ => pts_nil) (fun _ _ _ _ _ => (pe_dget (hu_of hr) (pe_fldC rfl T.cl_Ledger T.na_Ledger__finished (pv 0) rfl) (pv 1) (fun _ _ => rfl)))))), ?_⟩
    obtain ⟨⟨dx, hp⟩, _, _, ⟨k2, f1, f2⟩, _⟩ := hL
    refine ⟨_, rfl, p, dx, _, _, rfl, hp, rfl, d2, k2, (st rs).fi.map (·.n), rfl, .inl f1, ?_, ?_, fun ys q hperm hpw2 hq => ?_⟩
    · rw [f2.keys]
      simp only [List.map_map]
      rfl
    · rw [List.length_map, ← hp9.length_eq]
      exact h64
    · have e : ys = bs.map (·.n) := sort_uniq (hperm.trans (hp9.map _).symm) hpw2 hpw
      subst e
      have sq := same_upd (o := .lst ((bs.map (·.n)).map V.int)) hq
      have hp1 := sq _ _ hp
      have f11 := sq _ _ f1
      have f21 := f2.mono fun y b z => sq _ _ z
      have eq0 : (upd H q (.lst ((bs.map (·.n)).map V.int))) q = some (.lst ((bs.map (·.n)).map V.int)) := upd_same
      refine ⟨q, rfl, ⟨_, SqL.of upd_same⟩, fun D hD => ?_⟩
      have D0 : H D = none := by
        cases eq : H D with
        | none => rfl
        | some o => rw [sq _ _ eq] at hD; cases hD
      generalize upd H q (.lst ((bs.map (·.n)).map V.int)) = H1 at *
      have hfind : ∀ b ∈ bs, (st rs).fi.find? (fun x => decide (x.n = b.n)) = some b := fun b hb => by
        cases qf : (st rs).fi.find? (fun x => decide (x.n = b.n)) with
        | none => exact absurd (decide_eq_true rfl) (List.find?_eq_none.mp qf b (hp9.subset hb))
        | some x =>
          have e1 : x.n = b.n := by simpa using List.find?_some (p := fun (x : Bi) => decide (x.n = b.n)) qf
          have m1 : x ∈ bs := hp9.symm.subset (List.mem_of_find?_eq_some qf)
          obtain ⟨i, hi, ei⟩ := List.mem_iff_getElem.mp hb
          obtain ⟨j', hj', ej⟩ := List.mem_iff_getElem.mp m1
          have pw := List.pairwise_iff_getElem.mp hpw
          have g : ∀ k (hk : k < bs.length), (bs.map (·.n))[k]'(by rw [List.length_map]; exact hk) = bs[k].n := fun k hk => List.getElem_map ..
          rcases Nat.lt_trichotomy i j' with z | z | z
          · have := pw i j' (by rw [List.length_map]; exact hi) (by rw [List.length_map]; exact hj') z
            rw [g i hi, g j' hj', ei, ej] at this
            omega
          · subst z
            rw [← ei, ← ej]
          · have := pw j' i (by rw [List.length_map]; exact hj') (by rw [List.length_map]; exact hi) z
            rw [g i hi, g j' hj', ei, ej] at this
            omega
      refine lc_itN walk_list (fun i H' => Same H1 H' ∧ ∃ ts : List Addr, H' D = some (.lst (ts.map V.ref)) ∧ TsAt H' ts ((bs.take i).map Bi.v)) ⟨same_upd hD, [], upd_same, trivial⟩ (fun i H' _ q => SqL.of (q.1 _ _ eq0)) (fun i x H3 H4 hi p9 y => ?_) (fun H3 p9 => ?_)
      · obtain ⟨s3, ts, e1, e2⟩ := p9
        obtain ⟨rfl, hx⟩ := y
        rw [List.length_map, List.length_map] at hi
        rw [List.getElem?_map, List.getElem?_map, List.getElem?_eq_getElem hi] at hx
        obtain rfl := Option.some.inj hx
        obtain ⟨t, hv, ht⟩ : ∃ t, valV k2 (Sum.inl bs[i].n) = some (.ref t) ∧ H1 t = some (.tup bs[i].v) := by
          have hf := hfind _ (List.getElem_mem hi)
          rcases f21.val bs[i].n with ⟨a1, _⟩ | ⟨x, t, a1, a2, a3⟩
          · rw [fi_kv_find, hf] at a1; cases a1
          · rw [fi_kv_find, hf] at a1
            obtain rfl : Bi.kv bs[i] = x := Option.some.inj a1
            exact ⟨t, a2, a3⟩
        refine ⟨rfl, _, rfl, p, dx, _, _, rfl, s3 _ _ hp1, rfl, _, rfl, d2, .ref t, rfl, by rw [← hv]; exact DGet.k (k := Sum.inl bs[i].n) (s3 _ _ f11), _, e1, ?_, fun b o eb => (upd_ne (ne_of_none eb hD)).trans (s3 _ _ eb), ts ++ [t], ?_, ?_⟩
        · have := e2.len
          rw [List.length_map, List.length_take] at this
          rw [List.length_map, sizeLine_eq]
          omega
        · rw [upd_same, List.map_append]
          rfl
        · rw [List.take_add_one, List.getElem?_eq_getElem hi]
          show TsAt _ _ ((bs.take i ++ [bs[i]]).map Bi.v)
          rw [List.map_append]
          refine TsAt.snoc ((upd_ne (ne_of (s3 _ _ ht) e1 (by intro z; cases z))).trans (s3 _ _ ht)) (e2.mono fun x b ex => ?_)
          exact (upd_ne (ne_of ex e1 (by intro z; cases z))).trans ex
      · obtain ⟨s3, ts, e1, e2⟩ := p9
        rw [List.length_map, List.length_map, List.take_length] at e2
        exact k D ts H3 (sq.trans s3) D0 e1 e2

end K13
set_option maxHeartbeats 1000000
set_option pp.maxSteps 500
namespace K13
open PySem PySem.Spec PyProof.Rows L2 SX TK NdefX K11 LD
open C8 (pe_c)
def oV : Option Int → V
  | none => .non
  | some i => .int i
def numO (z : Str) : Option Int :=
  if consB z zDG 9 = true then
    (if (decide (V.str (S [(TL.tl z).getD 0 0]) = V.str "0") && !decide (V.str z = V.str "0")) = true then none
     else if ((NumText.digitsVal (TL.tl z) : Nat) : Int) ≤ 999999999 then some (NumText.digitsVal (TL.tl z) : Nat) else none)
  else none
theorem numV_O (z : Str) : numV z 999999999 = oV (numO z) := by
  unfold numV numO
  split
  · split
    · rfl
    · split <;> rfl
  · rfl
theorem numO_ok {z : Str} {i : Int} (h : numO z = some i) : nOk i := by
  unfold numO at h
  split at h
  · split at h
    · cases h
    · split at h
      · rename_i q
        obtain rfl := Option.some.inj h
        exact ⟨Int.natCast_nonneg _, q⟩
      · cases h
  · cases h
def recW : List Str → Option Rc
  | [w0, w1, w2, w3, w4] => if w0 = "open" then (match numO w1, numO w4 with
    | some n, some t => if ((splitB w2).isSome && (splitB w3).isSome) = true then some (.op n w2 w3 t) else none
    | _, _ => none) else none
  | [w0, w1, w2, w3] => if w0 = "close" then (match numO w1, numO w2, numO w3 with
    | some n, some e, some k => some (.cl n e k)
    | _, _, _ => none) else none
  | _ => none
theorem dn_O (o : Option Int) : decide (oV o = V.non) = o.isNone := by
  cases o with
  | none => exact decide_eq_true rfl
  | some i => exact decide_eq_false (fun z => by cases z)
theorem Same.frl {H H1 H2 : Hp} {j d1 d2 : Addr} (s : Same H H1) (f : FrL H1 H2 j d1 d2) : FrL H H2 j d1 d2 := fun b o e b1 b2 b3 => f b o (s b o e) b1 b2 b3
def spTOpen (K : PySem.W.Frag) : Sp := fun vs H Q _ => ∃ (p tr j d1 d2 w : Addr) (rs : List Rc) (sy : Int) (w1 w2 w3 w4 : Str), vs = [.ref p, .ref w] ∧ LedAt K H p tr j d1 d2 rs sy ∧ H w = some (.lst [.str "open", .str w1, .str w2, .str w3, .str w4]) ∧ w1.length ≤ 1000 ∧ w2.length ≤ 1000 ∧ w3.length ≤ 1000 ∧ w4.length ≤ 1000 ∧
  (∀ r, recW ["open", w1, w2, w3, w4] = some r → (lineS r).length ≤ 60) ∧ (∀ r ∈ rs, (lineS r).length ≤ 60) ∧ rs.length ≤ 110 ∧ ∀ H' sy', LedAt K H' p tr j d1 d2 (eat rs (recW ["open", w1, w2, w3, w4])) sy' → FrL H H' j d1 d2 → Q .non H'
theorem ok_take_open {P : Program} {w : World} {K : PySem.W.Frag} {mg : Str → Option Value} {base : Heap} {f : Addr} {fd : FuncData} (T : Tx K mg) (c_read_number : C8.Cal P w K mg base 2 "read_number" spNum []) (c_is_address : C8.Cal P w K mg base 4 "is_address" spIsAddr []) (c_Ledger_is_known : C8.Met P w K mg base 1 (He.ga K "Ledger") "is_known" (spLKnown K) []) (c_Ledger_begin : C8.Met P w K mg base 4 (He.ga K "Ledger") "begin" (spLBegin K) [])
    (F : FunD K "_take_open" "_take_open" (defArgs s_take_open) (defBody s_take_open) (defScope s_take_open) [] [] f fd) : FnOk P w K mg base CX0 5 f fd ["ledger", "words"] (spTOpen K) := by
  refine F.ok sc_take_open (fun vs H Q E h => ?_) (fun cdv A outer s0 H vs Q E hr h => ?_)
  · obtain ⟨p, tr, j, d1, d2, w, rs, sy, w1, w2, w3, w4, rfl, _⟩ := h
    rfl
  · obtain ⟨p, tr, j, d1, d2, w, rs, sy, w1, w2, w3, w4, rfl, hL, hw, l1, l2, l3, l4, hln, hls, hlr, k⟩ := h
    refine ⟨_, PSs.nox (pss_cons (ps_set (i := 2) sc_take_open.nd rfl (Or.inl rfl) (pe_c c_read_number hr (by decide) rfl (pa_cons (pe_ix ix_list (pv 1) pe_int (fun _ _ => rfl)) (pa_cons (pgI T.g_GREATEST_NUMBER) pa_nil)))) (pss_cons (ps_set (i := 3) sc_take_open.nd rfl (Or.inl rfl) (pe_c c_read_number hr (by decide) rfl (pa_cons (pe_ix ix_list (pv 1) pe_int (fun _ _ => rfl)) (pa_cons (pgI T.g_GREATEST_NUMBER) pa_nil)))) (pss_cons (ps_set (i := 4) sc_take_open.nd rfl (Or.inl rfl) (pe_cut (pe_and (pe_c c_is_address hr (by decide) rfl (pa_cons (pe_ix ix_list (pv 1) pe_int (fun _ _ => rfl)) pa_nil)) (pe_and (pe_c c_is_address hr (by decide) rfl (pa_cons (pe_ix ix_list (pv 1) pe_int (fun _ _ => rfl)) pa_nil)) (pe_and (pe_cmpR op_notN (pv 2) pe_non (nomark _)) (pe_one (pe_cmpR op_notN (pv 3) pe_non (nomark _)))))))) (pss_one (ps_if (PW.pt (pw_and (pt_val (pv 4)) (pw_and1 (pt_not (pt_val (C8.pe_mt c_Ledger_is_known hr (by decide) (pv 0) (pa_cons (pv 2) pa_nil))))))) (pss_one (ps_expr (C8.pe_mt c_Ledger_begin hr (by decide) (pv 0) (pa_cons (pv 2) (pa_cons (pe_ix ix_list (pv 1) pe_int (fun _ _ => rfl)) (pa_cons (pe_ix ix_list (pv 1) pe_int (fun _ _ => rfl)) (pa_cons (pv 3) pa_nil))))))) pss_nil))))), ?_⟩
    refine ⟨_, rfl, w, _, 1, .str w1, rfl, rfl, SqL.of hw, rfl, w1, 999999999, rfl, l1, fun H1 s1 => ?_⟩
    rw [numV_O]
    refine ⟨_, rfl, w, _, 4, .str w4, rfl, rfl, SqL.of (s1 _ _ hw), rfl, w4, 999999999, rfl, l4, fun H2 s2 => ?_⟩
    rw [numV_O]
    have s12 := s1.trans s2
    have hw2 := s12 _ _ hw
    have kN : ∀ H3, Same H2 H3 → eat rs (recW ["open", w1, w2, w3, w4]) = rs → Q .non H3 := fun H3 s3 e => k H3 sy (by rw [e]; exact hL.same (s12.trans s3)) (FrL.of_same (s12.trans s3))
    have hrec : recW ["open", w1, w2, w3, w4] = (match numO w1, numO w4 with
      | some n, some t => if ((splitB w2).isSome && (splitB w3).isSome) = true then some (.op n w2 w3 t) else none
      | _, _ => none) := by
      exact (show (if ("open" : Str) = "open" then (match numO w1, numO w4 with
        | some n, some t => if ((splitB w2).isSome && (splitB w3).isSome) = true then some (Rc.op n w2 w3 t) else none
        | _, _ => none) else none) = _ from if_pos rfl)
    refine ⟨fun v H' => Same H2 H' ∧ v = .bl ((splitB w2).isSome && ((splitB w3).isSome && (!(numO w1).isNone && !(numO w4).isNone))), ?_, ?_⟩
    · refine ⟨_, rfl, w, _, 2, .str w2, rfl, rfl, SqL.of hw2, rfl, w2, rfl, l2, fun H3 s3 => ⟨_, rfl, ?_⟩⟩
      cases (splitB w2).isSome with
      | false => exact iteF ⟨s3, rfl⟩
      | true =>
        refine iteT ⟨_, rfl, w, _, 3, .str w3, rfl, rfl, SqL.of (s3 _ _ hw2), rfl, w3, rfl, l3, fun H4 s4 => ⟨_, rfl, ?_⟩⟩
        cases (splitB w3).isSome with
        | false => exact iteF ⟨s3.trans s4, rfl⟩
        | true =>
          refine iteT ⟨_, rfl, rfl, _, rfl, ?_⟩
          rw [dn_O]
          cases (numO w1).isNone with
          | true => exact iteF ⟨s3.trans s4, rfl⟩
          | false =>
            refine iteT ⟨_, rfl, rfl, s3.trans s4, ?_⟩
            rw [dn_O]
            rfl
    · rintro v H3 ⟨s3, rfl⟩
      generalize hb : ((splitB w2).isSome && ((splitB w3).isSome && (!(numO w1).isNone && !(numO w4).isNone))) = b at *
      refine ⟨_, rfl, _, rfl, ?_⟩
      cases b with
      | false =>
        refine iteF (kN H3 s3 ?_)
        rw [hrec]
        cases e1 : numO w1 with
        | none => rfl
        | some n =>
          cases e4 : numO w4 with
          | none => rfl
          | some t =>
            dsimp only
            rw [if_neg]
            · rfl
            · intro z
              rw [Bool.and_eq_true] at z
              rw [e1, e4, z.1, z.2] at hb
              cases hb
      | true =>
        rw [Bool.and_eq_true, Bool.and_eq_true, Bool.and_eq_true] at hb
        obtain ⟨b2, b3, b1, b4⟩ := hb
        obtain ⟨n, e1⟩ : ∃ n, numO w1 = some n := by
          cases e : numO w1 with
          | none => rw [e] at b1; cases b1
          | some n => exact ⟨n, rfl⟩
        obtain ⟨t, e4⟩ : ∃ t, numO w4 = some t := by
          cases e : numO w4 with
          | none => rw [e] at b4; cases b4
          | some n => exact ⟨n, rfl⟩
        have hrec2 : recW ["open", w1, w2, w3, w4] = some (.op n w2 w3 t) := by
          rw [hrec, e1, e4]
          dsimp only
          rw [b2, b3]
          rfl
        rw [e1, e4]
        have hL3 := hL.same (s12.trans s3)
        obtain ⟨dx, hp⟩ := hL3.o
        refine iteT ⟨_, rfl, p, dx, _, rfl, hp, rfl, _, rfl, p, tr, j, d1, d2, rs, sy, n, rfl, hL3, _, rfl, ?_⟩
        cases hk : (st rs).knows n with
        | true => exact iteF (kN H3 s3 (by rw [hrec2]; unfold eat; dsimp only; rw [if_neg]; show ¬ (!(st rs).knows n) = true; rw [hk]; decide))
        | false =>
          have hleg : (st rs).legal (.op n w2 w3 t) = true := by
            show (!(st rs).knows n) = true
            rw [hk]
            rfl
          refine iteT ⟨_, rfl, p, dx, _, rfl, hp, rfl, _, rfl, _, rfl, w, _, 2, .str w2, rfl, rfl, SqL.of (s3 _ _ hw2), rfl, _, rfl, w, _, 3, .str w3, rfl, rfl, SqL.of (s3 _ _ hw2), rfl, _, rfl, p, tr, j, d1, d2, rs, sy, n, t, w2, w3, rfl, hL3, numO_ok e1, numO_ok e4, hln _ hrec2, hls, hlr, hleg, fun H4 hL4 f4 => k H4 ((catS (rs ++ [.op n w2 w3 t])).length : Nat) ?_ (Same.frl (s12.trans s3) f4)⟩
          rw [hrec2]
          unfold eat
          dsimp only
          rw [if_pos hleg]
          exact hL4
def spTClose (K : PySem.W.Frag) : Sp := fun vs H Q _ => ∃ (p tr j d1 d2 w : Addr) (rs : List Rc) (sy : Int) (w1 w2 w3 : Str), vs = [.ref p, .ref w] ∧ LedAt K H p tr j d1 d2 rs sy ∧ H w = some (.lst [.str "close", .str w1, .str w2, .str w3]) ∧ w1.length ≤ 1000 ∧ w2.length ≤ 1000 ∧ w3.length ≤ 1000 ∧
  (∀ r, recW ["close", w1, w2, w3] = some r → (lineS r).length ≤ 60) ∧ (∀ r ∈ rs, (lineS r).length ≤ 60) ∧ rs.length ≤ 110 ∧ Disj (st rs) ∧ ∀ H' sy', LedAt K H' p tr j d1 d2 (eat rs (recW ["close", w1, w2, w3])) sy' → FrL H H' j d1 d2 → Q .non H'
theorem ok_take_close {P : Program} {w : World} {K : PySem.W.Frag} {mg : Str → Option Value} {base : Heap} {f : Addr} {fd : FuncData} (T : Tx K mg) (c_read_number : C8.Cal P w K mg base 2 "read_number" spNum []) (c_Ledger_is_open : C8.Met P w K mg base 1 (He.ga K "Ledger") "is_open" (spLOpen K) []) (c_Ledger_close : C8.Met P w K mg base 4 (He.ga K "Ledger") "close" (spLClose K) [])
    (F : FunD K "_take_close" "_take_close" (defArgs s_take_close) (defBody s_take_close) (defScope s_take_close) [] [] f fd) : FnOk P w K mg base CX0 5 f fd ["ledger", "words"] (spTClose K) := by
  refine F.ok sc_take_close (fun vs H Q E h => ?_) (fun cdv A outer s0 H vs Q E hr h => ?_)
  · obtain ⟨p, tr, j, d1, d2, w, rs, sy, w1, w2, w3, rfl, _⟩ := h
    rfl
  · obtain ⟨p, tr, j, d1, d2, w, rs, sy, w1, w2, w3, rfl, hL, hw, l1, l2, l3, hln, hls, hlr, hdj, k⟩ := h
    refine ⟨_, PSs.nox (pss_cons (ps_asg (pe_lc (own := [("word", 5)]) (g := gName 5) rfl sc_take_close.nd (pi_list (pe_slice sl_list (pv 1) (po_some pe_int) po_none)) (blkOk_by (own := [("word", 5)]) (N := ["ledger", "words", "number", "end", "cost", "word"]) (sc := defScope s_take_close) (by decide +kernel)) (fun _ _ _ _ _ => pg_name (i := 5) sc_take_close.nd rfl (Or.inl rfl)) (fun _ _ _ _ _ => pts_nil) (fun _ _ _ _ _ => (pe_c c_read_number hr (by decide) rfl (pa_cons (pv 5) (pa_cons (pgI T.g_GREATEST_NUMBER) pa_nil))))) (pg_unl rfl (pgs_cons (pg_name (i := 2) sc_take_close.nd rfl (Or.inl rfl)) (pgs_cons (pg_name (i := 3) sc_take_close.nd rfl (Or.inl rfl)) (pgs_cons (pg_name (i := 4) sc_take_close.nd rfl (Or.inl rfl)) pgs_nil))))) (pss_one (ps_if (PW.pt (pw_and (pt_cmpR op_notN (pv 2) pe_non (nomark _)) (pw_and (pt_cmpR op_notN (pv 3) pe_non (nomark _)) (pw_and (pt_cmpR op_notN (pv 4) pe_non (nomark _)) (pw_and1 (pt_val (C8.pe_mt c_Ledger_is_open hr (by decide) (pv 0) (pa_cons (pv 2) pa_nil)))))))) (pss_one (ps_expr (C8.pe_mt c_Ledger_close hr (by decide) (pv 0) (pa_cons (pv 2) (pa_cons (pv 3) (pa_cons (pv 4) pa_nil)))))) pss_nil))), ?_⟩
    refine ⟨_, rfl, _, rfl, w, _, rfl, SqL.of hw, fun cu hcu => ⟨cu, rfl, ⟨_, SqL.of upd_same⟩, fun D hD => ?_⟩⟩
    have ec : cutV [V.str "close", .str w1, .str w2, .str w3] (some 1) none = [w1, w2, w3].map V.str := rfl
    rw [ec] at hD ⊢
    have sc2 := same_upd (o := .lst ([w1, w2, w3].map V.str)) hcu
    have ecu : (upd H cu (.lst ([w1, w2, w3].map V.str))) cu = some (.lst ([w1, w2, w3].map V.str)) := upd_same
    generalize upd H cu (.lst ([w1, w2, w3].map V.str)) = H1 at *
    refine lc_itN walk_list (fun i H' => Same H1 H' ∧ H' D = some (.lst (([w1, w2, w3].map fun z => oV (numO z)).take i))) ⟨same_upd hD, upd_same⟩ (fun i H' _ q => SqL.of (q.1 _ _ ecu)) (fun i x H3 H4 hi p9 y => ?_) (fun H3 p9 => ?_)
    · obtain ⟨s3, e3⟩ := p9
      obtain ⟨rfl, hx⟩ := y
      have hi3 : i < [w1, w2, w3].length := by rw [List.length_map] at hi; exact hi
      rw [List.getElem?_map, List.getElem?_eq_getElem hi3] at hx
      obtain rfl := Option.some.inj hx
      have hlz : [w1, w2, w3][i].length ≤ 1000 := by
        have m := List.getElem_mem hi3
        simp only [List.mem_cons, List.not_mem_nil, or_false] at m
        rcases m with z | z | z <;> rw [z] <;> assumption
      refine ⟨rfl, _, rfl, [w1, w2, w3][i], 999999999, rfl, hlz, fun H5 s5 => ⟨_, s5 _ _ e3, ?_, fun b o eb => (upd_ne (ne_of_none eb hD)).trans (s5 _ _ (s3 _ _ eb)), ?_⟩⟩
      · rw [List.length_take, List.length_map, sizeLine_eq]
        have : [w1, w2, w3].length = 3 := rfl
        omega
      · rw [upd_same, List.take_add_one, List.getElem?_map, List.getElem?_eq_getElem hi3, numV_O]
        rfl
    · obtain ⟨s3, e30⟩ := p9
      have e3 : H3 D = some (.lst [oV (numO w1), oV (numO w2), oV (numO w3)]) := e30
      have s13 := sc2.trans s3
      refine ⟨D, _, rfl, SqL.of e3, rfl, _, _, rfl, _, _, rfl, _, _, rfl, rfl, ?_⟩
      have kN : eat rs (recW ["close", w1, w2, w3]) = rs → Q .non H3 := fun e => k H3 sy (by rw [e]; exact hL.same s13) (FrL.of_same s13)
      have hrec : recW ["close", w1, w2, w3] = (match numO w1, numO w2, numO w3 with
        | some n, some e, some k => some (.cl n e k)
        | _, _, _ => none) := by
        exact (show (if ("close" : Str) = "close" then (match numO w1, numO w2, numO w3 with
          | some n, some e, some k => some (Rc.cl n e k)
          | _, _, _ => none) else none) = _ from if_pos rfl)
      refine ⟨_, rfl, rfl, _, rfl, ?_⟩
      rw [dn_O]
      cases e1 : numO w1 with
      | none => exact iteF (kN (by rw [hrec, e1]; rfl))
      | some n =>
        refine iteT ⟨_, rfl, rfl, _, rfl, ?_⟩
        rw [dn_O]
        cases e2 : numO w2 with
        | none => exact iteF (kN (by rw [hrec, e1, e2]; rfl))
        | some e =>
          refine iteT ⟨_, rfl, rfl, _, rfl, ?_⟩
          rw [dn_O]
          cases e4 : numO w3 with
          | none => exact iteF (kN (by rw [hrec, e1, e2, e4]; rfl))
          | some kk =>
            have hrec2 : recW ["close", w1, w2, w3] = some (.cl n e kk) := by rw [hrec, e1, e2, e4]
            have hL3 := hL.same s13
            obtain ⟨dx, hp⟩ := hL3.o
            refine iteT ⟨_, rfl, p, dx, _, rfl, hp, rfl, _, rfl, p, tr, j, d1, d2, rs, sy, n, rfl, hL3, _, rfl, ?_⟩
            cases hk : (st rs).opens n with
            | false => exact iteF (kN (by rw [hrec2]; unfold eat; dsimp only; rw [if_neg]; show ¬ (st rs).opens n = true; rw [hk]; decide))
            | true =>
              obtain ⟨u, hu⟩ : ∃ u, (st rs).un.find? (fun x => decide (x.n = n)) = some u := by
                unfold Lg.opens at hk
                rw [← any_find] at hk
                exact Option.isSome_iff_exists.mp hk
              refine iteT ⟨_, rfl, p, dx, _, rfl, hp, rfl, _, rfl, _, rfl, _, rfl, p, tr, j, d1, d2, rs, sy, n, e, kk, u, rfl, hL3, numO_ok e1, numO_ok e2, numO_ok e4, hln _ hrec2, hls, hlr, hu, hdj, fun H4 hL4 f4 => k H4 sy ?_ (Same.frl s13 f4)⟩
              rw [hrec2]
              unfold eat
              dsimp only
              rw [if_pos (show (st rs).legal (.cl n e kk) = true from hk)]
              exact hL4

end K13
set_option maxHeartbeats 1000000
set_option pp.maxSteps 500
namespace K13
open PySem PySem.Spec PyProof.Rows L2 SX TK NdefX K11 LD
open C8 (pe_c)
def spTRec (K : PySem.W.Frag) : Sp := fun vs H Q _ => ∃ (p tr j d1 d2 w : Addr) (rs : List Rc) (sy : Int) (ws : List Str), vs = [.ref p, .ref w] ∧ LedAt K H p tr j d1 d2 rs sy ∧ H w = some (.lst (ws.map V.str)) ∧ ws ≠ [] ∧ (∀ z ∈ ws, z.length ≤ 1000) ∧
  (∀ r, recW ws = some r → (lineS r).length ≤ 60) ∧ (∀ r ∈ rs, (lineS r).length ≤ 60) ∧ rs.length ≤ 110 ∧ Disj (st rs) ∧ ∀ H' sy', LedAt K H' p tr j d1 d2 (eat rs (recW ws)) sy' → FrL H H' j d1 d2 → Q .non H'
theorem recW_no {ws : List Str} (h1 : ∀ r, ws.length = 5 → ws ≠ ("open" : Str) :: r) (h2 : ∀ r, ws.length = 4 → ws ≠ ("close" : Str) :: r) : recW ws = none := by
  unfold recW
  split
  · rename_i w0 w1 w2 w3 w4
    rw [if_neg]
    rintro rfl
    exact h1 _ rfl rfl
  · rename_i w0 w1 w2 w3
    rw [if_neg]
    rintro rfl
    exact h2 _ rfl rfl
  · rfl
theorem vstr2 (a b : Str) : decide (V.str a = V.str b) = decide (a = b) := by
  by_cases h : a = b
  · rw [h, decide_eq_true rfl, decide_eq_true rfl]
  · rw [decide_eq_false h, decide_eq_false fun e => h (V.str.inj e)]
theorem ok_take_record {P : Program} {w : World} {K : PySem.W.Frag} {mg : Str → Option Value} {base : Heap} {f : Addr} {fd : FuncData} (T : Tx K mg) (c_take_open : C8.Cal P w K mg base 5 "_take_open" (spTOpen K) []) (c_take_close : C8.Cal P w K mg base 5 "_take_close" (spTClose K) [])
    (F : FunD K "_take_record" "_take_record" (defArgs s_take_record) (defBody s_take_record) (defScope s_take_record) [] [] f fd) : FnOk P w K mg base CX0 6 f fd ["ledger", "words"] (spTRec K) := by
  refine F.ok sc_take_record (fun vs H Q E h => ?_) (fun cdv A outer s0 H vs Q E hr h => ?_)
  · obtain ⟨p, tr, j, d1, d2, w, rs, sy, ws, rfl, _⟩ := h
    rfl
  · obtain ⟨p, tr, j, d1, d2, w, rs, sy, ws, rfl, hL, hw, hne, hz, hln, hls, hlr, hdj, k⟩ := h
    refine ⟨_, PSs.nox (pss_one (ps_if (PW.pt (pw_and (pt_cmpR op_eq (pe_ix ix_list (pv 1) pe_int (fun _ _ => rfl)) pe_str (nomark _)) (pw_and1 (pt_cmpR op_eq (pe_callB call_len_seq rfl T.f_len PySem.boot_len (pa_cons (pv 1) pa_nil)) pe_int (nomark _))))) (pss_one (ps_expr (pe_c c_take_open hr (by decide) rfl (pa_cons (pv 0) (pa_cons (pv 1) pa_nil))))) (pss_one (ps_if (PW.pt (pw_and (pt_cmpR op_eq (pe_ix ix_list (pv 1) pe_int (fun _ _ => rfl)) pe_str (nomark _)) (pw_and1 (pt_cmpR op_eq (pe_callB call_len_seq rfl T.f_len PySem.boot_len (pa_cons (pv 1) pa_nil)) pe_int (nomark _))))) (pss_one (ps_expr (pe_c c_take_close hr (by decide) rfl (pa_cons (pv 0) (pa_cons (pv 1) pa_nil))))) pss_nil)))), ?_⟩
    obtain ⟨w0, r, rfl⟩ : ∃ w0 r, ws = w0 :: r := by
      cases ws with
      | nil => exact absurd rfl hne
      | cons a b => exact ⟨a, b, rfl⟩
    have kN : recW (w0 :: r) = none → Q .non H := fun e => k H sy (by rw [e]; exact hL) (FrL.of_same fun _ _ e => e)
    have hlen : (((w0 :: r).map V.str).length : Int) = (r.length : Int) + 1 := by
      rw [List.length_map, List.length_cons]
      rfl
    have rest : ¬ (w0 = "open" ∧ r.length = 4) → (w0 ≠ "close" ∨ r.length ≠ 3) → recW (w0 :: r) = none := fun a b => by
      refine recW_no (fun q hq e => ?_) (fun q hq e => ?_)
      · injection e with e1 e2
        rw [List.length_cons] at hq
        exact a ⟨e1, by omega⟩
      · injection e with e1 e2
        rw [List.length_cons] at hq
        rcases b with z | z
        · exact z e1
        · exact z (by omega)
    have hz0 : ∀ z ∈ r, z.length ≤ 1000 := fun z m => hz z (List.mem_cons_of_mem _ m)
    refine ⟨_, rfl, w, _, 0, .str w0, rfl, rfl, SqL.of hw, atC _ _, rfl, _, rfl, ?_⟩
    rw [vstr2]
    by_cases h0 : w0 = "open"
    · rw [decide_eq_true h0]
      refine iteT ⟨_, rfl, w, _, rfl, .inl (SqL.of hw), rfl, _, rfl, ?_⟩
      rw [hlen, dec_int]
      by_cases h4 : r.length = 4
      · rw [show ((r.length : Int) + 1 == 5) = true by rw [h4]; rfl]
        subst h0
        obtain ⟨w1, w2, w3, w4, rfl⟩ : ∃ w1 w2 w3 w4, r = [w1, w2, w3, w4] := by
          match r, h4 with
          | [a, b, c, d], _ => exact ⟨a, b, c, d, rfl⟩
        exact iteT ⟨_, rfl, _, rfl, p, tr, j, d1, d2, w, rs, sy, w1, w2, w3, w4, rfl, hL, hw, hz0 _ (by simp), hz0 _ (by simp), hz0 _ (by simp), hz0 _ (by simp), hln, hls, hlr, k⟩
      · rw [show ((r.length : Int) + 1 == 5) = false by simp only [beq_eq_false_iff_ne]; omega]
        refine iteF ⟨_, rfl, w, _, 0, .str w0, rfl, rfl, SqL.of hw, atC _ _, rfl, _, rfl, ?_⟩
        rw [vstr2, decide_eq_false (show ¬ w0 = "close" by rw [h0]; decide +kernel)]
        exact iteF (kN (rest (fun z => h4 z.2) (.inl (by rw [h0]; decide +kernel))))
    · rw [decide_eq_false h0]
      refine iteF ⟨_, rfl, w, _, 0, .str w0, rfl, rfl, SqL.of hw, atC _ _, rfl, _, rfl, ?_⟩
      rw [vstr2]
      by_cases h1 : w0 = "close"
      · rw [decide_eq_true h1]
        refine iteT ⟨_, rfl, w, _, rfl, .inl (SqL.of hw), rfl, _, rfl, ?_⟩
        rw [hlen, dec_int]
        by_cases h3 : r.length = 3
        · rw [show ((r.length : Int) + 1 == 4) = true by rw [h3]; rfl]
          subst h1
          obtain ⟨w1, w2, w3, rfl⟩ : ∃ w1 w2 w3, r = [w1, w2, w3] := by
            match r, h3 with
            | [a, b, c], _ => exact ⟨a, b, c, rfl⟩
          exact iteT ⟨_, rfl, _, rfl, p, tr, j, d1, d2, w, rs, sy, w1, w2, w3, rfl, hL, hw, hz0 _ (by simp), hz0 _ (by simp), hz0 _ (by simp), hln, hls, hlr, hdj, k⟩
        · rw [show ((r.length : Int) + 1 == 4) = false by simp only [beq_eq_false_iff_ne]; omega]
          exact iteF (kN (rest (fun z => h0 z.1) (.inr h3)))
      · rw [decide_eq_false h1]
        exact iteF (kN (rest (fun z => h0 z.1) (.inl h1)))
def spLFin (K : PySem.W.Frag) : Sp := fun vs H Q _ => ∃ (p tr rt j d1 d2 : Addr) (uu l : Int) (bds : List Bd) (rs : List Rc) (sy n now : Int) (u : Un), vs = [.ref p, .int n, .int now] ∧ LedAt K H p tr j d1 d2 rs sy ∧ TAt K H tr rt uu bds l ∧ okU uu = true ∧ okB bds = true ∧ okP l = true ∧ (st rs).un.find? (fun x => decide (x.n = n)) = some u ∧ nOk n ∧ nOk now ∧ nOk (costI uu bds l (now - u.t)) ∧ (lineS (.cl n now (costI uu bds l (now - u.t)))).length ≤ 60 ∧ (∀ r ∈ rs, (lineS r).length ≤ 60) ∧ rs.length ≤ 110 ∧ Disj (st rs) ∧
  ∀ H', LedAt K H' p tr j d1 d2 (rs ++ [.cl n now (costI uu bds l (now - u.t))]) sy → FrL H H' j d1 d2 → Q .non H'
theorem ok_Ledger_finish {P : Program} {w : World} {K : PySem.W.Frag} {mg : Str → Option Value} {base : Heap} {f : Addr} {fd : FuncData} (T : Tx K mg) (c_Ledger_close : C8.Met P w K mg base 4 (He.ga K "Ledger") "close" (spLClose K) []) (c_Ledger_answer_of : C8.Met P w K mg base 1 (He.ga K "Ledger") "answer_of" (spLAns K) []) (c_Tariff_cost : C8.Met P w K mg base 2 (He.ga K "Tariff") "cost" (spCost K) [])
    (F : FunD K "finish" "Ledger.finish" (defArgs s_Ledger_finish) (defBody s_Ledger_finish) (defScope s_Ledger_finish) [] [] f fd) : FnOk P w K mg base CX0 5 f fd ["self", "number", "now"] (spLFin K) := by
  refine F.ok sc_Ledger_finish (fun vs H Q E h => ?_) (fun cdv A outer s0 H vs Q E hr h => ?_)
  · obtain ⟨p, tr, rt, j, d1, d2, uu, l, bds, rs, sy, n, now, u, rfl, _⟩ := h
    rfl
  · obtain ⟨p, tr, rt, j, d1, d2, uu, l, bds, rs, sy, n, now, u, rfl, hL, hT, ou, ob, opp, hf, hn, hnow, hc, hln, hls, hlr, hdj, k⟩ := h
    refine ⟨_, PSs.nox (pss_one (ps_expr (C8.pe_mt c_Ledger_close hr (by decide) (pv 0) (pa_cons (pv 1) (pa_cons (pv 2) (pa_cons (C8.pe_mt c_Tariff_cost hr (by decide) (pe_fldC rfl T.cl_Ledger T.na_Ledger_tariff (pv 0) rfl) (pa_cons (pe_op op_sub (pv 2) (C8.pe_mt c_Ledger_answer_of hr (by decide) (pv 0) (pa_cons (pv 1) pa_nil))) pa_nil)) pa_nil)))))), ?_⟩
    obtain ⟨dx, hp⟩ := hL.o
    obtain ⟨dt, ht, _⟩ := id hT
    exact ⟨_, rfl, p, dx, _, rfl, hp, rfl, _, rfl, _, rfl, _, rfl, p, dx, _, _, rfl, hp, rfl, tr, dt, _, rfl, ht, rfl, _, rfl, _, rfl, p, dx, _, rfl, hp, rfl, _, rfl, p, tr, j, d1, d2, rs, sy, n, u, rfl, hL, hf, _, _, rfl, rfl, tr, rt, uu, l, _, bds, rfl, hT, ou, ob, opp, p, tr, j, d1, d2, rs, sy, n, now, _, u, rfl, hL, hn, hnow, hc, hln, hls, hlr, hf, hdj, k⟩

end K13
set_option maxHeartbeats 1000000
set_option pp.maxSteps 500
namespace K13
open PySem PySem.Spec PyProof.Rows L2 SX TK NdefX K11 LD
open C8 (pe_c)
theorem split_sp (z : Str) : Txt.split z " " ≠ [] := by
  have e0 : (" " : Str) = S [32] := by decide +kernel
  rw [e0]
  intro e
  have q := congrArg TL.tl (StrLaws.join_split z (S [32]))
  rw [e, TL.tl_join] at q
  have q2 : TL.tl z = [] := q.symm
  have e2 : z = S [] := TL.ext_tl (by rw [q2])
  have e3 : Txt.split (S []) (S [32]) = [S []] := by decide +kernel
  rw [e2, e3] at e
  cases e
def recL (x : Str) : Option Rc := recW (Txt.split x " ")
def mxI (a b : Int) : Int := if b > a then b else a
def gR (uu l : Int) (bds : List Bd) (now : Int) (u : Un) : Int × Int := (mxI now u.t, costI uu bds l (mxI now u.t - u.t))
def spRecover (K : PySem.W.Frag) : Sp := fun vs H Q _ => ∃ (tr rt : Addr) (uu l : Int) (bds : List Bd) (z : Str) (now : Int) (us : List Un), vs = [.ref tr, .str z, .int now] ∧ TAt K H tr rt uu bds l ∧ okU uu = true ∧ okB bds = true ∧ okP l = true ∧ z.length ≤ 9000 ∧ us.Perm (st (eats ((readJ z).map recL))).un ∧ us.length ≤ 55 ∧ (us.map (·.n)).Pairwise (· < ·) ∧
  (readJ z).length ≤ 110 ∧ (eats ((readJ z).map recL)).length + us.length ≤ 110 ∧ (∀ x ∈ readJ z, x.length ≤ 900 ∧ ∀ r, recL x = some r → (lineS r).length ≤ 60) ∧ (∀ u ∈ us, nOk u.n ∧ nOk (gR uu l bds now u).1 ∧ nOk (gR uu l bds now u).2 ∧ (lineS (clR (gR uu l bds now) u)).length ≤ 60) ∧
  ∀ p j d1 d2 H', H p = none → H j = none → H d1 = none → H d2 = none → LedAt K H' p tr j d1 d2 (eats ((readJ z).map recL) ++ us.map (clR (gR uu l bds now))) ((catS (eats ((readJ z).map recL) ++ us.map (clR (gR uu l bds now)))).length : Nat) → Same H H' → Q (.ref p) H'
theorem eat_len (rs : List Rc) (o : Option Rc) : (eat rs o).length ≤ rs.length + 1 := by
  unfold eat
  cases o with
  | none => exact Nat.le_succ _
  | some r =>
    dsimp only
    split
    · rw [List.length_append]
      exact Nat.le_refl _
    · exact Nat.le_succ _
theorem eats_len (f : Str → Option Rc) (l : List Str) (h : ∀ x ∈ l, ∀ r, f x = some r → (lineS r).length ≤ 60) : ∀ i, i ≤ l.length → Good (eats ((l.take i).map f)) ∧ (eats ((l.take i).map f)).length ≤ i ∧ ∀ r ∈ eats ((l.take i).map f), (lineS r).length ≤ 60 := by
  intro i
  induction i with
  | zero => exact fun _ => ⟨Good.nil, Nat.le_refl _, fun _ z => nomatch z⟩
  | succ i ih =>
    intro hi
    obtain ⟨a, b, c⟩ := ih (by omega)
    have e : eats ((l.take (i + 1)).map f) = eat (eats ((l.take i).map f)) (f l[i]) := by
      rw [List.take_add_one, List.getElem?_eq_getElem (show i < l.length by omega)]
      show eats ((l.take i ++ [l[i]]).map f) = _
      rw [List.map_append]
      exact eats_snoc _ _
    rw [e]
    refine ⟨eat_good a _, Nat.le_trans (eat_len _ _) (by omega), fun r hr => ?_⟩
    unfold eat at hr
    cases q : f l[i] with
    | none => rw [q] at hr; exact c r hr
    | some x =>
      rw [q] at hr
      dsimp only at hr
      split at hr
      · rcases List.mem_append.mp hr with z | z
        · exact c r z
        · rw [List.mem_singleton.mp z]
          exact h _ (List.getElem_mem (show i < l.length by omega)) x q
      · exact c r hr
theorem ok_recover {P : Program} {w : World} {K : PySem.W.Frag} {mg : Str → Option Value} {base : Heap} {f : Addr} {fd : FuncData} (T : Tx K mg) (c_mk_Ledger : C8.Mak P w K mg base 3 "Ledger" (He.ga K "Ledger") (spLdInit K) []) (c_read_journal : C8.Cal P w K mg base 4 "read_journal" spRead []) (c_take_record : C8.Cal P w K mg base 6 "_take_record" (spTRec K) []) (c_Ledger_pending : C8.Met P w K mg base 1 (He.ga K "Ledger") "pending" (spLPend K) []) (c_Ledger_finish : C8.Met P w K mg base 5 (He.ga K "Ledger") "finish" (spLFin K) []) (c_Ledger_answer_of : C8.Met P w K mg base 1 (He.ga K "Ledger") "answer_of" (spLAns K) []) (c_Journal_sync : C8.Met P w K mg base 1 (He.ga K "Journal") "sync" (spJSync K) [])
    (F : FunD K "recover" "recover" (defArgs s_recover) (defBody s_recover) (defScope s_recover) [] [] f fd) : FnOk P w K mg base CX0 7 f fd ["tariff", "text", "now"] (spRecover K) := by
  refine F.ok sc_recover (fun vs H Q E h => ?_) (fun cdv A outer s0 H vs Q E hr h => ?_)
  · obtain ⟨tr, rt, uu, l, bds, z, now, us, rfl, _⟩ := h
    rfl
  · obtain ⟨tr, rt, uu, l, bds, z, now, us, rfl, hT, ou, ob, opp, hz, hus, hul, hpw, hrl, htl, hline, hu9, k⟩ := h
    refine ⟨_, PSs.nox (pss_cons (ps_set (i := 3) sc_recover.nd rfl (Or.inl rfl) (C8.pe_mk c_mk_Ledger hr (by decide) rfl (pa_cons (pv 0) pa_nil))) (pss_cons (ps_for PassesOwn.never rfl (pi_list (pe_c c_read_journal hr (by decide) rfl (pa_cons (pv 1) pa_nil))) (pg_name (i := 4) sc_recover.nd rfl (Or.inl rfl)) (pss_one (ps_expr (pe_c c_take_record hr (by decide) rfl (pa_cons (pv 3) (pa_cons (pe_split (pv 4) pe_str) pa_nil)))))) (pss_cons (ps_for PassesOwn.never rfl (pi_list (C8.pe_mt0 c_Ledger_pending hr (by decide) (pv 3))) (pg_name (i := 5) sc_recover.nd rfl (Or.inl rfl)) (pss_one (ps_expr (C8.pe_mt c_Ledger_finish hr (by decide) (pv 3) (pa_cons (pv 5) (pa_cons (pe_callB (call_max2 rfl) rfl T.f_max (by decide +kernel) (pa_cons (pv 2) (pa_cons (C8.pe_mt c_Ledger_answer_of hr (by decide) (pv 3) (pa_cons (pv 5) pa_nil)) pa_nil))) pa_nil)))))) (pss_cons (ps_expr (C8.pe_mt0 c_Journal_sync hr (by decide) (pe_fldC rfl T.cl_Ledger T.na_Ledger_journal (pv 3) rfl))) (pss_one (ps_ret (pv 3))))))), ?_⟩
    have hpos := fun i => eats_len recL (readJ z) (fun x hx => (hline x hx).2) i
    refine ⟨_, rfl, fun p dx hp hdx ne => ⟨p, dx, tr, rfl, upd_same, fun j d1 d2 H1 hj hd1 hd2 hL1 fr1 => ⟨rfl, ?_⟩⟩⟩
    have so := same_own (C := He.ga K "Ledger") (fs := []) hp hdx
    have nn : ∀ {b : Addr}, (upd (upd H dx (.own p)) p (.ins (He.ga K "Ledger") dx [])) b = none → H b = none := fun {b} e => by
      cases eq : H b with
      | none => rfl
      | some o => rw [so _ _ eq] at e; cases e
    have hj0 := nn hj
    have hd10 := nn hd1
    have hd20 := nn hd2
    have s1 : Same H H1 := fun b o e => fr1 b o (so _ _ e) (ne_of_none e hp)
    clear fr1 so nn hj hd1 hd2 hdx ne
    have frs : ∀ {Ha Hb : Hp}, Same H Ha → FrL Ha Hb j d1 d2 → Same H Hb := fun s f b o e => f b o (s _ _ e) (ne_of_none e hj0) (ne_of_none e hd10) (ne_of_none e hd20)
    refine ⟨_, rfl, z, rfl, hz, fun r H2 s2 hr2 => ⟨r, rfl, ⟨_, SqL.of hr2⟩, ?_⟩⟩
    have hL2 := hL1.same s2
    have rne : r ≠ j ∧ r ≠ d1 ∧ r ≠ d2 := by
      obtain ⟨_, ⟨dj, a⟩, ⟨_, b, _⟩, ⟨_, c, _⟩, _⟩ := hL2
      exact ⟨ne_of hr2 a (by intro z; cases z), ne_of hr2 b (by intro z; cases z), ne_of hr2 c (by intro z; cases z)⟩
    refine for_list (K := K) (a := r) (xs := (readJ z).map V.str) (fun i σ H' => Same H H' ∧ H' r = some (.lst ((readJ z).map V.str)) ∧ ∃ (sy : Int) (v4 : Option V), σ = [some (.ref tr), some (.str z), some (.int now), some (.ref p), v4, none] ∧ LedAt K H' p tr j d1 d2 (eats (((readJ z).take i).map recL)) sy)
      ⟨s1.trans s2, hr2, 0, none, rfl, hL2⟩ (fun i σ H' _ q => SqL.of q.2.1) ?_ ?_
    · rintro i y σ H3 hi ⟨s3, hr3, sy, v4, rfl, hL3⟩
      have hi2 : i < (readJ z).length := by
        have := (List.getElem?_eq_some_iff.mp hi).1
        rw [List.length_map] at this
        exact this
      rw [List.getElem?_map, List.getElem?_eq_getElem hi2] at hi
      obtain rfl := Option.some.inj hi
      obtain ⟨g1, g2, g3⟩ := hpos i (Nat.le_of_lt hi2)
      obtain ⟨hx1, hx2⟩ := hline _ (List.getElem_mem hi2)
      have e : eats (((readJ z).take (i + 1)).map recL) = eat (eats (((readJ z).take i).map recL)) (recL (readJ z)[i]) := by
        rw [List.take_add_one, List.getElem?_eq_getElem hi2]
        show eats (((readJ z).take i ++ [(readJ z)[i]]).map recL) = _
        rw [List.map_append]
        exact eats_snoc _ _
      refine ⟨_, rfl, _, rfl, ⟨_, rfl⟩, (readJ z)[i], " ", rfl, rfl, by decide +kernel, Nat.le_trans (Nat.add_le_add_right hx1 2) (by decide), fun w hw => ?_⟩
      have sw := same_upd (o := .lst ((Txt.split (readJ z)[i] " ").map V.str)) hw
      refine ⟨p, tr, j, d1, d2, w, eats (((readJ z).take i).map recL), sy, Txt.split (readJ z)[i] " ", rfl, hL3.same sw, upd_same, split_sp _, fun x hx => Nat.le_trans (part_len hx) (by omega), hx2, g3, by omega, g1.disj, fun H4 sy' hL4 f4 => ?_⟩
      exact ⟨frs (s3.trans sw) f4, f4 _ _ (sw _ _ hr3) rne.1 rne.2.1 rne.2.2, sy', _, rfl, by rw [e]; exact hL4⟩
    · rintro σ H3 ⟨s3, hr3, sy, v4, rfl, hL3⟩
      rw [List.length_map, List.take_length] at hL3
      obtain ⟨g1, g2, g3⟩ := hpos _ (Nat.le_refl _)
      rw [List.take_length] at g1 g2 g3
      generalize eats ((readJ z).map recL) = rs at *
      obtain ⟨dx3, hp3⟩ := hL3.o
      refine ⟨_, rfl, p, dx3, _, rfl, hp3, rfl, p, tr, j, d1, d2, rs, sy, us, rfl, hL3, by omega, hus, by omega, hpw, fun q H4 s4 hq0 hq => ⟨q, rfl, ⟨_, SqL.of hq⟩, ?_⟩⟩
      have hL4 := hL3.same s4
      have qne : q ≠ j ∧ q ≠ d1 ∧ q ≠ d2 := by
        obtain ⟨_, ⟨dj, a⟩, ⟨_, b, _⟩, ⟨_, c, _⟩, _⟩ := hL4
        exact ⟨ne_of hq a (by intro z; cases z), ne_of hq b (by intro z; cases z), ne_of hq c (by intro z; cases z)⟩
      refine for_list (K := K) (a := q) (xs := (us.map (·.n)).map V.int) (fun i σ H' => Same H H' ∧ H' q = some (.lst ((us.map (·.n)).map V.int)) ∧ ∃ (v5 : Option V), σ = [some (.ref tr), some (.str z), some (.int now), some (.ref p), v4, v5] ∧ LedAt K H' p tr j d1 d2 (rs ++ (us.take i).map (clR (gR uu l bds now))) sy)
        ⟨s3.trans s4, hq, none, rfl, by rw [List.take_zero, List.map_nil, List.append_nil]; exact hL4⟩ (fun i σ H' _ q => SqL.of q.2.1) ?_ ?_
      · rintro i y σ H5 hi ⟨s5, hq5, v5, rfl, hL5⟩
        have hi2 : i < us.length := by
          have := (List.getElem?_eq_some_iff.mp hi).1
          rw [List.length_map, List.length_map] at this
          exact this
        rw [List.getElem?_map, List.getElem?_map, List.getElem?_eq_getElem hi2] at hi
        obtain rfl := Option.some.inj hi
        obtain ⟨c1, c2⟩ := cl_some (gR uu l bds now) g1 hus hpw i (Nat.le_of_lt hi2)
        have c3 := cl_find (gR uu l bds now) g1 hus hpw hi2
        obtain ⟨b1, b2, b3, b4⟩ := hu9 _ (List.getElem_mem hi2)
        have e : rs ++ (us.take (i + 1)).map (clR (gR uu l bds now)) = (rs ++ (us.take i).map (clR (gR uu l bds now))) ++ [clR (gR uu l bds now) us[i]] := by
          rw [List.take_add_one, List.getElem?_eq_getElem hi2]
          show rs ++ (us.take i ++ [us[i]]).map (clR (gR uu l bds now)) = _
          rw [List.map_append, ← List.append_assoc]
          rfl
        obtain ⟨dx5, hp5⟩ := hL5.o
        refine ⟨_, rfl, p, dx5, _, rfl, hp5, rfl, _, rfl, _, rfl, _, rfl, p, dx5, _, rfl, hp5, rfl, _, rfl, p, tr, j, d1, d2, _, sy, us[i].n, us[i], rfl, hL5, c3, _, _, rfl, p, tr, rt, j, d1, d2, uu, l, bds, _, sy, us[i].n, mxI now us[i].t, us[i], rfl, hL5, hT.same s5, ou, ob, opp, c3, b1, b2, b3, b4, fun r hr => ?_, ?_, c1.disj, fun H6 hL6 f6 => ?_⟩
        · rcases List.mem_append.mp hr with m | m
          · exact g3 r m
          · obtain ⟨u, hu, rfl⟩ := List.mem_map.mp m
            exact (hu9 u (List.mem_of_mem_take hu)).2.2.2
        · rw [List.length_append, List.length_map, List.length_take]
          omega
        · exact ⟨frs s5 f6, f6 _ _ hq5 qne.1 qne.2.1 qne.2.2, _, rfl, by rw [e]; exact hL6⟩
      · rintro σ H5 ⟨s5, hq5, v5, rfl, hL5⟩
        rw [List.length_map, List.length_map, List.take_length] at hL5
        obtain ⟨⟨dx5, hp5⟩, ⟨dj5, hj5⟩, hu5, hf5, ne5⟩ := hL5
        have lens : ∀ r ∈ rs ++ us.map (clR (gR uu l bds now)), (lineS r).length ≤ 60 := fun r hr => by
          rcases List.mem_append.mp hr with m | m
          · exact g3 r m
          · obtain ⟨u, hu, rfl⟩ := List.mem_map.mp m
            exact (hu9 u hu).2.2.2
        have hcl := catS_len lens
        rw [List.length_append, List.length_map] at hcl
        refine ⟨_, rfl, p, dx5, _, _, rfl, hp5, rfl, j, dj5, _, rfl, hj5, rfl, j, _, sy, rfl, ⟨dj5, hj5⟩, by omega, fun H6 hj6 f6 => ⟨_, rfl, ?_⟩⟩
        obtain ⟨k1, u1, u2⟩ := hu5
        obtain ⟨k2, f1, f2⟩ := hf5
        have t6 : ∀ y b, H5 y = some (.tup b) → H6 y = some (.tup b) := fun y b z => f6 _ _ z (ne_of z hj5 (by intro z; cases z))
        exact k p j d1 d2 H6 hp hj0 hd10 hd20 ⟨⟨dx5, f6 _ _ hp5 (jt_ne hp5 hj5)⟩, hj6, ⟨k1, f6 _ _ u1 (ne_of u1 hj5 (by intro z; cases z)), u2.mono t6⟩, ⟨k2, f6 _ _ f1 (ne_of f1 hj5 (by intro z; cases z)), f2.mono t6⟩, ne5⟩ fun b o e => f6 _ _ (s5 _ _ e) (ne_of_none e hj0)

end K13
set_option maxHeartbeats 1000000
set_option pp.maxSteps 500
namespace K13
open PySem PySem.Spec PyProof.Rows L2 SX TK NdefX K11 LD
open C8 (pe_c)
def spLName : Sp := fun vs H Q _ => ∃ z : Str, vs = [.str z] ∧ z.length ≤ 1000 ∧ ∀ H', Same H H' → Q (.bl (nameB z)) H'
theorem ok_law_is_name {P : Program} {w : World} {K : PySem.W.Frag} {mg : Str → Option Value} {base : Heap} {f : Addr} {fd : FuncData} (T : Tx K mg) 
    (F : FunD K "_law_is_name" "_law_is_name" (defArgs s_law_is_name) (defBody s_law_is_name) (defScope s_law_is_name) [] [] f fd) : FnOk P w K mg base CX0 1 f fd ["word"] spLName := by
  refine F.ok sc_law_is_name (fun vs H Q E h => ?_) (fun cdv A outer s0 H vs Q E hr h => ?_)
  · obtain ⟨z, rfl, _⟩ := h
    rfl
  · obtain ⟨z, rfl, hz, k⟩ := h
    have hz2 : z.length ≤ sizeLine := Nat.le_trans hz (by decide)
    have eN : nameB z = ((decide ((1 : Int) ≤ (z.length : Int)) && decide ((z.length : Int) ≤ 16)) && ((TL.tl z).all fun c => decide (c ∈ TL.tl zNM)) && decide ((TL.tl z).getD 0 0 ∈ TL.tl zSM)) := by
      unfold nameB consB consL
      rw [len_eq]
    have kF : nameB z = false → Q (.bl false) H := fun e => by
      have q := k H fun _ _ e => e
      rw [e] at q
      exact q
    refine ⟨_, PSs.nox (pss_cons (ps_set (i := 1) sc_law_is_name.nd rfl (Or.inr rfl) pe_str) (C8.pss_cut (ps_if (PW.pt (pw_or (pt_not (pt_chain op_le op_le pe_int (pe_callB call_len_str rfl T.f_len PySem.boot_len (pa_cons (pv 0) pa_nil)) pe_int)) (pw_or1 (pt_cmpR op_notIn_sign (pe_ix ix_str (pv 0) pe_int (fun _ _ => rfl)) (pv 1) (by with_unfolding_all rfl))))) (pss_one (ps_ret pe_bl)) pss_nil) (pss_one (ps_ret (pe_cmpR op_eq (pe_callB call_len_seq rfl T.f_len PySem.boot_len (pa_cons (pe_lc (own := [("char", 2)]) (g := gName 2) rfl sc_law_is_name.nd (pi_str (pv 0)) (blkOk_by (own := [("char", 2)]) (N := ["word", "small", "char"]) (sc := defScope s_law_is_name) (by decide +kernel)) (fun _ _ _ _ _ => pg_name (i := 2) sc_law_is_name.nd rfl (Or.inl rfl)) (fun _ _ _ _ _ => pts_one (pt_cmpR op_notIn_sign (pv 2) (pe_op op_add_str (pv 1) pe_str) (by with_unfolding_all rfl))) (fun _ _ _ _ _ => (pv 2))) pa_nil)) pe_int (nomark _)))))), ?_⟩
    refine ⟨fun σ' H' => (1 ≤ z.length ∧ z.length ≤ 16 ∧ (TL.tl z).getD 0 0 ∈ TL.tl zSM) ∧ σ' = [some (.str z), some (.str zSM), none] ∧ H' = H, ?_, ?_⟩
    · refine ⟨_, rfl, _, rfl, hz2, _, _, rfl, rfl, _, rfl, ?_⟩
      by_cases c1 : (1 : Int) ≤ (z.length : Int)
      · rw [decide_eq_true c1]
        refine iteT ⟨_, _, rfl, rfl, _, rfl, ?_⟩
        by_cases c2 : (z.length : Int) ≤ 16
        · rw [decide_eq_true c2]
          refine iteF ⟨_, rfl, z, 0, _, rfl, rfl, hz2, at0 0 (by rw [← len_eq]; omega), _, rfl, _, _, rfl, rfl, _, rfl, ?_⟩
          by_cases c3 : (TL.tl z).getD 0 0 ∈ TL.tl zSM
          · rw [decide_eq_true c3]
            exact iteF ⟨⟨by omega, by omega, c3⟩, rfl, rfl⟩
          · rw [decide_eq_false c3]
            exact iteT (kF (by rw [eN, decide_eq_false c3, Bool.and_false]))
        · rw [decide_eq_false c2]
          exact iteT (iteT (kF (by rw [eN, decide_eq_false c2, Bool.and_false, Bool.false_and, Bool.false_and])))
      · rw [decide_eq_false c1]
        exact iteF ⟨_, rfl, iteT (iteT (kF (by rw [eN, decide_eq_false c1, Bool.false_and, Bool.false_and, Bool.false_and])))⟩
    · rintro σ' H' ⟨⟨c1, c2, c3⟩, rfl, rfl⟩
      rw [decide_eq_true (show (1 : Int) ≤ (z.length : Int) by omega), decide_eq_true (show (z.length : Int) ≤ 16 by omega), decide_eq_true c3, Bool.and_true, Bool.and_true, Bool.true_and] at eN
      refine ⟨_, rfl, _, rfl, fun D hD => ?_⟩
      have hn : z.cps.size ≤ sizeLine := by
        rw [size_tl, ← len_eq]
        exact hz2
      have hat : ∀ (i c : Nat), z.cps[i]? = some c → (TL.tl z).getD i 0 = c := fun i c hc => by
        have h5 : (TL.tl z)[i]? = some c := by
          show z.cps.toList[i]? = some c
          rw [Array.getElem?_toList]
          exact hc
        rw [List.getD_eq_getElem?_getD, h5]
        rfl
      refine lc_filt walk_str (fun i => V.str (S [(TL.tl z).getD i 0])) (fun i => !decide ((TL.tl z).getD i 0 ∈ TL.tl zNM)) hn (fun _ _ => trivial) (fun i x H1 kk hi y qq => ?_) (fun i x H1 kk hi hb y qq => ?_) ?_
      · obtain ⟨rfl, c, hc, rfl⟩ := y
        rw [hat i c hc] at qq
        refine ⟨rfl, _, rfl, _, rfl, _, _, rfl, rfl, by decide +kernel, _, _, rfl, rfl, _, rfl, ?_⟩
        have e9 : (zSM ++ "0123456789" : Str) = zNM := by decide +kernel
        rw [e9]
        exact qq
      · obtain ⟨rfl, c, hc, rfl⟩ := y
        rw [hat i c hc] at qq
        exact ⟨_, rfl, qq⟩
      · refine ⟨D, _, rfl, .inl (SqL.of upd_same), rfl, ?_⟩
        have e8 : decide (V.int ((List.map (fun i => V.str (S [(TL.tl z).getD i 0])) (List.filter (fun i => !decide ((TL.tl z).getD i 0 ∈ TL.tl zNM)) (List.range z.cps.size))).length : Int) = V.int 0) = nameB z := by
          rw [dec_int, eN, List.length_map, Bool.eq_iff_iff, beq_iff_eq, List.all_eq_true]
          constructor
          · intro h x hx
            have h2 : List.filter (fun i => !decide ((TL.tl z).getD i 0 ∈ TL.tl zNM)) (List.range z.cps.size) = [] := List.length_eq_zero_iff.mp (by omega)
            obtain ⟨i, hi, rfl⟩ := List.mem_iff_getElem.mp hx
            have h3 := List.filter_eq_nil_iff.mp h2 i (List.mem_range.mpr (by rw [size_tl]; exact hi))
            rw [List.getD_eq_getElem?_getD, List.getElem?_eq_getElem hi] at h3
            simpa using h3
          · intro h
            have h2 : List.filter (fun i => !decide ((TL.tl z).getD i 0 ∈ TL.tl zNM)) (List.range z.cps.size) = [] := by
              refine List.filter_eq_nil_iff.mpr fun i hi => ?_
              have hi2 : i < (TL.tl z).length := by have := List.mem_range.mp hi; rw [size_tl] at this; exact this
              have h4 := h (TL.tl z)[i] (List.getElem_mem _)
              rw [List.getD_eq_getElem?_getD, List.getElem?_eq_getElem hi2]
              simpa using h4
            rw [h2]
            rfl
        rw [e8]
        exact k _ (same_upd hD)

/-! ### the law's own readings of words -/
theorem dv_lt : ∀ n (l : List Nat), l.length = n → (∀ c ∈ l, 48 ≤ c ∧ c ≤ 57) → NumText.digitsVal l < 10 ^ n
  | 0, l, h, _ => by
    obtain rfl := List.length_eq_zero_iff.mp h
    decide
  | n + 1, l, h, hd => by
    have hne : l ≠ [] := by
      rintro rfl
      cases h
    obtain ⟨l', c, rfl⟩ : ∃ l' c, l = l' ++ [c] := ⟨l.dropLast, l.getLast hne, (List.dropLast_concat_getLast hne).symm⟩
    rw [List.length_append] at h
    have ih := dv_lt n l' (by have : ([c] : List Nat).length = 1 := rfl; omega) fun x hx => hd x (List.mem_append_left _ hx)
    have hc := hd c (List.mem_append_right _ (List.mem_singleton.mpr rfl))
    rw [NumText.digitsVal_snoc, Nat.pow_succ]
    omega
theorem num_canon {w : Str} {i : Int} (h : numO w = some i) : numS i = w := by
  unfold numO at h
  split at h
  · rename_i h1
    split at h
    · cases h
    · rename_i h2
      split at h
      · have hl := consB_len h1
        have hd := digits_of hl.2.2
        obtain rfl := Option.some.inj h
        show Str.ofString (toString (((NumText.digitsVal (TL.tl w) : Nat)) : Int)) = w
        rw [num_S]
        obtain ⟨k, hk⟩ : ∃ k, (TL.tl w).length = k + 1 := ⟨(TL.tl w).length - 1, by omega⟩
        have e := NumText.toDigits_digitsVal k (TL.tl w) hk hd (by
          by_cases k0 : k = 0
          · exact .inl k0
          · right
            cases q : TL.tl w with
            | nil => rw [q] at hk; cases hk
            | cons c r =>
              refine ⟨c, r, rfl, ?_⟩
              have hc := hd c (by rw [q]; exact List.mem_cons_self ..)
              by_cases c48 : c = 48
              · exfalso
                apply h2
                rw [q, c48]
                rw [Bool.and_eq_true]
                refine ⟨decide_eq_true (by rw [show ("0" : Str) = S [48] by decide +kernel]; rfl), ?_⟩
                rw [Bool.not_eq_true', decide_eq_false_iff_not]
                intro z
                have z2 := V.str.inj z
                rw [z2] at hk
                have : (TL.tl ("0" : Str)).length = 1 := by decide +kernel
                omega
              · omega)
        apply TL.ext_tl
        show TL.numL (NumText.digitsVal (TL.tl w)) = TL.tl w
        unfold TL.numL
        rw [e, List.map_map]
        have e2 : ∀ l : List Nat, (∀ c ∈ l, 48 ≤ c ∧ c ≤ 57) → l.map (Char.toNat ∘ Char.ofNat) = l := fun l hl => by
          conv => rhs; rw [← List.map_id l]
          refine List.map_congr_left fun c hc => ?_
          have := hl c hc
          show (Char.ofNat c).toNat = c
          exact (by decide : ∀ c : Fin 58, (Char.ofNat c.1).toNat = c.1) ⟨c, by omega⟩
        exact e2 _ hd
      · cases h
  · cases h
def nlB (z : Str) : Bool := ((decide ((1 : Int) ≤ (z.length : Int)) && decide ((z.length : Int) ≤ 9)) && !(decide (V.str (S [(TL.tl z).getD 0 0]) = V.str "0") && !decide (V.str z = V.str "0"))) && (TL.tl z).all fun c => decide (c ∈ TL.tl zDG)
theorem nlB_O (z : Str) : nlB z = (numO z).isSome := by
  have e : consB z zDG 9 = ((decide ((1 : Int) ≤ (z.length : Int)) && decide ((z.length : Int) ≤ 9)) && (TL.tl z).all fun c => decide (c ∈ TL.tl zDG)) := by
    unfold consB consL
    rw [len_eq]
  unfold nlB numO
  by_cases h1 : consB z zDG 9 = true
  · rw [if_pos h1]
    have hl := consB_len h1
    rw [e, Bool.and_eq_true] at h1
    rw [h1.1, h1.2, Bool.true_and, Bool.and_true]
    generalize (decide (V.str (S [(TL.tl z).getD 0 0]) = V.str "0") && !decide (V.str z = V.str "0")) = b
    cases b with
    | true => rfl
    | false =>
      have lt := dv_lt _ (TL.tl z) rfl (digits_of hl.2.2)
      have le : (10 : Nat) ^ (TL.tl z).length ≤ 10 ^ 9 := Nat.pow_le_pow_right (by decide) (by omega)
      rw [if_neg Bool.false_ne_true, if_pos (by have : (10 : Nat) ^ 9 = 1000000000 := by decide
                                                omega)]
      rfl
  · rw [if_neg h1]
    rw [e] at h1
    cases h2 : (decide ((1 : Int) ≤ (z.length : Int)) && decide ((z.length : Int) ≤ 9)) with
    | false => rw [Bool.false_and, Bool.false_and]; rfl
    | true =>
      rw [h2, Bool.true_and] at h1
      rw [ef h1, Bool.and_false]
      rfl
def spLNum : Sp := fun vs H Q _ => ∃ z : Str, vs = [.str z] ∧ z.length ≤ 1000 ∧ ∀ H', Same H H' → Q (.bl (numO z).isSome) H'
theorem ok_law_is_number {P : Program} {w : World} {K : PySem.W.Frag} {mg : Str → Option Value} {base : Heap} {f : Addr} {fd : FuncData} (T : Tx K mg) 
    (F : FunD K "_law_is_number" "_law_is_number" (defArgs s_law_is_number) (defBody s_law_is_number) (defScope s_law_is_number) [] [] f fd) : FnOk P w K mg base CX0 1 f fd ["word"] spLNum := by
  refine F.ok sc_law_is_number (fun vs H Q E h => ?_) (fun cdv A outer s0 H vs Q E hr h => ?_)
  · obtain ⟨z, rfl, _⟩ := h
    rfl
  · obtain ⟨z, rfl, hz, k⟩ := h
    have hz2 : z.length ≤ sizeLine := Nat.le_trans hz (by decide)
    have eN : (numO z).isSome = nlB z := (nlB_O z).symm
    unfold nlB at eN
    have kF : (numO z).isSome = false → Q (.bl false) H := fun e => by
      have q := k H fun _ _ e => e
      rw [e] at q
      exact q
    refine ⟨_, PSs.nox (C8.pss_cut (ps_if (PW.pt (pw_or (pt_not (pt_chain op_le op_le pe_int (pe_callB call_len_str rfl T.f_len PySem.boot_len (pa_cons (pv 0) pa_nil)) pe_int)) (pw_or1 (PW.pt (pw_and (pt_cmpR op_eq (pe_ix ix_str (pv 0) pe_int (fun _ _ => rfl)) pe_str (nomark _)) (pw_and1 (pt_cmpR op_ne (pv 0) pe_str (nomark _)))))))) (pss_one (ps_ret pe_bl)) pss_nil) (pss_one (ps_ret (pe_cmpR op_eq (pe_callB call_len_seq rfl T.f_len PySem.boot_len (pa_cons (pe_lc (own := [("char", 1)]) (g := gName 1) rfl sc_law_is_number.nd (pi_str (pv 0)) (blkOk_by (own := [("char", 1)]) (N := ["word", "char"]) (sc := defScope s_law_is_number) (by decide +kernel)) (fun _ _ _ _ _ => pg_name (i := 1) sc_law_is_number.nd rfl (Or.inl rfl)) (fun _ _ _ _ _ => pts_one (pt_cmpR op_notIn_sign (pv 1) pe_str (by with_unfolding_all rfl))) (fun _ _ _ _ _ => (pv 1))) pa_nil)) pe_int (nomark _))))), ?_⟩
    refine ⟨fun σ' H' => (1 ≤ z.length ∧ z.length ≤ 9 ∧ (decide (V.str (S [(TL.tl z).getD 0 0]) = V.str "0") && !decide (V.str z = V.str "0")) = false) ∧ σ' = [some (.str z), none] ∧ H' = H, ?_, ?_⟩
    · refine ⟨_, rfl, _, rfl, hz2, _, _, rfl, rfl, _, rfl, ?_⟩
      by_cases c1 : (1 : Int) ≤ (z.length : Int)
      · rw [decide_eq_true c1]
        refine iteT ⟨_, _, rfl, rfl, _, rfl, ?_⟩
        by_cases c2 : (z.length : Int) ≤ 9
        · rw [decide_eq_true c2]
          rw [decide_eq_true c1, decide_eq_true c2, Bool.true_and, Bool.true_and] at eN
          refine iteF ⟨_, rfl, z, 0, _, rfl, rfl, hz2, at0 0 (by rw [← len_eq]; omega), rfl, _, rfl, ?_⟩
          refine ite2 (fun h3 => ?_) (fun h3 => ?_)
          · refine ⟨_, rfl, rfl, _, rfl, ?_⟩
            refine ite2 (fun h4 => ?_) (fun h4 => ?_)
            · exact kF (by rw [eN, h3, h4]; rfl)
            · exact ⟨⟨by omega, by omega, by rw [h3, ef h4]; rfl⟩, rfl, rfl⟩
          · exact iteF ⟨⟨by omega, by omega, by rw [ef h3]; rfl⟩, rfl, rfl⟩
        · rw [decide_eq_false c2]
          exact iteT (iteT (kF (by rw [eN, decide_eq_false c2, Bool.and_false, Bool.false_and, Bool.false_and])))
      · rw [decide_eq_false c1]
        exact iteF ⟨_, rfl, iteT (iteT (kF (by rw [eN, decide_eq_false c1, Bool.false_and, Bool.false_and, Bool.false_and])))⟩
    · rintro σ' H' ⟨⟨c1, c2, c3⟩, rfl, rfl⟩
      rw [decide_eq_true (show (1 : Int) ≤ (z.length : Int) by omega), decide_eq_true (show (z.length : Int) ≤ 9 by omega), c3, Bool.and_true] at eN
      replace eN : (numO z).isSome = (TL.tl z).all fun c => decide (c ∈ TL.tl zDG) := eN
      refine ⟨_, rfl, _, rfl, fun D hD => ?_⟩
      have hn : z.cps.size ≤ sizeLine := by
        rw [size_tl, ← len_eq]
        exact hz2
      have hat : ∀ (i c : Nat), z.cps[i]? = some c → (TL.tl z).getD i 0 = c := fun i c hc => by
        have h5 : (TL.tl z)[i]? = some c := by
          show z.cps.toList[i]? = some c
          rw [Array.getElem?_toList]
          exact hc
        rw [List.getD_eq_getElem?_getD, h5]
        rfl
      refine lc_filt walk_str (fun i => V.str (S [(TL.tl z).getD i 0])) (fun i => !decide ((TL.tl z).getD i 0 ∈ TL.tl zDG)) hn (fun _ _ => trivial) (fun i x H1 kk hi y qq => ?_) (fun i x H1 kk hi hb y qq => ?_) ?_
      · obtain ⟨rfl, c, hc, rfl⟩ := y
        rw [hat i c hc] at qq
        exact ⟨rfl, _, rfl, _, _, rfl, rfl, _, rfl, qq⟩
      · obtain ⟨rfl, c, hc, rfl⟩ := y
        rw [hat i c hc] at qq
        exact ⟨_, rfl, qq⟩
      · refine ⟨D, _, rfl, .inl (SqL.of upd_same), rfl, ?_⟩
        have e8 : decide (V.int ((List.map (fun i => V.str (S [(TL.tl z).getD i 0])) (List.filter (fun i => !decide ((TL.tl z).getD i 0 ∈ TL.tl zDG)) (List.range z.cps.size))).length : Int) = V.int 0) = (numO z).isSome := by
          rw [dec_int, eN, List.length_map, Bool.eq_iff_iff, beq_iff_eq, List.all_eq_true]
          constructor
          · intro h x hx
            have h2 : List.filter (fun i => !decide ((TL.tl z).getD i 0 ∈ TL.tl zDG)) (List.range z.cps.size) = [] := List.length_eq_zero_iff.mp (by omega)
            obtain ⟨i, hi, rfl⟩ := List.mem_iff_getElem.mp hx
            have h3 := List.filter_eq_nil_iff.mp h2 i (List.mem_range.mpr (by rw [size_tl]; exact hi))
            rw [List.getD_eq_getElem?_getD, List.getElem?_eq_getElem hi] at h3
            simpa using h3
          · intro h
            have h2 : List.filter (fun i => !decide ((TL.tl z).getD i 0 ∈ TL.tl zDG)) (List.range z.cps.size) = [] := by
              refine List.filter_eq_nil_iff.mpr fun i hi => ?_
              have hi2 : i < (TL.tl z).length := by have := List.mem_range.mp hi; rw [size_tl] at this; exact this
              have h4 := h (TL.tl z)[i] (List.getElem_mem _)
              rw [List.getD_eq_getElem?_getD, List.getElem?_eq_getElem hi2]
              simpa using h4
            rw [h2]
            rfl
        rw [e8]
        exact k _ (same_upd hD)

def spLAddr : Sp := fun vs H Q _ => ∃ z : Str, vs = [.str z] ∧ z.length ≤ 900 ∧ ∀ H', Same H H' → Q (.bl (splitB z).isSome) H'
theorem ok_law_is_address {P : Program} {w : World} {K : PySem.W.Frag} {mg : Str → Option Value} {base : Heap} {f : Addr} {fd : FuncData} (T : Tx K mg) (c_law_is_name : C8.Cal P w K mg base 1 "_law_is_name" spLName [])
    (F : FunD K "_law_is_address" "_law_is_address" (defArgs s_law_is_address) (defBody s_law_is_address) (defScope s_law_is_address) [] [] f fd) : FnOk P w K mg base CX0 2 f fd ["word"] spLAddr := by
  refine F.ok sc_law_is_address (fun vs H Q E h => ?_) (fun cdv A outer s H vs Q E hr h => ?_)
  · obtain ⟨z, rfl, _⟩ := h
    rfl
  · obtain ⟨z, rfl, hz, k⟩ := h
    have hz2 : z.length + 2 ≤ sizeLine := Nat.le_trans (Nat.add_le_add_right hz 2) (by decide)
    refine ⟨_, PSs.nox (pss_cons (ps_set (i := 1) sc_law_is_address.nd rfl (Or.inl rfl) (pe_split (pv 0) pe_str)) (pss_one (ps_ret (pe_and (pe_cmpR op_eq (pe_callB call_len_seq rfl T.f_len PySem.boot_len (pa_cons (pv 1) pa_nil)) pe_int (nomark _)) (pe_and (pe_c c_law_is_name hr (by decide) rfl (pa_cons (pe_ix ix_list (pv 1) pe_int (fun _ _ => rfl)) pa_nil)) (pe_one (pe_c c_law_is_name hr (by decide) rfl (pa_cons (pe_ix ix_list (pv 1) pe_int (fun _ _ => rfl)) pa_nil)))))))), ?_⟩
    refine ⟨_, rfl, ⟨_, rfl⟩, z, "@", rfl, rfl, by decide +kernel, hz2, fun p hp => ?_⟩
    have s1 := same_upd (o := .lst ((Txt.split z "@").map V.str)) hp
    have hlen : ∀ x ∈ Txt.split z "@", x.length ≤ z.length := fun x hx => part_len hx
    have eB : splitB z = splitO (Txt.split z "@") := rfl
    generalize Txt.split z "@" = ys at *
    refine ⟨_, rfl, p, _, rfl, .inl (SqL.of upd_same), rfl, ?_⟩
    rw [List.length_map, dec_int]
    by_cases h2 : ys.length = 2
    · obtain ⟨u, w, rfl⟩ : ∃ u w, ys = [u, w] := by
        match ys, h2 with
        | [a, b], _ => exact ⟨a, b, rfl⟩
      have eB2 : (splitB z).isSome = (nameB u && nameB w) := by
        rw [eB]
        show (if (nameB u && nameB w) = true then some (u, w) else none).isSome = _
        split
        · rename_i q
          rw [q]; rfl
        · rename_i q
          rw [ef q]; rfl
      refine ⟨_, rfl, iteT ⟨_, rfl, p, _, 0, _, rfl, rfl, SqL.of upd_same, rfl, ?_⟩⟩
      refine ⟨u, rfl, Nat.le_trans (hlen u (by simp)) (by omega), fun H2 s2 => ⟨_, rfl, ?_⟩⟩
      refine ite2 (fun h3 => ?_) (fun h3 => ?_)
      · refine ⟨_, rfl, p, _, 1, _, rfl, rfl, SqL.of (s2 _ _ upd_same), rfl, w, rfl, Nat.le_trans (hlen w (by simp)) (by omega), fun H3 s3 => ?_⟩
        have q := k H3 ((s1.trans s2).trans s3)
        rw [eB2, h3, Bool.true_and] at q
        exact q
      · have q := k H2 (s1.trans s2)
        rw [eB2, ef h3, Bool.false_and] at q
        exact q
    · have eB2 : (splitB z).isSome = false := by
        rw [eB]
        unfold splitO
        split
        · exact absurd rfl h2
        · rfl
      have q := k _ s1
      rw [eB2] at q
      rw [show ((ys.length : Int) == 2) = false by simp only [beq_eq_false_iff_ne]; omega]
      exact ⟨_, rfl, iteF q⟩

end K13
set_option maxHeartbeats 1000000
set_option pp.maxSteps 500
namespace K13
open PySem PySem.Spec PyProof.Rows L2 SX TK NdefX K11 LD
open C8 (pe_c)
/-! ### an offer's words, read back -/
theorem numL_zero : ∀ n : Nat, (TL.numL n).getD 0 0 = 48 → n = 0 := by
  intro n
  induction n using Nat.strongRecOn with
  | _ n ih =>
    intro h
    by_cases h1 : n < 10
    · rw [TL.numL_lt h1] at h
      have : 48 + n = 48 := h
      omega
    · have h2 : 10 ≤ n := by omega
      rw [TL.numL_step h2] at h
      have h3 : (TL.numL (n / 10)).getD 0 0 = 48 := by
        cases e : TL.numL (n / 10) with
        | nil => exact absurd e (TL.numL_ne _)
        | cons a r =>
          rw [e] at h
          exact h
      have := ih (n / 10) (by omega) h3
      omega
theorem digits_in : ∀ c, 48 ≤ c → c ≤ 57 → c ∈ TL.tl zDG := by
  intro c h1 h2
  have e : TL.tl zDG = [48, 49, 50, 51, 52, 53, 54, 55, 56, 57] := by decide +kernel
  rw [e]
  simp only [List.mem_cons, List.not_mem_nil, or_false]
  omega
theorem num_back {i m : Int} (h0 : 0 ≤ i) (h1 : i ≤ m) (h2 : i ≤ 999999999) : numV (Str.ofString (toString i)) m = .int i := by
  obtain ⟨n, rfl⟩ := Int.eq_ofNat_of_zero_le h0
  rw [num_S]
  have hl : (TL.numL n).length ≤ 9 := TL.numL_len (by decide) (by omega)
  have hp : 0 < (TL.numL n).length := List.length_pos_iff.mpr (TL.numL_ne n)
  have hd := TL.numL_digits n
  have c1 : consB (S (TL.numL n)) zDG 9 = true := by
    unfold consB consL
    rw [Bool.and_eq_true, Bool.and_eq_true, decide_eq_true_eq, decide_eq_true_eq, List.all_eq_true]
    refine ⟨⟨?_, ?_⟩, fun c hc => decide_eq_true (digits_in c (hd c hc).1 (hd c hc).2)⟩
    · show (1 : Int) ≤ ((TL.numL n).length : Int)
      omega
    · show ((TL.numL n).length : Int) ≤ 9
      omega
  have c2 : (decide (V.str (S [(TL.tl (S (TL.numL n))).getD 0 0]) = V.str "0") && !decide (V.str (S (TL.numL n)) = V.str "0")) = false := by
    by_cases e : (TL.numL n).getD 0 0 = 48
    · have e0 := numL_zero n e
      subst e0
      decide +kernel
    · have e1 : decide (V.str (S [(TL.tl (S (TL.numL n))).getD 0 0]) = V.str "0") = false := decide_eq_false fun q => e (by
        have q2 := V.str.inj q
        rw [show ("0" : Str) = S [48] by decide +kernel] at q2
        exact (List.cons.inj (S_inj q2)).1)
      rw [e1]
      rfl
  unfold numV
  rw [if_pos c1, if_neg (by rw [c2]; exact Bool.false_ne_true)]
  show (if ((NumText.digitsVal (TL.numL n) : Nat) : Int) ≤ m then V.int (NumText.digitsVal (TL.numL n) : Nat) else .non) = _
  rw [TL.numL_val, if_pos h1]
theorem joinL_free {c : Nat} {s : List Nat} (hs : c ∉ s) : ∀ l : List (List Nat), (∀ p ∈ l, c ∉ p) → c ∉ TL.joinL s l
  | [], _ => by simp [TL.joinL]
  | [p], h => h p (by simp)
  | p :: q :: r, h => by
    show c ∉ p ++ (s ++ TL.joinL s (q :: r))
    rw [List.mem_append, List.mem_append]
    rintro (z | z | z)
    · exact h p (by simp) z
    · exact hs z
    · exact joinL_free hs (q :: r) (fun x hx => h x (List.mem_cons_of_mem _ hx)) z
theorem str_noblank {i : Int} (h0 : 0 ≤ i) : 32 ∉ TL.tl (Str.ofString (toString i)) := by
  obtain ⟨n, rfl⟩ := Int.eq_ofNat_of_zero_le h0
  rw [TL.tl_num]
  exact TL.numL_free (by omega)

theorem num_O {i : Int} (h : nOk i) : numO (numS i) = some i := by
  have e := num_back h.1 h.2 h.2
  rw [show (Str.ofString (toString i)) = numS i from rfl, numV_O] at e
  cases q : numO (numS i) with
  | none => rw [q] at e; cases e
  | some k => rw [q] at e; rw [V.int.inj e]
theorem split32 {z : Str} {ps : List (List Nat)} (hne : ps ≠ []) (e : TL.tl z = TL.joinL [32] ps) (hp : ∀ p ∈ ps, 32 ∉ p) : Txt.split z " " = ps.map S := by
  rw [show (" " : Str) = S [32] by decide +kernel]
  have e1 : z = S (TL.joinL [32] ps) := by rw [← e]
  rw [e1, split_S (by simp) (by decide), spl_join hne hp]
theorem line_back {r : Rc} (h : RcOk r) : recL (lineS r) = some r := by
  cases r with
  | op n c a t =>
    obtain ⟨hn, ht, hc, ha, _⟩ := h
    have es : Txt.split (lineS (.op n c a t)) " " = ([TL.tl ("open" : Str), TL.tl (numS n), TL.tl c, TL.tl a, TL.tl (numS t)] : List (List Nat)).map S := by
      refine split32 (by simp) ?_ ?_
      · unfold lineS
        simp only [TL.tl_append]
        rw [show TL.tl Str.empty = [] from rfl, show TL.tl ("open " : Str) = TL.tl ("open" : Str) ++ [32] by decide +kernel, show TL.tl (" " : Str) = [32] by decide +kernel]
        simp [TL.joinL]
      · intro p hp
        simp only [List.mem_cons, List.not_mem_nil, or_false] at hp
        rcases hp with rfl | rfl | rfl | rfl | rfl
        · decide +kernel
        · exact str_noblank hn.1
        · exact hc.2.1
        · exact ha.2.1
        · exact str_noblank ht.1
    unfold recL
    rw [es]
    show (if ("open" : Str) = "open" then (match numO (numS n), numO (numS t) with
      | some n, some t => if ((splitB c).isSome && (splitB a).isSome) = true then some (Rc.op n c a t) else none
      | _, _ => none) else none) = _
    rw [num_O hn, num_O ht, hc.1, ha.1]
    rfl
  | cl n e k =>
    obtain ⟨hn, he, hk, _⟩ := h
    have es : Txt.split (lineS (.cl n e k)) " " = ([TL.tl ("close" : Str), TL.tl (numS n), TL.tl (numS e), TL.tl (numS k)] : List (List Nat)).map S := by
      refine split32 (by simp) ?_ ?_
      · unfold lineS
        simp only [TL.tl_append]
        rw [show TL.tl Str.empty = [] from rfl, show TL.tl ("close " : Str) = TL.tl ("close" : Str) ++ [32] by decide +kernel, show TL.tl (" " : Str) = [32] by decide +kernel]
        simp [TL.joinL]
      · intro p hp
        simp only [List.mem_cons, List.not_mem_nil, or_false] at hp
        rcases hp with rfl | rfl | rfl | rfl
        · decide +kernel
        · exact str_noblank hn.1
        · exact str_noblank he.1
        · exact str_noblank hk.1
    unfold recL
    rw [es]
    show (if ("close" : Str) = "close" then (match numO (numS n), numO (numS e), numO (numS k) with
      | some n, some e, some k => some (Rc.cl n e k)
      | _, _, _ => none) else none) = _
    rw [num_O hn, num_O he, num_O hk]
    rfl
theorem num_nonl {i : Int} (h : 0 ≤ i) : 10 ∉ TL.tl (numS i) := by
  obtain ⟨n, rfl⟩ := Int.eq_ofNat_of_zero_le h
  rw [show numS ((n : Nat) : Int) = Str.ofString (toString ((n : Nat) : Int)) from rfl, TL.tl_num]
  exact TL.numL_free (by omega)
theorem line_nonl {r : Rc} (h : RcOk r) : 10 ∉ TL.tl (lineS r) := by
  have e0 : (10 : Nat) ∉ TL.tl Str.empty := by decide
  have e1 : 10 ∉ TL.tl ("open " : Str) := by decide +kernel
  have e2 : 10 ∉ TL.tl ("close " : Str) := by decide +kernel
  have e3 : 10 ∉ TL.tl (" " : Str) := by decide +kernel
  cases r with
  | op n c a t =>
    obtain ⟨hn, ht, hc, ha, _⟩ := h
    have a1 := num_nonl hn.1
    have a2 := num_nonl ht.1
    have a3 := hc.2.2
    have a4 := ha.2.2
    unfold lineS
    simp only [TL.tl_append, List.mem_append, not_or]
    exact ⟨⟨⟨⟨⟨⟨⟨⟨e0, e1⟩, a1⟩, e3⟩, a3⟩, e3⟩, a4⟩, e3⟩, a2⟩
  | cl n e k =>
    obtain ⟨hn, he, hk, _⟩ := h
    have a1 := num_nonl hn.1
    have a2 := num_nonl he.1
    have a3 := num_nonl hk.1
    unfold lineS
    simp only [TL.tl_append, List.mem_append, not_or]
    exact ⟨⟨⟨⟨⟨⟨e0, e2⟩, a1⟩, e3⟩, a2⟩, e3⟩, a3⟩
theorem crash {rs : List Rc} (h : ∀ r ∈ rs, RcOk r) {m : Int} (hm : 0 ≤ m) : ∃ k, k ≤ rs.length ∧ readJ (Txt.slice (catS rs) none (some m)) = (rs.take k).map lineS ∧ ∀ j, j ≤ rs.length → ((catS (rs.take j)).length : Int) ≤ m → j ≤ k := by
  have hf : ∀ x ∈ rs.map (fun r => TL.tl (lineS r)), 10 ∉ x := fun x hx => by
    obtain ⟨r, hr, rfl⟩ := List.mem_map.mp hx
    exact line_nonl (h r hr)
  obtain ⟨k, X, k1, k2, k3, _, k5⟩ := dec (rs.map fun r => TL.tl (lineS r)) m.toNat hf
  rw [List.length_map] at k1 k5
  refine ⟨k, k1, ?_, fun j hj hl => k5 j hj ?_⟩
  · rw [slTo _ hm]
    show readJ (S ((cat (rs.map fun r => TL.tl (lineS r))).take m.toNat)) = _
    rw [k2, readJ_cat _ fun x hx => hf x (List.mem_of_mem_take hx), readJ_free k3, List.append_nil, ← List.map_take, List.map_map]
    rfl
  · have e : ((catS (rs.take j)).length : Int) = ((cat ((rs.map fun r => TL.tl (lineS r)).take j)).length : Int) := by
      rw [len_eq]
      show (((cat ((rs.take j).map fun r => TL.tl (lineS r)))).length : Int) = _
      rw [List.map_take]
    rw [e] at hl
    omega
theorem recs_back {rs : List Rc} (h : ∀ r ∈ rs, RcOk r) : (rs.map lineS).map recL = rs.map some := by
  rw [List.map_map]
  exact List.map_congr_left fun r hr => line_back (h r hr)
theorem readJ_all {rs : List Rc} (h : ∀ r ∈ rs, RcOk r) {m : Int} (hm : ((catS rs).length : Int) ≤ m) : readJ (Txt.slice (catS rs) none (some m)) = rs.map lineS := by
  obtain ⟨k, k1, k2, k3⟩ := crash h (m := m) (by omega)
  have := k3 rs.length (Nat.le_refl _) (by rw [List.take_length]; exact hm)
  obtain rfl : k = rs.length := by omega
  rw [k2, List.take_length]
theorem cl_ok {n e k : Int} (hn : nOk n) (he : nOk e) (hk : nOk k) : RcOk (.cl n e k) := by
  refine ⟨hn, he, hk, ?_⟩
  have a := numS_len hn.ab
  have b := numS_len he.ab
  have c := numS_len hk.ab
  unfold lineS
  simp only [cat_len, emp0, k_cl, k_bl]
  omega

end K13
set_option maxHeartbeats 1000000
set_option pp.maxSteps 500
namespace K13
open PySem PySem.Spec PyProof.Rows L2 SX TK NdefX K11 LD
open C8 (pe_c)
/-! ### the texts that the law makes -/
def sg (c : Nat) : Prop := c ≠ 10 ∧ c < 128
instance (c : Nat) : Decidable (sg c) := inferInstanceAs (Decidable (c ≠ 10 ∧ c < 128))
def tx (n : Nat) (z : Str) : Prop := z.length ≤ n ∧ ∀ c ∈ TL.tl z, sg c
theorem tx.nl {n : Nat} {z : Str} (h : tx n z) : 10 ∉ TL.tl z := fun m => (h.2 _ m).1 rfl
theorem tx.cat {a b : Nat} {x y : Str} (h : tx a x) (k : tx b y) : tx (a + b) (x ++ y) := by
  refine ⟨?_, fun c hc => ?_⟩
  · rw [cat_len]
    exact Nat.add_le_add h.1 k.1
  · rw [TL.tl_append, List.mem_append] at hc
    rcases hc with z | z
    · exact h.2 _ z
    · exact k.2 _ z
theorem tx.mono {a b : Nat} {x : Str} (h : tx a x) (k : a ≤ b) : tx b x := ⟨Nat.le_trans h.1 k, h.2⟩
theorem tx.pre {a : Nat} {x : Str} (h : tx a x) {i : Int} (hi : 0 ≤ i) : tx a (Txt.slice x none (some i)) := by
  rw [slTo _ hi]
  refine ⟨?_, fun c z => h.2 _ (List.mem_of_mem_take z)⟩
  rw [S_len]
  have := h.1
  rw [len_eq] at this
  exact Nat.le_trans (List.length_take_le' ..) this
theorem sg_num (n : Nat) : ∀ c ∈ TL.numL n, sg c := fun c hc => by
  have := TL.numL_digits n c hc
  exact ⟨by omega, by omega⟩
theorem tx_num {i : Int} (h : nOk i) : tx 9 (numS i) := by
  obtain ⟨n, rfl⟩ := Int.eq_ofNat_of_zero_le h.1
  rw [tx, len_eq, show numS ((n : Nat) : Int) = Str.ofString (toString ((n : Nat) : Int)) from rfl, TL.tl_num]
  exact ⟨TL.numL_len (by decide) (by have := h.2; omega), sg_num n⟩
theorem tx_num1 {i : Int} (h : 0 ≤ i) (k : i < 10) : tx 1 (numS i) := by
  obtain ⟨n, rfl⟩ := Int.eq_ofNat_of_zero_le h
  rw [tx, len_eq, show numS ((n : Nat) : Int) = Str.ofString (toString ((n : Nat) : Int)) from rfl, TL.tl_num]
  exact ⟨TL.numL_len (by decide) (by omega), sg_num n⟩
theorem tx_rep {a : Nat} {x y z : Str} {c : Nat} (hy : TL.tl y = [c]) (hz : (TL.tl z).length ≤ 2) (hz2 : ∀ k ∈ TL.tl z, sg k) (h : tx a x) : tx (2 * a) (Txt.replace x y z) := by
  have e : TL.tl (Txt.replace x y z) = PySem.StrLaws.replL [c] (TL.tl z) (TL.tl x) := by
    show (Txt.replace x y z).cps.toList = _
    rw [PySem.StrLaws.replace_list (by rw [len_eq, hy]; exact Nat.le_refl 1)]
    show PySem.StrLaws.replL (TL.tl y) (TL.tl z) (TL.tl x) = _
    rw [hy]
  refine ⟨?_, fun k m => ?_⟩
  · rw [len_eq, e]
    have := repl1_len c (TL.tl z) hz (TL.tl x)
    have h1 := h.1
    rw [len_eq] at h1
    omega
  · rw [e] at m
    rcases repl1_mem c _ _ _ m with q | q
    · exact h.2 _ q
    · exact hz2 _ q
theorem joinL_part {s : List Nat} {c : Nat} : ∀ (l : List (List Nat)) (p : List Nat), p ∈ l → c ∈ p → c ∈ TL.joinL s l
  | [p], q, h, hc => by
    rw [List.mem_singleton.mp h] at hc
    exact hc
  | p :: q :: r, x, h, hc => by
    show c ∈ p ++ (s ++ TL.joinL s (q :: r))
    rw [List.mem_append, List.mem_append]
    rcases List.mem_cons.mp h with e | e
    · exact .inl (e ▸ hc)
    · exact .inr (.inr (joinL_part (q :: r) x e hc))
theorem tx.part {n : Nat} {z y p : Str} (h : tx n z) (hp : p ∈ Txt.split z y) : tx n p := by
  refine ⟨Nat.le_trans (part_len hp) h.1, fun c hc => h.2 c ?_⟩
  have e := congrArg TL.tl (StrLaws.join_split z y)
  rw [TL.tl_join] at e
  rw [← e]
  exact joinL_part _ _ (List.mem_map.mpr ⟨p, hp, rfl⟩) hc
theorem tx.ok {n : Nat} {z : Str} (h : tx n z) : PyData.strOk z = true := ok_iff.mpr fun c hc => by have := (h.2 c hc).2; omega
theorem tx.le {a b : Nat} {x y : Str} (h : tx a x) (k : tx b y) (hab : a + b ≤ 1000 := by decide) : x.length + y.length ≤ sizeLine :=
  Nat.le_trans (Nat.add_le_add h.1 k.1) (Nat.le_trans hab (by decide))
theorem tx_bl : tx 1 " " := ⟨by decide +kernel, by decide +kernel⟩
theorem tx_op : tx 5 "open " := ⟨by decide +kernel, by decide +kernel⟩
theorem tx_cl : tx 6 "close " := ⟨by decide +kernel, by decide +kernel⟩
def spLNo : Sp := fun vs H Q _ => ∃ s c : Addr, vs = [.ref s] ∧ StAt H s c ∧ ∀ z H', tx 9 z → StAt H' s c → Keep H H' s c → Q (.str z) H'
theorem ok_law_number {P : Program} {w : World} {K : PySem.W.Frag} {mg : Str → Option Value} {base : Heap} {f : Addr} {fd : FuncData} (T : Tx K mg) (c_law_pick : C8.Cal P w K mg base 2 "_law_pick" spPick []) (c_law_draw : C8.Cal P w K mg base 1 "_law_draw" spDraw [])
    (F : FunD K "_law_number" "_law_number" (defArgs s_law_number) (defBody s_law_number) (defScope s_law_number) [] [] f fd) : FnOk P w K mg base CX0 3 f fd ["state"] spLNo := by
  refine F.ok sc_law_number (fun vs H Q E h => ?_) (fun cdv A outer s0 H vs Q E hr h => ?_)
  · obtain ⟨s, c, rfl, _⟩ := h
    rfl
  · obtain ⟨s, c, rfl, hst, k⟩ := h
    refine ⟨_, PSs.nox (pss_one (ps_ret (pe_c c_law_pick hr (by decide) rfl (pa_cons (pv 0) (pa_cons (pe_lst (pa_cons pe_str (pa_cons pe_str (pa_cons pe_str (pa_cons pe_str (pa_cons pe_str (pa_cons pe_str (pa_cons (pe_callTy call_str_int rfl T.f_str (by decide +kernel) (pa_cons (pe_c c_law_draw hr (by decide) rfl (pa_cons (pv 0) (pa_cons pe_int pa_nil))) pa_nil)) pa_nil)))))))) pa_nil))))), ?_⟩
    refine ⟨_, rfl, _, rfl, s, c, 200, rfl, hst, by decide, by decide, fun d H1 d0 d1 st1 k1 => ?_⟩
    refine ⟨d, rfl, numS_log (by omega), by show 7 ≤ sizeLine; decide, fun q hq => ?_⟩
    obtain ⟨qs, qc⟩ := st1.tracked hq
    refine ⟨s, c, _, rfl, st1.upd qs qc, .inr ⟨q, _, rfl, upd_same, qs, qc, (show 0 < 7 by decide), (show 7 ≤ 1000 by decide), fun v hv H2 st2 k2 => ?_⟩⟩
    have kk := (k1.trans (Keep.of_same (same_upd hq))).trans k2
    simp only [List.mem_cons, List.not_mem_nil, or_false] at hv
    rcases hv with rfl | rfl | rfl | rfl | rfl | rfl | rfl
    · exact k _ _ ⟨by decide +kernel, by decide +kernel⟩ st2 kk
    · exact k _ _ ⟨by decide +kernel, by decide +kernel⟩ st2 kk
    · exact k _ _ ⟨by decide +kernel, by decide +kernel⟩ st2 kk
    · exact k _ _ ⟨by decide +kernel, by decide +kernel⟩ st2 kk
    · exact k _ _ ⟨by decide +kernel, by decide +kernel⟩ st2 kk
    · exact k _ _ ⟨by decide +kernel, by decide +kernel⟩ st2 kk
    · exact k _ _ (tx_num ⟨d0, by omega⟩) st2 kk
def spLRight : Sp := fun vs H Q _ => ∃ s c : Addr, vs = [.ref s] ∧ StAt H s c ∧ ∀ z H', tx 28 z → 1 ≤ z.length → StAt H' s c → Keep H H' s c → Q (.str z) H'
theorem ok_law_right {P : Program} {w : World} {K : PySem.W.Frag} {mg : Str → Option Value} {base : Heap} {f : Addr} {fd : FuncData} (T : Tx K mg) (c_law_pick : C8.Cal P w K mg base 2 "_law_pick" spPick []) (c_law_draw : C8.Cal P w K mg base 1 "_law_draw" spDraw []) (c_law_number : C8.Cal P w K mg base 3 "_law_number" spLNo [])
    (F : FunD K "_law_right" "_law_right" (defArgs s_law_right) (defBody s_law_right) (defScope s_law_right) [] [] f fd) : FnOk P w K mg base CX0 4 f fd ["state"] spLRight := by
  refine F.ok sc_law_right (fun vs H Q E h => ?_) (fun cdv A outer s0 H vs Q E hr h => ?_)
  · obtain ⟨s, c, rfl, _⟩ := h
    rfl
  · obtain ⟨s, c, rfl, hst, k⟩ := h
    refine ⟨_, PSs.nox (C8.pss_cut (ps_if (pt_cmpR op_eq (pe_c c_law_draw hr (by decide) rfl (pa_cons (pv 0) (pa_cons pe_int pa_nil))) pe_int (nomark _)) (pss_cons (ps_set (i := 1) sc_law_right.nd rfl (Or.inl rfl) (pe_c c_law_pick hr (by decide) rfl (pa_cons (pv 0) (pa_cons (pe_lst (pa_cons pe_str (pa_cons pe_str pa_nil))) pa_nil)))) (pss_one (ps_ret (pe_op op_add_str (pe_op op_add_str (pe_op op_add_str (pe_op op_add_str (pe_op op_add_str pe_str (pe_callTy call_str_int rfl T.f_str (by decide +kernel) (pa_cons (pe_c c_law_draw hr (by decide) rfl (pa_cons (pv 0) (pa_cons pe_int pa_nil))) pa_nil))) pe_str) (pv 1)) pe_str) (pe_c c_law_number hr (by decide) rfl (pa_cons (pv 0) pa_nil)))))) pss_nil) (pss_one (ps_ret (pe_op op_add_str (pe_op op_add_str (pe_op op_add_str (pe_op op_add_str (pe_op op_add_str pe_str (pe_callTy call_str_int rfl T.f_str (by decide +kernel) (pa_cons (pe_c c_law_draw hr (by decide) rfl (pa_cons (pv 0) (pa_cons pe_int pa_nil))) pa_nil))) pe_str) (pe_c c_law_number hr (by decide) rfl (pa_cons (pv 0) pa_nil))) pe_str) (pe_c c_law_number hr (by decide) rfl (pa_cons (pv 0) pa_nil)))))), ?_⟩
    refine ⟨fun σ' H' => σ' = [some (.ref s), none] ∧ StAt H' s c ∧ Keep H H' s c, ?_, ?_⟩
    · refine ⟨_, rfl, s, c, 2, rfl, hst, by decide, by decide, fun d H1 d0 d1 st1 k1 => ⟨rfl, _, rfl, ?_⟩⟩
      refine ite2 (fun _ => ?_) (fun _ => ⟨rfl, st1, k1⟩)
      refine ⟨_, rfl, by show 2 ≤ sizeLine; decide, fun q hq => ?_⟩
      obtain ⟨qs, qc⟩ := st1.tracked hq
      refine ⟨s, c, _, rfl, st1.upd qs qc, .inr ⟨q, _, rfl, upd_same, qs, qc, (show 0 < 2 by decide), (show 2 ≤ 1000 by decide), fun v hv H2 st2 k2 => ?_⟩⟩
      have kk := (k1.trans (Keep.of_same (same_upd hq))).trans k2
      obtain ⟨w, rfl, hw⟩ : ∃ w, v = .str w ∧ tx 11 w := by
        simp only [List.mem_cons, List.not_mem_nil, or_false] at hv
        rcases hv with rfl | rfl
        · exact ⟨_, rfl, by decide +kernel, by decide +kernel⟩
        · exact ⟨_, rfl, by decide +kernel, by decide +kernel⟩
      refine ⟨_, rfl, s, c, 5, rfl, st2, by decide, by decide, fun n H3 n0 n1 st3 k3 => ?_⟩
      have a1 := tx_op.cat (tx_num1 n0 (by omega))
      have a2 := a1.cat tx_bl
      have a3 := a2.cat hw
      have a4 := a3.cat tx_bl
      refine ⟨n, rfl, numS_log (by omega), _, _, rfl, rfl, tx_op.le (tx_num1 n0 (by omega)), _, _, rfl, rfl, a1.le tx_bl, _, rfl, _, _, rfl, rfl, a2.le hw, _, _, rfl, rfl, a3.le tx_bl, _, rfl, s, c, rfl, st3, fun w2 H4 hw2 st4 k4 => ?_⟩
      exact ⟨_, _, rfl, rfl, a4.le hw2, k _ _ (a4.cat hw2) (by simp only [cat_len, k_op]; omega) st4 ((kk.trans k3).trans k4)⟩
    · rintro σ' H' ⟨rfl, st1, k1⟩
      refine ⟨_, rfl, s, c, 5, rfl, st1, by decide, by decide, fun n H3 n0 n1 st3 k3 => ?_⟩
      have a1 := tx_cl.cat (tx_num1 n0 (by omega))
      have a2 := a1.cat tx_bl
      refine ⟨n, rfl, numS_log (by omega), _, _, rfl, rfl, tx_cl.le (tx_num1 n0 (by omega)), _, _, rfl, rfl, a1.le tx_bl, _, rfl, s, c, rfl, st3, fun w2 H4 hw2 st4 k4 => ?_⟩
      have a3 := a2.cat hw2
      have a4 := a3.cat tx_bl
      refine ⟨_, _, rfl, rfl, a2.le hw2, _, _, rfl, rfl, a3.le tx_bl, _, rfl, s, c, rfl, st4, fun w3 H5 hw3 st5 k5 => ?_⟩
      exact ⟨_, _, rfl, rfl, a4.le hw3, k _ _ ((a4.cat hw3).mono (by decide)) (by simp only [cat_len, k_cl]; omega) st5 (((k1.trans k3).trans k4).trans k5)⟩
def spLLine : Sp := fun vs H Q _ => ∃ s c : Addr, vs = [.ref s] ∧ StAt H s c ∧ ∀ z H', tx 60 z → StAt H' s c → Keep H H' s c → Q (.str z) H'
theorem ok_law_line {P : Program} {w : World} {K : PySem.W.Frag} {mg : Str → Option Value} {base : Heap} {f : Addr} {fd : FuncData} (T : Tx K mg) (c_law_right : C8.Cal P w K mg base 4 "_law_right" spLRight []) (c_law_draw : C8.Cal P w K mg base 1 "_law_draw" spDraw []) (c_law_pick : C8.Cal P w K mg base 2 "_law_pick" spPick [])
    (F : FunD K "_law_line" "_law_line" (defArgs s_law_line) (defBody s_law_line) (defScope s_law_line) [] [] f fd) : FnOk P w K mg base CX0 5 f fd ["state"] spLLine := by
  refine F.ok sc_law_line (fun vs H Q E h => ?_) (fun cdv A outer s0 H vs Q E hr h => ?_)
  · obtain ⟨s, c, rfl, _⟩ := h
    rfl
  · obtain ⟨s, c, rfl, hst, k⟩ := h
    refine ⟨_, PSs.nox (pss_cons (ps_set (i := 1) sc_law_line.nd rfl (Or.inl rfl) (pe_c c_law_draw hr (by decide) rfl (pa_cons (pv 0) (pa_cons pe_int pa_nil)))) (pss_cons (ps_set (i := 2) sc_law_line.nd rfl (Or.inl rfl) (pe_c c_law_right hr (by decide) rfl (pa_cons (pv 0) pa_nil))) (C8.pss_cut (ps_if (pt_cmpR op_eq (pv 1) pe_int (nomark _)) (pss_one (ps_ret (pe_op op_add_str (pv 2) pe_str))) pss_nil) (C8.pss_cut (ps_if (pt_cmpR op_eq (pv 1) pe_int (nomark _)) (pss_one (ps_ret (pe_slice C8.sl_txt (pv 2) po_none (po_some (pe_c c_law_draw hr (by decide) rfl (pa_cons (pv 0) (pa_cons (pe_callB call_len_str rfl T.f_len PySem.boot_len (pa_cons (pv 2) pa_nil)) pa_nil))))))) pss_nil) (C8.pss_cut (TK.ps_ifT (TK.ptt_cmpI op_eq (pv 1)) (CwR.psst_one (CwR.pst_ret (TK.pet_ifExp (pt_cmpR op_eq (pe_c c_law_draw hr (by decide) rfl (pa_cons (pv 0) (pa_cons pe_int pa_nil))) pe_int (nomark _)) (CwR.pet_replC (pv 2)) (CwR.pet_replC (pv 2))))) pss_nil) (C8.pss_cut (ps_if (pt_cmpR op_eq (pv 1) pe_int (nomark _)) (pss_one (ps_ret (pe_c c_law_pick hr (by decide) rfl (pa_cons (pv 0) (pa_cons (pe_lst (pa_cons pe_str (pa_cons pe_str (pa_cons pe_str (pa_cons pe_str (pa_cons pe_str (pa_cons pe_str pa_nil))))))) pa_nil))))) pss_nil) (pss_one (ps_ret (pv 2))))))))), ?_⟩
    refine ⟨_, rfl, s, c, 12, rfl, hst, by decide, by decide, fun d H1 d0 d1 st1 k1 => ?_⟩
    refine ⟨_, rfl, s, c, rfl, st1, fun w H2 hw hw1 st2 k12 => ?_⟩
    have k2 := k1.trans k12
    have hws : w.length ≤ sizeLine := Nat.le_trans hw.1 (by decide)
    refine ⟨fun σ' H' => σ' = [some (.ref s), some (.int d), some (.str w)] ∧ H' = H2, ?_, ?_⟩
    · refine ⟨_, rfl, rfl, _, rfl, ?_⟩
      refine ite2 (fun _ => ?_) (fun _ => ⟨rfl, rfl⟩)
      have t2 : tx 2 " 1" := ⟨by decide +kernel, by decide +kernel⟩
      exact ⟨_, rfl, _, _, rfl, rfl, hw.le t2, k _ _ ((hw.cat t2).mono (by decide)) st2 k2⟩
    rintro σ' H9 ⟨rfl, e9⟩
    subst e9
    refine ⟨fun σ' H' => σ' = [some (.ref s), some (.int d), some (.str w)] ∧ H' = H9, ?_, ?_⟩
    · refine ⟨_, rfl, rfl, _, rfl, ?_⟩
      refine ite2 (fun _ => ?_) (fun _ => ⟨rfl, rfl⟩)
      refine ⟨_, rfl, _, rfl, _, rfl, _, rfl, hws, s, c, _, rfl, st2, by omega, by have := hw.1; omega, fun r H3 r0 r1 st3 k3 => ?_⟩
      exact ⟨r, rfl, w, rfl, hws, k _ _ ((hw.pre r0).mono (by decide)) st3 (k2.trans k3)⟩
    rintro σ' H9 ⟨rfl, e9⟩
    subst e9
    refine ⟨fun σ' H' => σ' = [some (.ref s), some (.int d), some (.str w)] ∧ H' = H9, ?_, ?_⟩
    · refine ⟨_, rfl, rfl, _, rfl, ?_⟩
      refine ite2 (fun _ => ?_) (fun _ => ⟨rfl, rfl⟩)
      refine ⟨_, rfl, s, c, 2, rfl, st2, by decide, by decide, fun r H3 r0 r1 st3 k3 => ⟨rfl, _, rfl, ?_⟩⟩
      have hl : w.length ≤ 28 := hw.1
      refine ite2 (fun _ => ?_) (fun _ => ?_)
      · exact ⟨_, rfl, w, rfl, by rw [show ("" : Str).length = 0 by decide +kernel]; omega, k _ _ ((tx_rep (c := 64) (by decide +kernel) (by decide +kernel) (by decide +kernel) hw).mono (by decide)) st3 (k2.trans k3)⟩
      · exact ⟨_, rfl, w, rfl, by rw [show ("  " : Str).length = 2 by decide +kernel]; omega, k _ _ ((tx_rep (c := 32) (by decide +kernel) (by decide +kernel) (by decide +kernel) hw).mono (by decide)) st3 (k2.trans k3)⟩
    rintro σ' H9 ⟨rfl, e9⟩
    subst e9
    refine ⟨fun σ' H' => σ' = [some (.ref s), some (.int d), some (.str w)] ∧ H' = H9, ?_, ?_⟩
    · refine ⟨_, rfl, rfl, _, rfl, ?_⟩
      refine ite2 (fun _ => ?_) (fun _ => ⟨rfl, rfl⟩)
      refine ⟨_, rfl, by show 6 ≤ sizeLine; decide, fun q hq => ?_⟩
      obtain ⟨qs, qc⟩ := st2.tracked hq
      refine ⟨s, c, _, rfl, st2.upd qs qc, .inr ⟨q, _, rfl, upd_same, qs, qc, (show 0 < 6 by decide), (show 6 ≤ 1000 by decide), fun v hv H3 st3 k3 => ?_⟩⟩
      have kk := (k2.trans (Keep.of_same (same_upd hq))).trans k3
      simp only [List.mem_cons, List.not_mem_nil, or_false] at hv
      rcases hv with rfl | rfl | rfl | rfl | rfl | rfl
      · exact k _ _ ⟨by decide +kernel, by decide +kernel⟩ st3 kk
      · exact k _ _ ⟨by decide +kernel, by decide +kernel⟩ st3 kk
      · exact k _ _ ⟨by decide +kernel, by decide +kernel⟩ st3 kk
      · exact k _ _ ⟨by decide +kernel, by decide +kernel⟩ st3 kk
      · exact k _ _ ⟨by decide +kernel, by decide +kernel⟩ st3 kk
      · exact k _ _ ⟨by decide +kernel, by decide +kernel⟩ st3 kk
    rintro σ' H9 ⟨rfl, e9⟩
    subst e9
    exact ⟨_, rfl, k _ _ (hw.mono (by decide)) st2 k2⟩

end K13
set_option maxHeartbeats 1000000
set_option pp.maxSteps 500
namespace K13
open PySem PySem.Spec PyProof.Rows L2 SX TK NdefX K11 LD
open C8 (pe_c)
def vD : V → PyData
  | .int i => .int i
  | .str z => .str z
  | .bl b => .bool b
  | _ => .none
def big (i : Int) : Prop := -1000000000 < i ∧ i < 1000000000
def okV : V → Prop
  | .non => True
  | .int i => big i
  | .str z => PyData.strOk z = true ∧ z.length ≤ 60
  | _ => False
def tupD (b : List V) : PyData := .tuple (b.map vD)
def rowsD (bs : List (List V)) : PyData := .list (bs.map tupD)
structure FlatD (d : PyData) : Prop where
  c : d.canLay0 = true
  w : d.weight ≤ 80
  i : d.intsShort 13 = true
  s : d.showable = true
  h : d.hasDict = false
  p : d.depth ≤ 0
theorem okV.flat {v : V} (h : okV v) : FlatD (vD v) := by
  cases v with
  | non => exact ⟨by simp [vD, PyData.canLay0], by simp [vD, PyData.weight], by simp [vD, PyData.intsShort], by simp [vD, PyData.showable], by simp [vD, PyData.hasDict], by simp [vD, PyData.depth]⟩
  | int i =>
    have hi : big i := h
    have hn : i.natAbs < 1000000000 := by unfold big at hi; omega
    have hl : i.natAbs.log2 < 30 := by
      by_cases z : i.natAbs = 0
      · rw [z]; decide
      · exact (Nat.log2_lt z).mpr (by omega)
    refine ⟨by simp [vD, PyData.canLay0], ?_, ?_, by simp only [vD, PyData.showable]; exact decide_eq_true (by omega), by simp [vD, PyData.hasDict], by simp [vD, PyData.depth]⟩
    · simp only [vD, PyData.weight]
      split
      · omega
      · omega
    · simp only [vD, PyData.intsShort]
      refine decide_eq_true ?_
      have := numS_len (i := i) (by omega)
      rw [PyData.shown_int]
      unfold numS at this
      omega
  | str z =>
    have hz : PyData.strOk z = true ∧ z.length ≤ 60 := h
    refine ⟨by simp [vD, PyData.canLay0, hz.1], ?_, by simp [vD, PyData.intsShort], by simp [vD, PyData.showable], by simp [vD, PyData.hasDict], by simp [vD, PyData.depth]⟩
    simp only [vD, PyData.weight]
    have : z.cps.size = z.length := rfl
    omega
  | _ => exact h.elim
theorem dp_v {K : PySem.W.Frag} {H : Hp} {v : V} (h : okV v) : Dp K H v (vD v) := by
  cases v with
  | non => exact .non
  | int i => exact .int i
  | str z => exact .str z
  | _ => exact h.elim
theorem dp_vs {K : PySem.W.Frag} {H : Hp} : ∀ {b : List V}, (∀ v ∈ b, okV v) → DpAll K H b (b.map vD)
  | [], _ => .nil
  | v :: r, h => .cons (dp_v (h v (List.mem_cons_self ..))) (dp_vs fun x hx => h x (List.mem_cons_of_mem _ hx))
theorem dp_rows {K : PySem.W.Frag} {H : Hp} : ∀ {ts : List Addr} {bs : List (List V)}, TsAt H ts bs → (∀ b ∈ bs, ∀ v ∈ b, okV v) → DpAll K H (ts.map V.ref) (bs.map tupD)
  | [], [], _, _ => .nil
  | t :: ts, b :: bs, h, hb => .cons (.tup (SqT.of h.1) (dp_vs (hb b (List.mem_cons_self ..)))) (dp_rows h.2 fun x hx => hb x (List.mem_cons_of_mem _ hx))
  | [], _ :: _, h, _ => h.elim
  | _ :: _, [], h, _ => h.elim
theorem rowsD_dp {K : PySem.W.Frag} {H : Hp} {a : Addr} {ts : List Addr} {bs : List (List V)} (e : H a = some (.lst (ts.map V.ref))) (h : TsAt H ts bs) (hb : ∀ b ∈ bs, ∀ v ∈ b, okV v) : Dp K H (.ref a) (rowsD bs) := .lst (SqL.of e) (dp_rows h hb)
theorem flats : ∀ {b : List V}, (∀ v ∈ b, okV v) → PyData.canLayAll0 (b.map vD) = true ∧ PyData.weightAll (b.map vD) ≤ 81 * b.length ∧ PyData.intsShortAll 13 (b.map vD) = true ∧ PyData.showableAll (b.map vD) = true ∧ PyData.hasDictAll (b.map vD) = false ∧ PyData.depthAll (b.map vD) ≤ 1
  | [], _ => ⟨by simp [PyData.canLayAll0], by simp [PyData.weightAll], by simp [PyData.intsShortAll], by simp [PyData.showableAll], by simp [PyData.hasDictAll], by simp [PyData.depthAll]⟩
  | v :: r, h => by
    obtain ⟨a1, a2, a3, a4, a5, a6⟩ := flats (b := r) fun x hx => h x (List.mem_cons_of_mem _ hx)
    obtain ⟨b1, b2, b3, b4, b5, b6⟩ := (h v (List.mem_cons_self ..)).flat
    refine ⟨by simp [PyData.canLayAll0, a1, b1], ?_, by simp [PyData.intsShortAll, a3, b3], by simp [PyData.showableAll, a4, b4], by simp [PyData.hasDictAll, a5, b5], ?_⟩
    · rw [List.map_cons, List.length_cons]
      simp only [PyData.weightAll]
      omega
    · rw [List.map_cons]
      simp only [PyData.depthAll]
      omega
theorem rows {n : Nat} : ∀ {bs : List (List V)}, (∀ b ∈ bs, ∀ v ∈ b, okV v) → (∀ b ∈ bs, b.length ≤ 11) → PyData.canLayAll0 (bs.map tupD) = true ∧ PyData.weightAll (bs.map tupD) ≤ 1000 * bs.length ∧ PyData.intsShortAll 13 (bs.map tupD) = true ∧ PyData.showableAll (bs.map tupD) = true ∧ PyData.hasDictAll (bs.map tupD) = false ∧ PyData.depthAll (bs.map tupD) ≤ 3
  | [], _, _ => ⟨by simp [PyData.canLayAll0], by simp [PyData.weightAll], by simp [PyData.intsShortAll], by simp [PyData.showableAll], by simp [PyData.hasDictAll], by simp [PyData.depthAll]⟩
  | b :: r, h, hl => by
    obtain ⟨a1, a2, a3, a4, a5, a6⟩ := rows (n := n) (bs := r) (fun x hx => h x (List.mem_cons_of_mem _ hx)) fun x hx => hl x (List.mem_cons_of_mem _ hx)
    obtain ⟨b1, b2, b3, b4, b5, b6⟩ := flats (h b (List.mem_cons_self ..))
    have lb := hl b (List.mem_cons_self ..)
    refine ⟨by simp [PyData.canLayAll0, PyData.canLay0, tupD, a1, b1], ?_, by simp [PyData.intsShortAll, PyData.intsShort, tupD, a3, b3], by simp [PyData.showableAll, PyData.showable, tupD, a4, b4], by simp [PyData.hasDictAll, PyData.hasDict, tupD, a5, b5], ?_⟩
    · rw [List.map_cons, List.length_cons]
      simp only [PyData.weightAll, tupD, PyData.weight]
      have : PyData.weightAll (List.map tupD r) ≤ 1000 * r.length := a2
      unfold tupD at this
      omega
    · rw [List.map_cons]
      simp only [PyData.depthAll, tupD, PyData.depth]
      have a7 := a6
      unfold tupD at a7
      omega
theorem rowsD_ok {bs : List (List V)} (h : ∀ b ∈ bs, ∀ v ∈ b, okV v) (hl : ∀ b ∈ bs, b.length ≤ 11) : SeqAt.shaped (rowsD bs) = true ∧ PyData.eqv (rowsD bs) (rowsD bs) = true := by
  obtain ⟨a1, a2, a3, a4, a5, a6⟩ := rows (n := 0) h hl
  have c : (rowsD bs).canLay0 = true := by unfold rowsD; simp [PyData.canLay0, a1]
  refine ⟨?_, SeqAt.eqv_refl _ c⟩
  unfold SeqAt.shaped
  rw [c, Bool.true_and, decide_eq_true_eq]
  simp only [rowsD, PyData.depth]
  omega

def lstD (b : List V) : PyData := .list (b.map vD)
theorem lstD_ok {b : List V} (h : ∀ v ∈ b, okV v) : SeqAt.shaped (lstD b) = true ∧ PyData.eqv (lstD b) (lstD b) = true := by
  obtain ⟨a1, a2, a3, a4, a5, a6⟩ := flats h
  have c : (lstD b).canLay0 = true := by unfold lstD; simp [PyData.canLay0, a1]
  refine ⟨?_, SeqAt.eqv_refl _ c⟩
  unfold SeqAt.shaped
  rw [c, Bool.true_and, decide_eq_true_eq]
  simp only [lstD, PyData.depth]
  omega
theorem lstD_dp {K : PySem.W.Frag} {H : Hp} {a : Addr} {b : List V} (e : H a = some (.lst b)) (h : ∀ v ∈ b, okV v) : Dp K H (.ref a) (lstD b) := .lst (SqL.of e) (dp_vs h)

def rx6 (r : Rx) : List V := [.int r.n, .str r.c, .str r.a, .int r.t, oV (r.e.map (·.1)), oV (r.e.map (·.2))]
structure RowsAt (H : Hp) (rl : Addr) (P : Px) : Prop where
  ls : H rl = some (.lst (P.map fun x => V.ref x.1))
  at_ : ∀ x ∈ P, H x.1 = some (.lst (rx6 x.2))
  nd : (P.map (·.1)).Nodup
  nr : ∀ x ∈ P, x.1 ≠ rl
theorem RowsAt.same {H H' : Hp} {rl : Addr} {P : Px} (h : RowsAt H rl P) (s : Same H H') : RowsAt H' rl P := ⟨s _ _ h.ls, fun x hx => s _ _ (h.at_ x hx), h.nd, h.nr⟩
theorem RowsAt.get {H H' : Hp} {rl : Addr} {P : Px} (h : RowsAt H rl P) (s : Same H H') {i : Nat} {v : V} (hv : (P.map fun x => V.ref x.1)[i]? = some v) : ∃ y, P[i]? = some y ∧ v = .ref y.1 ∧ y ∈ P ∧ H' y.1 = some (.lst (rx6 y.2)) := by
  rw [List.getElem?_map] at hv
  obtain ⟨y, hy, rfl⟩ := Option.map_eq_some_iff.mp hv
  have hm := List.mem_of_getElem? hy
  exact ⟨y, hy, rfl, hm, s _ _ (h.at_ y hm)⟩
theorem RowsAt.push {H : Hp} {rl : Addr} {P : Px} (h : RowsAt H rl P) {x : Addr} (hx : H x = none) (r : Rx) : RowsAt (upd (upd H x (.lst (rx6 r))) rl (.lst (P.map (fun x => V.ref x.1) ++ [.ref x]))) rl (P ++ [(x, r)]) := by
  have xr : x ≠ rl := (ne_of_none h.ls hx).symm
  have old : ∀ y ∈ P, y.1 ≠ x := fun y hy => ne_of_none (h.at_ y hy) hx
  refine ⟨?_, fun y hy => ?_, ?_, fun y hy => ?_⟩
  · rw [upd_same, List.map_append]
    rfl
  · rcases List.mem_append.mp hy with z | z
    · exact (upd_ne (h.nr y z)).trans ((upd_ne (old y z)).trans (h.at_ y z))
    · rw [List.mem_singleton.mp z]
      exact (upd_ne xr).trans upd_same
  · rw [List.map_append, List.nodup_append]
    refine ⟨h.nd, by simp, fun i hi j hj => ?_⟩
    obtain ⟨y, hy, rfl⟩ := List.mem_map.mp hi
    rw [List.mem_singleton.mp hj]
    exact old y hy
  · rcases List.mem_append.mp hy with z | z
    · exact h.nr y z
    · rw [List.mem_singleton.mp z]
      exact xr
theorem RowsAt.set {H : Hp} {rl : Addr} {A B : Px} {x : Addr × Rx} (h : RowsAt H rl (A ++ x :: B)) (r : Rx) : RowsAt (upd H x.1 (.lst (rx6 r))) rl (A ++ (x.1, r) :: B) := by
  have nd := h.nd
  rw [List.map_append, List.nodup_append, List.map_cons, List.nodup_cons] at nd
  have hA : ∀ y ∈ A, y.1 ≠ x.1 := fun y hy => nd.2.2 _ (List.mem_map.mpr ⟨y, hy, rfl⟩) _ (List.mem_cons_self ..)
  have hB : ∀ y ∈ B, y.1 ≠ x.1 := fun y hy z => nd.2.1.1 (List.mem_map.mpr ⟨y, hy, z⟩)
  have hx := h.nr x (List.mem_append_right _ (List.mem_cons_self ..))
  have e : (A ++ (x.1, r) :: B).map (fun x => V.ref x.1) = (A ++ x :: B).map fun x => V.ref x.1 := by
    rw [List.map_append, List.map_append]
    rfl
  refine ⟨?_, fun y hy => ?_, ?_, fun y hy => ?_⟩
  · rw [e]
    exact (upd_ne hx.symm).trans h.ls
  · rcases List.mem_append.mp hy with z | z
    · exact (upd_ne (hA y z)).trans (h.at_ y (List.mem_append_left _ z))
    · rcases List.mem_cons.mp z with q | q
      · rw [q]
        exact upd_same
      · exact (upd_ne (hB y q)).trans (h.at_ y (List.mem_append_right _ (List.mem_cons_of_mem _ q)))
  · have e2 : (A ++ (x.1, r) :: B).map (·.1) = (A ++ x :: B).map (·.1) := by
      rw [List.map_append, List.map_append]
      rfl
    rw [e2]
    exact h.nd
  · rcases List.mem_append.mp hy with z | z
    · exact h.nr y (List.mem_append_left _ z)
    · rcases List.mem_cons.mp z with q | q
      · rw [q]
        exact hx
      · exact h.nr y (List.mem_append_right _ (List.mem_cons_of_mem _ q))
theorem int_of {w : Str} {i : Int} (h : numO w = some i) : PySem.intText? w = some i ∧ w.length ≤ 9 := by
  unfold numO at h
  split at h
  · rename_i h1
    have hl := consB_len h1
    split at h
    · cases h
    · split at h
      · rw [← Option.some.inj h]
        exact ⟨PySem.intText_digits (x := w) (digits_of hl.2.2) (List.length_pos_iff.mp hl.1) (by rw [len_eq]; omega), by rw [len_eq]; omega⟩
      · cases h
  · cases h
theorem recW_5 {w0 w1 w2 w3 w4 : Str} : recW [w0, w1, w2, w3, w4] = if w0 = "open" then (match numO w1, numO w4 with
    | some n, some t => if ((splitB w2).isSome && (splitB w3).isSome) = true then some (.op n w2 w3 t) else none
    | _, _ => none) else none := rfl
theorem recW_4 {w0 w1 w2 w3 : Str} : recW [w0, w1, w2, w3] = if w0 = "close" then (match numO w1, numO w2, numO w3 with
    | some n, some e, some k => some (.cl n e k)
    | _, _, _ => none) else none := rfl
theorem recW_o {ws : List Str} (h5 : ws.length ≠ 5) (h4 : ws.length ≠ 4) : recW ws = none := by
  unfold recW
  split
  · exact absurd rfl h5
  · exact absurd rfl h4
  · rfl

end K13
set_option maxHeartbeats 1000000
set_option pp.maxSteps 500
namespace K13
open PySem PySem.Spec PyProof.Rows L2 SX TK NdefX K11 LD
open C8 (pe_c)
def spTake (K : PySem.W.Frag) : Sp := fun vs H Q _ => ∃ (rl w : Addr) (P : Px) (ws : List Str), vs = [.ref rl, .ref w] ∧ RowsAt H rl P ∧ H w = some (.lst (ws.map V.str)) ∧ ws ≠ [] ∧ (∀ z ∈ ws, tx 60 z) ∧ ws.length ≤ 70 ∧ P.length ≤ 40 ∧
  (recW ws = none → ∀ H', Same H H' → Q (.bl false) H') ∧
  (∀ n c a t, recW ws = some (.op n c a t) → (∃ x ∈ P, x.2.n = n) → ∀ H', Same H H' → Q (.bl false) H') ∧
  (∀ n c a t, recW ws = some (.op n c a t) → (∀ x ∈ P, x.2.n ≠ n) → ∀ x H', RowsAt H' rl (P ++ [(x, ⟨n, c, a, t, none⟩)]) → H x = none → (∀ b o, H b = some o → b ≠ rl → H' b = some o) → Q (.bl true) H') ∧
  (∀ n e k, recW ws = some (.cl n e k) → (∀ x ∈ P, x.2.n = n → x.2.e ≠ none) → ∀ H', Same H H' → Q (.bl false) H') ∧
  (∀ n e k A x B, recW ws = some (.cl n e k) → P = A ++ x :: B → x.2.n = n → x.2.e = none → ∀ H', RowsAt H' rl (A ++ (x.1, { x.2 with e := some (e, k) }) :: B) → (∀ b o, H b = some o → b ≠ x.1 → H' b = some o) → Q (.bl true) H')
theorem ok_law_take {P : Program} {w : World} {K : PySem.W.Frag} {mg : Str → Option Value} {base : Heap} {f : Addr} {fd : FuncData} (T : Tx K mg) (c_law_is_number : C8.Cal P w K mg base 1 "_law_is_number" spLNum []) (c_law_is_address : C8.Cal P w K mg base 2 "_law_is_address" spLAddr [])
    (F : FunD K "_law_take" "_law_take" (defArgs s_law_take) (defBody s_law_take) (defScope s_law_take) [] [] f fd) : FnOk P w K mg base CX0 4 f fd ["rows", "words"] (spTake K) := by
  refine F.ok sc_law_take (fun vs H Q E h => ?_) (fun cdv A outer s0 H vs Q E hr h => ?_)
  · obtain ⟨rl, w, P, ws, rfl, _⟩ := h
    rfl
  · obtain ⟨rl, w, P, ws, rfl, hR, hw, hne, htx, hwl, hPl, k0, k1, k2, k3, k4⟩ := h
    refine ⟨_, PSs.nox (C8.pss_cut (ps_if (PW.pt (pw_and (pt_cmpR op_eq (pe_callB call_len_seq rfl T.f_len PySem.boot_len (pa_cons (pv 1) pa_nil)) pe_int (nomark _)) (pw_and (pt_cmpR op_eq (pe_ix ix_list (pv 1) pe_int (fun _ _ => rfl)) pe_str (nomark _)) (pw_and (pt_val (pe_c c_law_is_number hr (by decide) rfl (pa_cons (pe_ix ix_list (pv 1) pe_int (fun _ _ => rfl)) pa_nil))) (pw_and1 (pt_val (pe_c c_law_is_number hr (by decide) rfl (pa_cons (pe_ix ix_list (pv 1) pe_int (fun _ _ => rfl)) pa_nil)))))))) (C8.pss_cut (ps_if (PW.pt (pw_or (pt_not (pt_val (pe_c c_law_is_address hr (by decide) rfl (pa_cons (pe_ix ix_list (pv 1) pe_int (fun _ _ => rfl)) pa_nil)))) (pw_or1 (pt_not (pt_val (pe_c c_law_is_address hr (by decide) rfl (pa_cons (pe_ix ix_list (pv 1) pe_int (fun _ _ => rfl)) pa_nil))))))) (pss_one (ps_ret pe_bl)) pss_nil) (C8.pss_cut (ps_if (pt_cmpR op_in_seq (pe_callTy call_int_str rfl T.f_int (by decide +kernel) (pa_cons (pe_ix ix_list (pv 1) pe_int (fun _ _ => rfl)) pa_nil)) (pe_lc (own := [("row", 2)]) (g := gName 2) rfl sc_law_take.nd (pi_list (pv 0)) (blkOk_by (own := [("row", 2)]) (N := ["rows", "words", "row", "word"]) (sc := defScope s_law_take) (by decide +kernel)) (fun _ _ _ _ _ => pg_name (i := 2) sc_law_take.nd rfl (Or.inl rfl)) (fun _ _ _ _ _ => pts_nil) (fun _ _ _ _ _ => (pe_ix (ixListK K rfl) (pv 2) pe_int (fun _ _ => rfl)))) (by with_unfolding_all rfl)) (pss_one (ps_ret pe_bl)) pss_nil) (pss_cons (ps_expr (pe_bm PySem.F.plainAttrs_list PySem.F.slot_list_append PySem.F.type_list_append mt_append (pv 0) (pa_cons (pe_lst (pa_cons (pe_callTy call_int_str rfl T.f_int (by decide +kernel) (pa_cons (pe_ix ix_list (pv 1) pe_int (fun _ _ => rfl)) pa_nil)) (pa_cons (pe_ix ix_list (pv 1) pe_int (fun _ _ => rfl)) (pa_cons (pe_ix ix_list (pv 1) pe_int (fun _ _ => rfl)) (pa_cons (pe_callTy call_int_str rfl T.f_int (by decide +kernel) (pa_cons (pe_ix ix_list (pv 1) pe_int (fun _ _ => rfl)) pa_nil)) (pa_cons pe_non (pa_cons pe_non pa_nil))))))) pa_nil))) (pss_one (ps_ret pe_bl))))) pss_nil) (C8.pss_cut (ps_if (PW.pt (pw_or (pt_cmpR op_ne (pe_callB call_len_seq rfl T.f_len PySem.boot_len (pa_cons (pv 1) pa_nil)) pe_int (nomark _)) (pw_or (pt_cmpR op_ne (pe_ix ix_list (pv 1) pe_int (fun _ _ => rfl)) pe_str (nomark _)) (pw_or1 (pt_cmpR (op_neD hr.units) (pe_lc (own := [("word", 3)]) (g := gName 3) rfl sc_law_take.nd (pi_list (pe_slice sl_list (pv 1) (po_some pe_int) po_none)) (blkOk_by (own := [("word", 3)]) (N := ["rows", "words", "row", "word"]) (sc := defScope s_law_take) (by decide +kernel)) (fun _ _ _ _ _ => pg_name (i := 3) sc_law_take.nd rfl (Or.inl rfl)) (fun _ _ _ _ _ => pts_one (pt_not (pt_val (pe_c c_law_is_number hr (by decide) rfl (pa_cons (pv 3) pa_nil))))) (fun _ _ _ _ _ => (pv 3))) (pe_lst pa_nil) (nomark _)))))) (pss_one (ps_ret pe_bl)) pss_nil) (pss_cons (ps_for PassesOwn.never rfl (pi_list (pv 0)) (pg_name (i := 2) sc_law_take.nd rfl (Or.inl rfl)) (pss_one (ps_if (PW.pt (pw_and (pt_cmpR op_eq (pe_ix ix_list (pv 2) pe_int (fun _ _ => rfl)) (pe_callTy call_int_str rfl T.f_int (by decide +kernel) (pa_cons (pe_ix ix_list (pv 1) pe_int (fun _ _ => rfl)) pa_nil)) (nomark _)) (pw_and1 (pt_cmpR op_isN (pe_ix ix_list (pv 2) pe_int (fun _ _ => rfl)) pe_non (nomark _))))) (pss_cons (ps_asg (pe_callTy call_int_str rfl T.f_int (by decide +kernel) (pa_cons (pe_ix ix_list (pv 1) pe_int (fun _ _ => rfl)) pa_nil)) (pg_sub (pv 2) pe_int set_list)) (pss_cons (ps_asg (pe_callTy call_int_str rfl T.f_int (by decide +kernel) (pa_cons (pe_ix ix_list (pv 1) pe_int (fun _ _ => rfl)) pa_nil)) (pg_sub (pv 2) pe_int set_list)) (pss_one (ps_ret pe_bl)))) pss_nil))) (pss_one (ps_ret pe_bl))))), ?_⟩
    have htl : ∀ z ∈ ws, z.length ≤ 900 := fun z hz => Nat.le_trans (htx z hz).1 (by decide)
    refine ⟨fun σ' H' => σ' = [some (.ref rl), some (.ref w), none, none] ∧ Same H H' ∧ (ws.length ≠ 4 → recW ws = none), ?_, ?_⟩
    · refine ⟨_, rfl, w, _, rfl, .inl (SqL.of hw), rfl, _, rfl, ?_⟩
      rw [List.length_map, dec_int]
      by_cases h5 : ws.length = 5
      · obtain ⟨w0, w1, w2, w3, w4, rfl⟩ : ∃ w0 w1 w2 w3 w4, ws = [w0, w1, w2, w3, w4] := by
          match ws, h5 with
          | [a, b, c, d, e], _ => exact ⟨a, b, c, d, e, rfl⟩
        refine iteT ⟨_, rfl, w, _, 0, .str w0, rfl, rfl, SqL.of hw, rfl, rfl, _, rfl, ?_⟩
        rw [vstr2]
        by_cases h0 : w0 = "open"
        · rw [decide_eq_true h0]
          refine iteT ⟨_, rfl, w, _, 1, .str w1, rfl, rfl, SqL.of hw, rfl, w1, rfl, by have := htl w1 (by simp); omega, fun H1 s1 => ⟨_, rfl, ?_⟩⟩
          cases e1 : numO w1 with
          | none => exact iteF ⟨rfl, s1, fun _ => by rw [recW_5, if_pos h0, e1]⟩
          | some n =>
            refine iteT ⟨_, rfl, w, _, 4, .str w4, rfl, rfl, SqL.of (s1 _ _ hw), rfl, w4, rfl, by have := htl w4 (by simp); omega, fun H2 s2 => ⟨_, rfl, ?_⟩⟩
            have s12 := s1.trans s2
            cases e4 : numO w4 with
            | none => exact iteF ⟨rfl, s12, fun _ => by rw [recW_5, if_pos h0, e1, e4]⟩
            | some t =>
              refine iteT ?_
              have hw2 := s12 _ _ hw
              have eR : recW [w0, w1, w2, w3, w4] = if ((splitB w2).isSome && (splitB w3).isSome) = true then some (.op n w2 w3 t) else none := by
                rw [recW_5, if_pos h0, e1, e4]
              refine ⟨fun σ' H' => σ' = [some (.ref rl), some (.ref w), none, none] ∧ Same H H' ∧ recW [w0, w1, w2, w3, w4] = some (.op n w2 w3 t), ?_, ?_⟩
              · refine ⟨_, rfl, w, _, 2, .str w2, rfl, rfl, SqL.of hw2, rfl, w2, rfl, htl w2 (by simp), fun H3 s3 => ⟨_, rfl, ?_⟩⟩
                cases q2 : (splitB w2).isSome with
                | false => exact iteT (iteT (k0 (by rw [eR, q2]; rfl) _ (s12.trans s3)))
                | true =>
                  refine iteF ⟨_, rfl, w, _, 3, .str w3, rfl, rfl, SqL.of (s3 _ _ hw2), rfl, w3, rfl, htl w3 (by simp), fun H4 s4 => ⟨_, rfl, ?_⟩⟩
                  cases q3 : (splitB w3).isSome with
                  | false => exact iteT (k0 (by rw [eR, q2, q3]; rfl) _ ((s12.trans s3).trans s4))
                  | true => exact iteF ⟨rfl, (s12.trans s3).trans s4, by rw [eR, q2, q3]; rfl⟩
              clear eR hw2 s12 s2 s1
              rintro σ' H3 ⟨rfl, s3, eR⟩
              have hw3 := s3 _ _ hw
              have hR3 := hR.same s3
              obtain ⟨i1, l1⟩ := int_of e1
              obtain ⟨i4, l4⟩ := int_of e4
              refine ⟨fun σ' H' => σ' = [some (.ref rl), some (.ref w), none, none] ∧ Same H H' ∧ ∀ x ∈ P, x.2.n ≠ n, ?_, ?_⟩
              · refine ⟨_, rfl, w, _, 1, .str w1, rfl, rfl, SqL.of hw3, rfl, w1, n, rfl, i1, by omega, ?_⟩
                refine ⟨_, rfl, rl, rfl, ⟨_, SqL.of hR3.ls⟩, fun D hD => ?_⟩
                refine lc_itN walk_list (fun i H' => Same H3 H' ∧ H' D = some (.lst (((P.take i).map (·.2.n)).map V.int))) ⟨same_upd hD, upd_same⟩ (fun i H' _ q => SqL.of (q.1 _ _ hR3.ls)) (fun i x H4 H5 hi p9 y => ?_) (fun H4 p9 => ?_)
                · obtain ⟨s4, e9⟩ := p9
                  obtain ⟨rfl, hx⟩ := y
                  obtain ⟨y, hy, rfl, _, hyr⟩ := hR3.get s4 hx
                  refine ⟨rfl, _, rfl, y.1, _, 0, .int y.2.n, rfl, rfl, SqL.of hyr, rfl, _, e9, ?_, fun b o eb => (upd_ne (ne_of_none eb hD)).trans (s4 _ _ eb), ?_⟩
                  · rw [List.length_map, List.length_map, List.length_take, sizeLine_eq]
                    omega
                  · rw [upd_same, List.take_add_one, hy, List.map_append, List.map_append]
                    rfl
                · obtain ⟨s4, e9⟩ := p9
                  rw [List.length_map, List.take_length] at e9
                  refine ⟨D, _, rfl, .inl (SqL.of e9), rfl, by rw [List.all_map, List.all_map]; exact List.all_eq_true.mpr fun x _ => rfl, _, rfl, ?_⟩
                  by_cases hx : ∃ x ∈ P, x.2.n = n
                  · have ei : (if false = true then !inV (.int n) ((P.map (·.2.n)).map V.int) else inV (.int n) ((P.map (·.2.n)).map V.int)) = true := by
                      rw [if_neg Bool.false_ne_true]
                      obtain ⟨x, hx, rfl⟩ := hx
                      unfold inV
                      rw [List.any_eq_true]
                      exact ⟨.int x.2.n, List.mem_map.mpr ⟨_, List.mem_map.mpr ⟨x, hx, rfl⟩, rfl⟩, beq_self_eq_true x.2.n⟩
                    rw [ei]
                    exact iteT (k1 _ _ _ _ eR hx _ (s3.trans s4))
                  · have ei : (if false = true then !inV (.int n) ((P.map (·.2.n)).map V.int) else inV (.int n) ((P.map (·.2.n)).map V.int)) = false := by
                      rw [if_neg Bool.false_ne_true]
                      unfold inV
                      rw [List.any_eq_false]
                      intro v hv
                      obtain ⟨m, hm, rfl⟩ := List.mem_map.mp hv
                      obtain ⟨x, hx2, rfl⟩ := List.mem_map.mp hm
                      intro e
                      exact hx ⟨x, hx2, eq_of_beq e⟩
                    rw [ei]
                    exact iteF ⟨rfl, s3.trans s4, fun x hx2 e => hx ⟨x, hx2, e⟩⟩
              rintro σ' H4 ⟨rfl, s4, hn⟩
              have hw4 := s4 _ _ hw
              have hR4 := hR.same s4
              refine ⟨_, rfl, .inl ⟨rfl, _, SqL.of hR4.ls⟩, _, rfl, w, _, 1, .str w1, rfl, rfl, SqL.of hw4, rfl, w1, n, rfl, i1, by omega, ?_⟩
              refine ⟨_, rfl, w, _, 2, .str w2, rfl, rfl, SqL.of hw4, rfl, ?_⟩
              refine ⟨_, rfl, w, _, 3, .str w3, rfl, rfl, SqL.of hw4, rfl, ?_⟩
              refine ⟨_, rfl, w, _, 4, .str w4, rfl, rfl, SqL.of hw4, rfl, w4, t, rfl, i4, by omega, ?_⟩
              refine ⟨by show 6 ≤ sizeLine; decide, fun x hx => ⟨rl, _, _, rfl, rfl, (same_upd hx) _ _ hR4.ls, by rw [List.length_map, sizeLine_eq]; omega, ?_⟩⟩
              have x0 : H x = none := by
                cases eq : H x with
                | none => rfl
                | some o => rw [s4 _ _ eq] at hx; cases hx
              exact k2 _ _ _ _ eR hn x _ (hR4.push hx ⟨n, w2, w3, t, none⟩) x0 fun b o e nb => (upd_ne nb).trans ((same_upd hx) _ _ (s4 _ _ e))
        · rw [decide_eq_false h0]
          exact iteF ⟨rfl, Same.refl H, fun _ => by rw [recW_5, if_neg h0]⟩
      · rw [show ((ws.length : Int) == 5) = false by simp only [beq_eq_false_iff_ne]; omega]
        exact iteF ⟨rfl, Same.refl H, fun h4 => recW_o h5 h4⟩
    · rintro σ' H1 ⟨rfl, s1, h4n⟩
      have hw1 := s1 _ _ hw
      have hR1 := hR.same s1
      refine ⟨fun σ' H' => σ' = [some (.ref rl), some (.ref w), none, none] ∧ Same H H' ∧ ∃ w1 w2 w3 n e k, ws = [("close" : Str), w1, w2, w3] ∧ numO w1 = some n ∧ numO w2 = some e ∧ numO w3 = some k, ?_, ?_⟩
      · refine ⟨_, rfl, w, _, rfl, .inl (SqL.of hw1), rfl, _, rfl, ?_⟩
        rw [List.length_map, dec_int]
        by_cases h4 : ws.length = 4
        · rw [show ((ws.length : Int) == 4) = true by rw [h4]; rfl]
          obtain ⟨w0, w1, w2, w3, rfl⟩ : ∃ w0 w1 w2 w3, ws = [w0, w1, w2, w3] := by
            match ws, h4 with
            | [a, b, c, d], _ => exact ⟨a, b, c, d, rfl⟩
          refine iteF ⟨_, rfl, w, _, 0, .str w0, rfl, rfl, SqL.of hw1, rfl, rfl, _, rfl, ?_⟩
          rw [vstr2]
          by_cases h0 : w0 = "close"
          · rw [decide_eq_true h0]
            have ec : cutV ([w0, w1, w2, w3].map V.str) (some 1) none = [w1, w2, w3].map V.str := rfl
            refine iteF ⟨_, rfl, _, rfl, w, _, rfl, SqL.of hw1, fun q hq => ?_⟩
            rw [ec]
            have s1q := s1.trans (same_upd (o := .lst ([w1, w2, w3].map V.str)) hq)
            have eq1 : (upd H1 q (.lst ([w1, w2, w3].map V.str))) q = some (.lst ([w1, w2, w3].map V.str)) := upd_same
            have htl3 : ∀ z ∈ [w1, w2, w3], tx 60 z := fun z hz => htx z (List.mem_cons_of_mem _ hz)
            have eR : recW [w0, w1, w2, w3] = match numO w1, numO w2, numO w3 with
              | some n, some e, some k => some (.cl n e k)
              | _, _, _ => none := recW_4.trans (if_pos h0)
            generalize upd H1 q (.lst ([w1, w2, w3].map V.str)) = Hq at *
            refine ⟨q, rfl, ⟨_, SqL.of eq1⟩, fun D hD => ?_⟩
            refine lc_it walk_list (fun i H' => Same Hq H' ∧ H' D = some (.lst (((([w1, w2, w3] : List Str).take i).filter fun z => !(numO z).isSome).map V.str))) ⟨same_upd hD, upd_same⟩ (fun i H' _ p => SqL.of (p.1 _ _ eq1)) (fun i x H4 H5 hi p9 y => ?_) (fun H4 p9 => ?_)
            · obtain ⟨s4, e9⟩ := p9
              obtain ⟨rfl, hx⟩ := y
              rw [List.getElem?_map] at hx
              obtain ⟨z, hz, rfl⟩ := Option.map_eq_some_iff.mp hx
              have hzm := htl3 z (List.mem_of_getElem? hz)
              have et : ([w1, w2, w3] : List Str).take (i + 1) = ([w1, w2, w3] : List Str).take i ++ [z] := by rw [List.take_add_one, hz]; rfl
              refine ⟨rfl, _, rfl, z, rfl, by have := hzm.1; omega, fun H6 s6 => ⟨_, rfl, ?_⟩⟩
              rw [et, List.filter_append]
              cases qz : (numO z).isSome with
              | true =>
                refine iteF ⟨s4.trans s6, ?_⟩
                rw [List.filter_cons_of_neg (by rw [qz]; exact Bool.false_ne_true), List.filter_nil, List.append_nil]
                exact s6 _ _ e9
              | false =>
                refine iteT ⟨_, rfl, _, s6 _ _ e9, ?_, fun b o eb => (upd_ne (ne_of_none eb hD)).trans (s6 _ _ (s4 _ _ eb)), ?_⟩
                · rw [List.length_map, sizeLine_eq]
                  have a1 := List.length_filter_le (fun z => !(numO z).isSome) (([w1, w2, w3] : List Str).take i)
                  have a2 : (([w1, w2, w3] : List Str).take i).length ≤ 3 := by rw [List.length_take]; exact Nat.min_le_right ..
                  omega
                · rw [upd_same, List.filter_cons_of_pos (by rw [qz]; rfl), List.map_append]
                  rfl
            · obtain ⟨s4, e9⟩ := p9
              rw [List.length_map, show ([w1, w2, w3] : List Str).length = 3 from rfl, show ([w1, w2, w3] : List Str).take 3 = [w1, w2, w3] from rfl] at e9
              refine ⟨by show 0 ≤ sizeLine; decide, fun q2 hq2 => ?_⟩
              have s5 := same_upd (o := .lst []) hq2
              have okF : ∀ v ∈ ((([w1, w2, w3] : List Str).filter fun z => !(numO z).isSome).map V.str), okV v := fun v hv => by
                obtain ⟨z, hz, rfl⟩ := List.mem_map.mp hv
                have := htl3 z (List.mem_filter.mp hz).1
                exact ⟨this.ok, this.1⟩
              have ok0 : ∀ v ∈ ([] : List V), okV v := fun _ h => nomatch h
              refine ⟨_, _, lstD_dp (s5 _ _ e9) okF, lstD_dp upd_same ok0, (lstD_ok okF).1, (lstD_ok ok0).1, _, rfl, ?_⟩
              have sAll := (s1q.trans s4).trans s5
              cases qF : ([w1, w2, w3] : List Str).filter fun z => !(numO z).isSome with
              | nil =>
                have ev : PyData.eqv (lstD (([] : List Str).map V.str)) (lstD []) = true := (lstD_ok ok0).2
                rw [ev]
                refine iteF ⟨rfl, sAll, ?_⟩
                have nn := List.filter_eq_nil_iff.mp qF
                have g : ∀ z ∈ ([w1, w2, w3] : List Str), ∃ i, numO z = some i := fun z hz => by
                  have := nn z hz
                  cases q9 : numO z with
                  | none => rw [q9] at this; exact absurd rfl this
                  | some i => exact ⟨i, rfl⟩
                obtain ⟨n, e1⟩ := g w1 (by simp)
                obtain ⟨e, e2⟩ := g w2 (by simp)
                obtain ⟨k, e3⟩ := g w3 (by simp)
                exact ⟨w1, w2, w3, n, e, k, by rw [h0], e1, e2, e3⟩
              | cons z r =>
                have ev : PyData.eqv (lstD ((z :: r).map V.str)) (lstD []) = false := by simp [lstD, PyData.eqv, PyData.eqvAll]
                rw [ev]
                refine iteT (k0 ?_ _ sAll)
                have hz := List.mem_filter.mp (show z ∈ ([w1, w2, w3] : List Str).filter fun z => !(numO z).isSome by rw [qF]; exact List.mem_cons_self ..)
                have nz : numO z = none := by
                  cases q9 : numO z with
                  | none => rfl
                  | some i => rw [q9] at hz; exact absurd hz.2 Bool.false_ne_true
                rw [eR]
                have hm := hz.1
                simp only [List.mem_cons, List.not_mem_nil, or_false] at hm
                rcases hm with rfl | rfl | rfl
                · rw [nz]
                · rw [nz]; cases numO w1 <;> rfl
                · rw [nz]; cases numO w1 <;> cases numO w2 <;> rfl
          · rw [decide_eq_false h0]
            exact iteT (iteT (k0 (by rw [recW_4, if_neg h0]) _ s1))
        · rw [show ((ws.length : Int) == 4) = false by simp only [beq_eq_false_iff_ne]; omega]
          exact iteT (iteT (k0 (h4n h4) _ s1))
      rintro σ' H2 ⟨rfl, s2, w1, w2, w3, n, e, k, rfl, e1, e2, e3⟩
      have hw2 := s2 _ _ hw
      have hR2 := hR.same s2
      have eR : recW [("close" : Str), w1, w2, w3] = some (.cl n e k) := by rw [recW_4, if_pos rfl, e1, e2, e3]
      obtain ⟨i1, l1⟩ := int_of e1
      obtain ⟨i2, l2⟩ := int_of e2
      obtain ⟨i3, l3⟩ := int_of e3
      refine ⟨_, rfl, rl, rfl, ⟨_, SqL.of hR2.ls⟩, for_list (K := K) (a := rl) (xs := P.map fun x => V.ref x.1) (fun i σ H' => H' = H2 ∧ (∀ x ∈ P.take i, x.2.n = n → x.2.e ≠ none) ∧ ∃ v, σ = [some (.ref rl), some (.ref w), v, none]) ⟨rfl, (fun _ h => nomatch h), none, rfl⟩ (fun i σ H' _ q => q.1 ▸ SqL.of hR2.ls) ?_ ?_⟩
      · rintro i y σ H' hi ⟨e9, hg, v, rfl⟩
        subst e9
        obtain ⟨y, hy, rfl, hyP, hyr⟩ := hR2.get (Same.refl _) hi
        refine ⟨_, rfl, y.1, _, 0, .int y.2.n, rfl, rfl, SqL.of hyr, rfl, _, rfl, w, _, 1, .str w1, rfl, rfl, SqL.of hw2, rfl, w1, n, rfl, i1, by omega, rfl, _, rfl, ?_⟩
        rw [dec_int]
        have hlt : i < P.length := (List.getElem?_eq_some_iff.mp hy).1
        have hyg : P[i] = y := (List.getElem?_eq_some_iff.mp hy).2
        have go : (y.2.n = n → y.2.e ≠ none) → ∀ x ∈ P.take (i + 1), x.2.n = n → x.2.e ≠ none := fun q x hx => by
          rw [List.take_add_one, hy] at hx
          rcases List.mem_append.mp hx with z | z
          · exact hg x z
          · rw [List.mem_singleton.mp z]
            exact q
        by_cases c1 : y.2.n = n
        · rw [show (y.2.n == n) = true from beq_iff_eq.mpr c1]
          refine iteT ⟨_, rfl, y.1, _, 4, oV (y.2.e.map (·.1)), rfl, rfl, SqL.of hyr, rfl, rfl, _, rfl, ?_⟩
          rw [dn_O]
          cases he : y.2.e with
          | some x => exact iteF ⟨rfl, go (fun _ z => by rw [he] at z; cases z), _, rfl⟩
          | none =>
            refine iteT ⟨_, rfl, w, _, 2, .str w2, rfl, rfl, SqL.of hw2, rfl, w2, e, rfl, i2, by omega, ?_⟩
            refine ⟨_, rfl, y.1, _, 4, 4, rfl, rfl, hyr, rfl, ?_⟩
            have wy : w ≠ y.1 := by
              intro z
              rw [z, hyr] at hw2
              injection hw2 with z1
              injection z1 with z1
              injection z1 with z1 _
              cases z1
            refine ⟨_, rfl, w, _, 3, .str w3, rfl, rfl, SqL.of ((upd_ne wy).trans hw2), rfl, w3, k, rfl, i3, by omega, ?_⟩
            refine ⟨_, rfl, y.1, _, 5, 5, rfl, rfl, upd_same, rfl, ?_⟩
            rw [upd_upd]
            have eP : P = P.take i ++ y :: P.drop (i + 1) := by
              conv => lhs; rw [← List.take_append_drop i P]
              rw [List.drop_eq_getElem_cons hlt, hyg]
            have hRS := RowsAt.set (by rw [← eP]; exact hR2) { y.2 with e := some (e, k) }
            exact k4 _ _ _ _ _ _ eR eP c1 he _ hRS fun b o eb nb => (upd_ne nb).trans (s2 _ _ eb)
        · rw [show (y.2.n == n) = false from beq_eq_false_iff_ne.mpr c1]
          exact iteF (iteF ⟨rfl, go (fun z => absurd z c1), _, rfl⟩)
      · rintro σ H' ⟨e9, hg, v, rfl⟩
        subst e9
        rw [List.length_map, List.take_length] at hg
        exact k3 _ _ _ eR hg _ s2

end K13
set_option maxHeartbeats 1000000
set_option pp.maxSteps 500
namespace K13
open PySem PySem.Spec PyProof.Rows L2 SX TK NdefX K11 LD
open C8 (pe_c)
/-! ### the law's own ledger -/
theorem rec_ok {z : Str} {r : Rc} (h : tx 60 z) (e : recL z = some r) : RcOk r ∧ lineS r = z := by
  have ej := StrLaws.join_split z " "
  have hf : ∀ p ∈ Txt.split z " ", 32 ∉ TL.tl p := by
    rw [show (" " : Str) = S [32] by decide +kernel]
    exact StrLaws.split_free z 32
  have hp : ∀ p ∈ Txt.split z " ", tx 60 p := fun p hp => h.part hp
  unfold recL at e
  generalize Txt.split z " " = ws at *
  have ad : ∀ p ∈ ws, (splitB p).isSome = true → adr p := fun p hm q => ⟨q, hf p hm, (hp p hm).nl⟩
  have fin : ∀ r, (lineS r = z → RcOk r) → lineS r = z → RcOk r ∧ lineS r = z := fun r a b => ⟨a b, b⟩
  by_cases h5 : ws.length = 5
  · obtain ⟨w0, w1, w2, w3, w4, rfl⟩ : ∃ w0 w1 w2 w3 w4, ws = [w0, w1, w2, w3, w4] := by
      match ws, h5 with
      | [a, b, c, d, e], _ => exact ⟨a, b, c, d, e, rfl⟩
    rw [recW_5] at e
    split at e
    · rename_i h0
      subst h0
      cases e1 : numO w1 with
      | none => rw [e1] at e; cases e
      | some n =>
        cases e4 : numO w4 with
        | none => rw [e1, e4] at e; cases e
        | some t =>
          rw [e1, e4] at e
          dsimp only at e
          split at e
          · rename_i hq
            rw [Bool.and_eq_true] at hq
            obtain rfl := Option.some.inj e
            refine fin _ (fun el => ⟨numO_ok e1, numO_ok e4, ad w2 (by simp) hq.1, ad w3 (by simp) hq.2, by rw [el]; exact h.1⟩) ?_
            rw [← ej]
            apply TL.ext_tl
            show TL.tl (Str.empty ++ "open " ++ numS n ++ " " ++ w2 ++ " " ++ w3 ++ " " ++ numS t) = _
            rw [num_canon e1, num_canon e4, TL.tl_join]
            simp only [TL.tl_append]
            rw [show TL.tl Str.empty = [] from rfl, show TL.tl ("open " : Str) = TL.tl ("open" : Str) ++ [32] by decide +kernel, show TL.tl (" " : Str) = [32] by decide +kernel]
            simp [TL.joinL]
          · cases e
    · cases e
  · by_cases h4 : ws.length = 4
    · obtain ⟨w0, w1, w2, w3, rfl⟩ : ∃ w0 w1 w2 w3, ws = [w0, w1, w2, w3] := by
        match ws, h4 with
        | [a, b, c, d], _ => exact ⟨a, b, c, d, rfl⟩
      rw [recW_4] at e
      split at e
      · rename_i h0
        subst h0
        cases e1 : numO w1 with
        | none => rw [e1] at e; cases e
        | some n =>
          cases e2 : numO w2 with
          | none => rw [e1, e2] at e; cases e
          | some x =>
            cases e3 : numO w3 with
            | none => rw [e1, e2, e3] at e; cases e
            | some k =>
              rw [e1, e2, e3] at e
              obtain rfl := Option.some.inj e
              refine fin _ (fun el => ⟨numO_ok e1, numO_ok e2, numO_ok e3, by rw [el]; exact h.1⟩) ?_
              rw [← ej]
              apply TL.ext_tl
              show TL.tl (Str.empty ++ "close " ++ numS n ++ " " ++ numS x ++ " " ++ numS k) = _
              rw [num_canon e1, num_canon e2, num_canon e3, TL.tl_join]
              simp only [TL.tl_append]
              rw [show TL.tl Str.empty = [] from rfl, show TL.tl ("close " : Str) = TL.tl ("close" : Str) ++ [32] by decide +kernel, show TL.tl (" " : Str) = [32] by decide +kernel]
              simp [TL.joinL]
      · cases e
    · rw [recW_o h5 h4] at e
      cases e
def okT (z : Str) : Prop := okV (.str z)
theorem rec_tx {z : Str} {n t : Int} {c a : Str} (h : tx 60 z) (e : recL z = some (.op n c a t)) : okT c ∧ okT a := by
  have hp : ∀ p ∈ Txt.split z " ", tx 60 p := fun p hp => h.part hp
  unfold recL at e
  generalize Txt.split z " " = ws at *
  by_cases h5 : ws.length = 5
  · obtain ⟨w0, w1, w2, w3, w4, rfl⟩ : ∃ w0 w1 w2 w3 w4, ws = [w0, w1, w2, w3, w4] := by
      match ws, h5 with
      | [a, b, c, d, e], _ => exact ⟨a, b, c, d, e, rfl⟩
    rw [recW_5] at e
    split at e
    · cases e1 : numO w1 with
      | none => rw [e1] at e; cases e
      | some n =>
        cases e4 : numO w4 with
        | none => rw [e1, e4] at e; cases e
        | some t =>
          rw [e1, e4] at e
          dsimp only at e
          split at e
          · injection e with e
            injection e with _ q2 q3 _
            subst q2
            subst q3
            exact ⟨⟨(hp w2 (by simp)).ok, (hp w2 (by simp)).1⟩, ⟨(hp w3 (by simp)).ok, (hp w3 (by simp)).1⟩⟩
          · cases e
    · cases e
  · by_cases h4 : ws.length = 4
    · obtain ⟨w0, w1, w2, w3, rfl⟩ : ∃ w0 w1 w2 w3, ws = [w0, w1, w2, w3] := by
        match ws, h4 with
        | [a, b, c, d], _ => exact ⟨a, b, c, d, rfl⟩
      rw [recW_4] at e
      split at e
      · cases e1 : numO w1 with
        | none => rw [e1] at e; cases e
        | some n =>
          cases e2 : numO w2 with
          | none => rw [e1, e2] at e; cases e
          | some x =>
            cases e3 : numO w3 with
            | none => rw [e1, e2, e3] at e; cases e
            | some k => rw [e1, e2, e3] at e; injection e with e; cases e
      · cases e
    · rw [recW_o h5 h4] at e
      cases e
structure RxOk (r : Rx) : Prop where
  n : nOk r.n
  t : nOk r.t
  c : okT r.c
  a : okT r.a
  e : ∀ y, r.e = some y → nOk y.1 ∧ nOk y.2
structure MT (lines : List Str) (rs : List Rc) (P : Px) : Prop where
  tz : ∀ z ∈ lines, K13.tx 60 z
  ev : rs = eats (lines.map recL)
  ag : AgrP (st rs) P
  good : Good rs
  ok : ∀ r ∈ rs, RcOk r
  l1 : rs.length ≤ lines.length
  l2 : P.length ≤ lines.length
  row : ∀ x ∈ P, RxOk x.2
  lt : ∀ r ∈ rs, K13.tx 60 (lineS r)
theorem MT.nil : MT [] [] [] := ⟨fun _ h => (nomatch h), rfl, ⟨.nil, .nil, .nil⟩, Good.nil, fun _ h => (nomatch h), Nat.le_refl _, Nat.le_refl _, fun _ h => (nomatch h), fun _ h => (nomatch h)⟩
theorem all_snoc {α : Type} {p : α → Prop} {l : List α} {x : α} (h : ∀ y ∈ l, p y) (k : p x) : ∀ y ∈ l ++ [x], p y := fun y hy => by
  rcases List.mem_append.mp hy with z | z
  · exact h y z
  · rw [List.mem_singleton.mp z]
    exact k
theorem MT.no {lines : List Str} {rs : List Rc} {P : Px} (h : MT lines rs P) {z : Str} (hz : K13.tx 60 z) (hr : ∀ r, recL z = some r → (st rs).legal r = false) : MT (lines ++ [z]) rs P := by
  refine ⟨all_snoc h.tz hz, ?_, h.ag, h.good, h.ok, ?_, ?_, h.row, h.lt⟩
  · rw [List.map_append]
    show rs = eats (_ ++ [recL z])
    rw [eats_snoc, ← h.ev]
    unfold eat
    cases q : recL z with
    | none => rfl
    | some r => dsimp only; rw [if_neg (by rw [hr r q]; exact Bool.false_ne_true)]
  · rw [List.length_append]; have := h.l1; omega
  · rw [List.length_append]; have := h.l2; omega
theorem MT.yes {lines : List Str} {rs : List Rc} {P P' : Px} (h : MT lines rs P) {z : Str} {r : Rc} (hz : K13.tx 60 z) (hr : recL z = some r) (hl : (st rs).legal r = true) (ha : AgrP ((st rs).step r) P') (l2 : P'.length ≤ P.length + 1) (row : ∀ x ∈ P', RxOk x.2) : MT (lines ++ [z]) (rs ++ [r]) P' := by
  refine ⟨all_snoc h.tz hz, ?_, by rw [st_snoc]; exact ha, h.good.snoc hl, all_snoc h.ok (rec_ok hz hr).1, ?_, ?_, row, all_snoc h.lt (by rw [(rec_ok hz hr).2]; exact hz)⟩
  · rw [List.map_append]
    show _ = eats (_ ++ [recL z])
    rw [eats_snoc, ← h.ev, hr]
    exact (if_pos hl).symm
  · rw [List.length_append, List.length_append]; have := h.l1; have : [r].length = 1 := rfl; have : [z].length = 1 := rfl; omega
  · rw [List.length_append]; have := h.l2; have : [z].length = 1 := rfl; omega
def textL (lines : List Str) : Str := S (cat (lines.map TL.tl))
theorem textL_snoc (lines : List Str) (z : Str) : textL (lines ++ [z]) = textL lines ++ sealT z := by
  apply TL.ext_tl
  rw [TL.tl_append, tl_seal]
  show cat ((lines ++ [z]).map _) = cat (lines.map _) ++ _
  unfold cat
  rw [List.map_append, List.map_append, List.flatten_append]
  simp
theorem textL_cons (z : Str) (r : List Str) : textL (z :: r) = sealT z ++ textL r := by
  apply TL.ext_tl
  rw [TL.tl_append, tl_seal]
  show cat (TL.tl z :: r.map TL.tl) = _ ++ cat (r.map TL.tl)
  rw [cat_cons]
theorem textL_len : ∀ {lines : List Str}, (∀ z ∈ lines, z.length ≤ 60) → (textL lines).length ≤ 72 * lines.length
  | [], _ => Nat.le_refl _
  | z :: r, h => by
    have ih := textL_len fun y hy => h y (List.mem_cons_of_mem _ hy)
    have hz := seal_len z
    have hz2 := h z (List.mem_cons_self ..)
    rw [textL_cons, cat_len, List.length_cons]
    omega
abbrev zWr : Str := "open 7 ann@x bob@x 3 9999\n" ++ sealT "open 8 ann@x bob@x 3"
theorem readJ_wr : readJ zWr = [] := by decide +kernel
theorem readJ_nil : readJ (S []) = [] := readJ_free (by simp)
theorem readJ_textL {lines : List Str} (h : ∀ z ∈ lines, tx 60 z) (x : Str) (hx : readJ x = []) : readJ (textL lines ++ x) = lines := by
  have e : textL lines ++ x = S (cat (lines.map TL.tl) ++ TL.tl x) := by
    apply TL.ext_tl
    rw [TL.tl_append]
    rfl
  rw [e, readJ_cat _ fun r hr => ?_]
  · have : S (TL.tl x) = x := by apply TL.ext_tl; rfl
    rw [this, hx, List.append_nil, List.map_map]
    conv => rhs; rw [← List.map_id lines]
    exact List.map_congr_left fun z _ => by apply TL.ext_tl; rfl
  · obtain ⟨z, hz, rfl⟩ := List.mem_map.mp hr
    exact (h z hz).nl

end K13
set_option maxHeartbeats 1000000
set_option pp.maxSteps 500
namespace K13
open PySem PySem.Spec PyProof.Rows L2 SX TK NdefX K11 LD
open C8 (pe_c)
theorem TAt.via {K : PySem.W.Frag} {H H' : Hp} {p r : Addr} {u l : Int} {bs : List Bd} (h : TAt K H p r u bs l) (hi : ∀ dx fs, H p = some (.ins (He.ga K "Tariff") dx fs) → H' p = some (.ins (He.ga K "Tariff") dx fs)) (ht : ∀ x b, H x = some (.tup b) → H' x = some (.tup b)) (hl : ∀ ys, H r = some (.lst ys) → H' r = some (.lst ys)) : TAt K H' p r u bs l := by
  obtain ⟨dx, e, ts, e1, q⟩ := h
  exact ⟨dx, hi _ _ e, ts, hl _ e1, q.mono fun x b z => ht x _ z⟩
theorem cost_ok {uu b pr l sp : Int} (h1 : 1 ≤ uu) (h2 : uu ≤ 9) (h3 : 0 ≤ b) (h4 : 0 ≤ pr) (h5 : pr ≤ 8) (h6 : 0 ≤ l) (h7 : l ≤ 4) (h8 : 0 ≤ sp) (h9 : sp ≤ 100000) : nOk (costI uu [(b, pr)] l sp) := by
  have e : costI uu [(b, pr)] l sp = 0 + minI (unitsI uu sp) b * pr + (unitsI uu sp - minI (unitsI uu sp) b) * l := rfl
  rw [e]
  have u0 : 0 ≤ unitsI uu sp := Int.ediv_nonneg (by omega) (by omega)
  have u1 : unitsI uu sp ≤ 100010 := by
    unfold unitsI
    have := Int.ediv_le_self uu (a := sp + uu - 1) (by omega)
    omega
  have m0 : 0 ≤ minI (unitsI uu sp) b ∧ minI (unitsI uu sp) b ≤ unitsI uu sp := by
    unfold minI
    split <;> omega
  generalize unitsI uu sp = U at *
  generalize minI U b = M at *
  have a1 := Int.mul_nonneg m0.1 h4
  have a2 := Int.mul_le_mul_of_nonneg_left h5 m0.1
  have a3 : 0 ≤ (U - M) * l := Int.mul_nonneg (by omega) h6
  have a4 : (U - M) * l ≤ (U - M) * 4 := Int.mul_le_mul_of_nonneg_left h7 (by omega)
  constructor <;> omega
theorem SqL.via {K : PySem.W.Frag} {H H' : Hp} {a : Addr} {xs : List V} (h : SqL K H a xs) (f : ∀ o, H a = some o → H' a = some o) : SqL K H' a xs := by
  rcases h with (h | ⟨o, h⟩) | h
  · exact .inl (.inl (f _ h))
  · exact .inl (.inr ⟨o, f _ h⟩)
  · exact .inr h

structure LW (K : PySem.W.Frag) (H : Hp) (s c tr rt rl kp cu : Addr) (X : List V) (uu l : Int) (bds : List Bd) (P : Px) (kept : List Str) : Prop where
  st : StAt H s c
  T : TAt K H tr rt uu bds l
  R : RowsAt H rl P
  kp : H kp = some (.lst (kept.map V.str))
  cu : H cu = some (.lst X)
structure NE (s c rt rl kp cu : Addr) : Prop where
  rt1 : rt ≠ s
  rt2 : rt ≠ c
  rl1 : rl ≠ s
  rl2 : rl ≠ c
  kp1 : kp ≠ s
  kp2 : kp ≠ c
  cu1 : cu ≠ s
  cu2 : cu ≠ c
  a1 : rl ≠ rt
  a2 : kp ≠ rt
  a3 : kp ≠ rl
  a4 : cu ≠ rt
  a5 : cu ≠ rl
  a6 : cu ≠ kp
def NP (s c rt kp cu : Addr) (P : Px) : Prop := ∀ x ∈ P, x.1 ≠ s ∧ x.1 ≠ c ∧ x.1 ≠ rt ∧ x.1 ≠ kp ∧ x.1 ≠ cu
section
variable {K : PySem.W.Frag} {H H' : Hp} {s c tr rt rl kp cu : Addr} {X : List V} {uu l : Int} {bds : List Bd} {P P' : Px} {kept : List Str}
theorem LW.same (h : LW K H s c tr rt rl kp cu X uu l bds P kept) (e : Same H H') : LW K H' s c tr rt rl kp cu X uu l bds P kept := ⟨h.st.same e, h.T.same e, h.R.same e, e _ _ h.kp, e _ _ h.cu⟩
theorem LW.keep (h : LW K H s c tr rt rl kp cu X uu l bds P kept) (n : NE s c rt rl kp cu) (np : NP s c rt kp cu P) (st : StAt H' s c) (k : Keep H H' s c) : LW K H' s c tr rt rl kp cu X uu l bds P kept := by
  obtain ⟨_, ⟨m, hm⟩, cs, hc, _⟩ := id h.st
  have nl : ∀ {y o}, H y = some o → (∀ q, o ≠ .lst q) → H' y = some o := fun e nl => k _ _ e (ne_of e hm (nl _)) (ne_of e hc (nl _))
  exact ⟨st, h.T.via (fun dx fs e => nl e (by intro q z; cases z)) (fun x b e => nl e (by intro q z; cases z)) fun ys e => k _ _ e n.rt1 n.rt2, ⟨k _ _ h.R.ls n.rl1 n.rl2, fun x hx => k _ _ (h.R.at_ x hx) (np x hx).1 (np x hx).2.1, h.R.nd, h.R.nr⟩, k _ _ h.kp n.kp1 n.kp2, k _ _ h.cu n.cu1 n.cu2⟩
theorem LW.fr (h : LW K H s c tr rt rl kp cu X uu l bds P kept) (n : NE s c rt rl kp cu) {a : Addr} {ys : List V} (ha : H a = some (.lst ys)) (na : a ≠ s ∧ a ≠ c ∧ a ≠ rt ∧ a ≠ kp ∧ a ≠ cu) (hR : RowsAt H' rl P') (f : ∀ b o, H b = some o → b ≠ a → H' b = some o) : LW K H' s c tr rt rl kp cu X uu l bds P' kept := by
  obtain ⟨n0, ⟨m, hm⟩, cs, hc, l63⟩ := id h.st
  obtain ⟨n1, n2, n3, n4, n5⟩ := na
  have nl : ∀ {y o}, H y = some o → (∀ q, o ≠ .lst q) → H' y = some o := fun e nl => f _ _ e (ne_of e ha (nl _))
  exact ⟨⟨n0, ⟨m, f _ _ hm n1.symm⟩, cs, f _ _ hc n2.symm, l63⟩, h.T.via (fun dx fs e => nl e (by intro q z; cases z)) (fun x b e => nl e (by intro q z; cases z)) fun ys e => f _ _ e n3.symm, hR, f _ _ h.kp n4.symm, f _ _ h.cu n5.symm⟩
theorem LW.keepPut (h : LW K H s c tr rt rl kp cu X uu l bds P kept) (n : NE s c rt rl kp cu) (np : NP s c rt kp cu P) (z : Str) : LW K (upd H kp (.lst (kept.map V.str ++ [.str z]))) s c tr rt rl kp cu X uu l bds P (kept ++ [z]) := by
  refine ⟨h.st.upd n.kp1 n.kp2, ?_, ⟨(upd_ne n.a3.symm).trans h.R.ls, fun x hx => (upd_ne (np x hx).2.2.2.1).trans (h.R.at_ x hx), h.R.nd, h.R.nr⟩, by rw [upd_same, List.map_append]; rfl, (upd_ne n.a6).trans h.cu⟩
  exact h.T.via (fun dx fs e => (upd_ne (ne_of e h.kp (by intro z; cases z))).trans e) (fun x b e => (upd_ne (ne_of e h.kp (by intro z; cases z))).trans e) fun ys e => (upd_ne n.a2.symm).trans e
end
/-! ### sorted rows -/
def rwP (f : Rx → Rx) (x : Addr × Rx) : Addr × List PyData := (x.1, (rx6 (f x.2)).map vD)
def kP (x : Addr × List PyData) : Int := match x.2 with
  | .int n :: _ => n
  | _ => 0
theorem rwP_k (f : Rx → Rx) (x : Addr × Rx) : (rwP f x).2 = .int (kP (rwP f x)) :: (rwP f x).2.tail := rfl
theorem kP_rwP (f : Rx → Rx) (x : Addr × Rx) : kP (rwP f x) = (f x.2).n := rfl
theorem rwP_sort (f : Rx → Rx) (hf : ∀ r, (f r).n = r.n) (P : Px) (hn : (P.map (·.2.n)).Nodup) : (P.map (rwP f)).mergeSort (PySem.W.dataLe false rwD) = (srt (fun x : Addr × Rx => x.2.n) P).map (rwP f) := by
  refine sort_firsts kP (fun x => x.2.tail) (fun x hx => ?_) ((srt_perm _ _).map _) ?_
  · obtain ⟨y, _, rfl⟩ := List.mem_map.mp hx
    exact rwP_k f y
  · have e : ((srt (fun x : Addr × Rx => x.2.n) P).map (rwP f)).map kP = (srt (fun x : Addr × Rx => x.2.n) P).map fun x => x.2.n := by
      rw [List.map_map]
      exact List.map_congr_left fun x _ => hf x.2
    rw [e]
    exact srt_pw _ _ hn
theorem rwP_ref (f : Rx → Rx) (Q : Px) : (Q.map (rwP f)).map (fun x => V.ref x.1) = Q.map fun x => V.ref x.1 := by
  rw [List.map_map]
  rfl
theorem rwP_alike (f : Rx → Rx) (a b : Addr × Rx) (h : ((f a.2).e.isSome = (f b.2).e.isSome)) : PySem.W.alike (rwD (rwP f a)) (rwD (rwP f b)) = true := by
  unfold rwP rwD rx6
  generalize f a.2 = x at *
  generalize f b.2 = y at *
  cases q1 : x.e with
  | none =>
    cases q2 : y.e with
    | none => simp [vD, oV, PySem.W.alike, PySem.W.alikeAll]
    | some w => rw [q1, q2] at h; cases h
  | some v =>
    cases q2 : y.e with
    | none => rw [q1, q2] at h; cases h
    | some w => simp [vD, oV, PySem.W.alike, PySem.W.alikeAll]
theorem rx6_ok {r : Rx} (h : RxOk r) : ∀ v ∈ rx6 r, okV v := by
  have bg : ∀ {i : Int}, nOk i → okV (.int i) := fun h => ⟨by have := h.1; omega, by have := h.2; omega⟩
  have ho : okV (oV (r.e.map (·.1))) ∧ okV (oV (r.e.map (·.2))) := by
    cases q : r.e with
    | none => exact ⟨trivial, trivial⟩
    | some y => exact ⟨bg (h.e y q).1, bg (h.e y q).2⟩
  intro v hv
  simp only [rx6, List.mem_cons, List.not_mem_nil, or_false] at hv
  rcases hv with rfl | rfl | rfl | rfl | rfl | rfl
  · exact bg h.n
  · exact h.c
  · exact h.a
  · exact bg h.t
  · exact ho.1
  · exact ho.2
theorem lstD_depth {b : List V} (h : ∀ v ∈ b, okV v) : (PyData.list (b.map vD)).depth ≤ 8 := by
  obtain ⟨a1, a2, a3, a4, a5, a6⟩ := flats h
  simp only [PyData.depth]
  omega
theorem rx6_bi {r : Rx} (h : r.e.isSome = true) : rx6 r = (biR r).v := by
  unfold rx6 biR
  cases q : r.e with
  | none => rw [q] at h; cases h
  | some y => rfl
theorem fill_some (g : Un → Int × Int) (r : Rx) : (fillR g r).e.isSome = true := by
  unfold fillR
  cases q : r.e with
  | none => rfl
  | some y => dsimp only; rw [q]; rfl
theorem readJ_catS {rs : List Rc} (h : ∀ r ∈ rs, RcOk r) : readJ (catS rs) = rs.map lineS := by
  have e := readJ_cat (X := []) (rs.map fun r => TL.tl (lineS r)) fun x hx => by
    obtain ⟨r, hr, rfl⟩ := List.mem_map.mp hx
    exact line_nonl (h r hr)
  rw [List.append_nil, readJ_nil, List.append_nil, List.map_map] at e
  exact e
theorem mxI_ge (a b : Int) : b ≤ mxI a b ∧ a ≤ mxI a b := by
  unfold mxI
  split <;> omega
theorem joinL_bl : ∀ l : List (List Nat), l.length ≤ (TL.joinL [32] l).length + 1
  | [] => Nat.zero_le _
  | [p] => by simp
  | p :: a :: r => by
    have ih := joinL_bl (a :: r)
    show (a :: r).length + 1 ≤ (p ++ ([32] ++ TL.joinL [32] (a :: r))).length + 1
    rw [List.length_append, List.length_append]
    have : ([32] : List Nat).length = 1 := rfl
    omega
theorem parts_bl (z : Str) : (Txt.split z " ").length ≤ z.length + 1 := by
  have e := congrArg TL.tl (StrLaws.join_split z " ")
  rw [TL.tl_join, show (" " : Str) = S [32] by decide +kernel] at e
  have q := joinL_bl ((Txt.split z (S [32])).map TL.tl)
  rw [List.length_map, show TL.joinL [32] ((Txt.split z (S [32])).map TL.tl) = TL.tl z from e, ← len_eq] at q
  rw [show (" " : Str) = S [32] by decide +kernel]
  exact q
theorem fill_ok {g : Un → Int × Int} {r : Rx} (h : RxOk r) (k : nOk (g r.un).1 ∧ nOk (g r.un).2) : RxOk (fillR g r) := by
  unfold fillR
  cases q : r.e with
  | some y => exact h
  | none => exact ⟨h.n, h.t, h.c, h.a, fun y e => by rw [← Option.some.inj e]; exact k⟩
theorem tx_line {n e k : Int} (hn : nOk n) (he : nOk e) (hk : nOk k) : tx 60 (lineS (.cl n e k)) := by
  have t0 : tx 0 Str.empty := ⟨by decide +kernel, by decide +kernel⟩
  exact ((((((t0.cat tx_cl).cat (tx_num hn)).cat tx_bl).cat (tx_num he)).cat tx_bl).cat (tx_num hk)).mono (by decide)

end K13
set_option maxHeartbeats 1000000
set_option pp.maxSteps 500
namespace K13
open PySem PySem.Spec PyProof.Rows L2 SX TK NdefX K11 LD
open C8 (pe_c)
def spLaw (K : PySem.W.Frag) : Sp := fun vs H Q _ => ∃ (a : Addr) (ns : List Int), vs = [.ref a] ∧ SqL K H a (ns.map V.int) ∧ ns.length ≤ 63 ∧ ∀ H', Q (.bl true) H'
theorem ok_law {P : Program} {w : World} {K : PySem.W.Frag} {mg : Str → Option Value} {base : Heap} {f : Addr} {fd : FuncData} (T : Tx K mg) (c_law_state : C8.Cal P w K mg base 1 "_law_state" (spState K) []) (c_law_draw : C8.Cal P w K mg base 1 "_law_draw" spDraw []) (c_law_line : C8.Cal P w K mg base 5 "_law_line" spLLine []) (c_sealed : C8.Cal P w K mg base 2 "sealed" spSeal []) (c_law_take : C8.Cal P w K mg base 4 "_law_take" (spTake K) []) (c_mkx_Tariff : TKE.MakX P w K mg base 3 "Tariff" (He.ga K "Tariff") (spTrInit K) 3 [] (fun vs _ => vs)) (c_Tariff_cost : C8.Met P w K mg base 2 (He.ga K "Tariff") "cost" (spCost K) []) (c_recover : C8.Cal P w K mg base 7 "recover" (spRecover K) []) (c_Ledger_bills : C8.Met P w K mg base 1 (He.ga K "Ledger") "bills" (spLBills K) []) (c_Ledger_pending : C8.Met P w K mg base 1 (He.ga K "Ledger") "pending" (spLPend K) []) (c_read_journal : C8.Cal P w K mg base 4 "read_journal" spRead [])
    (F : FunD K "law" "law" (defArgs s_law) (defBody s_law) (defScope s_law) [] [] f fd) : FnOk P w K mg base CX0 8 f fd ["script"] (spLaw K) := by
  refine F.ok sc_law (fun vs H Q E h => ?_) (fun cdv A outer s0 H vs Q E hr h => ?_)
  · obtain ⟨a, ns, rfl, _⟩ := h
    rfl
  · obtain ⟨a, ns, rfl, hS, hn, k⟩ := h
    refine ⟨_, PSs.nox (pss_cons (ps_set (i := 1) sc_law.nd rfl (Or.inl rfl) (pe_c c_law_state hr (by decide) rfl (pa_cons (pv 0) pa_nil))) (pss_cons (ps_set (i := 2) sc_law.nd rfl (Or.inl rfl) (TKE.pe_makX c_mkx_Tariff hr (by decide) TKE.none_out rfl (pa_cons (pe_op op_add pe_int (pe_c c_law_draw hr (by decide) rfl (pa_cons (pv 1) (pa_cons pe_int pa_nil)))) (pa_cons (pe_lst (pa_cons (pe_tup (pa_cons (pe_op op_add pe_int (pe_c c_law_draw hr (by decide) rfl (pa_cons (pv 1) (pa_cons pe_int pa_nil)))) (pa_cons (pe_c c_law_draw hr (by decide) rfl (pa_cons (pv 1) (pa_cons pe_int pa_nil))) pa_nil))) pa_nil)) (pa_cons (pe_c c_law_draw hr (by decide) rfl (pa_cons (pv 1) (pa_cons pe_int pa_nil))) pa_nil))))) (pss_cons (ps_set (i := 3) sc_law.nd rfl (Or.inl rfl) (pe_lst pa_nil)) (pss_cons (ps_set (i := 4) sc_law.nd rfl (Or.inl rfl) (pe_lst pa_nil)) (pss_cons (ps_set (i := 5) sc_law.nd rfl (Or.inl rfl) pe_str) (pss_cons (ps_for PassesOwn.never rfl (pi_list (pe_slice sl_list (pv 0) po_none (po_some pe_int))) (pg_name (i := 6) sc_law.nd rfl (Or.inl rfl)) (pss_cons (ps_set (i := 7) sc_law.nd rfl (Or.inl rfl) (pe_c c_law_line hr (by decide) rfl (pa_cons (pv 1) pa_nil))) (pss_cons (ps_set (i := 5) sc_law.nd rfl (Or.inl rfl) (pe_op op_add_str (pv 5) (pe_c c_sealed hr (by decide) rfl (pa_cons (pv 7) pa_nil)))) (pss_one (ps_if (pt_val (pe_c c_law_take hr (by decide) rfl (pa_cons (pv 3) (pa_cons (pe_split (pv 7) pe_str) pa_nil)))) (pss_one (ps_expr (pe_bm PySem.F.plainAttrs_list PySem.F.slot_list_append PySem.F.type_list_append mt_append (pv 4) (pa_cons (pv 7) pa_nil)))) pss_nil))))) (C8.pss_cut (ps_if (pt_cmpR op_eq (pe_c c_law_draw hr (by decide) rfl (pa_cons (pv 1) (pa_cons pe_int pa_nil))) pe_int (nomark _)) (pss_one (ps_set (i := 5) sc_law.nd rfl (Or.inl rfl) (pe_op op_add_str (pe_op op_add_str (pv 5) pe_str) (pe_c c_sealed hr (by decide) rfl (pa_cons pe_str pa_nil))))) pss_nil) (pss_cons (ps_set (i := 8) sc_law.nd rfl (Or.inl rfl) (pe_c c_law_draw hr (by decide) rfl (pa_cons (pv 1) (pa_cons pe_int pa_nil)))) (pss_cons (ps_for PassesOwn.never rfl (pi_list (pe_callB (TK.cr_sortedRows hr.units) rfl T.f_sorted (by decide +kernel) (pa_cons (pe_lc (own := [("row", 9)]) (g := gName 9) rfl sc_law.nd (pi_list (pv 3)) (blkOk_by (own := [("row", 9)]) (N := ["script", "state", "tariff", "rows", "kept", "text", "cell", "line", "now", "row", "ledger"]) (sc := defScope s_law) (by decide +kernel)) (fun _ _ _ _ _ => pg_name (i := 9) sc_law.nd rfl (Or.inl rfl)) (fun _ _ _ _ _ => pts_one (pt_cmpR op_isN (pe_ix (ixListK K rfl) (pv 9) pe_int (fun _ _ => rfl)) pe_non (nomark _))) (fun _ _ _ _ _ => (pv 9))) pa_nil))) (pg_name (i := 9) sc_law.nd rfl (Or.inl rfl)) (pss_cons (ps_asg (pe_callB (call_max2 rfl) rfl T.f_max (by decide +kernel) (pa_cons (pv 8) (pa_cons (pe_ix ix_list (pv 9) pe_int (fun _ _ => rfl)) pa_nil))) (pg_sub (pv 9) pe_int set_list)) (pss_cons (ps_asg (C8.pe_mt c_Tariff_cost hr (by decide) (pv 2) (pa_cons (pe_op op_sub (pe_ix ix_list (pv 9) pe_int (fun _ _ => rfl)) (pe_ix ix_list (pv 9) pe_int (fun _ _ => rfl))) pa_nil)) (pg_sub (pv 9) pe_int set_list)) (pss_one (ps_expr (pe_bm PySem.F.plainAttrs_list PySem.F.slot_list_append PySem.F.type_list_append mt_append (pv 4) (pa_cons (pe_op op_add_str (pe_op op_add_str (pe_op op_add_str (pe_op op_add_str (pe_op op_add_str pe_str (pe_callTy call_str_int rfl T.f_str (by decide +kernel) (pa_cons (pe_ix ix_list (pv 9) pe_int (fun _ _ => rfl)) pa_nil))) pe_str) (pe_callTy call_str_int rfl T.f_str (by decide +kernel) (pa_cons (pe_ix ix_list (pv 9) pe_int (fun _ _ => rfl)) pa_nil))) pe_str) (pe_callTy call_str_int rfl T.f_str (by decide +kernel) (pa_cons (pe_ix ix_list (pv 9) pe_int (fun _ _ => rfl)) pa_nil))) pa_nil))))))) (pss_cons (ps_set (i := 10) sc_law.nd rfl (Or.inl rfl) (pe_c c_recover hr (by decide) rfl (pa_cons (pv 2) (pa_cons (pv 5) (pa_cons (pv 8) pa_nil))))) (C8.pss_cut (ps_if (PW.pt (pw_or (pt_cmpR (op_neD hr.units) (C8.pe_mt0 c_Ledger_bills hr (by decide) (pv 10)) (pe_lc (own := [("row", 9)]) (g := gName 9) rfl sc_law.nd (pi_list (pe_callB (TK.cr_sortedRows hr.units) rfl T.f_sorted (by decide +kernel) (pa_cons (pv 3) pa_nil))) (blkOk_by (own := [("row", 9)]) (N := ["script", "state", "tariff", "rows", "kept", "text", "cell", "line", "now", "row", "ledger"]) (sc := defScope s_law) (by decide +kernel)) (fun _ _ _ _ _ => pg_name (i := 9) sc_law.nd rfl (Or.inl rfl)) (fun _ _ _ _ _ => pts_nil) (fun _ _ _ _ _ => (pe_callTy (TKE.tupOfK K rfl) rfl T.f_tuple (by decide +kernel) (pa_cons (pv 9) pa_nil)))) (nomark _)) (pw_or1 (pt_cmpR (op_neD hr.units) (C8.pe_mt0 c_Ledger_pending hr (by decide) (pv 10)) (pe_lst pa_nil) (nomark _))))) (pss_one (ps_ret pe_bl)) pss_nil) (pss_one (ps_ret (pe_and (pe_cmpR (op_eqD hr.units) (pe_c c_read_journal hr (by decide) rfl (pa_cons (pe_fldC rfl T.cl_Journal T.na_Journal_text (pe_fldC rfl T.cl_Ledger T.na_Ledger_journal (pv 10) rfl) rfl) pa_nil)) (pv 4) (nomark _)) (pe_one (pe_cmpR op_eq (pe_fldC rfl T.cl_Journal T.na_Journal_synced (pe_fldC rfl T.cl_Ledger T.na_Ledger_journal (pv 10) rfl) rfl) (pe_callB call_len_str rfl T.f_len PySem.boot_len (pa_cons (pe_fldC rfl T.cl_Journal T.na_Journal_text (pe_fldC rfl T.cl_Ledger T.na_Ledger_journal (pv 10) rfl) rfl) pa_nil)) (nomark _))))))))))))))))), ?_⟩
    refine ⟨_, rfl, a, ns, rfl, hS, hn, fun s c H1 s1 hs0 hc0 st1 => ?_⟩
    -- the tariff
    refine ⟨_, rfl, s, c, 9, rfl, st1, by decide, by decide, fun u H2 u0 u1 st2 k2 => ⟨_, _, rfl, rfl, _, rfl, s, c, 4, rfl, st2, by decide, by decide, fun b H3 b0 b1 st3 k3 => ⟨_, _, rfl, rfl, _, rfl, s, c, 9, rfl, st3, by decide, by decide, fun pr H4 p0 p1 st4 k4 => ⟨by show 2 ≤ sizeLine; decide, fun t ht => ⟨by show 1 ≤ sizeLine; decide, fun g hg => ?_⟩⟩⟩⟩⟩
    have k14 := (k2.trans k3).trans k4
    have s45 := same_upd (o := .tup [.int (1 + b), .int pr]) ht
    have s56 := same_upd (o := .lst [.ref t]) hg
    obtain ⟨t1, t2⟩ := st4.tracked ht
    have st5 := st4.upd (o := .tup [.int (1 + b), .int pr]) t1 t2
    obtain ⟨g1, g2⟩ := st5.tracked hg
    have st6 := st5.upd (o := .lst [.ref t]) g1 g2
    have et := s56 _ _ (upd_same (H := H4) (a := t) (o := .tup [.int (1 + b), .int pr]))
    have eg : (upd (upd H4 t (.tup [.int (1 + b), .int pr])) g (.lst [.ref t])) g = some (.lst [.ref t]) := upd_same
    have k16 := k14.trans (Keep.of_same (s45.trans s56))
    clear k14 s45 s56 st5 k2 k3 k4 st2 st3 st4
    generalize upd (upd H4 t (.tup [.int (1 + b), .int pr])) g (.lst [.ref t]) = H6 at *
    clear ht hg
    refine ⟨_, rfl, s, c, 5, rfl, st6, by decide, by decide, fun l H7 l0 l1 st7 k67 => ⟨rfl, rfl, fun tr dx hx hdx ne => ?_⟩⟩
    have k17 := k16.trans k67
    have fa7 : ∀ b o, H b = some o → H7 b = some o := fun b o e => k17 _ _ (s1 _ _ e) (ne_of_none e hs0) (ne_of_none e hc0)
    have eg7 := k67 _ _ eg g1 g2
    have et7 := k67 _ _ et t1 t2
    have s78 := same_own (C := He.ga K "Tariff") (fs := []) hx hdx
    have hBg : BAt (upd (upd H7 dx (.own tr)) tr (.ins (He.ga K "Tariff") dx [])) g [(1 + b, pr)] := ⟨[t], s78 _ _ eg7, ⟨s78 _ _ et7, trivial⟩⟩
    have okU1 : okU (1 + u) = true := by
      unfold okU
      rw [if_pos (by omega)]
      exact decide_eq_true (by omega)
    have okP0 : ∀ i : Int, 0 ≤ i → i ≤ 10 → okP i = true := fun i a b => by
      unfold okP
      rw [if_pos a]
      exact decide_eq_true (by omega)
    have okB1 : okB [(1 + b, pr)] = true := by
      unfold okB
      rw [if_pos (show [(1 + b, pr)].length ≤ 8 from (by show 1 ≤ 8; decide))]
      show (okD (1 + b, pr) && true) = true
      rw [Bool.and_true]
      unfold okD
      rw [if_pos]
      · exact okP0 pr p0 (by omega)
      · show okU (1 + b) = true
        unfold okU
        rw [if_pos (by omega)]
        exact decide_eq_true (by omega)
    have okP1 := okP0 l l0 (by omega)
    have hsn : ∀ b o, H b = some o → b ≠ s ∧ b ≠ c := fun b o e => ⟨ne_of_none e hs0, ne_of_none e hc0⟩
    clear k16 k67 k17 st6 et eg st1 s1 hs0 hc0
    refine ⟨tr, dx, g, 1 + u, l, [(1 + b, pr)], rfl, upd_same, hBg, (show 1 ≤ 40 by decide), fun _ rt H9 f1 f2 f3 f4 => ⟨rfl, ?_⟩, fun ef => absurd (by unfold fltS; rw [if_pos okU1, if_pos okB1, if_pos okP1]) ef⟩
    have x0 : H7 tr = none := by
      cases eq : H7 tr with
      | none => rfl
      | some o => rw [hx] at eq; cases eq
    have r0 : H7 rt = none := by
      cases eq : H7 rt with
      | none => rfl
      | some o => rw [s78 _ _ eq] at f3; cases f3
    have s79 : Same H7 H9 := fun b o e => f4 _ _ (s78 _ _ e) (ne_of_none e x0)
    have hT : TAt K H9 tr rt (1 + u) [(1 + b, pr)] l := ⟨dx, f1, f2⟩
    have st9 := st7.same s79
    obtain ⟨rs1, rc1⟩ := st7.tracked r0
    have fa9 : ∀ b o, H b = some o → H9 b = some o := fun b o e => s79 _ _ (fa7 _ _ e)
    have uu1 : 1 ≤ 1 + u ∧ 1 + u ≤ 9 := by omega
    have bb1 : 0 ≤ 1 + b := by omega
    have hcost : ∀ sp, 0 ≤ sp → sp ≤ 100000 → nOk (costI (1 + u) [(1 + b, pr)] l sp) := fun sp q1 q2 => cost_ok uu1.1 uu1.2 bb1 p0 (by omega) l0 (by omega) q1 q2
    clear okP0 f1 f2 f3 f4 s78 hBg x0 r0 s79 fa7 eg7 et7 hx hdx ne st7 uu1 bb1 p0 p1 b0 b1 l0 l1 u0 u1 g1 g2 t1 t2
    generalize [(1 + b, pr)] = bds at *
    generalize 1 + u = uu at *
    have hcost2 : ∀ (now t : Int), 0 ≤ now → now < 300 → nOk t → nOk (mxI now t) ∧ nOk (costI uu bds l (mxI now t - t)) := fun now t n0 n1 ht => by
      have m := mxI_ge now t
      have m2 : mxI now t = now ∨ mxI now t = t := by unfold mxI; split <;> simp
      have t0 := ht.1
      have t1 := ht.2
      refine ⟨⟨by omega, by omega⟩, hcost _ (by omega) (by omega)⟩
    refine ⟨by show 0 ≤ sizeLine; decide, fun rl hrl => ?_⟩
    refine ⟨by show 0 ≤ sizeLine; decide, fun kp hkp => ?_⟩
    have srl := same_upd (o := .lst []) hrl
    have skp := same_upd (o := .lst []) hkp
    have st11 := (st9.same srl).same skp
    have hT11 := (hT.same srl).same skp
    obtain ⟨m1, m2⟩ := st9.tracked hrl
    obtain ⟨m3, m4⟩ := (st9.same srl).tracked hkp
    have rlrt : rl ≠ rt := by
      obtain ⟨_, _, ts0, e0, _⟩ := hT
      exact (ne_of_none e0 hrl).symm
    have kprt : kp ≠ rt := by
      obtain ⟨_, _, ts0, e0, _⟩ := hT.same srl
      exact (ne_of_none e0 hkp).symm
    have kprl : kp ≠ rl := (ne_of_none (upd_same (H := H9) (a := rl) (o := .lst [])) hkp).symm
    have erl := skp _ _ (upd_same (H := H9) (a := rl) (o := .lst []))
    have ekp : (upd (upd H9 rl (.lst [])) kp (.lst [])) kp = some (.lst []) := upd_same
    have fa11 : ∀ b o, H b = some o → (upd (upd H9 rl (.lst [])) kp (.lst [])) b = some o := fun b o e => skp _ _ (srl _ _ (fa9 _ _ e))
    clear hT st9 fa9 hrl hkp srl skp
    generalize upd (upd H9 rl (.lst [])) kp (.lst []) = H11 at *
    have hS11 : SqL K H11 a (ns.map V.int) := K13.SqL.via hS fun o e => fa11 _ _ e
    refine ⟨_, rfl, _, rfl, a, _, rfl, hS11, fun cu hcu => ⟨cu, rfl, ⟨_, SqL.of upd_same⟩, ?_⟩⟩
    have lX : (cutV (ns.map V.int) none (some 30)).length ≤ 30 := by
      rw [show (30 : Int) = ((30 : Nat) : Int) from rfl, cutV_to]
      exact List.length_take_le _ _
    generalize cutV (ns.map V.int) none (some 30) = X at *
    have scu := same_upd (o := .lst X) hcu
    obtain ⟨v1, v2⟩ := st11.tracked hcu
    have L12 : LW K (upd H11 cu (.lst X)) s c tr rt rl kp cu X uu l bds [] [] := ⟨st11.same scu, hT11.same scu, ⟨scu _ _ erl, fun _ h => (nomatch h), .nil, fun _ h => (nomatch h)⟩, scu _ _ ekp, upd_same⟩
    have ne : NE s c rt rl kp cu := by
      refine ⟨rs1, rc1, m1, m2, m3, m4, v1, v2, rlrt, kprt, kprl, ?_, (ne_of_none erl hcu).symm, (ne_of_none ekp hcu).symm⟩
      obtain ⟨_, _, ts0, e0, _⟩ := hT11
      exact (ne_of_none e0 hcu).symm
    clear scu v1 v2 st11 hT11 erl ekp m1 m2 m3 m4 rlrt kprt kprl fa11 hsn hS hS11 hcu rs1 rc1
    generalize upd H11 cu (.lst X) = H13 at *
    refine for_list (K := K) (a := cu) (xs := X) (fun i σ H' => ∃ (lines : List Str) (rs : List Rc) (P : Px) (v6 v7 : Option V), σ = [some (.ref a), some (.ref s), some (.ref tr), some (.ref rl), some (.ref kp), some (.str (textL lines)), v6, v7, none, none, none] ∧ LW K H' s c tr rt rl kp cu X uu l bds P (rs.map lineS) ∧ NP s c rt kp cu P ∧ MT lines rs P ∧ lines.length = i)
      ⟨[], [], [], none, none, rfl, L12, (fun _ h => nomatch h), MT.nil, rfl⟩ (fun i σ H' _ q => by
        obtain ⟨_, _, _, _, _, _, q, _⟩ := q
        exact SqL.of q.cu) ?_ ?_
    · clear L12 H13
      rintro i y σ H1 hi ⟨lines, rs, P, v6, v7, rfl, L1, np, mt, hli⟩
      have hi30 : i < 30 := by
        have := (List.getElem?_eq_some_iff.mp hi).1
        omega
      have htl := textL_len fun z hz => (mt.tz z hz).1
      refine ⟨_, rfl, s, c, rfl, L1.st, fun z H2 hz st2 k2 => ?_⟩
      have L2 := L1.keep ne np st2 k2
      have hsl := seal_len z
      have hz1 := hz.1
      refine ⟨_, rfl, _, rfl, z, rfl, by omega, _, _, rfl, rfl, by rw [sizeLine_eq]; omega, ?_⟩
      rw [← textL_snoc]
      refine ⟨_, rfl, _, rfl, ⟨_, rfl⟩, z, " ", rfl, rfl, by decide +kernel, by rw [sizeLine_eq]; omega, fun w hw => ?_⟩
      have sw := same_upd (o := .lst ((Txt.split z " ").map V.str)) hw
      have L3 := L2.same sw
      have ew : (upd H2 w (.lst ((Txt.split z " ").map V.str))) w = some (.lst ((Txt.split z " ").map V.str)) := upd_same
      generalize upd H2 w (.lst ((Txt.split z " ").map V.str)) = H3 at *
      have lws : (Txt.split z " ").length ≤ 70 := by have := parts_bl z; omega
      have lP := mt.l2
      have lrs := mt.l1
      have nx : ∀ {H' : Hp} {rs' : List Rc} {P' : Px}, LW K H' s c tr rt rl kp cu X uu l bds P' (rs'.map lineS) → NP s c rt kp cu P' → MT (lines ++ [z]) rs' P' → ∃ (ln : List Str) (rr : List Rc) (PP : Px) (v6 v7 : Option V), [some (V.ref a), some (.ref s), some (.ref tr), some (.ref rl), some (.ref kp), some (.str (textL (lines ++ [z]))), some y, some (.str z), none, none, none] = [some (.ref a), some (.ref s), some (.ref tr), some (.ref rl), some (.ref kp), some (.str (textL ln)), v6, v7, none, none, none] ∧ LW K H' s c tr rt rl kp cu X uu l bds PP (rr.map lineS) ∧ NP s c rt kp cu PP ∧ MT ln rr PP ∧ ln.length = i + 1 := fun a b d => ⟨_, _, _, _, _, rfl, a, b, d, by rw [List.length_append, hli]; rfl⟩
      refine ⟨rl, w, P, Txt.split z " ", rfl, L3.R, ew, split_sp z, fun p hp => hz.part hp, lws, by omega, ?_, ?_, ?_, ?_, ?_⟩
      · intro hr H4 s4
        refine ⟨_, rfl, iteF (nx (L3.same s4) np (mt.no hz fun r e => ?_))⟩
        rw [show recL z = none from hr] at e
        cases e
      · intro n c1 a1 t hr hx H4 s4
        refine ⟨_, rfl, iteF (nx (L3.same s4) np (mt.no hz fun r e => ?_))⟩
        rw [show recL z = some (.op n c1 a1 t) from hr] at e
        rw [← Option.some.inj e]
        exact mt.ag.op_no hx
      · intro n c1 a1 t hr hx x H4 hR4 hx0 f4
        have hr' : recL z = some (.op n c1 a1 t) := hr
        obtain ⟨hrc, hls⟩ := rec_ok hz hr'
        obtain ⟨oc, oa⟩ := rec_tx hz hr'
        have L4 := L3.fr ne L3.R.ls ⟨ne.rl1, ne.rl2, ne.a1, ne.a3.symm, ne.a5.symm⟩ hR4 f4
        have np4 : NP s c rt kp cu (P ++ [(x, ⟨n, c1, a1, t, none⟩)]) := all_snoc np ⟨(L3.st.tracked hx0).1, (L3.st.tracked hx0).2, by
          obtain ⟨_, _, ts0, e0, _⟩ := L3.T
          exact (ne_of_none e0 hx0).symm, (ne_of_none L3.kp hx0).symm, (ne_of_none L3.cu hx0).symm⟩
        obtain ⟨g1, g2⟩ := mt.ag.op x (n := n) (t := t) (c := c1) (a := a1) hx
        have mt4 := mt.yes hz hr' g1 g2 (by rw [List.length_append]; exact Nat.le_refl _) (all_snoc mt.row ⟨hrc.1, hrc.2.1, oc, oa, fun y q => nomatch q⟩)
        refine ⟨_, rfl, iteT ⟨_, rfl, .inl ⟨rfl, _, SqL.of L4.kp⟩, _, rfl, kp, _, _, rfl, rfl, L4.kp, by rw [List.length_map, List.length_map, sizeLine_eq]; omega, ?_⟩⟩
        have L5 := L4.keepPut ne np4 z
        exact nx (by rw [List.map_append, show [Rc.op n c1 a1 t].map lineS = [z] by rw [List.map_cons, hls]; rfl]; exact L5) np4 mt4
      · intro n e k hr hx H4 s4
        refine ⟨_, rfl, iteF (nx (L3.same s4) np (mt.no hz fun r e9 => ?_))⟩
        rw [show recL z = some (.cl n e k) from hr] at e9
        rw [← Option.some.inj e9]
        exact mt.ag.cl_no hx
      · intro n e k A x B hr hP hn he H4 hR4 f4
        have hr' : recL z = some (.cl n e k) := hr
        obtain ⟨hrc, hls⟩ := rec_ok hz hr'
        subst hP
        subst hn
        have hxm : x ∈ A ++ x :: B := List.mem_append_right _ (List.mem_cons_self ..)
        have npx := np x hxm
        have L4 := L3.fr ne (L3.R.at_ x hxm) npx hR4 f4
        have np4 : NP s c rt kp cu (A ++ (x.1, { x.2 with e := some (e, k) }) :: B) := fun q hq => by
          rcases List.mem_append.mp hq with m | m
          · exact np q (List.mem_append_left _ m)
          · rcases List.mem_cons.mp m with m | m
            · rw [m]
              exact npx
            · exact np q (List.mem_append_right _ (List.mem_cons_of_mem _ m))
        have rx := mt.row x hxm
        obtain ⟨g1, g2⟩ := mt.ag.cl he e k
        have mt4 := mt.yes hz hr' g1 g2 (by simp) (fun q hq => by
          rcases List.mem_append.mp hq with m | m
          · exact mt.row q (List.mem_append_left _ m)
          · rcases List.mem_cons.mp m with m | m
            · rw [m]
              exact ⟨rx.n, rx.t, rx.c, rx.a, fun y q => by
                rw [← Option.some.inj q]
                exact ⟨hrc.2.1, hrc.2.2.1⟩⟩
            · exact mt.row q (List.mem_append_right _ (List.mem_cons_of_mem _ m)))
        refine ⟨_, rfl, iteT ⟨_, rfl, .inl ⟨rfl, _, SqL.of L4.kp⟩, _, rfl, kp, _, _, rfl, rfl, L4.kp, by rw [List.length_map, List.length_map, sizeLine_eq]; omega, ?_⟩⟩
        have L5 := L4.keepPut ne np4 z
        exact nx (by rw [List.map_append]; rw [← hls] at L5 ⊢; exact L5) np4 mt4
    · rintro σ H1 ⟨lines, rs, P, v6, v7, rfl, L1, np, mt, hli⟩
      clear L12 H13
      have hl30 : lines.length ≤ 30 := by omega
      have htl := textL_len fun z hz => (mt.tz z hz).1
      have lP := mt.l2
      have lrs := mt.l1
      refine ⟨fun σ' H' => ∃ z : Str, σ' = [some (.ref a), some (.ref s), some (.ref tr), some (.ref rl), some (.ref kp), some (.str z), v6, v7, none, none, none] ∧ readJ z = lines ∧ z.length ≤ 3000 ∧ LW K H' s c tr rt rl kp cu X uu l bds P (rs.map lineS), ?_, ?_⟩
      · refine ⟨_, rfl, s, c, 3, rfl, L1.st, by decide, by decide, fun d H2 d0 d1 st2 k2 => ⟨rfl, _, rfl, ?_⟩⟩
        have L2 := L1.keep ne np st2 k2
        refine ite2 (fun _ => ?_) (fun _ => ⟨textL lines, rfl, ?_, by omega, L2⟩)
        · have q7 : ("open 7 ann@x bob@x 3 9999\n" : Str).length = 26 := by decide +kernel
          have q8 : ("open 8 ann@x bob@x 3" : Str).length = 20 := by decide +kernel
          have q9 := seal_len "open 8 ann@x bob@x 3"
          refine ⟨_, rfl, _, _, rfl, rfl, by rw [sizeLine_eq, q7]; omega, "open 8 ann@x bob@x 3", rfl, by rw [q8]; decide, _, _, rfl, rfl, by rw [sizeLine_eq, cat_len, q7]; omega, ?_⟩
          refine ⟨_, rfl, ?_, by rw [cat_len, cat_len, q7]; omega, L2⟩
          have e : textL lines ++ "open 7 ann@x bob@x 3 9999\n" ++ sealT "open 8 ann@x bob@x 3" = textL lines ++ zWr := by
            apply TL.ext_tl
            simp only [TL.tl_append, List.append_assoc]
          rw [e]
          exact readJ_textL mt.tz _ readJ_wr
        · have e := readJ_textL mt.tz (S []) readJ_nil
          have e2 : textL lines ++ S [] = textL lines := by
            apply TL.ext_tl
            rw [TL.tl_append]
            exact List.append_nil _
          rw [e2] at e
          exact e
      rintro σ' H3 ⟨z, rfl, hz, hzl, L3⟩
      clear L1 htl H1
      refine ⟨_, rfl, s, c, 300, rfl, L3.st, by decide, by decide, fun now H4 w0 w1 st4 k4 => ?_⟩
      have L4 := L3.keep ne np st4 k4
      clear L3 st4 k4 H3
      have hcg : ∀ r : Rx, RxOk r → nOk (gR uu l bds now r.un).1 ∧ nOk (gR uu l bds now r.un).2 := fun r h => hcost2 now r.t w0 w1 h.t
      -- the open rows, sorted
      refine ⟨_, rfl, rl, rfl, ⟨_, SqL.of L4.R.ls⟩, fun D hD => ?_⟩
      refine lc_it walk_list (fun i H' => Same H4 H' ∧ H' D = some (.lst (((P.take i).filter opn).map fun x => V.ref x.1))) ⟨same_upd hD, upd_same⟩ (fun i H' _ q => SqL.of (q.1 _ _ L4.R.ls)) (fun i x H5 H6 hi p9 y => ?_) (fun H5 p9 => ?_)
      · obtain ⟨s5, e9⟩ := p9
        obtain ⟨rfl, hx⟩ := y
        obtain ⟨y, hy, rfl, hyP, hyr⟩ := L4.R.get s5 hx
        have et : P.take (i + 1) = P.take i ++ [y] := by rw [List.take_add_one, hy]; rfl
        refine ⟨rfl, _, rfl, y.1, _, 4, oV (y.2.e.map (·.1)), rfl, rfl, SqL.of hyr, rfl, rfl, _, rfl, ?_⟩
        rw [dn_O, et, List.filter_append]
        have eo : opn y = y.2.e.isNone := rfl
        cases he : y.2.e with
        | some x =>
          refine iteF ⟨s5, ?_⟩
          rw [List.filter_cons_of_neg (by rw [eo, he]; exact Bool.false_ne_true), List.filter_nil, List.append_nil]
          exact e9
        | none =>
          refine iteT ⟨_, rfl, _, e9, ?_, fun b o eb => (upd_ne (ne_of_none eb hD)).trans (s5 _ _ eb), ?_⟩
          · rw [List.length_map, sizeLine_eq]
            have a1 := List.length_filter_le opn (P.take i)
            rw [List.length_take] at a1
            omega
          · rw [upd_same, List.filter_cons_of_pos (by rw [eo, he]; rfl), List.map_append]
            rfl
      obtain ⟨s5, e9⟩ := p9
      rw [List.length_map, List.take_length] at e9
      have L5 := L4.same s5
      have lPO := List.length_filter_le opn P
      have nPO : ((P.filter opn).map (·.2.n)).Nodup := (List.filter_sublist.map _).nodup mt.ag.n
      have hPO : ∀ x ∈ P.filter opn, x ∈ P ∧ x.2.e = none := fun x hx => ⟨(List.mem_filter.mp hx).1, Option.isNone_iff_eq_none.mp (List.mem_filter.mp hx).2⟩
      refine ⟨D, (P.filter opn).map (rwP id), rfl, SqL.of (by rw [rwP_ref]; exact e9), ?_, ?_, ?_, fun q hq => ?_⟩
      · intro x hx
        obtain ⟨y, hy, rfl⟩ := List.mem_map.mp hx
        exact lstD_dp (L5.R.at_ y (hPO y hy).1) (rx6_ok (mt.row y (hPO y hy).1))
      · intro x hx w hw
        obtain ⟨y, hy, rfl⟩ := List.mem_map.mp hx
        obtain ⟨v, hv, rfl⟩ := List.mem_map.mp hw
        exact rwP_alike id y v (by show y.2.e.isSome = v.2.e.isSome; rw [(hPO y hy).2, (hPO v hv).2])
      · intro x hx
        obtain ⟨y, hy, rfl⟩ := List.mem_map.mp hx
        exact lstD_depth (rx6_ok (mt.row y (hPO y hy).1))
      rw [rwP_sort id (fun _ => rfl) _ nPO, rwP_ref]
      have pPS := srt_perm (fun x : Addr × Rx => x.2.n) (P.filter opn)
      have wPS := srt_pw (fun x : Addr × Rx => x.2.n) (P.filter opn) nPO
      have hPS : ∀ x ∈ srt (fun x : Addr × Rx => x.2.n) (P.filter opn), x ∈ P ∧ x.2.e = none := fun x hx => hPO x (pPS.subset hx)
      have lPS : (srt (fun x : Addr × Rx => x.2.n) (P.filter opn)).length ≤ 30 := by rw [pPS.length_eq]; omega
      generalize ePS : srt (fun x : Addr × Rx => x.2.n) (P.filter opn) = PS at *
      have sq := same_upd (o := .lst (PS.map fun x => V.ref x.1)) hq
      have L6 := L5.same sq
      have eq6 : (upd H5 q (.lst (PS.map fun x => V.ref x.1))) q = some (.lst (PS.map fun x => V.ref x.1)) := upd_same
      have qkp : kp ≠ q := ne_of_none L5.kp hq
      have qrl : rl ≠ q := ne_of_none L5.R.ls hq
      have qP : ∀ x ∈ P, x.1 ≠ q := fun x hx => ne_of_none (L5.R.at_ x hx) hq
      clear L4 s5 e9 L5 hD sq hq
      generalize upd H5 q (.lst (PS.map fun x => V.ref x.1)) = H6 at *
      have ndP := L6.R.nd
      have ndS : (PS.map (·.1)).Nodup := by
        have h1 : ((P.filter opn).map (·.1)).Nodup := (List.filter_sublist.map _).nodup ndP
        exact (pPS.map _).nodup_iff.mpr h1
      refine ⟨q, rfl, ⟨_, SqL.of eq6⟩, for_list (K := K) (a := q) (xs := PS.map fun x => V.ref x.1) (fun j σ H' => ∃ v9, σ = [some (.ref a), some (.ref s), some (.ref tr), some (.ref rl), some (.ref kp), some (.str z), v6, v7, some (.int now), v9, none] ∧ TAt K H' tr rt uu bds l ∧ H' rl = some (.lst (P.map fun x => V.ref x.1)) ∧ H' q = some (.lst (PS.map fun x => V.ref x.1)) ∧ H' kp = some (.lst ((rs.map lineS ++ ((PS.take j).map fun x => lineS (clR (gR uu l bds now) x.2.un))).map V.str)) ∧
        (∀ x ∈ PS.take j, H' x.1 = some (.lst (rx6 (fillR (gR uu l bds now) x.2)))) ∧ (∀ x ∈ PS.drop j, H' x.1 = some (.lst (rx6 x.2))) ∧ ∀ x ∈ P, x.2.e ≠ none → H' x.1 = some (.lst (rx6 x.2)))
        ⟨none, rfl, L6.T, L6.R.ls, eq6, (by rw [List.take_zero, List.map_nil, List.append_nil]; exact L6.kp), (fun _ h => nomatch h), (fun x hx => L6.R.at_ x (hPS x hx).1), fun x hx _ => L6.R.at_ x hx⟩ (fun i σ H' _ p => by
          obtain ⟨_, _, _, _, p, _⟩ := p
          exact SqL.of p) ?_ ?_⟩
      · rintro j v σ H7 hj ⟨v9, rfl, T7, r7, q7, kp7, t7, d7, c7⟩
        rw [List.getElem?_map] at hj
        obtain ⟨x, hxj, rfl⟩ := Option.map_eq_some_iff.mp hj
        have hjl : j < PS.length := (List.getElem?_eq_some_iff.mp hxj).1
        have hxe : PS[j] = x := (List.getElem?_eq_some_iff.mp hxj).2
        have hd2 : PS.drop j = x :: PS.drop (j + 1) := by rw [List.drop_eq_getElem_cons hjl, hxe]
        have et : PS.take (j + 1) = PS.take j ++ [x] := by rw [List.take_add_one, hxj]; rfl
        have hxm := List.mem_of_getElem? hxj
        obtain ⟨hxP, hxn⟩ := hPS x hxm
        have hx7 := d7 x (by rw [hd2]; exact List.mem_cons_self ..)
        have ok := mt.row x hxP
        obtain ⟨g1, g2⟩ := hcg x.2 ok
        have hsp : PS = PS.take j ++ x :: PS.drop (j + 1) := by rw [← hd2, List.take_append_drop]
        have nd2 := ndS
        rw [hsp, List.map_append, List.nodup_append, List.map_cons, List.nodup_cons] at nd2
        have nT : ∀ y ∈ PS.take j, y.1 ≠ x.1 := fun y hy => nd2.2.2 _ (List.mem_map.mpr ⟨y, hy, rfl⟩) _ (List.mem_cons_self ..)
        have nD : ∀ y ∈ PS.drop (j + 1), y.1 ≠ x.1 := fun y hy e => nd2.2.1.1 (List.mem_map.mpr ⟨y, hy, e⟩)
        have nC : ∀ y ∈ P, y.2.e ≠ none → y.1 ≠ x.1 := fun y hy he e => by
          have : (y.1 = x.1) → y = x := fun e => by
            obtain ⟨i1, h1, rfl⟩ := List.mem_iff_getElem.mp hy
            obtain ⟨i2, h2, rfl⟩ := List.mem_iff_getElem.mp hxP
            have pw := List.pairwise_iff_getElem.mp ndP
            rcases Nat.lt_trichotomy i1 i2 with w | w | w
            · exact absurd (by rw [List.getElem_map, List.getElem_map]; exact e) (pw i1 i2 (by rw [List.length_map]; exact h1) (by rw [List.length_map]; exact h2) w)
            · subst w; rfl
            · exact absurd (by rw [List.getElem_map, List.getElem_map]; exact e.symm) (pw i2 i1 (by rw [List.length_map]; exact h2) (by rw [List.length_map]; exact h1) w)
          exact he (by rw [this e]; exact hxn)
        obtain ⟨x1, x2, x3, x4, x5⟩ := np x hxP
        have x6 := L6.R.nr x hxP
        have x7 := qP x hxP
        -- row[4]
        refine ⟨_, rfl, _, rfl, x.1, _, 3, .int x.2.t, rfl, rfl, SqL.of hx7, rfl, _, _, rfl, ?_⟩
        refine ⟨_, rfl, x.1, _, 4, 4, rfl, rfl, hx7, rfl, ?_⟩
        have T8 : TAt K (upd H7 x.1 (.lst ((rx6 x.2).set 4 (.int (mxI now x.2.t))))) tr rt uu bds l := T7.via (fun dx fs e => (upd_ne (ne_of e hx7 (by intro z; cases z))).trans e) (fun y b e => (upd_ne (ne_of e hx7 (by intro z; cases z))).trans e) fun ys e => (upd_ne x3.symm).trans e
        obtain ⟨dt, htr, _⟩ := id T8
        refine ⟨_, rfl, tr, dt, _, rfl, htr, rfl, _, rfl, x.1, _, 4, .int (mxI now x.2.t), rfl, rfl, SqL.of upd_same, rfl, _, rfl, x.1, _, 3, .int x.2.t, rfl, rfl, SqL.of upd_same, rfl, _, _, rfl, rfl, tr, rt, uu, l, _, bds, rfl, T8, okU1, okB1, okP1, _, rfl, x.1, _, 5, 5, rfl, rfl, upd_same, rfl, ?_⟩
        rw [upd_upd]
        have eF : fillR (gR uu l bds now) x.2 = { x.2 with e := some (gR uu l bds now x.2.un) } := by
          unfold fillR
          rw [hxn]
        have ef : ((rx6 x.2).set 4 (.int (mxI now x.2.t))).set 5 (.int (costI uu bds l (mxI now x.2.t - x.2.t))) = rx6 (fillR (gR uu l bds now) x.2) := by
          rw [eF]
          rfl
        generalize hL : upd H7 x.1 _ = H80
        obtain rfl : H80 = upd H7 x.1 (.lst (rx6 (fillR (gR uu l bds now) x.2))) := hL.symm.trans (congrArg (fun L => upd H7 x.1 (HO.lst L)) ef)
        clear hL
        have T9 : TAt K (upd H7 x.1 (.lst (rx6 (fillR (gR uu l bds now) x.2)))) tr rt uu bds l := T7.via (fun dx fs e => (upd_ne (ne_of e hx7 (by intro z; cases z))).trans e) (fun y b e => (upd_ne (ne_of e hx7 (by intro z; cases z))).trans e) fun ys e => (upd_ne x3.symm).trans e
        have hx8 : (upd H7 x.1 (.lst (rx6 (fillR (gR uu l bds now) x.2)))) x.1 = some (.lst (rx6 (fillR (gR uu l bds now) x.2))) := upd_same
        have kp8 : (upd H7 x.1 (.lst (rx6 (fillR (gR uu l bds now) x.2)))) kp = _ := (upd_ne x4.symm).trans kp7
        have rl8 : (upd H7 x.1 (.lst (rx6 (fillR (gR uu l bds now) x.2)))) rl = _ := (upd_ne x6.symm).trans r7
        have q8 : (upd H7 x.1 (.lst (rx6 (fillR (gR uu l bds now) x.2)))) q = _ := (upd_ne x7.symm).trans q7
        have t8 : ∀ y ∈ PS.take j, (upd H7 x.1 (.lst (rx6 (fillR (gR uu l bds now) x.2)))) y.1 = some (.lst (rx6 (fillR (gR uu l bds now) y.2))) := fun y hy => (upd_ne (nT y hy)).trans (t7 y hy)
        have d8 : ∀ y ∈ PS.drop (j + 1), (upd H7 x.1 (.lst (rx6 (fillR (gR uu l bds now) x.2)))) y.1 = some (.lst (rx6 y.2)) := fun y hy => (upd_ne (nD y hy)).trans (d7 y (by rw [hd2]; exact List.mem_cons_of_mem _ hy))
        have c8 : ∀ y ∈ P, y.2.e ≠ none → (upd H7 x.1 (.lst (rx6 (fillR (gR uu l bds now) x.2)))) y.1 = some (.lst (rx6 y.2)) := fun y hy he => (upd_ne (nC y hy he)).trans (c7 y hy he)
        clear T8 htr ef
        generalize upd H7 x.1 (.lst (rx6 (fillR (gR uu l bds now) x.2))) = H8 at *
        have b0 := numS_len ok.n.ab
        have b1 := numS_len g1.ab
        have b2 := numS_len g2.ab
        have hx8' : H8 x.1 = some (.lst [.int x.2.n, .str x.2.c, .str x.2.a, .int x.2.t, .int (gR uu l bds now x.2.un).1, .int (gR uu l bds now x.2.un).2]) := by
          rw [hx8, eF]
          rfl
        refine ⟨_, rfl, .inl ⟨rfl, _, SqL.of kp8⟩, _, rfl, x.1, _, 0, .int x.2.n, rfl, rfl, SqL.of hx8', rfl, _, rfl, numS_log ok.n.ab, _, _, rfl, rfl, by rw [sizeLine_eq, k_cl]; unfold numS at b0; omega, _, _, rfl, rfl, by rw [sizeLine_eq]; simp only [cat_len, k_cl, k_bl]; unfold numS at b0; omega, ?_⟩
        refine ⟨_, rfl, x.1, _, 4, .int (gR uu l bds now x.2.un).1, rfl, rfl, SqL.of hx8', rfl, _, rfl, numS_log g1.ab, _, _, rfl, rfl, by rw [sizeLine_eq]; simp only [cat_len, k_cl, k_bl]; unfold numS at b0 b1; omega, _, _, rfl, rfl, by rw [sizeLine_eq]; simp only [cat_len, k_cl, k_bl]; unfold numS at b0 b1; omega, ?_⟩
        refine ⟨_, rfl, x.1, _, 5, .int (gR uu l bds now x.2.un).2, rfl, rfl, SqL.of hx8', rfl, _, rfl, numS_log g2.ab, _, _, rfl, rfl, by rw [sizeLine_eq]; simp only [cat_len, k_cl, k_bl]; unfold numS at b0 b1 b2; omega, ?_⟩
        refine ⟨kp, _, _, rfl, rfl, kp8, ?_, ?_⟩
        · rw [List.length_map, List.length_append, List.length_map, List.length_map, List.length_take, sizeLine_eq]
          omega
        · have T10 : TAt K (upd H8 kp (.lst ((rs.map lineS ++ ((PS.take j).map fun x => lineS (clR (gR uu l bds now) x.2.un))).map V.str ++ [.str ("close " ++ numS x.2.n ++ " " ++ numS (gR uu l bds now x.2.un).1 ++ " " ++ numS (gR uu l bds now x.2.un).2)]))) tr rt uu bds l := T9.via (fun dx fs e => (upd_ne (ne_of e kp8 (by intro z; cases z))).trans e) (fun y b e => (upd_ne (ne_of e kp8 (by intro z; cases z))).trans e) fun ys e => (upd_ne ne.a2.symm).trans e
          refine ⟨_, rfl, T10, (upd_ne ne.a3.symm).trans rl8, (upd_ne qkp.symm).trans q8, ?_, fun y hy => ?_, fun y hy => ?_, fun y hy he => ?_⟩
          · have el : ("close " : Str) ++ numS x.2.n ++ " " ++ numS (gR uu l bds now x.2.un).1 ++ " " ++ numS (gR uu l bds now x.2.un).2 = lineS (clR (gR uu l bds now) x.2.un) := by
              show _ = Str.empty ++ "close " ++ numS x.2.n ++ " " ++ numS (gR uu l bds now x.2.un).1 ++ " " ++ numS (gR uu l bds now x.2.un).2
              rw [show Str.empty ++ ("close " : Str) = "close " by decide +kernel]
            rw [upd_same, et, List.map_append (l₁ := PS.take j), ← List.append_assoc, List.map_append (f := V.str) (l₂ := List.map _ [x])]
            exact congrArg (fun w => some (HO.lst (((rs.map lineS ++ ((PS.take j).map fun x => lineS (clR (gR uu l bds now) x.2.un))).map V.str) ++ [V.str w]))) el
          · rw [et] at hy
            rcases List.mem_append.mp hy with w | w
            · exact (upd_ne (np y (hPS y (List.mem_of_mem_take w)).1).2.2.2.1).trans (t8 y w)
            · rw [List.mem_singleton.mp w]
              exact (upd_ne x4).trans hx8
          · exact (upd_ne (np y (hPS y (List.mem_of_mem_drop hy)).1).2.2.2.1).trans (d8 y hy)
          · exact (upd_ne (np y hy).2.2.2.1).trans (c8 y hy he)
      · rintro σ H7 ⟨v9, rfl, T7, r7, q7, kp7, t7, d7, c7⟩
        rw [List.length_map, List.take_length] at kp7 t7
        have hF : ∀ x ∈ P, H7 x.1 = some (.lst (rx6 (fillR (gR uu l bds now) x.2))) := fun x hx => by
          cases he : x.2.e with
          | none => exact t7 x (pPS.symm.subset (List.mem_filter.mpr ⟨hx, by unfold opn; rw [he]; rfl⟩))
          | some y =>
            have : fillR (gR uu l bds now) x.2 = x.2 := by unfold fillR; rw [he]
            rw [this]
            exact c7 x hx (by rw [he]; exact fun z => by cases z)
        clear t7 d7 c7 q7
        have eus : (PS.map fun x => x.2.un).Perm (LD.st rs).un := (pPS.map _).trans mt.ag.u.symm
        have epw : ((PS.map fun x => x.2.un).map (·.n)).Pairwise (· < ·) := by
          rw [List.map_map]
          exact wPS
        have ers : eats ((readJ z).map recL) = rs := by rw [hz]; exact mt.ev.symm
        refine ⟨_, rfl, _, rfl, _, rfl, tr, rt, uu, l, bds, z, now, PS.map (fun x => x.2.un), rfl, T7, okU1, okB1, okP1, by omega, by rw [ers]; exact eus, by rw [List.length_map]; omega, epw, by rw [hz]; omega, by rw [ers, List.length_map]; omega, ?_, ?_, ?_⟩
        · intro x hx
          rw [hz] at hx
          have tx := mt.tz x hx
          exact ⟨Nat.le_trans tx.1 (by decide), fun r hr => (rec_ok tx hr).1.len⟩
        · intro u hu
          obtain ⟨x, hx, rfl⟩ := List.mem_map.mp hu
          have ok := mt.row x (hPS x hx).1
          obtain ⟨g1, g2⟩ := hcg x.2 ok
          exact ⟨ok.n, g1, g2, (cl_ok ok.n g1 g2).len⟩
        rw [ers]
        intro p j d1 d2 H8 hp0 hj0 hd10 hd20 hL8 s8
        have hst2 := st_all (gR uu l bds now) eus epw
        have hbp := bills_all (gR uu l bds now) P
        have hB : ((srt (fun x : Addr × Rx => x.2.n) P).map fun x => biR (fillR (gR uu l bds now) x.2)).Perm (LD.st (rs ++ (PS.map fun x => x.2.un).map (clR (gR uu l bds now)))).fi := by
          rw [hst2]
          refine ((srt_perm (fun x : Addr × Rx => x.2.n) P).map _).trans (hbp.symm.trans ?_)
          exact (mt.ag.f.symm.append_right _).trans (((eus.trans mt.ag.u).symm.map _).append_left _)
        have pwB : (((srt (fun x : Addr × Rx => x.2.n) P).map fun x => biR (fillR (gR uu l bds now) x.2)).map (·.n)).Pairwise (· < ·) := by
          rw [List.map_map, show ((·.n) ∘ fun x : Addr × Rx => biR (fillR (gR uu l bds now) x.2)) = fun x => x.2.n from funext fun x => (biR_n _).trans (fill_n _ _)]
          exact srt_pw _ _ mt.ag.n
        have hrc2 : ∀ r ∈ rs ++ (PS.map fun x => x.2.un).map (clR (gR uu l bds now)), RcOk r ∧ tx 60 (lineS r) := fun r hr => by
          rcases List.mem_append.mp hr with m | m
          · exact ⟨mt.ok r m, mt.lt r m⟩
          · obtain ⟨u, hu, rfl⟩ := List.mem_map.mp m
            obtain ⟨x, hx, rfl⟩ := List.mem_map.mp hu
            have ok := mt.row x (hPS x hx).1
            obtain ⟨g1, g2⟩ := hcg x.2 ok
            exact ⟨cl_ok ok.n g1 g2, tx_line ok.n g1 g2⟩
        have hl2 : (rs ++ (PS.map fun x => x.2.un).map (clR (gR uu l bds now))).length ≤ 60 := by
          rw [List.length_append, List.length_map, List.length_map]
          omega
        have ekp : H8 kp = some (.lst (((rs ++ (PS.map fun x => x.2.un).map (clR (gR uu l bds now))).map lineS).map V.str)) := by
          refine (s8 _ _ kp7).trans ?_
          rw [List.map_append (f := lineS), List.map_map (f := fun x : Addr × Rx => x.2.un), List.map_map]
          rfl
        have hun2 : (LD.st (rs ++ (PS.map fun x => x.2.un).map (clR (gR uu l bds now)))).un = [] := by rw [hst2]
        have R8 : H8 rl = some (.lst (P.map fun x => V.ref x.1)) := s8 _ _ r7
        have F8 : ∀ x ∈ P, H8 x.1 = some (.lst (rx6 (fillR (gR uu l bds now) x.2))) := fun x hx => s8 _ _ (hF x hx)
        clear hF kp7 r7 T7 hst2 hbp eus ers
        have hcat := catS_len fun r hr => (hrc2 r hr).1.len
        generalize rs ++ (PS.map fun x => x.2.un).map (clR (gR uu l bds now)) = rs2 at *
        have okW : ∀ x ∈ P, RxOk (fillR (gR uu l bds now) x.2) := fun x hx => fill_ok (mt.row x hx) (hcg x.2 (mt.row x hx))
        have lS : (srt (fun x : Addr × Rx => x.2.n) P).length ≤ 30 := by rw [(srt_perm _ _).length_eq]; omega
        have hS : ∀ x ∈ srt (fun x : Addr × Rx => x.2.n) P, x ∈ P := fun x hx => (srt_perm _ _).subset hx
        have eW : ((srt (fun x : Addr × Rx => x.2.n) P).map fun x => biR (fillR (gR uu l bds now) x.2)).map Bi.v = (srt (fun x : Addr × Rx => x.2.n) P).map fun x => rx6 (fillR (gR uu l bds now) x.2) := by
          rw [List.map_map]
          exact List.map_congr_left fun x _ => (rx6_bi (fill_some _ _)).symm
        have eSort := rwP_sort (fillR (gR uu l bds now)) (fun r => fill_n _ r) P mt.ag.n
        generalize srt (fun x : Addr × Rx => x.2.n) P = SP at *
        have okWs : ∀ b ∈ SP.map (fun x => rx6 (fillR (gR uu l bds now) x.2)), ∀ v ∈ b, okV v := fun b hb => by
          obtain ⟨x, hx, rfl⟩ := List.mem_map.mp hb
          exact rx6_ok (okW x (hS x hx))
        have lnWs : ∀ b ∈ SP.map (fun x => rx6 (fillR (gR uu l bds now) x.2)), b.length ≤ 11 := fun b hb => by
          obtain ⟨x, hx, rfl⟩ := List.mem_map.mp hb
          show 6 ≤ 11
          decide
        obtain ⟨dx, hp⟩ := hL8.o
        refine ⟨fun σ' H' => σ' = [some (.ref a), some (.ref s), some (.ref tr), some (.ref rl), some (.ref kp), some (.str z), v6, v7, some (.int now), v9, some (.ref p)] ∧ Same H8 H', ?_, ?_⟩
        · refine ⟨_, rfl, p, dx, _, rfl, hp, rfl, p, tr, j, d1, d2, rs2, _, _, rfl, hL8, by omega, hB, by rw [List.length_map]; omega, pwB, fun r ts H9 s9 r0 er tsr => ?_⟩
          rw [eW] at tsr
          have R9 := s9 _ _ R8
          have F9 : ∀ x ∈ P, H9 x.1 = _ := fun x hx => s9 _ _ (F8 x hx)
          refine ⟨_, rfl, rl, P.map (rwP (fillR (gR uu l bds now))), rfl, SqL.of (by rw [rwP_ref]; exact R9), ?_, ?_, ?_, fun q2 hq2 => ?_⟩
          · intro x hx
            obtain ⟨y, hy, rfl⟩ := List.mem_map.mp hx
            exact lstD_dp (F9 y hy) (rx6_ok (okW y hy))
          · intro x hx w hw
            obtain ⟨y, hy, rfl⟩ := List.mem_map.mp hx
            obtain ⟨v, hv, rfl⟩ := List.mem_map.mp hw
            exact rwP_alike _ y v (by rw [fill_some, fill_some])
          · intro x hx
            obtain ⟨y, hy, rfl⟩ := List.mem_map.mp hx
            exact lstD_depth (rx6_ok (okW y hy))
          rw [eSort, rwP_ref]
          have s10 := same_upd (o := .lst (SP.map fun x => V.ref x.1)) hq2
          have eq2 : (upd H9 q2 (.lst (SP.map fun x => V.ref x.1))) q2 = some (.lst (SP.map fun x => V.ref x.1)) := upd_same
          have F10 : ∀ x ∈ P, (upd H9 q2 (.lst (SP.map fun x => V.ref x.1))) x.1 = _ := fun x hx => s10 _ _ (F9 x hx)
          have s810 := s9.trans s10
          have er10 := s10 _ _ er
          have ts10 := tsr.mono fun x b e => s10 _ _ e
          clear s10 F9 R9
          generalize upd H9 q2 (.lst (SP.map fun x => V.ref x.1)) = H10 at *
          refine ⟨q2, rfl, ⟨_, SqL.of eq2⟩, fun D hD => ?_⟩
          refine lc_itN walk_list (fun i H' => Same H10 H' ∧ ∃ ts : List Addr, H' D = some (.lst (ts.map V.ref)) ∧ TsAt H' ts ((SP.take i).map fun x => rx6 (fillR (gR uu l bds now) x.2))) ⟨same_upd hD, [], upd_same, trivial⟩ (fun i H' _ q => SqL.of (q.1 _ _ eq2)) (fun i x H3 H4 hi p9 y => ?_) (fun H1 p9 => ?_)
          · obtain ⟨s3, ts2, e1, e2⟩ := p9
            obtain ⟨rfl, hx⟩ := y
            rw [List.getElem?_map] at hx
            obtain ⟨y, hy, rfl⟩ := Option.map_eq_some_iff.mp hx
            have ht := s3 _ _ (F10 y (hS y (List.mem_of_getElem? hy)))
            have et : SP.take (i + 1) = SP.take i ++ [y] := by rw [List.take_add_one, hy]; rfl
            refine ⟨rfl, _, rfl, y.1, _, rfl, .inl ⟨SqL.of ht, fun w hw => ?_⟩⟩
            have wD : w ≠ D := (ne_of_none e1 hw).symm
            refine ⟨_, (upd_ne wD.symm).trans e1, ?_, fun b o eb => (upd_ne (ne_of_none eb hD)).trans ((same_upd hw) _ _ (s3 _ _ eb)), ts2 ++ [w], ?_, ?_⟩
            · have l1 := e2.len
              rw [List.length_map, List.length_take] at l1
              rw [List.length_map, sizeLine_eq]
              omega
            · rw [upd_same, List.map_append]
              rfl
            · rw [et, List.map_append]
              refine TsAt.snoc ((upd_ne wD).trans upd_same) (e2.mono fun x b ex => ?_)
              exact (upd_ne (ne_of ex e1 (by intro z; cases z))).trans ((same_upd hw) _ _ ex)
          obtain ⟨s1, ts2, eD, tD⟩ := p9
          rw [List.length_map, List.take_length] at tD
          refine ⟨_, _, rowsD_dp (s1 _ _ er10) (ts10.mono fun x b e => s1 _ _ e) okWs, rowsD_dp eD tD okWs, (rowsD_ok okWs lnWs).1, (rowsD_ok okWs lnWs).1, _, rfl, ?_⟩
          rw [(rowsD_ok okWs lnWs).2]
          have sAll := s810.trans s1
          refine iteF ⟨_, rfl, p, dx, _, rfl, sAll _ _ hp, rfl, p, tr, j, d1, d2, rs2, _, [], rfl, hL8.same sAll, by omega, by rw [hun2], by decide, .nil, fun r2 H5 s5 r20 er2 => ⟨by show 0 ≤ sizeLine; decide, fun q3 hq3 => ?_⟩⟩
          have s6 := same_upd (o := .lst []) hq3
          have ok0 : ∀ v ∈ ([] : List V), okV v := fun _ h => nomatch h
          refine ⟨_, _, lstD_dp (b := []) (s6 _ _ er2) ok0, lstD_dp upd_same ok0, (lstD_ok ok0).1, (lstD_ok ok0).1, _, rfl, ?_⟩
          rw [(lstD_ok ok0).2]
          exact iteF ⟨rfl, (sAll.trans s5).trans s6⟩
        · rintro σ' H9 ⟨rfl, s9⟩
          obtain ⟨dj, hj⟩ := hL8.jt
          have okT2 : ∀ v ∈ (rs2.map lineS).map V.str, okV v := fun v hv => by
            obtain ⟨w, hw, rfl⟩ := List.mem_map.mp hv
            obtain ⟨r, hr, rfl⟩ := List.mem_map.mp hw
            exact ⟨(hrc2 r hr).2.ok, (hrc2 r hr).2.1⟩
          refine ⟨_, rfl, p, dx, _, _, rfl, s9 _ _ hp, rfl, j, dj, _, _, rfl, s9 _ _ hj, rfl, catS rs2, rfl, by omega, fun r H10 s10 er => ?_⟩
          rw [readJ_catS fun r hr => (hrc2 r hr).1] at er
          refine ⟨_, rfl, _, _, lstD_dp er okT2, lstD_dp (s10 _ _ (s9 _ _ ekp)) okT2, (lstD_ok okT2).1, (lstD_ok okT2).1, ?_⟩
          rw [(lstD_ok okT2).2]
          refine ⟨_, rfl, iteT ⟨_, rfl, p, dx, _, _, rfl, s10 _ _ (s9 _ _ hp), rfl, j, dj, _, _, rfl, s10 _ _ (s9 _ _ hj), rfl, ?_⟩⟩
          refine ⟨_, rfl, p, dx, _, _, rfl, s10 _ _ (s9 _ _ hp), rfl, j, dj, _, _, rfl, s10 _ _ (s9 _ _ hj), rfl, catS rs2, rfl, by rw [sizeLine_eq]; omega, rfl, ?_⟩
          rw [decide_eq_true rfl]
          exact k _

end K13
set_option maxHeartbeats 0
namespace K13
open PySem PySem.Spec PyProof.Rows L2 SX TK NdefX K11 LD
/-! ### the head: facts by names, the run -/
def d_wall : He.DefD := ⟨("_wall", none), "_wall", "_wall", defArgs s_wall, defBody s_wall, defScope s_wall, [], []⟩
def d_Journal___init : He.DefD := ⟨("Journal", some "__init__"), "__init__", "Journal.__init__", defArgs s_Journal___init, defBody s_Journal___init, defScope s_Journal___init, [], []⟩
def d_Journal_append : He.DefD := ⟨("Journal", some "append"), "append", "Journal.append", defArgs s_Journal_append, defBody s_Journal_append, defScope s_Journal_append, [], []⟩
def d_Journal_sync : He.DefD := ⟨("Journal", some "sync"), "sync", "Journal.sync", defArgs s_Journal_sync, defBody s_Journal_sync, defScope s_Journal_sync, [], []⟩
def d_Journal_after_crash : He.DefD := ⟨("Journal", some "after_crash"), "after_crash", "Journal.after_crash", defArgs s_Journal_after_crash, defBody s_Journal_after_crash, defScope s_Journal_after_crash, [], []⟩
def d_checksum : He.DefD := ⟨("checksum", none), "checksum", "checksum", defArgs s_checksum, defBody s_checksum, defScope s_checksum, [], []⟩
def d_sealed : He.DefD := ⟨("sealed", none), "sealed", "sealed", defArgs s_sealed, defBody s_sealed, defScope s_sealed, [], []⟩
def d_read_journal : He.DefD := ⟨("read_journal", none), "read_journal", "read_journal", defArgs s_read_journal, defBody s_read_journal, defScope s_read_journal, [], []⟩
def d_is_name : He.DefD := ⟨("is_name", none), "is_name", "is_name", defArgs s_is_name, defBody s_is_name, defScope s_is_name, [], []⟩
def d_is_address : He.DefD := ⟨("is_address", none), "is_address", "is_address", defArgs s_is_address, defBody s_is_address, defScope s_is_address, [], []⟩
def d_read_number : He.DefD := ⟨("read_number", none), "read_number", "read_number", defArgs s_read_number, defBody s_read_number, defScope s_read_number, [], []⟩
def d_split_address : He.DefD := ⟨("split_address", none), "split_address", "split_address", defArgs s_split_address, defBody s_split_address, defScope s_split_address, [], []⟩
def d_consists_of : He.DefD := ⟨("_consists_of", none), "_consists_of", "_consists_of", defArgs s_consists_of, defBody s_consists_of, defScope s_consists_of, [], []⟩
def d_Ledger___init : He.DefD := ⟨("Ledger", some "__init__"), "__init__", "Ledger.__init__", defArgs s_Ledger___init, defBody s_Ledger___init, defScope s_Ledger___init, [], []⟩
def d_Ledger_begin : He.DefD := ⟨("Ledger", some "begin"), "begin", "Ledger.begin", defArgs s_Ledger_begin, defBody s_Ledger_begin, defScope s_Ledger_begin, [], []⟩
def d_Ledger_finish : He.DefD := ⟨("Ledger", some "finish"), "finish", "Ledger.finish", defArgs s_Ledger_finish, defBody s_Ledger_finish, defScope s_Ledger_finish, [], []⟩
def d_Ledger_close : He.DefD := ⟨("Ledger", some "close"), "close", "Ledger.close", defArgs s_Ledger_close, defBody s_Ledger_close, defScope s_Ledger_close, [], []⟩
def d_Ledger_is_open : He.DefD := ⟨("Ledger", some "is_open"), "is_open", "Ledger.is_open", defArgs s_Ledger_is_open, defBody s_Ledger_is_open, defScope s_Ledger_is_open, [], []⟩
def d_Ledger_is_known : He.DefD := ⟨("Ledger", some "is_known"), "is_known", "Ledger.is_known", defArgs s_Ledger_is_known, defBody s_Ledger_is_known, defScope s_Ledger_is_known, [], []⟩
def d_Ledger_answer_of : He.DefD := ⟨("Ledger", some "answer_of"), "answer_of", "Ledger.answer_of", defArgs s_Ledger_answer_of, defBody s_Ledger_answer_of, defScope s_Ledger_answer_of, [], []⟩
def d_Ledger_bills : He.DefD := ⟨("Ledger", some "bills"), "bills", "Ledger.bills", defArgs s_Ledger_bills, defBody s_Ledger_bills, defScope s_Ledger_bills, [], []⟩
def d_Ledger_pending : He.DefD := ⟨("Ledger", some "pending"), "pending", "Ledger.pending", defArgs s_Ledger_pending, defBody s_Ledger_pending, defScope s_Ledger_pending, [], []⟩
def d_Ledger_greatest : He.DefD := ⟨("Ledger", some "greatest"), "greatest", "Ledger.greatest", defArgs s_Ledger_greatest, defBody s_Ledger_greatest, defScope s_Ledger_greatest, [], []⟩
def d_recover : He.DefD := ⟨("recover", none), "recover", "recover", defArgs s_recover, defBody s_recover, defScope s_recover, [], []⟩
def d_take_record : He.DefD := ⟨("_take_record", none), "_take_record", "_take_record", defArgs s_take_record, defBody s_take_record, defScope s_take_record, [], []⟩
def d_take_open : He.DefD := ⟨("_take_open", none), "_take_open", "_take_open", defArgs s_take_open, defBody s_take_open, defScope s_take_open, [], []⟩
def d_take_close : He.DefD := ⟨("_take_close", none), "_take_close", "_take_close", defArgs s_take_close, defBody s_take_close, defScope s_take_close, [], []⟩
def d_Tariff___init : He.DefD := ⟨("Tariff", some "__init__"), "__init__", "Tariff.__init__", defArgs s_Tariff___init, defBody s_Tariff___init, defScope s_Tariff___init, [], []⟩
def d_Tariff_units : He.DefD := ⟨("Tariff", some "units"), "units", "Tariff.units", defArgs s_Tariff_units, defBody s_Tariff_units, defScope s_Tariff_units, [], []⟩
def d_Tariff_cost : He.DefD := ⟨("Tariff", some "cost"), "cost", "Tariff.cost", defArgs s_Tariff_cost, defBody s_Tariff_cost, defScope s_Tariff_cost, [], []⟩
def d_is_unit : He.DefD := ⟨("_is_unit", none), "_is_unit", "_is_unit", defArgs s_is_unit, defBody s_is_unit, defScope s_is_unit, [], []⟩
def d_is_price : He.DefD := ⟨("_is_price", none), "_is_price", "_is_price", defArgs s_is_price, defBody s_is_price, defScope s_is_price, [], []⟩
def d_are_bands : He.DefD := ⟨("_are_bands", none), "_are_bands", "_are_bands", defArgs s_are_bands, defBody s_are_bands, defScope s_are_bands, [], []⟩
def d_law_state : He.DefD := ⟨("_law_state", none), "_law_state", "_law_state", defArgs s_law_state, defBody s_law_state, defScope s_law_state, [], []⟩
def d_law_draw : He.DefD := ⟨("_law_draw", none), "_law_draw", "_law_draw", defArgs s_law_draw, defBody s_law_draw, defScope s_law_draw, [], []⟩
def d_law_pick : He.DefD := ⟨("_law_pick", none), "_law_pick", "_law_pick", defArgs s_law_pick, defBody s_law_pick, defScope s_law_pick, [], []⟩
def d_law_number : He.DefD := ⟨("_law_number", none), "_law_number", "_law_number", defArgs s_law_number, defBody s_law_number, defScope s_law_number, [], []⟩
def d_law_right : He.DefD := ⟨("_law_right", none), "_law_right", "_law_right", defArgs s_law_right, defBody s_law_right, defScope s_law_right, [], []⟩
def d_law_line : He.DefD := ⟨("_law_line", none), "_law_line", "_law_line", defArgs s_law_line, defBody s_law_line, defScope s_law_line, [], []⟩
def d_law_is_number : He.DefD := ⟨("_law_is_number", none), "_law_is_number", "_law_is_number", defArgs s_law_is_number, defBody s_law_is_number, defScope s_law_is_number, [], []⟩
def d_law_is_name : He.DefD := ⟨("_law_is_name", none), "_law_is_name", "_law_is_name", defArgs s_law_is_name, defBody s_law_is_name, defScope s_law_is_name, [], []⟩
def d_law_is_address : He.DefD := ⟨("_law_is_address", none), "_law_is_address", "_law_is_address", defArgs s_law_is_address, defBody s_law_is_address, defScope s_law_is_address, [], []⟩
def d_law_take : He.DefD := ⟨("_law_take", none), "_law_take", "_law_take", defArgs s_law_take, defBody s_law_take, defScope s_law_take, [], []⟩
def d_law : He.DefD := ⟨("law", none), "law", "law", defArgs s_law, defBody s_law, defScope s_law, [], []⟩
def fnL : List He.DefD := [d_wall, d_Journal___init, d_Journal_append, d_Journal_sync, d_Journal_after_crash, d_checksum, d_sealed, d_read_journal, d_is_name, d_is_address, d_read_number, d_split_address, d_consists_of, d_Ledger___init, d_Ledger_begin, d_Ledger_finish, d_Ledger_close, d_Ledger_is_open, d_Ledger_is_known, d_Ledger_answer_of, d_Ledger_bills, d_Ledger_pending, d_Ledger_greatest, d_recover, d_take_record, d_take_open, d_take_close, d_Tariff___init, d_Tariff_units, d_Tariff_cost, d_is_unit, d_is_price, d_are_bands, d_law_state, d_law_draw, d_law_pick, d_law_number, d_law_right, d_law_line, d_law_is_number, d_law_is_name, d_law_is_address, d_law_take, d_law]
def faL : List He.Fa := [.str "DIGITS" "0123456789", .int "FACTOR" 31, .int "FIRST_SUM" 7, .int "GREATEST_NUMBER" 999999999, .int "GREATEST_PRICE" 10000, .int "GREATEST_UNIT" 10000, .int "LONGEST_NUMBER" 9, .int "LONGEST_WORD" 16, .int "MODULUS" 9973, .int "MOST_BANDS" 8, .str "NAME_MARKS" "abcdefghijklmnopqrstuvwxyz0123456789", .str "SMALL_LETTERS" "abcdefghijklmnopqrstuvwxyz", .free "abs", .free "all", .free "int", .free "len", .free "max", .free "min", .free "ord", .free "sorted", .free "str", .free "super", .free "tuple", .cls "Journal", .noat "Journal" "text", .noat "Journal" "synced", .glo "Journal", .mkr "Journal", .cls "Ledger", .noat "Ledger" "tariff", .noat "Ledger" "journal", .noat "Ledger" "_unfinished", .noat "Ledger" "_finished", .glo "Ledger", .mkr "Ledger", .cls "Tariff", .noat "Tariff" "unit", .noat "Tariff" "bands", .noat "Tariff" "last", .glo "Tariff", .mkr "Tariff", .glo "TrunklandError", .glo "ConfigError", .glo "_wall", .meth "Journal" "append", .meth "Journal" "sync", .meth "Journal" "after_crash", .glo "checksum", .glo "sealed", .glo "read_journal", .glo "is_name", .glo "is_address", .glo "read_number", .glo "split_address", .glo "_consists_of", .meth "Ledger" "begin", .meth "Ledger" "finish", .meth "Ledger" "close", .meth "Ledger" "is_open", .meth "Ledger" "is_known", .meth "Ledger" "answer_of", .meth "Ledger" "bills", .meth "Ledger" "pending", .meth "Ledger" "greatest", .glo "recover", .glo "_take_record", .glo "_take_open", .glo "_take_close", .meth "Tariff" "units", .meth "Tariff" "cost", .glo "_is_unit", .glo "_is_price", .glo "_are_bands", .glo "_law_state", .glo "_law_draw", .glo "_law_pick", .glo "_law_number", .glo "_law_right", .glo "_law_line", .glo "_law_is_number", .glo "_law_is_name", .glo "_law_is_address", .glo "_law_take", .glo "law"]
def loose0 : List Str := ["FIRST_SUM", "FACTOR", "MODULUS", "SMALL_LETTERS", "DIGITS", "NAME_MARKS", "LONGEST_WORD", "LONGEST_NUMBER", "GREATEST_NUMBER", "GREATEST_UNIT", "GREATEST_PRICE", "MOST_BANDS", "_wall", "checksum", "sealed", "read_journal", "is_name", "is_address", "read_number", "split_address", "_consists_of", "recover", "_take_record", "_take_open", "_take_close", "_is_unit", "_is_price", "_are_bands", "_law_state", "_law_draw"]
def loose1 : List Str := ["_law_pick", "_law_number", "_law_right", "_law_line", "_law_is_number", "_law_is_name", "_law_is_address", "_law_take", "Journal", "Ledger", "TrunklandError", "ConfigError", "Tariff"]
abbrev Row0 : PySem.W.OpenRow := PySem.W.OpenLaw.row PySem.Challenge.rw_trunkland_k13_journals_of_any_lines
def exL (K : PySem.W.Frag) : List Bool := [TKE.excAll K "ConfigError" "setting" "ConfigError.__init__" PySem.Challenge.pw_trunkland_k13_journals_of_any_lines.main.file]
def e_ConfigError : He.DefD := ⟨("ConfigError", some "__init__"), "__init__", "ConfigError.__init__", defArgs si_ConfigError, defBody si_ConfigError, defScope si_ConfigError, [], []⟩
def esL : List He.DefD := [e_ConfigError]
abbrev hk : PySem.W.Hook := TKE.hookE 6 faL fnL exL esL
def ob (s : PySem.W.SharedT) : TKE.AlE := TKE.obsE 6 faL fnL exL esL (HandSHeadRun.getT s)
theorem ob_eq (s : PySem.W.SharedT) : ob s = hk.obs s.abs := TKE.obsE_eq (HandSHeadRun.getT_eq s)
theorem run (w : World) : HandSHeadRun.RunEq Row0 (PySem.W.view Row0.prog [49]) hk ob 4000 (loose0 ++ loose1) w := by
  intro os
  kernel_rfl
theorem facts {P : Program} {w : World} {K : PySem.W.Frag} {h : Heap} {mg : Str → Option Value} {f : Addr} (X : K.In h) (G : h.Ns mainGlobals mg) (hfa : mg ("law" : Str) = some (.ref f)) (c : He.SaysD faL fnL K) (cx : (exL K).all id = true) (ce : esL.map (fun d => TKE.fnC K d.at_) = esL.map He.DefD.val) (hP : P.main.file = PySem.Challenge.pw_trunkland_k13_journals_of_any_lines.main.file) (htop : (P.main.scope.names.lookup ("super" : Str)).isSome = false) :
    ∃ fd : FuncData, (∀ (s : Shared) (v : Value), BindsTo s fd ⟨[v], []⟩ [("script", v)]) ∧ ∀ base : Heap, K.In base → base.Ns mainGlobals mg → FnOk P w K mg base CX0 8 f fd ["script"] (spLaw K) := by
  have b_ConfigError := TKE.exTxt_of (P := P) (TK.exAt cx 0 rfl) hP (TKE.fnC_at ce 0 (d := e_ConfigError) rfl)
  have T : Tx K mg := ⟨He.str_ok X G (c.fact 0 (f := .str "DIGITS" "0123456789") rfl), He.int_ok X G (c.fact 1 (f := .int "FACTOR" 31) rfl), He.int_ok X G (c.fact 2 (f := .int "FIRST_SUM" 7) rfl), He.int_ok X G (c.fact 3 (f := .int "GREATEST_NUMBER" 999999999) rfl), He.int_ok X G (c.fact 4 (f := .int "GREATEST_PRICE" 10000) rfl), He.int_ok X G (c.fact 5 (f := .int "GREATEST_UNIT" 10000) rfl), He.int_ok X G (c.fact 6 (f := .int "LONGEST_NUMBER" 9) rfl), He.int_ok X G (c.fact 7 (f := .int "LONGEST_WORD" 16) rfl), He.int_ok X G (c.fact 8 (f := .int "MODULUS" 9973) rfl), He.int_ok X G (c.fact 9 (f := .int "MOST_BANDS" 8) rfl), He.str_ok X G (c.fact 10 (f := .str "NAME_MARKS" "abcdefghijklmnopqrstuvwxyz0123456789") rfl), He.str_ok X G (c.fact 11 (f := .str "SMALL_LETTERS" "abcdefghijklmnopqrstuvwxyz") rfl), He.free_ok X G (c.fact 12 (f := .free "abs") rfl), He.free_ok X G (c.fact 13 (f := .free "all") rfl), He.free_ok X G (c.fact 14 (f := .free "int") rfl), He.free_ok X G (c.fact 15 (f := .free "len") rfl), He.free_ok X G (c.fact 16 (f := .free "max") rfl), He.free_ok X G (c.fact 17 (f := .free "min") rfl), He.free_ok X G (c.fact 18 (f := .free "ord") rfl), He.free_ok X G (c.fact 19 (f := .free "sorted") rfl), He.free_ok X G (c.fact 20 (f := .free "str") rfl), He.free_ok X G (c.fact 21 (f := .free "super") rfl), He.free_ok X G (c.fact 22 (f := .free "tuple") rfl), He.cls_ok (c.fact 23 (f := .cls "Journal") rfl), He.noat_ok (c.fact 24 (f := .noat "Journal" "text") rfl), He.noat_ok (c.fact 25 (f := .noat "Journal" "synced") rfl), He.cls_ok (c.fact 28 (f := .cls "Ledger") rfl), He.noat_ok (c.fact 29 (f := .noat "Ledger" "tariff") rfl), He.noat_ok (c.fact 30 (f := .noat "Ledger" "journal") rfl), He.noat_ok (c.fact 31 (f := .noat "Ledger" "_unfinished") rfl), He.noat_ok (c.fact 32 (f := .noat "Ledger" "_finished") rfl), He.cls_ok (c.fact 35 (f := .cls "Tariff") rfl), He.noat_ok (c.fact 36 (f := .noat "Tariff" "unit") rfl), He.noat_ok (c.fact 37 (f := .noat "Tariff" "bands") rfl), He.noat_ok (c.fact 38 (f := .noat "Tariff" "last") rfl), He.glo_ok X G (c.fact 41 (f := .glo "TrunklandError") rfl), He.glo_ok X G (c.fact 42 (f := .glo "ConfigError") rfl), b_ConfigError.xf, b_ConfigError.ec, b_ConfigError.no⟩
  obtain ⟨fd_wall, F_wall⟩ := c.def_ 0 (d := d_wall) rfl
  obtain ⟨fd_Journal___init, F_Journal___init⟩ := c.def_ 1 (d := d_Journal___init) rfl
  obtain ⟨fd_Journal_append, F_Journal_append⟩ := c.def_ 2 (d := d_Journal_append) rfl
  obtain ⟨fd_Journal_sync, F_Journal_sync⟩ := c.def_ 3 (d := d_Journal_sync) rfl
  obtain ⟨fd_Journal_after_crash, F_Journal_after_crash⟩ := c.def_ 4 (d := d_Journal_after_crash) rfl
  obtain ⟨fd_checksum, F_checksum⟩ := c.def_ 5 (d := d_checksum) rfl
  obtain ⟨fd_sealed, F_sealed⟩ := c.def_ 6 (d := d_sealed) rfl
  obtain ⟨fd_read_journal, F_read_journal⟩ := c.def_ 7 (d := d_read_journal) rfl
  obtain ⟨fd_is_name, F_is_name⟩ := c.def_ 8 (d := d_is_name) rfl
  obtain ⟨fd_is_address, F_is_address⟩ := c.def_ 9 (d := d_is_address) rfl
  obtain ⟨fd_read_number, F_read_number⟩ := c.def_ 10 (d := d_read_number) rfl
  obtain ⟨fd_split_address, F_split_address⟩ := c.def_ 11 (d := d_split_address) rfl
  obtain ⟨fd_consists_of, F_consists_of⟩ := c.def_ 12 (d := d_consists_of) rfl
  obtain ⟨fd_Ledger___init, F_Ledger___init⟩ := c.def_ 13 (d := d_Ledger___init) rfl
  obtain ⟨fd_Ledger_begin, F_Ledger_begin⟩ := c.def_ 14 (d := d_Ledger_begin) rfl
  obtain ⟨fd_Ledger_finish, F_Ledger_finish⟩ := c.def_ 15 (d := d_Ledger_finish) rfl
  obtain ⟨fd_Ledger_close, F_Ledger_close⟩ := c.def_ 16 (d := d_Ledger_close) rfl
  obtain ⟨fd_Ledger_is_open, F_Ledger_is_open⟩ := c.def_ 17 (d := d_Ledger_is_open) rfl
  obtain ⟨fd_Ledger_is_known, F_Ledger_is_known⟩ := c.def_ 18 (d := d_Ledger_is_known) rfl
  obtain ⟨fd_Ledger_answer_of, F_Ledger_answer_of⟩ := c.def_ 19 (d := d_Ledger_answer_of) rfl
  obtain ⟨fd_Ledger_bills, F_Ledger_bills⟩ := c.def_ 20 (d := d_Ledger_bills) rfl
  obtain ⟨fd_Ledger_pending, F_Ledger_pending⟩ := c.def_ 21 (d := d_Ledger_pending) rfl
  obtain ⟨fd_Ledger_greatest, F_Ledger_greatest⟩ := c.def_ 22 (d := d_Ledger_greatest) rfl
  obtain ⟨fd_recover, F_recover⟩ := c.def_ 23 (d := d_recover) rfl
  obtain ⟨fd_take_record, F_take_record⟩ := c.def_ 24 (d := d_take_record) rfl
  obtain ⟨fd_take_open, F_take_open⟩ := c.def_ 25 (d := d_take_open) rfl
  obtain ⟨fd_take_close, F_take_close⟩ := c.def_ 26 (d := d_take_close) rfl
  obtain ⟨fd_Tariff___init, F_Tariff___init⟩ := c.def_ 27 (d := d_Tariff___init) rfl
  obtain ⟨fd_Tariff_units, F_Tariff_units⟩ := c.def_ 28 (d := d_Tariff_units) rfl
  obtain ⟨fd_Tariff_cost, F_Tariff_cost⟩ := c.def_ 29 (d := d_Tariff_cost) rfl
  obtain ⟨fd_is_unit, F_is_unit⟩ := c.def_ 30 (d := d_is_unit) rfl
  obtain ⟨fd_is_price, F_is_price⟩ := c.def_ 31 (d := d_is_price) rfl
  obtain ⟨fd_are_bands, F_are_bands⟩ := c.def_ 32 (d := d_are_bands) rfl
  obtain ⟨fd_law_state, F_law_state⟩ := c.def_ 33 (d := d_law_state) rfl
  obtain ⟨fd_law_draw, F_law_draw⟩ := c.def_ 34 (d := d_law_draw) rfl
  obtain ⟨fd_law_pick, F_law_pick⟩ := c.def_ 35 (d := d_law_pick) rfl
  obtain ⟨fd_law_number, F_law_number⟩ := c.def_ 36 (d := d_law_number) rfl
  obtain ⟨fd_law_right, F_law_right⟩ := c.def_ 37 (d := d_law_right) rfl
  obtain ⟨fd_law_line, F_law_line⟩ := c.def_ 38 (d := d_law_line) rfl
  obtain ⟨fd_law_is_number, F_law_is_number⟩ := c.def_ 39 (d := d_law_is_number) rfl
  obtain ⟨fd_law_is_name, F_law_is_name⟩ := c.def_ 40 (d := d_law_is_name) rfl
  obtain ⟨fd_law_is_address, F_law_is_address⟩ := c.def_ 41 (d := d_law_is_address) rfl
  obtain ⟨fd_law_take, F_law_take⟩ := c.def_ 42 (d := d_law_take) rfl
  obtain ⟨fd_law, F_law⟩ := c.def_ 43 (d := d_law) rfl
  have e := hfa.symm.trans (He.glo_ok X G (c.fact 83 (f := .glo "law") rfl))
  cases e
  have b := FunD.bindsA (ps := ["script"]) F_law fun _ _ _ _ _ _ us hl => match us, hl with | [_], _ => rfl
  refine ⟨fd_law, fun s v => b s [v] rfl, fun base _ _ => ?_⟩
  have x_ConfigError := ok_exc_ConfigError (w := w) (base := base) T.f_super htop T.g_ConfigError b_ConfigError
  have c_law_state := cal_of (P := P) (w := w) (base := base) F_law_state (ok_law_state T  F_law_state) (He.glo_ok X G (c.fact 73 (f := .glo "_law_state") rfl)) fun _ _ _ _ _ _ us hl => match us, hl with | [_], _ => rfl
  have c_law_draw := cal_of (P := P) (w := w) (base := base) F_law_draw (ok_law_draw T  F_law_draw) (He.glo_ok X G (c.fact 74 (f := .glo "_law_draw") rfl)) fun _ _ _ _ _ _ us hl => match us, hl with | [_, _], _ => rfl
  have c_law_pick := cal_of (P := P) (w := w) (base := base) F_law_pick (ok_law_pick T c_law_draw F_law_pick) (He.glo_ok X G (c.fact 75 (f := .glo "_law_pick") rfl)) fun _ _ _ _ _ _ us hl => match us, hl with | [_, _], _ => rfl
  have c_consists_of := cal_of (P := P) (w := w) (base := base) F_consists_of (ok_consists_of T  F_consists_of) (He.glo_ok X G (c.fact 54 (f := .glo "_consists_of") rfl)) fun _ _ _ _ _ _ us hl => match us, hl with | [_, _, _], _ => rfl
  have c_is_name := cal_of (P := P) (w := w) (base := base) F_is_name (ok_is_name T c_consists_of F_is_name) (He.glo_ok X G (c.fact 50 (f := .glo "is_name") rfl)) fun _ _ _ _ _ _ us hl => match us, hl with | [_], _ => rfl
  have c_read_number := cal_of (P := P) (w := w) (base := base) F_read_number (ok_read_number T c_consists_of F_read_number) (He.glo_ok X G (c.fact 52 (f := .glo "read_number") rfl)) fun _ _ _ _ _ _ us hl => match us, hl with | [_, _], _ => rfl
  have c_split_address := cal_of (P := P) (w := w) (base := base) F_split_address (ok_split_address T c_is_name F_split_address) (He.glo_ok X G (c.fact 53 (f := .glo "split_address") rfl)) fun _ _ _ _ _ _ us hl => match us, hl with | [_], _ => rfl
  have c_is_address := cal_of (P := P) (w := w) (base := base) F_is_address (ok_is_address T c_split_address F_is_address) (He.glo_ok X G (c.fact 51 (f := .glo "is_address") rfl)) fun _ _ _ _ _ _ us hl => match us, hl with | [_], _ => rfl
  have c_mk_Journal := mak_of (P := P) (w := w) (base := base) (He.mkr_ok (c.fact 27 (f := .mkr "Journal") rfl)) (He.glo_ok X G (c.fact 26 (f := .glo "Journal") rfl)) F_Journal___init (ok_Journal___init T  F_Journal___init) fun _ _ _ _ _ _ us hl => match us, hl with | [_], _ => rfl
  have c_checksum := cal_of (P := P) (w := w) (base := base) F_checksum (ok_checksum T  F_checksum) (He.glo_ok X G (c.fact 47 (f := .glo "checksum") rfl)) fun _ _ _ _ _ _ us hl => match us, hl with | [_], _ => rfl
  have c_sealed := cal_of (P := P) (w := w) (base := base) F_sealed (ok_sealed T c_checksum F_sealed) (He.glo_ok X G (c.fact 48 (f := .glo "sealed") rfl)) fun _ _ _ _ _ _ us hl => match us, hl with | [_], _ => rfl
  have c_Journal_append := met_of (P := P) (w := w) (base := base) T.cl_Journal (He.meth_ok (c.fact 44 (f := .meth "Journal" "append") rfl)) F_Journal_append (ok_Journal_append T c_sealed F_Journal_append) fun _ _ _ _ _ _ us hl => match us, hl with | [_, _], _ => rfl
  have c_Journal_sync := met_of (P := P) (w := w) (base := base) T.cl_Journal (He.meth_ok (c.fact 45 (f := .meth "Journal" "sync") rfl)) F_Journal_sync (ok_Journal_sync T  F_Journal_sync) fun _ _ _ _ _ _ us hl => match us, hl with | [_], _ => rfl
  have c_read_journal := cal_of (P := P) (w := w) (base := base) F_read_journal (ok_read_journal T c_sealed F_read_journal) (He.glo_ok X G (c.fact 49 (f := .glo "read_journal") rfl)) fun _ _ _ _ _ _ us hl => match us, hl with | [_], _ => rfl
  have c_is_unit := cal_of (P := P) (w := w) (base := base) F_is_unit (ok_is_unit T  F_is_unit) (He.glo_ok X G (c.fact 70 (f := .glo "_is_unit") rfl)) fun _ _ _ _ _ _ us hl => match us, hl with | [_], _ => rfl
  have c_is_price := cal_of (P := P) (w := w) (base := base) F_is_price (ok_is_price T  F_is_price) (He.glo_ok X G (c.fact 71 (f := .glo "_is_price") rfl)) fun _ _ _ _ _ _ us hl => match us, hl with | [_], _ => rfl
  have c_are_bands := cal_of (P := P) (w := w) (base := base) F_are_bands (ok_are_bands T c_is_unit c_is_price F_are_bands) (He.glo_ok X G (c.fact 72 (f := .glo "_are_bands") rfl)) fun _ _ _ _ _ _ us hl => match us, hl with | [_], _ => rfl
  have c_Tariff_units := met_of (P := P) (w := w) (base := base) T.cl_Tariff (He.meth_ok (c.fact 68 (f := .meth "Tariff" "units") rfl)) F_Tariff_units (ok_Tariff_units T  F_Tariff_units) fun _ _ _ _ _ _ us hl => match us, hl with | [_, _], _ => rfl
  have c_Tariff_cost := met_of (P := P) (w := w) (base := base) T.cl_Tariff (He.meth_ok (c.fact 69 (f := .meth "Tariff" "cost") rfl)) F_Tariff_cost (ok_Tariff_cost T c_Tariff_units F_Tariff_cost) fun _ _ _ _ _ _ us hl => match us, hl with | [_, _], _ => rfl
  have c_mkx_Tariff := TKE.makX_of (P := P) (w := w) (base := base) (n := 3) (He.mkr_ok (c.fact 40 (f := .mkr "Tariff") rfl)) (He.glo_ok X G (c.fact 39 (f := .glo "Tariff") rfl)) F_Tariff___init (ok_Tariff___init T x_ConfigError c_is_unit c_is_price c_are_bands F_Tariff___init) rfl fun _ _ _ _ _ _ us hl => match us, hl with | [_, _, _, _], _ => rfl
  have c_mk_Ledger := mak_of (P := P) (w := w) (base := base) (He.mkr_ok (c.fact 34 (f := .mkr "Ledger") rfl)) (He.glo_ok X G (c.fact 33 (f := .glo "Ledger") rfl)) F_Ledger___init (ok_Ledger___init T c_mk_Journal F_Ledger___init) fun _ _ _ _ _ _ us hl => match us, hl with | [_, _], _ => rfl
  have c_Ledger_begin := met_of (P := P) (w := w) (base := base) T.cl_Ledger (He.meth_ok (c.fact 55 (f := .meth "Ledger" "begin") rfl)) F_Ledger_begin (ok_Ledger_begin T c_Journal_append c_Journal_sync F_Ledger_begin) fun _ _ _ _ _ _ us hl => match us, hl with | [_, _, _, _, _], _ => rfl
  have c_Ledger_close := met_of (P := P) (w := w) (base := base) T.cl_Ledger (He.meth_ok (c.fact 57 (f := .meth "Ledger" "close") rfl)) F_Ledger_close (ok_Ledger_close T c_Journal_append F_Ledger_close) fun _ _ _ _ _ _ us hl => match us, hl with | [_, _, _, _], _ => rfl
  have c_Ledger_is_open := met_of (P := P) (w := w) (base := base) T.cl_Ledger (He.meth_ok (c.fact 58 (f := .meth "Ledger" "is_open") rfl)) F_Ledger_is_open (ok_Ledger_is_open T  F_Ledger_is_open) fun _ _ _ _ _ _ us hl => match us, hl with | [_, _], _ => rfl
  have c_Ledger_is_known := met_of (P := P) (w := w) (base := base) T.cl_Ledger (He.meth_ok (c.fact 59 (f := .meth "Ledger" "is_known") rfl)) F_Ledger_is_known (ok_Ledger_is_known T  F_Ledger_is_known) fun _ _ _ _ _ _ us hl => match us, hl with | [_, _], _ => rfl
  have c_Ledger_answer_of := met_of (P := P) (w := w) (base := base) T.cl_Ledger (He.meth_ok (c.fact 60 (f := .meth "Ledger" "answer_of") rfl)) F_Ledger_answer_of (ok_Ledger_answer_of T  F_Ledger_answer_of) fun _ _ _ _ _ _ us hl => match us, hl with | [_, _], _ => rfl
  have c_Ledger_pending := met_of (P := P) (w := w) (base := base) T.cl_Ledger (He.meth_ok (c.fact 62 (f := .meth "Ledger" "pending") rfl)) F_Ledger_pending (ok_Ledger_pending T  F_Ledger_pending) fun _ _ _ _ _ _ us hl => match us, hl with | [_], _ => rfl
  have c_Ledger_bills := met_of (P := P) (w := w) (base := base) T.cl_Ledger (He.meth_ok (c.fact 61 (f := .meth "Ledger" "bills") rfl)) F_Ledger_bills (ok_Ledger_bills T  F_Ledger_bills) fun _ _ _ _ _ _ us hl => match us, hl with | [_], _ => rfl
  have c_take_open := cal_of (P := P) (w := w) (base := base) F_take_open (ok_take_open T c_read_number c_is_address c_Ledger_is_known c_Ledger_begin F_take_open) (He.glo_ok X G (c.fact 66 (f := .glo "_take_open") rfl)) fun _ _ _ _ _ _ us hl => match us, hl with | [_, _], _ => rfl
  have c_take_close := cal_of (P := P) (w := w) (base := base) F_take_close (ok_take_close T c_read_number c_Ledger_is_open c_Ledger_close F_take_close) (He.glo_ok X G (c.fact 67 (f := .glo "_take_close") rfl)) fun _ _ _ _ _ _ us hl => match us, hl with | [_, _], _ => rfl
  have c_take_record := cal_of (P := P) (w := w) (base := base) F_take_record (ok_take_record T c_take_open c_take_close F_take_record) (He.glo_ok X G (c.fact 65 (f := .glo "_take_record") rfl)) fun _ _ _ _ _ _ us hl => match us, hl with | [_, _], _ => rfl
  have c_Ledger_finish := met_of (P := P) (w := w) (base := base) T.cl_Ledger (He.meth_ok (c.fact 56 (f := .meth "Ledger" "finish") rfl)) F_Ledger_finish (ok_Ledger_finish T c_Ledger_close c_Ledger_answer_of c_Tariff_cost F_Ledger_finish) fun _ _ _ _ _ _ us hl => match us, hl with | [_, _, _], _ => rfl
  have c_recover := cal_of (P := P) (w := w) (base := base) F_recover (ok_recover T c_mk_Ledger c_read_journal c_take_record c_Ledger_pending c_Ledger_finish c_Ledger_answer_of c_Journal_sync F_recover) (He.glo_ok X G (c.fact 64 (f := .glo "recover") rfl)) fun _ _ _ _ _ _ us hl => match us, hl with | [_, _, _], _ => rfl
  have c_law_is_name := cal_of (P := P) (w := w) (base := base) F_law_is_name (ok_law_is_name T  F_law_is_name) (He.glo_ok X G (c.fact 80 (f := .glo "_law_is_name") rfl)) fun _ _ _ _ _ _ us hl => match us, hl with | [_], _ => rfl
  have c_law_is_number := cal_of (P := P) (w := w) (base := base) F_law_is_number (ok_law_is_number T  F_law_is_number) (He.glo_ok X G (c.fact 79 (f := .glo "_law_is_number") rfl)) fun _ _ _ _ _ _ us hl => match us, hl with | [_], _ => rfl
  have c_law_is_address := cal_of (P := P) (w := w) (base := base) F_law_is_address (ok_law_is_address T c_law_is_name F_law_is_address) (He.glo_ok X G (c.fact 81 (f := .glo "_law_is_address") rfl)) fun _ _ _ _ _ _ us hl => match us, hl with | [_], _ => rfl
  have c_law_number := cal_of (P := P) (w := w) (base := base) F_law_number (ok_law_number T c_law_pick c_law_draw F_law_number) (He.glo_ok X G (c.fact 76 (f := .glo "_law_number") rfl)) fun _ _ _ _ _ _ us hl => match us, hl with | [_], _ => rfl
  have c_law_right := cal_of (P := P) (w := w) (base := base) F_law_right (ok_law_right T c_law_pick c_law_draw c_law_number F_law_right) (He.glo_ok X G (c.fact 77 (f := .glo "_law_right") rfl)) fun _ _ _ _ _ _ us hl => match us, hl with | [_], _ => rfl
  have c_law_line := cal_of (P := P) (w := w) (base := base) F_law_line (ok_law_line T c_law_right c_law_draw c_law_pick F_law_line) (He.glo_ok X G (c.fact 78 (f := .glo "_law_line") rfl)) fun _ _ _ _ _ _ us hl => match us, hl with | [_], _ => rfl
  have c_law_take := cal_of (P := P) (w := w) (base := base) F_law_take (ok_law_take T c_law_is_number c_law_is_address F_law_take) (He.glo_ok X G (c.fact 82 (f := .glo "_law_take") rfl)) fun _ _ _ _ _ _ us hl => match us, hl with | [_, _], _ => rfl
  exact ok_law T c_law_state c_law_draw c_law_line c_sealed c_law_take c_mkx_Tariff c_Tariff_cost c_recover c_Ledger_bills c_Ledger_pending c_read_journal F_law
end K13
open PySem PySem.W PySem.Calls PyProof.Rows
theorem PySem.Challenge.cw_trunkland_k13_journals_of_any_lines_holds : PySem.Challenge.rw_trunkland_k13_journals_of_any_lines.Holds := by
  w_on; o_law
  refine HandSHeadRun.head_any (r := OpenLaw.row PySem.Challenge.rw_trunkland_k13_journals_of_any_lines) (q := view (OpenLaw.row PySem.Challenge.rw_trunkland_k13_journals_of_any_lines).prog [49]) (H := K13.hk) (ob := K13.ob) (M := 4000) (loose := K13.loose0 ++ K13.loose1) (d := HandSHeadRun.topDef (OpenLaw.row PySem.Challenge.rw_trunkland_k13_journals_of_any_lines).prog 49) (kwd := []) K13.ob_eq
    (by kernel_rfl) (fun s => by kernel_rfl) K13.run (by kernel_rfl) (by kernel_rfl) (by kernel_rfl) (by rfl) (by first | assumption | decide +kernel) (by decide +kernel) ⟨rfl, rfl, rfl, rfl, rfl, by decide +kernel⟩ ?hw ?hc
  case hw => w_witness2
  case hc =>
    refine L2.walk_ofE (l := PySem.Challenge.rw_trunkland_k13_journals_of_any_lines) (n := 63) (k := 8) (x := "script") (CX := L2.CX0) rfl (by decide) (by kernel_rfl) ⟨rfl, by decide, by decide⟩ ?F (fun _ _ _ _ z => z)
    intro w mg fa h Y G hmg0
    obtain ⟨K, KX, c, cx, ce⟩ := Y
    have hmg : mg ("law" : PySem.Str) = some (.ref fa) := by
      have e : (HandSHeadRun.topDef (OpenLaw.row PySem.Challenge.rw_trunkland_k13_journals_of_any_lines).prog 49).name = ("law" : PySem.Str) := by kernel_rfl
      rw [← e]
      exact hmg0
    obtain ⟨fd, hb, hF⟩ := K13.facts (P := (PySem.Challenge.rw_trunkland_k13_journals_of_any_lines).prog) (w := w) KX G hmg c cx ce rfl (by kernel_rfl)
    exact ⟨K, fd, K13.spLaw K, KX, hb, fun H a ns hl _ hS => ⟨a, ns, rfl, hS, hl, fun _ => rfl⟩, hF⟩
