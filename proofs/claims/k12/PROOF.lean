import PyProof.Rows.All
import Wide.All
import OpenK.AllK
import Wide.FinOn
import HandS.ForMost
import HandS.Defaults
import HandS.Codes
import HandS.IsInst
import HandS.NoneIn
import HandS.Replace
import HandS.Walk
import HandS.Head0
import HandS.Head1
import HandS.Head2
import HandS.HeadEnd
import HandS.HeadHook1
import HandS.HeadHook2
import HandS.MakeKw
import HandS.MakeKwOnly
import HandS.FStr
import HandS.Deep
import HandS.StrMore
import HandS.Steps
import PyProof.MeetsStr3
import PyProof.Rows.StrNews2
import PyProof.Rows.StrLast
import PyProof.Rows.StrCountLaw
import HandS.Ends
import PyProof.ReprRoads
import PyProof.Rows.RegFStrParts
import HandS.Iter
import HandS.ExcInit
import HandS.ExcIs
import HandS.ExcField
import HandS.ExcCtx
import HandS.ClsMeth
import HandS.Nested
import KE.KExcSuper
import KE.KExcIs
import KE.KIsAll
import HandS.WordsExc
import HandS.Star
import HandS.More
import KE.KDictList
import PyProof.Rows.StrFoldSign
import PyProof.Rows.RegStrFacts
import HandS.DictTup
import HandS.DictSub
import PySem.Challenge.RW_trunkland_k12_bills
import HandS.TupAny
set_option Elab.async false
set_option linter.all false
set_option maxRecDepth 100000
set_option maxHeartbeats 4000000
/-! Helpers of mine over the hand layer, the same for every law of this program. -/
namespace TK
open PySem PySem.Spec PyProof.Rows L2 C8 SX
section
variable {X : Cx} {x : Str} {pos p : Pos} {k j : Nat} {sp : Sp} {dvs : List V}
theorem pgI {i : Int} (h : ∃ t, X.mg x = some (.int i t)) (hg : Gl X x := by rfl) (hd : (x == ("__debug__" : Str)) = false := by decide) : PE X (.Name x pos) (tC (.int i)) := by
  obtain ⟨t, e⟩ := h
  exact pe_glob hg e ⟨t, rfl⟩ hd
theorem pgS {z : Str} (h : ∃ t, X.mg x = some (.str z t)) (hg : Gl X x := by rfl) (hd : (x == ("__debug__" : Str)) = false := by decide) : PE X (.Name x pos) (tC (.str z)) := by
  obtain ⟨t, e⟩ := h
  exact pe_glob hg e ⟨t, rfl⟩ hd
theorem pgR {a : Addr} (h : X.mg x = some (.ref a)) (hg : Gl X x := by rfl) (hd : (x == ("__debug__" : Str)) = false := by decide) : PE X (.Name x pos) (tC (.ref a)) := pe_glob hg h rfl hd
theorem pe_c0 (c : Cal X.prog X.w X.K X.mg X.base k x sp dvs) (hr : Room j X.A) (hk : k ≤ j) (hg : Gl X x) (hdb : (x == ("__debug__" : Str)) = false := by decide) :
    PE X (.Call (.Name x p) [] [] pos) (tCall sp dvs L2.E0 tNil) := by
  obtain ⟨f, fd, ps, ds, F, hm, kp, b, d⟩ := c.ex
  exact pe_call0 F (hr.mono hk) hg hm kp b d L2.pass0 hdb
end
section
variable {P : Program} {w : World} {K : PySem.W.Frag} {mg : Str → Option Value} {base : Heap}
/-- a def without defaults, as callers want it -/
theorem cal_of {x qual : Str} {params : Arguments} {body : List Stmt} {scope : Scope} {f : Addr} {fd : FuncData} {ps : List Str} {k : Nat} {sp : Sp} (F : FunD K x qual params body scope [] [] f fd) (G : FnOk P w K mg base L2.CX0 k f fd ps sp) (hm : mg x = some (.ref f))
    (h : ∀ (kV doc pm : Value) (an : Option Addr) (cdv ct : Value) (us : List Value), us.length = ps.length → bindArgs (PySem.W.fnOf x qual params body scope .none kV doc pm an cdv ct) ⟨us, []⟩ = pure (ps.zip us)) : Cal P w K mg base k x sp [] :=
  ⟨f, fd, ps, [], G, hm, F.kp, F.bindsN h, .nil⟩
end
/-! ### heaps -/
/-- all that was tracked is as it was, but what stands at two places -/
def Keep (H H' : Hp) (a c : Addr) : Prop := ∀ b o, H b = some o → b ≠ a → b ≠ c → H' b = some o
theorem Keep.refl (H : Hp) (a c : Addr) : Keep H H a c := fun _ _ h _ _ => h
theorem Keep.trans {H H1 H2 : Hp} {a c : Addr} (h : Keep H H1 a c) (k : Keep H1 H2 a c) : Keep H H2 a c := fun b o e h1 h2 => k b o (h b o e h1 h2) h1 h2
theorem Keep.of_same {H H' : Hp} {a c : Addr} (h : Same H H') : Keep H H' a c := fun b o e _ _ => h b o e
theorem same_upd {H : Hp} {p : Addr} {o : HO} (h : H p = none) : Same H (upd H p o) := fun b u e => by
  rw [upd_ne (ne_of_none e h)]
  exact e
/-- the law's source of draws: a list of a list of cells and a seed -/
structure StAt (H : Hp) (s c : Addr) : Prop where
  ne : s ≠ c
  at_ : ∃ n : Int, H s = some (.lst [.ref c, .int n])
  cells : ∃ ns : List Int, H c = some (.lst (ns.map V.int)) ∧ ns.length ≤ 63
theorem StAt.same {H H' : Hp} {s c : Addr} (h : StAt H s c) (e : Same H H') : StAt H' s c := by
  obtain ⟨ne, ⟨n, h1⟩, ns, h2, h3⟩ := h
  exact ⟨ne, ⟨n, e _ _ h1⟩, ns, e _ _ h2, h3⟩
end TK
namespace TK
open PySem PySem.Spec PyProof.Rows L2 C8 SX
/-! ### comprehensions whose elements leave the heap alone -/
theorem lc_pure {J : It} {n : Nat} {G : Hp → Prop} {Y : Nat → Hp → V → Hp → Prop} (w : Walk J n G Y) (f : Nat → V) {g : TG} {tt : TT} {te : TE} {vs : List Nat} {σ : L2.St} {H1 : Hp} {D : Addr} {Qd : Hp → Prop} (hn : n ≤ sizeLine)
    (hG : ∀ i, i ≤ n → G (upd H1 D (.lst ((List.range i).map f))))
    (hs : ∀ (i : Nat) (x : V) (H' : Hp) (k : V → Hp → Prop), i < n → Y i (upd H1 D (.lst ((List.range i).map f))) x H' → k (f i) (upd H1 D (.lst ((List.range i).map f))) →
      g x (wipe σ vs) H' fun σ2 H2 => wipe σ2 vs = wipe σ vs ∧ tt σ2 H2 fun b H3 => b = true ∧ te σ2 H3 k)
    (ht : ∀ σ H Q Q', (∀ b H', Q b H' → Q' b H') → tt σ H Q → tt σ H Q') (hg : ∀ x σ H Q Q', (∀ σ' H', Q σ' H' → Q' σ' H') → g x σ H Q → g x σ H Q')
    (hd : Qd (upd H1 D (.lst ((List.range n).map f)))) :
    ∃ W : Nat → Nat → Hp → Prop, (∃ m, W 0 m (upd H1 D (.lst []))) ∧ ∀ i m H, W i m H →
      (J.stop i H ∧ Qd H) ∨ (J.go i H ∧ ∃ Nx : Hp → Prop, (∀ H', Nx H' → ∃ m', m' < m ∧ W (i + 1) m' H') ∧ ∀ x H', J.yld i H x H' → g x (wipe σ vs) H' fun σ2 H2 => wipe σ2 vs = wipe σ vs ∧ tt σ2 H2 fun b H3 =>
        if b = true then te σ2 H3 fun y H4 => ∃ acc, H4 D = some (.lst acc) ∧ acc.length < sizeLine ∧ Nx (upd H4 D (.lst (acc ++ [y]))) else Nx H3) := by
  refine lc_it w (fun i H => H = upd H1 D (.lst ((List.range i).map f))) rfl (fun i H hi e => e ▸ hG i hi) (fun i x H H' hi e y => ?_) (fun H e => e ▸ hd)
  subst e
  refine hg _ _ _ _ _ (fun σ2 H2 q => ⟨q.1, ht _ _ _ _ (fun b H3 r => ?_) q.2⟩) (hs i x H' (fun y H4 => ∃ acc, H4 D = some (.lst acc) ∧ acc.length < sizeLine ∧ upd H4 D (.lst (acc ++ [y])) = upd H1 D (.lst ((List.range (i + 1)).map f))) hi y ⟨_, upd_same, ?_, ?_⟩)
  · rw [if_pos r.1]
    exact r.2
  · rw [List.length_map, List.length_range]
    omega
  · rw [upd_upd, List.range_succ, List.map_append]
    rfl
/-- the usual target and no test -/
theorem lc_pureN {J : It} {n : Nat} {G : Hp → Prop} {Y : Nat → Hp → V → Hp → Prop} (w : Walk J n G Y) (f : Nat → V) {j : Nat} {te : TE} {vs : List Nat} {σ : L2.St} {H1 : Hp} {D : Addr} {Qd : Hp → Prop} (hn : n ≤ sizeLine)
    (hG : ∀ i, i ≤ n → G (upd H1 D (.lst ((List.range i).map f))))
    (hs : ∀ (i : Nat) (x : V) (H' : Hp) (k : V → Hp → Prop), i < n → Y i (upd H1 D (.lst ((List.range i).map f))) x H' → k (f i) (upd H1 D (.lst ((List.range i).map f))) →
      wipe ((wipe σ vs).set j (some x)) vs = wipe σ vs ∧ te ((wipe σ vs).set j (some x)) H' k)
    (hd : Qd (upd H1 D (.lst ((List.range n).map f)))) :
    ∃ W : Nat → Nat → Hp → Prop, (∃ m, W 0 m (upd H1 D (.lst []))) ∧ ∀ i m H, W i m H →
      (J.stop i H ∧ Qd H) ∨ (J.go i H ∧ ∃ Nx : Hp → Prop, (∀ H', Nx H' → ∃ m', m' < m ∧ W (i + 1) m' H') ∧ ∀ x H', J.yld i H x H' → gName j x (wipe σ vs) H' fun σ2 H2 => wipe σ2 vs = wipe σ vs ∧ tYes σ2 H2 fun b H3 =>
        if b = true then te σ2 H3 fun y H4 => ∃ acc, H4 D = some (.lst acc) ∧ acc.length < sizeLine ∧ Nx (upd H4 D (.lst (acc ++ [y]))) else Nx H3) :=
  lc_pure w f hn hG (fun i x H' k hi y q => ⟨(hs i x H' k hi y q).1, rfl, (hs i x H' k hi y q).2⟩) (fun _ _ _ _ h q => h _ _ q) (fun _ _ _ _ _ h q => h _ _ q) hd
theorem size_tl (z : Str) : z.cps.size = (TL.tl z).length := by simp [TL.tl]
theorem len_eq (z : Str) : z.length = (TL.tl z).length := TL.len_tl z
theorem range_map_getD {α β : Type} (l : List α) (d : α) (f : α → β) : (List.range l.length).map (fun i => f (l.getD i d)) = l.map f := by
  apply List.ext_getElem
  · simp
  · intro i h1 h2
    simp at h1
    simp [h1]
end TK
namespace TK
open PySem PySem.Spec PyProof.Rows L2 SX
theorem ef {b : Bool} (h : ¬ b = true) : b = false := Bool.eq_false_iff.mpr h
/-! ### places in texts -/
theorem at0 {α : Type} {l : List α} (d : α) (h : 0 < l.length) : atI l 0 = some (l.getD 0 d) := by
  cases l with
  | nil => exact absurd h (Nat.lt_irrefl 0)
  | cons a r =>
    show ((if (0 : Int) ≤ 0 then (if (0 : Int) < ((a :: r).length : Nat) then some (0 : Int).toNat else none) else _) : Option Nat).bind _ = _
    rw [if_pos (Int.le_refl 0), if_pos (by rw [List.length_cons]; omega)]
    rfl
theorem atN {α : Type} {l : List α} {i : Int} (d : α) (h0 : 0 ≤ i) (h : i < l.length) : atI l i = some (l.getD i.toNat d) := by
  show ((if (0 : Int) ≤ i then (if i < (l.length : Nat) then some i.toNat else none) else _) : Option Nat).bind _ = _
  rw [if_pos h0, if_pos h]
  show l[i.toNat]? = _
  rw [List.getD_eq_getElem?_getD, List.getElem?_eq_getElem (by omega)]
  rfl
theorem atC {α : Type} (a : α) (r : List α) : atI (a :: r) 0 = some a := at0 a (by simp)
theorem ixP {n : Nat} {i : Int} (h0 : 0 ≤ i) (h : i < n) : ixN n i = some i.toNat := by
  unfold ixN
  rw [if_pos h0, if_pos h]
theorem sqP {n : Nat} {i : Int} (h0 : 0 ≤ i) (h : i < n) : seqIndex? i n = some i.toNat := (ixN_seq (ixP h0 h)).1
theorem ixC {α : Type} (a : α) (r : List α) : ixN (a :: r).length 0 = some 0 := ixP (by decide) (by rw [List.length_cons]; omega)
theorem sqC {α : Type} (a : α) (r : List α) : seqIndex? 0 (a :: r).length = some 0 := sqP (by decide) (by rw [List.length_cons]; omega)
/-- the first place of a sign -/
theorem occ_first1 {l : List Nat} {c : Nat} (h : c ∈ l) : ∃ rest, Builtin.Str.occurrences (S l) (S [c]) 0 (S l).length 1 = l.idxOf c :: rest := by
  have at_iff : ∀ i, StrLaws.At (S l) (S [c]) (S l).length i ↔ l[i]? = some c := by
    intro i
    have e := TL.at_iff (x := S l) (y := S [c]) (by show [c] ≠ []; simp) i
    refine e.trans ?_
    show (((l.drop i).take 1 == [c]) = true) ↔ _
    rw [beq_iff_eq]
    constructor
    · intro q
      cases e2 : l.drop i with
      | nil =>
        rw [e2] at q
        cases q
      | cons a r =>
        rw [e2] at q
        have e3 : a = c := by
          simpa using q
        rw [← e3]
        have e4 : (l.drop i)[0]? = some a := by rw [e2]; rfl
        rw [List.getElem?_drop] at e4
        exact e4
    · intro q
      have hi : i < l.length := (List.getElem?_eq_some_iff.mp q).1
      rw [List.drop_eq_getElem_cons hi]
      have e3 : l[i] = c := (List.getElem?_eq_some_iff.mp q).2
      rw [e3]
      rfl
  rcases StrLaws.occ_head (S l) (S [c]) 1 (Nat.le_refl 1) with ⟨_, hn⟩ | ⟨i, r, e, ha, hn⟩
  · obtain ⟨i, hi, e⟩ := List.mem_iff_getElem.mp h
    exact absurd ((at_iff i).mpr (by rw [List.getElem?_eq_getElem hi, e])) (hn i)
  · refine ⟨r, ?_⟩
    rw [e]
    congr 1
    have h1 := (at_iff i).mp ha
    have hi : i < l.length := (List.getElem?_eq_some_iff.mp h1).1
    have e1 : l[i] = c := (List.getElem?_eq_some_iff.mp h1).2
    have hj : l.idxOf c < l.length := List.idxOf_lt_length_iff.mpr h
    have e2 : l[l.idxOf c] = c := List.getElem_idxOf hj
    rcases Nat.lt_trichotomy i (l.idxOf c) with z | z | z
    · exfalso
      have := List.not_of_lt_findIdx (p := (· == c)) (xs := l) (i := i) z
      simp [e1] at this
    · exact z
    · exfalso
      exact hn _ z ((at_iff _).mpr (by rw [List.getElem?_eq_getElem hj, e2]))
/-- a list cut at the first sign c -/
theorem cut_first {l : List Nat} {c : Nat} (h : c ∈ l) : l = l.take (l.idxOf c) ++ c :: l.drop (l.idxOf c + 1) ∧ c ∉ l.take (l.idxOf c) := by
  have hj : l.idxOf c < l.length := List.idxOf_lt_length_iff.mpr h
  refine ⟨?_, ?_⟩
  · have e2 : l[l.idxOf c] = c := List.getElem_idxOf hj
    have e3 := List.drop_eq_getElem_cons hj
    rw [e2] at e3
    rw [← e3, List.take_append_drop]
  · intro hm
    obtain ⟨i, hi, e⟩ := List.mem_iff_getElem.mp hm
    rw [List.length_take] at hi
    have hi1 : i < l.idxOf c := by omega
    have := List.not_of_lt_findIdx (p := (· == c)) (xs := l) (i := i) hi1
    rw [List.getElem_take] at e
    simp [e] at this
theorem cut_unique {a b a' b' : List Nat} {c : Nat} (h : a ++ c :: b = a' ++ c :: b') (ha : c ∉ a) (ha' : c ∉ a') : a = a' ∧ b = b' := by
  induction a generalizing a' with
  | nil =>
    cases a' with
    | nil => exact ⟨rfl, by simpa using h⟩
    | cons d r =>
      have e : c = d := by simpa using (List.cons.inj h).1
      exact absurd (List.mem_cons.mpr (.inl e)) ha'
  | cons d r ih =>
    cases a' with
    | nil =>
      have e : d = c := by simpa using (List.cons.inj h).1
      exact absurd (List.mem_cons.mpr (.inl e.symm)) ha
    | cons d' r' =>
      obtain ⟨e1, e2⟩ := List.cons.inj h
      obtain ⟨e3, e4⟩ := ih e2 (fun z => ha (List.mem_cons_of_mem _ z)) (fun z => ha' (List.mem_cons_of_mem _ z))
      exact ⟨by rw [e1, e3], e4⟩
end TK
namespace TK
open PySem PySem.Spec PyProof.Rows L2 SX
theorem Keep.upd {H H' : Hp} {s c D : Addr} {o : HO} (k : Keep H H' s c) (hD : H D = none) : Keep H (upd H' D o) s c := fun b u e h1 h2 => by
  rw [upd_ne (ne_of_none e hD)]
  exact k b u e h1 h2
theorem StAt.upd {H : Hp} {s c D : Addr} {o : HO} (h : StAt H s c) (h1 : D ≠ s) (h2 : D ≠ c) : StAt (upd H D o) s c := by
  obtain ⟨ne, ⟨n, a⟩, ns, b, l⟩ := h
  exact ⟨ne, ⟨n, by rw [upd_ne h1.symm]; exact a⟩, ns, by rw [upd_ne h2.symm]; exact b, l⟩
theorem StAt.tracked {H : Hp} {s c D : Addr} (h : StAt H s c) (hD : H D = none) : D ≠ s ∧ D ≠ c := by
  obtain ⟨ne, ⟨n, a⟩, ns, b, l⟩ := h
  exact ⟨fun e => (by rw [e, a] at hD; cases hD), fun e => (by rw [e, b] at hD; cases hD)⟩
theorem Keep.none {H H' : Hp} {s c b : Addr} (k : Keep H H' s c) (h : H' b = Option.none) (h1 : b ≠ s) (h2 : b ≠ c) : H b = Option.none := by
  cases e : H b with
  | none => rfl
  | some o =>
    rw [k b o e h1 h2] at h
    cases h
theorem joinL_nil : ∀ l : List (List Nat), TL.joinL [] l = l.flatten
  | [] => rfl
  | [p] => by simp [TL.joinL]
  | p :: q :: r => by
    show p ++ ([] ++ TL.joinL [] (q :: r)) = _
    rw [joinL_nil (q :: r)]
    rfl
/-- texts of one sign, joined -/
theorem join_ones {ys : List Str} (h : ∀ z ∈ ys, z.length = 1) : (Txt.join "" ys).length = ys.length := by
  have e : (Txt.join ("" : Str) ys) = Str.join "" ys := TL.join_eq "" ys
  rw [e, len_eq, TL.tl_join, show TL.tl ("" : Str) = [] by decide +kernel, joinL_nil]
  induction ys with
  | nil => rfl
  | cons a r ih =>
    have h1 := h a (List.mem_cons_self ..)
    rw [len_eq] at h1
    rw [List.map_cons, List.flatten_cons, List.length_append, ih (fun z hz => h z (List.mem_cons_of_mem _ hz)) (TL.join_eq "" r), List.length_cons, h1]
    omega
theorem sum_ones {ys : List Str} (h : ∀ z ∈ ys, z.length = 1) : (ys.map (·.length)).sum = ys.length := by
  induction ys with
  | nil => rfl
  | cons a r ih =>
    rw [List.map_cons, List.sum_cons, ih (fun z hz => h z (List.mem_cons_of_mem _ hz)), h a (List.mem_cons_self ..), List.length_cons]
    omega
theorem cat_len (a b : Str) : (a ++ b).length = a.length + b.length := by
  rw [len_eq, TL.tl_append, List.length_append, ← len_eq, ← len_eq]
end TK
namespace TK
open PySem PySem.Spec PyProof.Rows L2 SX
/-- lc_it with a plain name as target and no test -/
theorem lc_itN {J : It} {n : Nat} {G : Hp → Prop} {Y : Nat → Hp → V → Hp → Prop} (w : Walk J n G Y) {j : Nat} {te : TE} {vs : List Nat} {σ : L2.St} {H1 : Hp} {D : Addr} {Qd : Hp → Prop} (Pv : Nat → Hp → Prop) (h0 : Pv 0 (upd H1 D (.lst []))) (hG : ∀ i H, i ≤ n → Pv i H → G H)
    (hs : ∀ i x H H', i < n → Pv i H → Y i H x H' → wipe ((wipe σ vs).set j (some x)) vs = wipe σ vs ∧ te ((wipe σ vs).set j (some x)) H' fun y H4 => ∃ acc, H4 D = some (.lst acc) ∧ acc.length < sizeLine ∧ Pv (i + 1) (upd H4 D (.lst (acc ++ [y])))) (hd : ∀ H, Pv n H → Qd H) :
    ∃ W : Nat → Nat → Hp → Prop, (∃ m, W 0 m (upd H1 D (.lst []))) ∧ ∀ i m H, W i m H →
      (J.stop i H ∧ Qd H) ∨ (J.go i H ∧ ∃ Nx : Hp → Prop, (∀ H', Nx H' → ∃ m', m' < m ∧ W (i + 1) m' H') ∧ ∀ x H', J.yld i H x H' → gName j x (wipe σ vs) H' fun σ2 H2 => wipe σ2 vs = wipe σ vs ∧ tYes σ2 H2 fun b H3 =>
        if b = true then te σ2 H3 fun y H4 => ∃ acc, H4 D = some (.lst acc) ∧ acc.length < sizeLine ∧ Nx (upd H4 D (.lst (acc ++ [y]))) else Nx H3) :=
  lc_it w Pv h0 hG (fun i x H H' hi p y => ⟨(hs i x H H' hi p y).1, (hs i x H H' hi p y).2⟩) hd
end TK
namespace TK
open PySem PySem.Spec PyProof.Rows L2 SX
theorem slTo (z : Str) {i : Int} (h : 0 ≤ i) : Txt.slice z none (some i) = S ((TL.tl z).take i.toNat) := slice_to (a := TL.tl z) h
theorem slFrom (z : Str) {i : Int} (h : 0 ≤ i) : Txt.slice z (some i) none = S ((TL.tl z).drop i.toNat) := slice_from (a := TL.tl z) h
theorem log_small {i : Int} (h : i.natAbs < 2 ^ 1900) : i.natAbs.log2 < 1920 := by
  by_cases h0 : i.natAbs = 0
  · rw [h0]
    decide
  · exact (Nat.log2_lt h0).mpr (Nat.lt_of_lt_of_le h (Nat.pow_le_pow_right (by decide) (by decide)))
end TK
namespace TK
open PySem PySem.Spec PyProof.Rows L2 SX
/-! ### comprehensions with a test, the heap left alone -/
theorem lc_filt {J : It} {n : Nat} {G : Hp → Prop} {Y : Nat → Hp → V → Hp → Prop} (w : Walk J n G Y) (f : Nat → V) (b : Nat → Bool) {j : Nat} {tt : TT} {te : TE} {vs : List Nat} {σ : L2.St} {H1 : Hp} {D : Addr} {Qd : Hp → Prop} (hn : n ≤ sizeLine)
    (hG : ∀ i, i ≤ n → G (upd H1 D (.lst (((List.range i).filter b).map f))))
    (ht : ∀ (i : Nat) (x : V) (H' : Hp) (k : Bool → Hp → Prop), i < n → Y i (upd H1 D (.lst (((List.range i).filter b).map f))) x H' → k (b i) (upd H1 D (.lst (((List.range i).filter b).map f))) →
      wipe ((wipe σ vs).set j (some x)) vs = wipe σ vs ∧ tt ((wipe σ vs).set j (some x)) H' k)
    (he : ∀ (i : Nat) (x : V) (H' : Hp) (k : V → Hp → Prop), i < n → b i = true → Y i (upd H1 D (.lst (((List.range i).filter b).map f))) x H' → k (f i) (upd H1 D (.lst (((List.range i).filter b).map f))) →
      te ((wipe σ vs).set j (some x)) (upd H1 D (.lst (((List.range i).filter b).map f))) k)
    (hd : Qd (upd H1 D (.lst (((List.range n).filter b).map f)))) :
    ∃ W : Nat → Nat → Hp → Prop, (∃ m, W 0 m (upd H1 D (.lst []))) ∧ ∀ i m H, W i m H →
      (J.stop i H ∧ Qd H) ∨ (J.go i H ∧ ∃ Nx : Hp → Prop, (∀ H', Nx H' → ∃ m', m' < m ∧ W (i + 1) m' H') ∧ ∀ x H', J.yld i H x H' → gName j x (wipe σ vs) H' fun σ2 H2 => wipe σ2 vs = wipe σ vs ∧ tt σ2 H2 fun b H3 =>
        if b = true then te σ2 H3 fun y H4 => ∃ acc, H4 D = some (.lst acc) ∧ acc.length < sizeLine ∧ Nx (upd H4 D (.lst (acc ++ [y]))) else Nx H3) := by
  refine lc_it w (fun i H => H = upd H1 D (.lst (((List.range i).filter b).map f))) rfl (fun i H hi e => e ▸ hG i hi) (fun i x H H' hi e y => ?_) (fun H e => e ▸ hd)
  subst e
  refine ht i x H' _ hi y ?_
  cases hb : b i with
  | true =>
    refine iteT (he i x H' _ hi hb y ⟨_, upd_same, ?_, ?_⟩)
    · rw [List.length_map]
      exact Nat.lt_of_le_of_lt (List.length_filter_le _ _) (by rw [List.length_range]; omega)
    · rw [upd_upd, List.range_succ, List.filter_append, List.map_append, List.filter_cons_of_pos hb]
      rfl
  | false =>
    refine iteF ?_
    rw [List.range_succ, List.filter_append, List.filter_cons_of_neg (by rw [hb]; exact Bool.false_ne_true), List.filter_nil, List.append_nil]
theorem range_filter_getD {α β : Type} (l : List α) (d : α) (p : α → Bool) (f : α → β) : ((List.range l.length).filter (fun i => p (l.getD i d))).map (fun i => f (l.getD i d)) = (l.filter p).map f := by
  have e := range_map_getD l d (fun x => x)
  rw [List.map_id'] at e
  have h : (l.filter p).map f = (((List.range l.length).map (fun i => l.getD i d)).filter p).map f := by rw [e]
  rw [h, List.filter_map, List.map_map]
  rfl
theorem getD_at {α : Type} {l : List α} {i : Nat} {x : α} (d : α) (h : l[i]? = some x) : l.getD i d = x := by
  rw [List.getD_eq_getElem?_getD, h]
  rfl
/-! ### heads with tables -/
def obsX (n : Nat) (fa : List He.Fa) (fn : List He.DefD) (ex : PySem.W.Frag → List Bool) (g : Addr → Option Obj) : He.AlD :=
  ((He.obsD fa fn (He.frG g (He.asD g n))).1 && (ex (He.frG g (He.asD g n))).all id, (He.obsD fa fn (He.frG g (He.asD g n))).2)
def hookX (n : Nat) (fa : List He.Fa) (fn : List He.DefD) (ex : PySem.W.Frag → List Bool) : PySem.W.Hook where
  α := He.AlD
  obs s := obsX n fa fn ex s.heap.get?
  val _ := He.valD fn
  says _ h := ∃ K : PySem.W.Frag, K.In h ∧ He.SaysD fa fn K ∧ (ex K).all id = true
  of _ _ e := by
    have e1 := congrArg (fun z : He.AlD => z.1) e
    have e2 := congrArg (fun z : He.AlD => z.2) e
    obtain ⟨a, b⟩ := Bool.and_eq_true_iff.mp e1
    exact ⟨_, He.frG_in, Prod.ext a e2, b⟩
  keeps _ _ _ c k := let ⟨K, hK, c1, c2⟩ := c; ⟨K, PySem.W.Frag.In.keeps hK k, c1, c2⟩
theorem obsX_eq {n : Nat} {fa : List He.Fa} {fn : List He.DefD} {ex : PySem.W.Frag → List Bool} {g : Addr → Option Obj} {s : Shared} (h : ∀ a, g a = s.heap.get? a) : obsX n fa fn ex g = (hookX n fa fn ex).obs s := by
  obtain rfl : g = s.heap.get? := funext h
  rfl
theorem exAt {l : List Bool} (h : l.all id = true) (i : Nat) {b : Bool} (e : l[i]? = some b) : b = true := List.all_eq_true.mp h b (List.mem_of_getElem? e)
end TK
namespace TK
open PySem PySem.Spec PyProof.Rows L2 SX
/-! ### rules that name the written part, for use within a comprehension -/
section
variable {X : Cx}
theorem inSeqK (K : PySem.W.Frag) (e : X.K = K) : OpR X (compareOp .In) (rIn K false) := by
  subst e
  exact op_in_seq
theorem notInSeqK (K : PySem.W.Frag) (e : X.K = K) : OpR X (compareOp .NotIn) (rIn K true) := by
  subst e
  exact op_notIn_seq
theorem ixListK (K : PySem.W.Frag) (e : X.K = K) : IxR X (rIxL K) := by
  subst e
  exact ix_list
theorem ixTupK (K : PySem.W.Frag) (e : X.K = K) : IxR X (rIxT K) := by
  subst e
  exact ix_tup
theorem isiK (K : PySem.W.Frag) (e : X.K = K) : CallR X (.builtin "isinstance") (rIsi K) := by
  subst e
  exact call_isi
end
end TK
set_option maxHeartbeats 4000000
namespace TK
open PySem PySem.Spec PyProof.Rows L2 SX
theorem same_upd2 {H H' : Hp} {D : Addr} {o : HO} (s : Same H H') (hD : H D = none) : Same H (upd H' D o) := fun b u e => by
  rw [upd_ne (ne_of_none e hD)]
  exact s b u e
theorem joinL_len (y : List Nat) : ∀ l : List (List Nat), (TL.joinL y l).length ≤ (l.map (·.length)).sum + l.length * y.length
  | [] => by simp [TL.joinL]
  | [p] => by simp [TL.joinL]
  | p :: q :: r => by
    have ih := joinL_len y (q :: r)
    show (p ++ (y ++ TL.joinL y (q :: r))).length ≤ _
    rw [List.length_append, List.length_append, List.map_cons, List.sum_cons, List.length_cons (a := p), Nat.succ_mul]
    omega
theorem join_len (y : Str) (ys : List Str) : (Txt.join y ys).length ≤ (ys.map (·.length)).sum + ys.length * y.length := by
  rw [show Txt.join y ys = Str.join y ys from TL.join_eq y ys, len_eq, TL.tl_join]
  have q := joinL_len (TL.tl y) (ys.map TL.tl)
  rw [List.length_map, List.map_map] at q
  have e : (ys.map (fun x : Str => x.length)) = ys.map ((fun x : List Nat => x.length) ∘ TL.tl) := List.map_congr_left fun x _ => len_eq x
  rw [e, len_eq y]
  exact q
theorem sum_le {m : Nat} : ∀ {ys : List Str}, (∀ z ∈ ys, z.length ≤ m) → (ys.map (·.length)).sum ≤ ys.length * m
  | [], _ => Nat.zero_le _
  | a :: r, h => by
    have ih := sum_le (ys := r) fun z hz => h z (List.mem_cons_of_mem _ hz)
    have h1 := h a (List.mem_cons_self ..)
    rw [List.map_cons, List.sum_cons, List.length_cons, Nat.succ_mul]
    omega
theorem nodup_inr : ∀ ys : List Str, (ys.map (Sum.inr : Str → Key)).Nodup ↔ ys.Nodup
  | [] => by simp
  | a :: r => by
    rw [List.map_cons, List.nodup_cons, List.nodup_cons, nodup_inr r, List.mem_map]
    constructor
    · intro q
      exact ⟨fun m => q.1 ⟨a, m, rfl⟩, q.2⟩
    · intro q
      exact ⟨fun ⟨b, m, e⟩ => q.1 (Sum.inr.inj e ▸ m), q.2⟩
theorem key_strs (ys : List Str) : (ys.map (Sum.inr : Str → Key)).map kV = ys.map V.str := by
  rw [List.map_map]
  rfl
/-- the parts of a text are no longer than the text -/
theorem part_len {z y p : Str} (h : p ∈ Txt.split z y) : p.length ≤ z.length := by
  have j := StrLaws.join_split z y
  have sub : ∀ (l : List (List Nat)) (s : List Nat), ∀ x ∈ l, x.length ≤ (TL.joinL s l).length := by
    intro l s
    induction l with
    | nil => exact fun x hx => nomatch hx
    | cons a r ih =>
      intro x hx
      cases r with
      | nil =>
        rw [List.mem_singleton.mp hx]
        exact Nat.le_refl _
      | cons b r =>
        show x.length ≤ (a ++ (s ++ TL.joinL s (b :: r))).length
        rw [List.length_append, List.length_append]
        rcases List.mem_cons.mp hx with q | q
        · rw [q]
          omega
        · have := ih x q
          omega
  have q := sub ((Txt.split z y).map TL.tl) (TL.tl y) (TL.tl p) (List.mem_map.mpr ⟨p, h, rfl⟩)
  rw [← TL.tl_join, j] at q
  rw [len_eq, len_eq]
  exact q
end TK
namespace TK
open PySem PySem.Spec PyProof.Rows L2 SX
/-! ### a word between an expression and what follows -/
def tCutE (t : TE) : TE := fun σ H Q => ∃ Mid : VK, t σ H Mid ∧ ∀ v H', Mid v H' → Q v H'
def tCutT (t : TT) : TT := fun σ H Q => ∃ Mid : Bool → Hp → Prop, t σ H Mid ∧ ∀ b H', Mid b H' → Q b H'
section
variable {X : Cx} {e : Expr}
theorem pe_cut {t : TE} (h : PE X e t) : PE X e (tCutE t) := ⟨fun pins s σ H _ I ⟨Mid, hm, hq⟩ => thn (h.run pins s σ H Mid I hm) fun _ _ ⟨v, H', I', r, q⟩ => ⟨v, H', I', r, hq v H' q⟩⟩
theorem pt_cut {t : TT} (h : PT X e t) : PT X e (tCutT t) := ⟨fun pins s σ H _ I ⟨Mid, hm, hq⟩ => thn (h.run pins s σ H Mid I hm) fun b _ ⟨H', I', q⟩ => ⟨H', I', hq b H' q⟩⟩
end
end TK
set_option maxHeartbeats 4000000
/-! Own classes: rules that name the class, makers and methods by their promises. -/
namespace TK
open PySem PySem.Spec PyProof.Rows L2 SX
def tFldC (C : Addr) (ta : TE) (f : Str) : TE := fun σ H Q => ta σ H fun x H1 => ∃ a dx fs v, x = .ref a ∧ H1 a = some (.ins C dx fs) ∧ fs.lookup f = some v ∧ Q v H1
def sFldC (C : Addr) (ta tv : TE) (f : Str) : TS := fun D σ H => tv σ H fun y H1 => ta σ H1 fun x H2 => ∃ a dx fs, x = .ref a ∧ H2 a = some (.ins C dx fs) ∧ fs.length < 1000 ∧ D.nx σ (upd H2 a (.ins C dx (putF f y fs)))
section
variable {X : Cx} {K : PySem.W.Frag} {C : Addr} {e o value : Expr} {f : Str} {pos pos' : Pos} {ta tv : TE}
theorem pe_fldC (eK : X.K = K) (c : Cls K C) (n : NoAttr K C f) (he : PE X e ta) (hb : attributeBase e f X.env (eval e X.env) = eval e X.env) : PE X (.Attribute e f pos) (tFldC C ta f) := by
  subst eK
  exact ⟨fun pins s σ H Q I h => (pe_fld (pe_cut he) hb).run pins s σ H Q I ⟨_, h, fun v H' ⟨a, dx, fs, w, e1, e2, e3, q⟩ => ⟨a, C, dx, fs, w, e1, e2, c, n, e3, q⟩⟩⟩
theorem ps_fldC (eK : X.K = K) (c : Cls K C) (n : NoAttr K C f) (ha : PE X o ta) (hv : PE X value tv) (hs : swapsWith value (some (.Attribute o f pos')) pos.line X.env = pure false) : PS X (.Assign [.Attribute o f pos'] value pos) (sFldC C ta tv f) := by
  subst eK
  exact ⟨fun pins s σ H D I h => (ps_fld (pe_cut ha) (pe_cut hv) hs).run pins s σ H D I ⟨_, h, fun v H' h2 => ⟨_, h2, fun x H2 ⟨a, dx, fs, e1, e2, e3, q⟩ => ⟨a, C, dx, fs, e1, e2, c, n, e3, q⟩⟩⟩⟩
end
/-! ### few attributes -/
class SmallF (fs : List (Str × V)) (n : outParam Nat) : Prop where
  le : fs.length ≤ n
instance : SmallF [] 0 := ⟨Nat.le_refl _⟩
instance {x : Str × V} {l : List (Str × V)} {n : Nat} [h : SmallF l n] : SmallF (x :: l) (n + 1) := ⟨Nat.succ_le_succ h.le⟩
theorem putF_len {f : Str} {v : V} : ∀ fs : List (Str × V), (putF f v fs).length ≤ fs.length + 1
  | [] => Nat.le_refl _
  | (g, x) :: r => by
    show (if g = f then (g, v) :: r else (g, x) :: putF f v r).length ≤ _
    by_cases h : g = f
    · rw [if_pos h]
      exact Nat.le_succ _
    · rw [if_neg h]
      exact Nat.succ_le_succ (putF_len r)
instance {f : Str} {v : V} {l : List (Str × V)} {n : Nat} [h : SmallF l n] : SmallF (putF f v l) (n + 1) := ⟨Nat.le_trans (putF_len l) (Nat.succ_le_succ h.le)⟩
theorem sm {fs : List (Str × V)} {n : Nat} [h : SmallF fs n] (hn : n < 1000 := by decide) : fs.length < 1000 := Nat.lt_of_le_of_lt h.le hn
/-! ### makers -/
section
variable {P : Program} {w : World} {K : PySem.W.Frag} {mg : Str → Option Value} {base : Heap}
structure MakK (P : Program) (w : World) (K : PySem.W.Frag) (mg : Str → Option Value) (base : Heap) (k : Nat) (x : Str) (C : Addr) (sp : Sp) (n : Nat) (ks : List Str) (gV : List V → List V → List V) : Prop where
  ex : ∃ (f : Addr) (fd : FuncData) (ps : List Str) (g : List Value → List Value → List Value), Mk K C f ∧ FnOk P w K mg base L2.CX0 k f fd ps sp ∧ mg x = some (.ref C) ∧ KBn K fd ps (n + 1) ks g gV
theorem mak_of {C : Addr} {x n qual : Str} {params : Arguments} {body : List Stmt} {scope : Scope} {f : Addr} {fd : FuncData} {ps : List Str} {k : Nat} {sp : Sp} (M : Mk K C f) (hm : mg x = some (.ref C)) (F : FunD K n qual params body scope [] [] f fd) (G : FnOk P w K mg base L2.CX0 k f fd ps sp)
    (h : ∀ (kV doc pm : Value) (an : Option Addr) (cdv ct : Value) (us : List Value), us.length = ps.length → bindArgs (PySem.W.fnOf n qual params body scope .none kV doc pm an cdv ct) ⟨us, []⟩ = pure (ps.zip us)) : C8.Mak P w K mg base k x C sp [] :=
  ⟨f, fd, ps, [], M, G, hm, F.bindsN h, .nil⟩
theorem met_of {C : Addr} {n qual : Str} {params : Arguments} {body : List Stmt} {scope : Scope} {f : Addr} {fd : FuncData} {ps : List Str} {k : Nat} {sp : Sp} (c : Cls K C) (m : Meth K C n f) (F : FunD K n qual params body scope [] [] f fd) (G : FnOk P w K mg base L2.CX0 k f fd ps sp)
    (h : ∀ (kV doc pm : Value) (an : Option Addr) (cdv ct : Value) (us : List Value), us.length = ps.length → bindArgs (PySem.W.fnOf n qual params body scope .none kV doc pm an cdv ct) ⟨us, []⟩ = pure (ps.zip us)) : C8.Met P w K mg base k C n sp [] :=
  ⟨f, fd, ps, [], c, m, G, F.bindsN h, .nil⟩
theorem metD_of {C : Addr} {n qual : Str} {params : Arguments} {body : List Stmt} {scope : Scope} {dvs : List V} {f : Addr} {fd : FuncData} {ps : List Str} {k : Nat} {sp : Sp} (c : Cls K C) (m : Meth K C n f) (F : FunD K n qual params body scope dvs [] f fd) (G : FnOk P w K mg base L2.CX0 k f fd ps sp) (hd : dvs ≠ []) (hn : dvs.length ≤ ps.length)
    (h : ∀ (T : Addr) (kV doc pm : Value) (an : Option Addr) (cdv ct : Value) (us its : List Value), us.length = ps.length - dvs.length → its.length = dvs.length →
      ∃ k, bindArgs (PySem.W.fnOf n qual params body scope (.ref T) kV doc pm an cdv ct) ⟨us, []⟩ = seqItems? (.ref T) >>= k ∧ k (some its.toArray) = pure (ps.zip (us ++ its.drop 0))) : C8.Met P w K mg base k C n sp dvs := by
  obtain ⟨ds, h1, h2⟩ := F.binds1 (ps := ps) (ps.length - dvs.length) 0 hd (by omega) h
  exact ⟨f, fd, ps, ds, c, m, G, h2, by simpa using h1⟩
end
section
variable {X : Cx} {k j n : Nat} {C : Addr} {x : Str} {sp : Sp} {p pos : Pos} {e : Expr} {es : List Expr} {kws : List Keyword} {ks : List Str} {t tk : TA} {gV : List V → List V → List V}
theorem pe_mk0 {dvs : List V} (c : C8.Mak X.prog X.w X.K X.mg X.base k x C sp dvs) (hr : Room j X.A) (hk : k + 1 ≤ j) (hg : Gl X x) (hdb : (x == ("__debug__" : Str)) = false := by decide) : PE X (.Call (.Name x p) [] [] pos) (tMake C sp dvs L2.E0 tNil) := by
  obtain ⟨f, fd, ps, ds, M, F, hm, b, d⟩ := c.ex
  exact pe_make0 M F (hr.mono hk) hg hm b d L2.pass0 hdb
theorem pe_mkK0 (c : MakK X.prog X.w X.K X.mg X.base k x C sp 0 ks gV) (hr : Room j X.A) (hk : k + 1 ≤ j) (hg : Gl X x) (hkw : PK X kws tk)
    (hall : (backToKw pos (keywordEach kws X.env)).all (·.1.isSome) = true := by rfl) (hks : (backToKw pos (keywordEach kws X.env)).filterMap (·.1) = ks := by rfl) (hdb : (x == ("__debug__" : Str)) = false := by decide)
    (hpl : ((backTo pos (starEach [] X.env)).any (·.1) || (backToKw pos (keywordEach kws X.env)).any (·.1.isNone)) = false := by rfl) :
    PE X (.Call (.Name x p) [] kws pos) (tMakeK C 0 ks.length sp gV L2.E0 tNil tk) := by
  obtain ⟨f, fd, ps, g, M, F, hm, b⟩ := c.ex
  exact pe_makeK0 M F (hr.mono hk) hg hm b L2.pass0 hkw hall hks hdb hpl
end
/-! ### new objects -/
theorem same_own {H : Hp} {x dx C : Addr} {fs : List (Str × V)} (hx : H x = none) (hd : H dx = none) : Same H (upd (upd H dx (.own x)) x (.ins C dx fs)) := fun b o e => by
  rw [upd_ne (ne_of_none e hx), upd_ne (ne_of_none e hd)]
  exact e
theorem Same.upd_of {H H' : Hp} {a : Addr} {o : HO} (s : Same H H') (h : H a = none) : Same H (upd H' a o) := fun b u e => by
  rw [upd_ne (ne_of_none e h)]
  exact s b u e
/-! ### texts that can be laid -/
theorem ok_iff {z : Str} : PyData.strOk z = true ↔ ∀ c ∈ TL.tl z, c < 0x110000 := by
  unfold PyData.strOk TL.tl
  rw [Array.all_eq_true']
  constructor
  · intro h c hc
    simpa using h c (by simpa using hc)
  · intro h c hc
    simpa using h c (by simpa using hc)
theorem ok_cat {a b : Str} (ha : PyData.strOk a = true) (hb : PyData.strOk b = true) : PyData.strOk (a ++ b) = true := by
  rw [ok_iff] at *
  intro c hc
  rw [TL.tl_append, List.mem_append] at hc
  exact hc.elim (ha c) (hb c)
theorem joinL_mem {s : List Nat} {c : Nat} : ∀ l : List (List Nat), c ∈ TL.joinL s l → c ∈ s ∨ ∃ p ∈ l, c ∈ p
  | [], h => by simp [TL.joinL] at h
  | [p], h => .inr ⟨p, List.mem_singleton.mpr rfl, by simpa [TL.joinL] using h⟩
  | p :: q :: r, h => by
    have h2 : c ∈ p ++ (s ++ TL.joinL s (q :: r)) := h
    rw [List.mem_append, List.mem_append] at h2
    rcases h2 with h2 | h2 | h2
    · exact .inr ⟨p, List.mem_cons_self .., h2⟩
    · exact .inl h2
    · rcases joinL_mem (q :: r) h2 with h3 | ⟨x, h3, h4⟩
      · exact .inl h3
      · exact .inr ⟨x, List.mem_cons_of_mem _ h3, h4⟩
theorem ok_join {y : Str} {l : List Str} (hy : PyData.strOk y = true) (hl : ∀ z ∈ l, PyData.strOk z = true) : PyData.strOk (Txt.join y l) = true := by
  rw [TL.join_eq, ok_iff]
  intro c hc
  rw [TL.tl_join] at hc
  rcases joinL_mem _ hc with h | ⟨p, hp, h⟩
  · exact ok_iff.mp hy c h
  · obtain ⟨z, hz, rfl⟩ := List.mem_map.mp hp
    exact ok_iff.mp (hl z hz) c h
def numS (i : Int) : Str := Str.ofString (toString i)
theorem numS_tl {i : Int} (h : 0 ≤ i) : TL.tl (numS i) = TL.numL i.toNat := by
  have e : i = ((i.toNat : Nat) : Int) := (Int.toNat_of_nonneg h).symm
  rw [e]
  exact TL.tl_num _
theorem ok_num {i : Int} (h : 0 ≤ i) : PyData.strOk (numS i) = true := by
  rw [ok_iff, numS_tl h]
  intro c hc
  exact Nat.lt_of_not_le fun q => TL.numL_free (n := i.toNat) (s := c) (.inr (by omega)) hc
theorem numS_len {i : Int} (h : i.natAbs < 1000000000) : (numS i).length ≤ 10 := by
  have e := int_text_length_le10 (a := i) (k := 9) (by decide) (by omega)
  show (Str.ofString (toString i)).length ≤ 10
  rw [PySem.ofString_length]
  omega
theorem numS_log {i : Int} (h : i.natAbs < 1000000000) : i.natAbs.log2 < 1920 := log_small (Nat.lt_of_lt_of_le h (by decide))
theorem szl {z : Str} (h : z.length ≤ 100000) : z.length ≤ sizeLine := Nat.le_trans h (by decide)
theorem ne_ins {H : Hp} {a b C C' dx dx' : Addr} {fs fs' : List (Str × V)} (h : H a = some (.ins C dx fs)) (h' : H b = some (.ins C' dx' fs')) (n : fs.length ≠ fs'.length) : a ≠ b :=
  ne_of h h' fun e => by
    injection e with _ _ e2
    exact n (congrArg List.length e2)
/-- only what stands at A has changed -/
def Fr (A : List Addr) (H H' : Hp) : Prop := ∀ b o, H b = some o → b ∉ A → H' b = some o
theorem Fr.of_same {A : List Addr} {H H' : Hp} (s : Same H H') : Fr A H H' := fun b o e _ => s b o e
theorem Fr.refl (A : List Addr) (H : Hp) : Fr A H H := fun _ _ e _ => e
theorem Fr.trans {A : List Addr} {H H1 H2 : Hp} (s : Fr A H H1) (t : Fr A H1 H2) : Fr A H H2 := fun b o e n => t b o (s b o e n) n
theorem Fr.trans_new {A A' : List Addr} {H H1 H2 : Hp} (s : Fr A H H1) (t : Fr A' H1 H2) (n : ∀ b ∈ A', b ∈ A ∨ H b = none) : Fr A H H2 := fun b o e hn => t b o (s b o e hn) fun m => (n b m).elim hn fun z => by rw [e] at z; cases z
end TK
set_option maxHeartbeats 1000000
namespace TK
open PySem PySem.Spec PyProof.Rows L2 SX
def rRpart : V → List V → Hp → VK → Prop := fun x xs H Q => ∃ z y, x = .str z ∧ xs = [.str y] ∧ (y.length == 0) = false ∧ z.length ≤ sizeLine ∧ ∀ p, H p = none → Q (.ref p) (upd H p (.tup [.str (Txt.rpartition z y).1, .str (Txt.rpartition z y).2.1, .str (Txt.rpartition z y).2.2]))
section
variable {X : Cx} {e o : Expr} {te to : TE}
theorem mt_rpart : MtR X "str.rpartition" rRpart := by
  intro pins s σ H x xs v us Q I rx rs ⟨z, y, ex, exs, hy, hz, h⟩
  subst ex exs
  obtain ⟨tz, rfl⟩ := rx
  match us, rs with
  | [w], .cons r1 .nil =>
    obtain ⟨ty, rfl⟩ := r1
    refine call_meets PySem.F.slot_str_rpartition (typeIs_str _ _ _) PySem.F.entry_str_rpartition (PySem.F.args_str_rpartition_2 _ _) (meets_str_rpartition z y tz ty hy hz) ?_
    have h2 := h
    unfold Txt.rpartition at h2
    revert h2
    cases Builtin.Str.lastOccurrence z y 0 z.length with
    | none => exact fun h2 => laid_parts I h2
    | some i => exact fun h2 => laid_parts I h2
theorem pe_rpartition {apos pos : Pos} (ho : PE X o to) (he : PE X e te) (hs : starEach [e] X.env = [(false, eval e X.env)] := by rfl) (hb : attributeBase o "rpartition" X.env (eval o X.env) = eval o X.env := by rfl) (hl : (apos.endLine == pos.line) = true := by rfl) :
    PE X (.Call (.Attribute o "rpartition" apos) [e] [] pos) (tM1 rRpart to te) := pe_m1 PySem.F.slot_str_rpartition PySem.F.type_str_rpartition mt_rpart ho he hs hb hl
end
/-- what a new object at t, then one at l leaves -/
theorem new2 {H : Hp} {t l : Addr} {o u : HO} (ht : H t = none) (hl : upd H t o l = none) : t ≠ l ∧ H l = none ∧ Same H (upd (upd H t o) l u) ∧ (upd (upd H t o) l u) t = some o ∧ (upd (upd H t o) l u) l = some u := by
  have n : t ≠ l := fun e => by rw [← e, upd_same] at hl; cases hl
  exact ⟨n, by rw [upd_ne n.symm] at hl; exact hl, (same_upd ht).trans (same_upd hl), (upd_ne n).trans upd_same, upd_same⟩
theorem cutV_to (xs : List V) (k : Nat) : cutV xs none (some (k : Int)) = xs.take k := by
  unfold cutV
  have a : HT.sIx xs.length 0 none = 0 := by rfl
  have b : HT.sIx xs.length xs.length (some (k : Int)) = min k xs.length := by
    unfold HT.sIx
    simp
    try omega
  rw [a, b, List.drop_zero, Nat.sub_zero]
  by_cases h : k ≤ xs.length
  · rw [Nat.min_eq_left h]
  · rw [Nat.min_eq_right (by omega), List.take_length, List.take_of_length_le (by omega)]
theorem pi_listK {X : Cx} {tg l : Expr} {tl : TE} (K : PySem.W.Frag) (e : X.K = K) (hl : PE X l tl) : PI X tg l (iList K tl) := by
  subst e
  exact pi_list hl
end TK
set_option maxHeartbeats 1000000
/-! The law's own def at its caller alone, where it is known that no repr is under way; repr of lists and tuples there. -/
namespace TKR
open PySem PySem.Spec PyProof.Rows L2
section
variable {P : Program} {w : World} {K : PySem.W.Frag} {mg : Str → Option Value} {base : Heap}
/-- what FnOk says, but of the law's caller only -/
structure FnC (P : Program) (w : World) (K : PySem.W.Frag) (mg : Str → Option Value) (base : Heap) (f : Addr) (fd : FuncData) (ps : List Str) (sp : Sp) : Prop where
  go : ∀ (s : Shared) (H : Hp) (args : Args) (us : List Value) (vs : List V) (Q : VK), Env0 P w K mg base callerA [] s H → BindsTo s fd args (ps.zip us) → Vals vs us → sp vs H Q (fun _ _ _ => False) → codeAny (model P w) callerA (.call (.ref f) args) (CR CX0 [] P w H s Q fun _ _ _ => False) s
theorem fnC_of {x qual : Str} {params : Arguments} {body : List Stmt} {scope : Scope} {dvs : List V} {kws : List (Str × V)} {f : Addr} {fd : FuncData} {N ps : List Str} {k : Nat} {sp : Sp} (F : FunD K x qual params body scope dvs kws f fd) (S : FnScope N ps scope) (hr : Room (k + 1) callerA)
    (len : ∀ vs H Q E, sp vs H Q E → vs.length = ps.length)
    (hb : ∀ (cdv : Value) (s : Shared) (H : Hp) (vs : List V) (Q : VK) (E : XK), Room k (callerA.deeper (envOfC qual scope s.heap.objs.size f cdv)) → sp vs H Q E →
      ∃ t, PSs (cxOf CX0 P w K mg base N qual scope f cdv callerA [] s H E) body t ∧ t { nx := fun _ H' => Q .non H', rt := Q } (start N vs) H) : FnC P w K mg base f fd ps sp := by
  obtain ⟨oc, od, dV, kV, doc, pm, an, cdv, ct, osl, rfl, lk, hcd, _, _⟩ := F.ex
  constructor
  intro s H args us vs Q ee hbi rv hsp
  have kin : K.In s.heap := ee.mod.kin.keeps fun b o e => (ee.bs b o e).1
  have lim : s.heap.NoLimit := ee.mod.nolimit.keeps fun b o e => (ee.bs b o e).1
  have kinds : ∀ y ∈ ps.zip us, scope.names.lookup y.1 = some .local ∨ (scope.names.lookup y.1 = some .cell ∧ ((cellsFrom (s.heap.objs.size + 1) scope.names []).lookup y.1).isSome = true) := by
    rintro ⟨n, v⟩ hy
    have hn := (List.of_mem_zip hy).1
    exact (S.par n hn).imp (fun q => q) fun q => ⟨q, PySem.W.cellsFrom_some _ _ _ (.inl q)⟩
  refine codeAny_call_function hr.depth (kin _ _ lk) rfl S.co S.gen rfl (PySem.W.codeRec_of kin hcd) (hbi _ _ _ _ (wpAny_newFunctionEnv_cells S.kind kinds fun env he s1 x => ?_))
  subst he
  refine ⟨lim.keeps x.toInCall.keep, codeAny_func ?_⟩
  obtain ⟨t, ht, hq⟩ := hb cdv s H vs Q _ (hr.deeper _) hsp
  have I := inv_start (CX := CX0) (E := fun _ _ _ => False) S hr.hd ee (len _ _ _ _ hsp) rv x
  refine wpAny_mono (ht.run [] s1 _ H _ I hq) (fun fl s' hs => ?_) fun _ _ z => z
  match fl, hs with
  | .ret u, hs =>
    obtain ⟨v, σ', H', J, r, q⟩ := hs
    exact ⟨v, H', J.os, J.bare, J.base, J.hok, r, q⟩
  | .next, hs =>
    obtain ⟨σ', H', J, q⟩ := hs
    exact ⟨V.non, H', J.os, J.bare, J.base, J.hok, rfl, q⟩
  | .brk, hs =>
    obtain ⟨_, _, _, z⟩ := hs
    cases z
  | .cont, hs =>
    obtain ⟨_, _, _, z⟩ := hs
    cases z
theorem call_ofC {mb : Str → Option Value} {fa a : Addr} {fd : FuncData} {x : Str} {sp : Sp} {st : Shared} {us : List Value} {ns : List Int}
    (kx : K.In st.heap) (gm : st.heap.Ns mainGlobals mg) (gb : st.heap.Ns builtinsNs mb) (bb : ∀ y : Str, y ≠ "__name__" → mb y = bootBuiltins y) (nl : st.heap.NoLimit) (ng : st.gens = #[])
    (obj : st.heap.get? a = some { cls := .type "list", data := .seq us.toArray }) (iri : IntsAre us ns) (few : ns.length ≤ sizeLine)
    (F : ∀ base : Heap, K.In base → base.Ns mainGlobals mg → FnC P w K mg base fa fd [x] sp) (bind : ∀ (s : Shared) (u : Value), BindsTo s fd ⟨[u], []⟩ [(x, u)])
    (told : ∀ H : Hp, Only H → SqL K H a (ns.map V.int) → sp [.ref a] H (fun v _ => v = .bl true) fun _ _ _ => False) :
    codeAny (model P w) callerA (.call (.ref fa) ⟨[.ref a], []⟩) (fun r s' => r = .ok (.ret (.bool true)) ∧ OldK st.heap s'.heap ∧ s'.os = st.os ∧ AllBare s'.gens) st := by
  have rel := vals_ints iri
  have size := iri.length
  have main : ∀ H : Hp, Only H → SqL K H a (ns.map V.int) → HOk P w H st.heap → (∀ c, H c ≠ none → c = a) → (H a ≠ none → K.lookup a = none) →
      codeAny (model P w) callerA (.call (.ref fa) ⟨[.ref a], []⟩) (fun r s' => r = .ok (.ret (.bool true)) ∧ OldK st.heap s'.heap ∧ s'.os = st.os ∧ AllBare s'.gens) st := by
    intro H only sq hok one free
    have back : ∀ {c : Addr} {o : Obj}, st.heap.get? c = some o → H c = none → (hidT st.heap H).get? c = some o := fun e n => hidT_get e n
    have dicts : ∀ {c : Addr} {o : Obj} {es : Array DictEntry} {ep : Nat}, st.heap.get? c = some o → o.data = .dict es ep → H c = none := by
      intro c o es ep e d
      by_cases q : H c = none
      · exact q
      · have ec := one c q
        subst ec
        rw [obj] at e
        cases e
        exact Data.noConfusion d
    have names : ∀ {c : Addr} {m : Str → Option Value}, st.heap.Ns c m → (hidT st.heap H).Ns c m := by
      rintro c m ⟨o, es, ep, e, d, r⟩
      exact ⟨o, es, ep, back e (dicts e d), d, r⟩
    have inb : K.In (hidT st.heap H) := by
      intro c o e
      refine back (kx c o e) ?_
      by_cases q : H c = none
      · exact q
      · have ec := one c q
        subst ec
        rw [free q] at e
        cases e
    have md : Mod K mg (hidT st.heap H) := ⟨inb, names gm, ⟨mb, names gb, bb⟩, nl.elim fun mc z => ⟨mc, names z.1, z.2⟩⟩
    have ee : Env0 P w K mg (hidT st.heap H) callerA [] st H := ⟨rfl, md, fun _ _ e => of_hidT e, Nat.le_of_eq (hidT_size _ _), trivial, (fun c hc => nomatch hc), hok, .of_eq ng⟩
    refine codeAny_mono ((F _ inb (names gm)).go st H ⟨[.ref a], []⟩ [.ref a] [.ref a] _ ee (bind st (.ref a)) (.cons rfl .nil) (told H only sq)) (fun r s' h => ?_)
    match r, h with
    | .error e, h => exact False.elim h
    | .ok .next, h => exact False.elim h
    | .ok .brk, h => exact False.elim h
    | .ok .cont, h => exact False.elim h
    | .ok (.ret u), h =>
      obtain ⟨v, H', eo, bare, un, ok2, rv, ev⟩ := h
      have ev' : v = .bl true := ev
      subst ev'
      obtain rfl : u = Value.bool true := rv
      refine ⟨rfl, OldK.of_keep (fun c o e => ?_), eo, bare⟩
      rcases only c with z | ⟨oc, xs, z⟩
      · exact un.keep c o e z (fun q => nomatch q) (fun q => nomatch q)
      · have e1 := (hok c _ z).1
        have e2 := (ok2 c _ (un.frzs c oc _ z)).1
        rw [e] at e1
        cases e1
        exact e2
  by_cases hk : K.lookup a = none
  · refine main (fun c => if c = a then some (.frz { cls := .type "list", data := .seq us.toArray } (.lst (ns.map V.int))) else none) (fun c => ?_) (.inl (.inr ⟨_, if_pos rfl⟩)) (fun c u z => ?_) (fun c z => ?_) (fun _ => hk)
    · by_cases h : c = a
      · exact .inr ⟨_, _, if_pos h⟩
      · exact .inl (if_neg h)
    · by_cases h : c = a
      · subst h
        dsimp only at z
        rw [if_pos rfl] at z
        cases z
        exact ⟨obj, by rw [List.length_map]; exact few, us, _, rel, obj⟩
      · dsimp only at z
        rw [if_neg h] at z
        cases z
    · by_cases h : c = a
      · exact h
      · rw [if_neg h] at z
        exact absurd rfl z
  · obtain ⟨o, ho⟩ := Option.ne_none_iff_exists'.mp hk
    have e := kx a o ho
    rw [obj] at e
    cases e
    exact main (fun _ => none) (fun _ => .inl rfl) (.inr ⟨_, us.toArray, _, ho, rfl, rfl, rfl, by rw [List.size_toArray, size]; exact few, by simpa using rel⟩) (fun _ _ z => nomatch z) (fun _ z => absurd rfl z) (fun z => absurd rfl z)
end
theorem walk_ofC {l : PySem.W.OpenLaw} {n : Nat} {q : Program} {loose : List Str} {XP : (Str → Option Value) → Heap → Prop} {YP : World → Heap → Prop} {d : DefRec} {x : Str} (hn : l.most = some n) (hz : n ≤ sizeLine) (hdf : d.params.defaults = [])
    (F : ∀ (w : World) (mg : Str → Option Value) (fa : Addr) (h : Heap), YP w h → h.Ns mainGlobals mg → mg d.name = some (.ref fa) →
      ∃ (K : PySem.W.Frag) (fd : FuncData) (sp : Sp), K.In h ∧ (∀ (s : Shared) (u : Value), BindsTo s fd ⟨[u], []⟩ [(x, u)]) ∧
        (∀ (H : Hp) (a : Addr) (ns : List Int), ns.length ≤ n → Only H → SqL K H a (ns.map V.int) → sp [.ref a] H (fun v _ => v = .bl true) fun _ _ _ => False) ∧ ∀ base : Heap, K.In base → base.Ns mainGlobals mg → FnC l.prog w K mg base fa fd [x] sp) :
    PySem.W.WalkO q loose XP YP l.row.toRowW d [] (fun f vs => PySem.call f vs) := by
  refine Att.attach_call hn hdf (fun w _ st mg mb fa o pm cd doc a us ns G Y _ _ _ hm obj iri hl hg => ?_)
  obtain ⟨K, fd, sp, kx, hb, hs, hF⟩ := F w mg fa _ Y G.T.g hm
  exact call_ofC kx G.T.g G.T.b G.T.builtins G.T.nolimit hg obj iri (Nat.le_trans hl hz) hF hb (fun H ho hq => hs H a ns hl ho hq)
/-! ### repr -/
def rRep (K : PySem.W.Frag) : List V → Hp → VK → Prop := fun xs H Q => ∃ (a : Addr) (d : PyData), xs = [.ref a] ∧ Dp K H (.ref a) d ∧ d.showable = true ∧ d.hasDict = false ∧ d.depth ≤ 8 ∧ d.shown.length ≤ sizeLine ∧ Q (.str d.shown) H
theorem call_repr {X : Cx} (hg : X.A.guards = some []) (hu : X.A.units + 64 < cLine) : CallR X (.builtin "repr") (rRep X.K) := by
  intro pins s σ H xs us Q I r h
  obtain ⟨a, d, rfl, hd, hs, hn, hp, hz, q⟩ := h
  obtain ⟨u, rfl, ru⟩ := r.one
  obtain rfl : u = Value.ref a := ru
  obtain ⟨as, rd⟩ := Dp.reads I d _ _ hd rfl
  exact PySem.repr_of_reads' rd hs (fun z => by rw [hn] at z; cases z) hg (by omega) (fun _ _ e => e) (fun h' u tk kk => ⟨.str d.shown, H, I.kept kk, ⟨u, rfl⟩, q⟩) hz
end TKR
set_option maxHeartbeats 1000000
/-! for i, x in enumerate(xs) with an invariant. -/
namespace TK
open PySem PySem.Spec PyProof.Rows L2 SX
theorem for_enum {K : PySem.W.Frag} {a : Addr} {xs : List V} {g : TG} {tb : TS} {D : Ends} {σ : L2.St} {H : Hp} (Pv : Nat → L2.St → Hp → Prop) (h0 : Pv 0 σ H) (hl : ∀ i σ H, i ≤ xs.length → Pv i σ H → SqL K H a xs)
    (hs : ∀ i x T σ H, xs[i]? = some x → Pv i σ H → H T = none → g (.ref T) σ (upd H T (.tup [.int (i : Nat), x])) fun σ2 H2 => tb { D with nx := Pv (i + 1), ct := Pv (i + 1), bk := D.nx } σ2 H2) (hd : ∀ σ H, Pv xs.length σ H → D.nx σ H) :
    ∃ W : Nat → Nat → L2.St → Hp → Prop, (∃ m, W 0 m σ H) ∧ ∀ i m σ H, W i m σ H →
      ((Ite K a).stop i H ∧ D.nx σ H) ∨ ((Ite K a).go i H ∧ ∃ N : L2.St → Hp → Prop, (∀ σ' H', N σ' H' → ∃ m', m' < m ∧ W (i + 1) m' σ' H') ∧ ∀ x H', (Ite K a).yld i H x H' → g x σ H' fun σ2 H2 => tb { D with nx := N, ct := N, bk := D.nx } σ2 H2) := by
  refine ⟨fun i m σ H => m + i = xs.length ∧ Pv i σ H, ⟨xs.length, rfl, h0⟩, fun i m σ H q => ?_⟩
  obtain ⟨e, p⟩ := q
  have sq := hl i σ H (by omega) p
  by_cases lt : i < xs.length
  · refine .inr ⟨⟨xs, xs[i], sq, List.getElem?_eq_getElem lt⟩, Pv (i + 1), fun σ' H' z => ⟨m - 1, by omega, by omega, z⟩, fun x H' y => ?_⟩
    obtain ⟨T, v, rfl, hT, rfl, hx⟩ := y
    exact hs i v T σ H (hx xs sq) p hT
  · obtain rfl : i = xs.length := by omega
    exact .inl ⟨⟨xs, sq, Nat.le_refl _⟩, hd σ H p⟩
end TK
set_option maxHeartbeats 2000000
/-! Own exceptions over own classes over ValueError, whose __init__ says super().__init__(text) and keeps one field. -/
namespace TKE
open PySem PySem.Spec PyProof.Rows L2
structure SupTxt (K : PySem.W.Frag) (P : Program) (C fI cda cc : Addr) : Prop where
  oex : OexC K C
  iC : PySem.W.findIn K (.ref C) "__init__" = some (some (.ref fI))
  tI : PySem.W.typeIn K (.ref fI) = some (.type "function")
  sup : PySem.W.ks_superIn K C C "__init__" = some (some (.builtin "ValueError.__init__"))
  subVE : PySem.W.subIn K (.ref C) (.type "ValueError") = some true
  mroC : PySem.W.mroIn K C (.ref C) = some true
  hop : PySem.W.nsIn K cStatics "thirdparty.any" = some none
  code : ∃ ccl cdd vs ccs file tf, K.lookup cda = some ⟨ccl, cdd, .fields vs, ccs⟩ ∧ vs[2]? = some (.str file tf) ∧ ((P.main.file : Str) == file) = true
  cell : ∃ cl cld csl, K.lookup cc = some ⟨cl, cld, .cell (some (.ref C)), csl⟩
section
variable {prog : Program} {w : World} {A : Around} {E : Value → Shared → Prop} {h : Heap} {g : Array GenState} {d : Drawn} {t : Nat} {os : OsState}
/-- the bound ValueError.__init__, called -/
theorem mw_call {nm q : Str} {C N u a t0 : Addr} {bs bm : List Value} {hdct : Bool} {sn : List Str} {sub : List Value} {ab : Bool} {col : Option Bool} {dd : Option Addr} {k0 k1 k2 k3 k5 : Option Value} {rest : List Value} {Q : Value → Shared → Prop}
    (hC : h.get? C = some (excClassObj nm q C N bs bm hdct sn sub ab col dd k0 k1 k2 k3 k5 "ValueError.__new__"))
    (he : h.get? a = some ({ cls := .ref C, dict := none, data := .fields #[.ref t0, .none, .none, .none, .bool false, .none] } : Obj)) (hu : h.get? u = some (PySem.W.kxs_mw "ValueError.__init__" a)) (hz : rest.length ≤ sizeLine)
    (hq : ∀ h' t', (∀ b o, b ≠ a → h.get? b = some o → h'.get? b = some o) → h'.get? a = some ({ cls := .ref C, dict := none, data := .fields #[.ref t', .none, .none, .none, .bool false, .none] } : Obj) → Q .none ⟨h', g, d, t, os⟩) :
    wpAny (model prog w) A (call (.ref u) rest) Q E ⟨h, g, d, t, os⟩ := by
  have FB := F.excBase_ValueError
  refine wpAny_call (codeAny_of_tree ?_)
  change wpAny _ A.in1 (callAny (.ref u) ⟨rest, []⟩) _ _ _
  simp only [callAny]
  refine wpAny_bind (wpAny_load hu ?_)
  have em : (Value.type "method-wrapper" == Value.type "method" || Value.type "method-wrapper" == Value.type "builtin_function_or_method" || Value.type "method-wrapper" == Value.type "method-wrapper") = true := by decide
  simp only [PySem.W.kxs_mw, em, if_true]
  refine PySem.W.KFB.if_so (by decide) ?_
  refine wpAny_bind (PySem.W.check_bound_init FB.toExcCallFacts hC he rfl (wpAny_bind (wpAny_pure (wpAny_pure ?_))))
  refine ⟨plainId_quiet FB.init.plain _, codeAny_builtin FB.initEntry (PySem.W.exc_init_tree (t0 := t0) (cls := .ref C) (dv := none) (c2 := .none) (c3 := .none) (b4 := .bool false) he hz fun h' k e' _ => hq h' _ k e')⟩
end
theorem boot_super : bootBuiltins "super" = some (.type "super") := by first | boot_by_name | rfl | kernel_rfl
section
variable {X : Cx} {pins : List (Addr × Obj)} {σ : L2.St} {H : Hp} {s : Shared} {C fI cda cc a : Addr} {body : List Stmt} {p0 p1 apos pos pos' : Pos} {e : Expr} {te : TE} {pl : Sem Bool} {fd : FuncData} {ar : Arg} {Q' : Hp → Prop} {oc : Value} {od : Option Addr} {osl : Array (Option Value)}
theorem sup_stmt (T : SupTxt X.K X.prog C fI cda cc) (hfu : X.env.func = some fI) (hf : X.K.lookup fI = some ⟨oc, od, .func fd, osl⟩) (hp : (fd.params.posonlyargs ++ fd.params.args).head? = some ar) (hco : X.env.code = .ref cda)
    (hks : X.env.kindOf "super" = some .globalImplicit) (hkc : X.env.kindOf "__class__" = some .free) (hcl : X.env.cells.lookup ("__class__" : Str) = some cc) (hka : X.env.kindOf ar.arg = some .local) (hN : X.N[0]? = some ar.arg)
    (hm : X.mg "super" = none) (htop : (X.prog.main.scope.names.lookup ("super" : Str)).isSome = false)
    (I : Inv X pins σ H s) (hσ : σ[0]? = some (some (.ref a))) (ha : H a = some (exo a C none)) (he : PE X e te) (h : te σ H fun v H1 => H1 a = some (exo a C none) ∧ Q' H1 ∧ [v].length = 1)
    (hev : eval (.Call (.Attribute (.Call (.Name "super" p0) [] [] p1) "__init__" apos) [e] [] pos) X.env = (do
      let ov ← attributeBase (.Call (.Name "super" p0) [] [] p1) "__init__" X.env (eval (.Call (.Name "super" p0) [] [] p1) X.env)
      standAt apos.atName
      let (f, first) ← holding [ov] (getMethod ov "__init__" pl)
      callWith pos f first (backTo pos (starEach [e] X.env)) []))
    (hi : interactive X.env = false) (hsw : swapsWith (.Call (.Attribute (.Call (.Name "super" p0) [] [] p1) "__init__" apos) [e] [] pos) none pos'.line X.env = pure false)
    (hst : starEach [e] X.env = (false, eval e X.env) :: starEach [] X.env) :
    _root_.PySem.wpAt (model X.prog X.w) X.A (.func body X.env) (exec (.Expr (.Call (.Attribute (.Call (.Name "super" p0) [] [] p1) "__init__" apos) [e] [] pos) pos') X.env) (fun fl s' => fl = .next ∧ ∃ H1, Inv X pins σ H1 s' ∧ Q' H1) X.xe s := by
  have KX := I.kIn
  refine ks_wpAt_Expr_any (ks_wpAt_MethodCall (pl := pl) ?_ hev) hi hsw
  obtain ⟨ccl, cdd, vs, ccs, file, tf, hcd, hvs, hfile⟩ := T.code
  obtain ⟨cl, cld, csl, hcc⟩ := T.cell
  refine ks_wpAt_super_base hks hkc (by decide) hfu (KX _ _ hf) rfl hp hco (KX _ _ hcd) rfl hvs hfile htop ?_
  obtain ⟨mb, hb1, hb2⟩ := I.mod.blt
  refine PySem.W.ks_loadName_global I.ok.kind hks (Calls.loadGlobal_builtin (by rw [I.ok.glob]; exact I.mod.glob.keeps I.bk) hm (by rw [I.ok.blt]; exact hb1.keeps I.bk) ((hb2 _ (by decide)).trans boot_super) ⟨rfl, ?_⟩)
  refine wpAny_loadName_free I.ok.kind hkc hcl ⟨_, KX _ _ hcc, rfl⟩ ?_
  obtain ⟨m, hns, hloc⟩ := I.loc
  obtain ⟨u, ru, hlk⟩ := hloc 0 ar.arg (.ref a) hN hσ (.inl hka)
  obtain rfl : u = Value.ref a := ru
  have hv : m ar.arg = some (.ref a) := by
    rcases hlk with ⟨_, z⟩ | ⟨z, _⟩
    · exact z
    · rw [hka] at z
      rcases z with z | z <;> cases z
  refine wpAny_loadName_local I.ok.kind hka hns hv ?_
  obtain ⟨nm, q, N, bs, bm, sn, sub, ab, col, dd, k0, k1, k2, k3, k5, hC, hbm⟩ := T.oex.cls
  obtain ⟨t1, ho⟩ := exo_at I.hok ha
  have hkC := KX _ _ hC
  obtain ⟨hp0, g, d, t, os⟩ := s
  refine ks_wpAny_isType_cls hkC rfl ⟨rfl, ?_⟩
  refine ks_wpAny_call_super hkC rfl ho rfl (fun c z => nomatch z) (PySem.W.looks_mroIn KX T.mroC) (fun h1 e1 kk => ?_)
  have I1 : Inv X pins σ H ⟨h1, g, d, t, os⟩ := I.kept (t' := t) kk
  have ho1 := kk _ _ ho
  have aC : a ≠ C := fun z => by
    rw [z] at ho
    have := ho.symm.trans hkC
    cases this
  have hcls : PySem.W.clsIn X.K C = some { name := nm, bases := bs, mro := .ref C :: bm, ns := N, qualname := q, hasDict := true, slotNames := sn, subclasses := sub, abstract := ab, collection := col, hasDel := false } := by unfold PySem.W.clsIn; rw [hC] <;> rfl
  have hsup := T.sup
  unfold PySem.W.ks_superIn at hsup
  rw [hcls] at hsup
  have II : PySem.W.InstAt h1 a ({ cls := .ref C, dict := none, data := .fields #[.ref t1, .none, .none, .none, .bool false, .none] } : Obj) C none := ⟨ho1, rfl, rfl, trivial⟩
  refine PySem.W.kxs_getMethod PySem.W.kxs_ValueError e1 (PySem.W.looks_opaque I1.kIn T.hop) (fun A Q E s k q => wpAny_bind ((PySem.W.looks_clsIn I1.kIn hcls) A _ E s k (wpAny_pure q))) rfl I1.kIn hsup (II.type.andThen (PySem.W.looks_subIn I1.kIn T.subVE)) aC (by decide) ?_
  have I2 : Inv X ((h1.objs.size, PySem.W.kxs_mw "ValueError.__init__" a) :: pins) σ H ⟨h1.push (PySem.W.kxs_mw "ValueError.__init__" a), g, d, t + 1, os⟩ :=
    ClX.pin_new I1 (fun b o z => Heap.get?_push_of_some _ z) (Nat.le_refl _) (Heap.get?_push_at rfl rfl) (fun v z => nomatch z)
  refine PySem.W.kxs_callWith (i := "ValueError.__init__") (x := a) (by rw [hst]; rfl) ?_
  rw [hst]
  refine Calls.evalArgs_plain ?_
  have hpa := (pa_cons he pa_nil hst).run pos _ _ σ H (fun vs H1 => H1 a = some (exo a C none) ∧ Q' H1 ∧ vs.length = 1) I2 h
  rw [hst] at hpa
  refine thn hpa fun us s2 ⟨vs2, H2, I3, r, q1, q2, q3⟩ => ?_
  obtain ⟨t2, ho2⟩ := exo_at I3.hok q1
  refine ⟨ClX.pin_at I3, ?_⟩
  obtain ⟨hp2, g2, d2, t2', os2⟩ := s2
  refine mw_call (I3.kIn _ _ hC) ho2 (ClX.pin_at I3) (by show us.length ≤ sizeLine; rw [← r.length, q3]; decide) fun h' t' k' e' => ⟨rfl, H2, ?_, q2⟩
  have J := (ClX.unpin I3).write (t' := t2') (x := a) (e := a) (o := exo a C none) (by rw [q1]; exact True.intro) (.inl rfl) k' ⟨_, e'⟩ (exo_ok e')
  have eu : upd H2 a (exo a C none) = H2 := by
    funext b
    by_cases hb : b = a
    · rw [hb, upd_same, q1]
    · rw [upd_ne hb]
  rw [eu] at J
  exact J
end
end TKE
set_option maxHeartbeats 2000000
set_option pp.maxSteps 300
/-! The __init__ of such an exception as a def; raising it; makers that may raise; isinstance of a caught one. -/
namespace TKE
open PySem PySem.Spec PyProof.Rows L2 NdefX
section
variable {P : Program} {w : World} {K : PySem.W.Frag} {mg : Str → Option Value} {base : Heap}
abbrev supN (x : Str) : List Str := ["self", x, "__class__"]
abbrev supF (qual : Str) (params : Arguments) (body : List Stmt) (scope : Scope) (cda cc : Addr) : NF := ⟨"__init__", qual, params, body, scope, [("__class__", cc)], cda⟩
theorem fnok_sup {C fI cda cc : Addr} {qual x : Str} {params : Arguments} {body : List Stmt} {scope : Scope} {doc pm ct : Value} {an : Option Addr} {oc : Value} {od : Option Addr} {osl : Array (Option Value)} {sp : Sp}
    {p0 p1 apos pos pos' : Pos} {e : Expr} {rest : List Stmt} {ar : Arg} {pl : Sem Bool}
    (T : SupTxt K P C fI cda cc)
    (hK : K.lookup fI = some ⟨oc, od, .func (PySem.W.fnX "__init__" qual params body scope [("__class__", cc)] .none .none doc pm an (.ref cda) ct), osl⟩) (hcd : PySem.W.codeIn K (.ref cda) qual = true)
    (S : NScope (supN x) ["self", x] ["__class__"] scope) (hsup : scope.names.lookup ("super" : Str) = some .globalImplicit) (hcls : scope.names.lookup ("__class__" : Str) = some .free)
    (hp : (params.posonlyargs ++ params.args).head? = some ar) (har : ar.arg = "self")
    (hbody : body = .Expr (.Call (.Attribute (.Call (.Name "super" p0) [] [] p1) "__init__" apos) [e] [] pos) pos' :: rest)
    (hm : mg "super" = none) (htop : (P.main.scope.names.lookup ("super" : Str)).isSome = false)
    (len : ∀ vs H Q E, sp vs H Q E → vs.length = 2)
    (hb : ∀ (A : Around) (outer : List Env) (s : Shared) (H : Hp) (vs : List V) (Q : VK) (E : XK), sp vs H Q E → ∃ (a : Addr) (y : V) (te : TE) (t2 : TS), vs = [.ref a, y] ∧ H a = some (exo a C none) ∧
      PE (ncx CX0 P w K mg base (supN x) (supF qual params body scope cda cc) fI A outer s H E) e te ∧ PSs (ncx CX0 P w K mg base (supN x) (supF qual params body scope cda cc) fI A outer s H E) rest t2 ∧
      te (startF (supN x) vs [none]) H fun v H1 => H1 a = some (exo a C none) ∧ t2 { nx := fun _ H' => Q .non H', rt := Q } (startF (supN x) vs [none]) H1 ∧ [v].length = 1)
    (hev : ∀ (A : Around) (outer : List Env) (s : Shared) (H : Hp) (E : XK), eval (.Call (.Attribute (.Call (.Name "super" p0) [] [] p1) "__init__" apos) [e] [] pos) (ncx CX0 P w K mg base (supN x) (supF qual params body scope cda cc) fI A outer s H E).env = (do
      let ov ← attributeBase (.Call (.Name "super" p0) [] [] p1) "__init__" (ncx CX0 P w K mg base (supN x) (supF qual params body scope cda cc) fI A outer s H E).env (eval (.Call (.Name "super" p0) [] [] p1) (ncx CX0 P w K mg base (supN x) (supF qual params body scope cda cc) fI A outer s H E).env)
      standAt apos.atName
      let (f, first) ← holding [ov] (getMethod ov "__init__" pl)
      callWith pos f first (backTo pos (starEach [e] (ncx CX0 P w K mg base (supN x) (supF qual params body scope cda cc) fI A outer s H E).env)) []))
    (hi : ∀ (A : Around) (outer : List Env) (s : Shared) (H : Hp) (E : XK), interactive (ncx CX0 P w K mg base (supN x) (supF qual params body scope cda cc) fI A outer s H E).env = false)
    (hsw : ∀ (A : Around) (outer : List Env) (s : Shared) (H : Hp) (E : XK), swapsWith (.Call (.Attribute (.Call (.Name "super" p0) [] [] p1) "__init__" apos) [e] [] pos) none pos'.line (ncx CX0 P w K mg base (supN x) (supF qual params body scope cda cc) fI A outer s H E).env = pure false)
    (hst : ∀ (A : Around) (outer : List Env) (s : Shared) (H : Hp) (E : XK), starEach [e] (ncx CX0 P w K mg base (supN x) (supF qual params body scope cda cc) fI A outer s H E).env = (false, eval e (ncx CX0 P w K mg base (supN x) (supF qual params body scope cda cc) fI A outer s H E).env) :: starEach [] (ncx CX0 P w K mg base (supN x) (supF qual params body scope cda cc) fI A outer s H E).env) :
    FnOk P w K mg base CX0 1 fI (PySem.W.fnX "__init__" qual params body scope [("__class__", cc)] .none .none doc pm an (.ref cda) ct) ["self", x] sp := by
  refine ⟨len, fun A outer s H args us vs Q E hr e0 hbi r hsp => ?_⟩
  have KX : K.In s.heap := e0.mod.kin.keeps fun b o z => (e0.bs b o z).1
  have lim : s.heap.NoLimit := e0.mod.nolimit.keeps fun b o z => (e0.bs b o z).1
  have hl : vs.length = (["self", x] : List Str).length := len _ _ _ _ hsp
  obtain ⟨cl, cld, csl, hcc⟩ := T.cell
  have cat : CellsAt [("__class__", cc)] ["__class__"] [none] s.heap H := by
    have hcell : s.heap.IsCell cc (some (.ref C)) := ⟨_, KX _ _ hcc, rfl⟩
    have hnone : H cc = none := (e0.bs cc _ (e0.mod.kin _ _ hcc)).2
    have key : ∀ (y : Str) (c : Addr), List.lookup y [(("__class__" : Str), cc)] = some c → c = cc ∧ y = "__class__" := by
      intro y c hy
      rw [List.lookup_cons] at hy
      by_cases q : (y == ("__class__" : Str)) = true
      · rw [q] at hy
        exact ⟨(Option.some.inj hy).symm, beq_iff_eq.mp q⟩
      · rw [show (y == ("__class__" : Str)) = false by simpa using q] at hy
        cases hy
    refine ⟨rfl, fun y c hy => ?_, fun y z c h1 h2 => ?_, fun i y hy => ?_⟩
    · obtain ⟨rfl, _⟩ := key y c hy
      exact ⟨hnone, _, hcell⟩
    · rw [(key y c h1).2, (key z c h2).2]
    · refine ⟨cc, ?_, fun v hv => ?_⟩
      · match i, hy with
        | 0, hy =>
          cases hy
          rfl
      · match i, hv with
        | 0, hv => cases hv
  obtain ⟨a, y, te, t2, ev, ha, he, h2, hq⟩ := hb A outer s H vs Q E hsp
  refine ks_codeAny_call_defAt (fd := PySem.W.fnX "__init__" qual params body scope [("__class__", cc)] .none .none doc pm an (.ref cda) ct) (body := body) (binds := (["self", x] : List Str).zip us) hr.depth (KX _ _ hK) rfl lim (PySem.W.codeRec_of KX hcd) rfl hbi S.nocell
    (fun ⟨n, _⟩ hy => S.par n (List.of_mem_zip hy).1) (fun h₁ hns kp => ?_) S.co S.gen S.kind
  have I : Inv (ncx CX0 P w K mg base (supN x) (supF qual params body scope cda cc) fI A outer s H E) [] (startF (supN x) vs [none]) H { s with heap := h₁, toks := s.toks + ((["self", x] : List Str).zip us).length } := inv_startN S hr.hd e0 hl r cat hns kp
  have hT : SupTxt (ncx CX0 P w K mg base (supN x) (supF qual params body scope cda cc) fI A outer s H E).K (ncx CX0 P w K mg base (supN x) (supF qual params body scope cda cc) fI A outer s H E).prog C fI cda cc := T
  have q1 := sup_stmt (body := body) (pl := pl) (ar := ar) hT rfl hK hp rfl hsup hcls rfl (by rw [har]; exact S.par _ (List.mem_cons_self ..)) (by rw [har]; rfl) hm htop I (by rw [ev]; rfl) ha he hq (hev A outer s H E) (hi A outer s H E) (hsw A outer s H E) (hst A outer s H E)
  have fin : ∀ {σ' : L2.St} {H' : Hp} {v : V} {u : Value} {s' : Shared}, Inv (ncx CX0 P w K mg base (supN x) (supF qual params body scope cda cc) fI A outer s H E) [] σ' H' s' → RelV v u → Q v H' → CE outer P w H s Q u s' := fun {σ' H' v u s'} J rv q => ⟨v, H', J.os, J.bare, J.base, J.hok, rv, q⟩
  rw [hbody] at q1 ⊢
  refine ks_wpAt_execs_cons (ks_wpAt_mono q1 (fun fl s' hfl => ?_) fun e s' z => z)
  obtain ⟨rfl, H1, I1, q⟩ := hfl
  refine wpAt_of_wpAny (wpAny_mono (h2.run [] _ _ H1 _ I1 q) (fun fl s' hs => ?_) fun e s' z => z)
  cases fl with
  | ret u =>
    obtain ⟨v, σ', H', J, rv, q⟩ := hs
    exact fin J rv q
  | next =>
    obtain ⟨σ', H', J, q⟩ := hs
    exact fin (v := V.non) (u := Value.none) J rfl q
  | brk =>
    obtain ⟨_, _, _, z⟩ := hs
    exact False.elim z
  | cont =>
    obtain ⟨_, _, _, z⟩ := hs
    exact False.elim z
end
end TKE
set_option maxHeartbeats 2000000
set_option pp.maxSteps 300
/-! Raising such an exception; makers that may raise; isinstance of a caught one. -/
namespace TKE
open PySem PySem.Spec PyProof.Rows L2 NdefX TK
/-- the promise of its __init__ -/
def spExc (C : Addr) (fld : Str) (ok : V → Prop) : Sp := fun vs H Q _ => ∃ (a : Addr) (y : V), vs = [.ref a, y] ∧ ok y ∧ H a = some (exo a C none) ∧ ∀ dx, H dx = none → dx ≠ a → Q .non (upd (upd H dx (exd dx [(fld, y)])) a (exo a C (some dx)))
section
variable {P : Program} {w : World} {K : PySem.W.Frag} {mg : Str → Option Value} {base : Heap}
structure ExcMk (P : Program) (w : World) (K : PySem.W.Frag) (mg : Str → Option Value) (base : Heap) (x : Str) (C : Addr) (fld : Str) (ok : V → Prop) : Prop where
  ex : ∃ (fI : Addr) (fd : FuncData) (ps : List Str), OexC K C ∧ PySem.W.findIn K (.ref C) "__init__" = some (some (.ref fI)) ∧ PySem.W.typeIn K (.ref fI) = some (.type "function") ∧ FnOk P w K mg base CX0 1 fI fd ps (spExc C fld ok) ∧ Binds K fd ps [] ∧ mg x = some (.ref C)
end
section
variable {X : Cx} {W : WX} {C : Addr} {x fld : Str} {ok : V → Prop} {p pos pos' : Pos} {e : Expr} {es : List Expr} {te : TE} {j : Nat}
theorem ps_raiseE (c : ExcMk X.prog X.w X.K X.mg X.base x C fld ok) (hc : X.calm = true) (tk : Takes X W) (hr : Room j X.A) (hk : 2 ≤ j) (hg : Gl X x) (he : PE X e te)
    (hdb : (x == ("__debug__" : Str)) = false := by decide) (hs : starEach (e :: es) X.env = (false, eval e X.env) :: starEach es X.env := by rfl) (hes : es = [] := by rfl) (hpl : (backTo pos (starEach es X.env)).any (·.1) = false := by rfl) :
    PS X (.Raise (some (.Call (.Name x p) (e :: es) [] pos)) none pos') (fun _ σ H => te σ H fun y H1 => ok y ∧ ∀ d, H1 d = none → W (.ref C) (some d) σ (upd H1 d (.xd [(fld, y)]))) := by
  subst hes
  obtain ⟨fI, fd, ps, T, iC, tI, F1, hb, hm⟩ := c.ex
  refine ⟨fun pins s σ H D I h => ?_⟩
  refine (ps_raise hc tk (pmk_oex T iC tI F1 (hr.mono hk) hb .nil (fun _ _ _ _ _ _ _ z => z.elim) hg hm (pa_cons (pe_cut he) pa_nil hs) hdb hs hpl)).run pins s σ H D I ?_
  refine ⟨_, h, fun y H1 hy => ⟨by show 1 ≤ 1000; decide, fun a ha => ⟨a, y, rfl, hy.1, upd_same, fun dx hdx hne => ⟨rfl, dx, [(fld, y)], upd_same, ?_, ?_, ?_⟩⟩⟩⟩
  · rw [upd_ne hne, upd_same]
  · rw [upd_ne hne] at hdx
    exact hdx
  · have hd1 : H1 dx = none := by
      rw [upd_ne hne] at hdx
      exact hdx
    have q := hy.2 dx hd1
    have eh : upd (L2.del (upd (upd (upd H1 a (exo a C none)) dx (exd dx [(fld, y)])) a (exo a C (some dx))) a) dx (.xd [(fld, y)]) = upd H1 dx (.xd [(fld, y)]) := by
      funext b
      by_cases h1 : b = dx
      · rw [h1, upd_same, upd_same]
      · rw [upd_ne h1, upd_ne h1]
        by_cases h2 : b = a
        · rw [h2, L2.del_same, ha]
        · rw [L2.del_ne h2, upd_ne h2, upd_ne h1, upd_ne h2]
    rw [eh]
    exact q
end
/-! ### makers that may raise -/
section
variable {P : Program} {w : World} {K : PySem.W.Frag} {mg : Str → Option Value} {base : Heap}
structure MakX (P : Program) (w : World) (K : PySem.W.Frag) (mg : Str → Option Value) (base : Heap) (k : Nat) (x : Str) (C : Addr) (sp : Sp) (n : Nat) (ks : List Str) (gV : List V → List V → List V) : Prop where
  ex : ∃ (f : Addr) (fd : FuncData) (ps : List Str) (g : List Value → List Value → List Value), Mk K C f ∧ FnOk P w K mg base (L2.CX P w) k f fd ps sp ∧ mg x = some (.ref C) ∧ KBn K fd ps (n + 1) ks g gV
/-- C(e, ..) as an expression: at σ, what it lets out is WE W σ -/
def tMakX (C : Addr) (n m : Nat) (sp : Sp) (gV : List V → List V → List V) (E : L2.St → XK) (t tk : TA) : TE := fun σ H Q => t σ H fun vs H1 => tk σ H1 fun zs H2 => vs.length = n ∧ zs.length = m ∧ ∀ x dx, H2 x = none → H2 dx = none → dx ≠ x →
  sp (gV (.ref x :: vs) zs) (upd (upd H2 dx (.own x)) x (.ins C dx [])) (fun v H3 => v = .non ∧ Q (.ref x) H3) (E σ)
end
section
variable {X : Cx} {W : WX} {k j n : Nat} {f C : Addr} {fd : FuncData} {ps ks : List Str} {sp : Sp} {x : Str} {p pos : Pos} {e : Expr} {es : List Expr} {kws : List Keyword} {t tk : TA} {g : List Value → List Value → List Value} {gV : List V → List V → List V}
theorem run_makX {pins : List (Addr × Obj)} {σ : L2.St} {H : Hp} {s : Shared} {Q : VK} {us ws : List Value} {vs zs : List V} {E : XK} (M : Mk X.K C f) (F : FnOk X.prog X.w X.K X.mg X.base (L2.CX X.prog X.w) k f fd ps sp) (hr : Room (k + 1) X.A) (hb : KBn X.K fd ps (n + 1) ks g gV) (hx : PassesAt (L2.CX X.prog X.w) X σ E)
    (I : Inv X pins σ H s) (r : Vals vs us) (rz : Vals zs ws) (l1 : vs.length = n) (l2 : zs.length = ks.length)
    (h : ∀ x dx, H x = none → H dx = none → dx ≠ x → sp (gV (.ref x :: vs) zs) (upd (upd H dx (.own x)) x (.ins C dx [])) (fun v H2 => v = .non ∧ Q (.ref x) H2) E) :
    wpAny (model X.prog X.w) X.A (call (.ref C) us (ks.zip ws)) (EP X pins σ Q) X.xe s := by
  let q := s.heap.objs.size
  have fr1 : H (q + 1) = none := I.hok.fresh (Nat.le_succ q)
  have fr2 : H q = none := I.hok.fresh (Nat.le_refl q)
  have told := h (q + 1) q fr1 fr2 (Nat.ne_of_lt (Nat.lt_succ_self q))
  have J := Inv.made (C := C) I
  have ra : Vals (V.ref (q + 1) :: vs) (Value.ref (q + 1) :: us) := .cons rfl r
  have na : (Value.ref (q + 1) :: us).length = n + 1 := by
    have := ra.length
    rw [← this, List.length_cons, l1]
  have run := F.run _ X.stack _ _ ⟨Value.ref (q + 1) :: us, ks.zip ws⟩ (g (Value.ref (q + 1) :: us) ws) _ _ E (hr.make C us (ks.zip ws)) (J.env0.make C us (ks.zip ws)) (hb.to _ (Value.ref (q + 1) :: us) ws J.kIn na (rz.length.symm.trans l2)) (hb.rel ra rz) told
  refine wpAny_call (make_map (f := f) I.kIn M.makes M.init (beq_iff_eq.mp M.fn) (codeAny_mono run fun o s' ho => ?_))
  match o, ho with
  | .error e, ho => exact hx pins _ _ e s' J ho
  | .ok (.ret u), ho =>
    obtain ⟨v, H', I3, rv, ev, q3⟩ := J.after ho
    subst ev
    exact ⟨rv, ⟨V.ref (q + 1), H', I3, rfl, q3⟩⟩
  | .ok .next, ho => exact False.elim ho
  | .ok .brk, ho => exact False.elim ho
  | .ok .cont, ho => exact False.elim ho
theorem pe_makX {E : L2.St → XK} (c : MakX X.prog X.w X.K X.mg X.base k x C sp n [] gV) (hr : Room j X.A) (hk : k + 1 ≤ j) (hx : ∀ σ, PassesAt (L2.CX X.prog X.w) X σ (E σ)) (hg : Gl X x) (ha : PA X (e :: es) t)
    (hdb : (x == ("__debug__" : Str)) = false := by decide) (he : starEach (e :: es) X.env = (false, eval e X.env) :: starEach es X.env := by rfl) (hpl : (backTo pos (starEach es X.env)).any (·.1) = false := by rfl) :
    PE X (.Call (.Name x p) (e :: es) [] pos) (tMakX C n 0 sp gV E t tNil) := by
  obtain ⟨f, fd, ps, g, M, F, hm, b⟩ := c.ex
  refine ⟨fun pins s σ H Q I h => ?_⟩
  refine wpAny_Call_Name_kw (ld_glob I hg hm ?_ hdb)
  refine PySem.W.callWith_K (h₀ := X.base) I.ok.mod.kin M.kp (thn (ha.run pos pins s σ H _ I h) fun us s1 ⟨vs, H1, I1, r, l1, l2, q⟩ => ⟨I1.kIn, ?_⟩) he hpl
  exact run_makX (zs := []) (ws := []) M F (hr.mono hk) b (hx σ) I1 r .nil l1 rfl q
theorem pe_makXK {E : L2.St → XK} (c : MakX X.prog X.w X.K X.mg X.base k x C sp 0 ks gV) (hr : Room j X.A) (hk : k + 1 ≤ j) (hx : ∀ σ, PassesAt (L2.CX X.prog X.w) X σ (E σ)) (hg : Gl X x) (hkw : PK X kws tk)
    (hall : (backToKw pos (keywordEach kws X.env)).all (·.1.isSome) = true := by rfl) (hks : (backToKw pos (keywordEach kws X.env)).filterMap (·.1) = ks := by rfl) (hdb : (x == ("__debug__" : Str)) = false := by decide)
    (hpl : ((backTo pos (starEach [] X.env)).any (·.1) || (backToKw pos (keywordEach kws X.env)).any (·.1.isNone)) = false := by rfl) :
    PE X (.Call (.Name x p) [] kws pos) (tMakX C 0 ks.length sp gV E tNil tk) := by
  obtain ⟨f, fd, ps, g, M, F, hm, b⟩ := c.ex
  refine ⟨fun pins s σ H Q I h => ?_⟩
  refine wpAny_Call_Name_kw (ld_glob I hg hm ?_ hdb)
  refine PySem.W.callWith_KW0 (h₀ := X.base) I.ok.mod.kin M.kp hall ?_ hpl
  refine thn (hkw.run pos pins s σ H _ I h) fun ws s2 ⟨zs, H2, I2, rz, l1, l2, q2⟩ => ⟨I2.kIn, ?_⟩
  rw [hks]
  exact run_makX (us := []) (vs := []) M F (hr.mono hk) b (hx σ) I2 .nil rz rfl l2 q2
/-- nothing is let out here -/
theorem none_out {X : Cx} : ∀ σ : L2.St, PassesAt (L2.CX X.prog X.w) X σ E0 := fun _ _ _ _ _ _ _ z => by
  obtain ⟨_, _, _, _, _, _, _, _, _, _, _, _, y⟩ := z
  exact y.elim
end
end TKE
set_option maxHeartbeats 2000000
set_option pp.maxSteps 300
/-! isinstance of a caught exception that has its dict; what is to be looked up of such a class; a hook with such defs. -/
namespace TKE
open PySem PySem.Spec PyProof.Rows L2 NdefX TK
def rIsD (K : PySem.W.Frag) (D a : Addr) (cls : Value) (d : Option Addr) : List V → Hp → VK → Prop := fun xs H Q => ∃ (c : V) (cv : Value) (b : Bool) (dd : Addr) (fs : List (Str × V)), xs = [.ref a, c] ∧ (∀ u, RelV c u → u = cv) ∧ PySem.W.kitOne K (.ref D) cv = some b ∧ cls = .ref D ∧ d = some dd ∧ H dd = some (.xd fs) ∧ Q (.bl b) H
theorem call_isD {X : Cx} {a D : Addr} {oe : Obj} {cls : Value} {d : Option Addr} {pn : List (Addr × Obj)} (C : ExcC X.K D) (hz : Zc cls d oe) (hf : ∃ vs, oe.data = .fields vs) : CallR (X.suite a ((a, oe) :: pn)) (.builtin "isinstance") (rIsD X.K D a cls d) := by
  intro pins s σ H xs us Q I r h
  obtain ⟨c, cv, b, dd, fs, rfl, hcv, e, rfl, rfl, ed, q⟩ := h
  obtain ⟨u1, u2, rfl, rx, rt⟩ : ∃ u1 u2, us = [u1, u2] ∧ RelV (.ref a) u1 ∧ RelV c u2 := by
    cases r with
    | cons h1 t1 =>
      cases t1 with
      | cons h2 t2 =>
        cases t2
        exact ⟨_, _, rfl, h1, h2⟩
  obtain rfl : u1 = Value.ref a := rx
  obtain rfl := hcv _ rt
  obtain ⟨hget, _⟩ := I.pin (a, oe) (List.mem_append.mpr (.inl List.mem_cons_self))
  obtain ⟨vs, hv⟩ := hf
  have ob : ObjOk X.prog X.w H s.heap dd (.xd fs) := I.hok dd _ ed
  obtain ⟨mA, ⟨od, es, ep, ho, hr2⟩, hr⟩ := ob
  have J : PySem.W.InstAt s.heap a oe D (some od) := ⟨hget, hz.1, by unfold PySem.W.notCls; rw [hv] <;> rfl, by rw [hz.2]; exact ho⟩
  have hcl : (PySem.W.clsIn X.K D).isSome = true := by
    obtain ⟨cd, hc, _⟩ := PySem.W.any_some C.hd
    rw [hc]
    rfl
  exact PySem.W.kia_one (PySem.W.kitx_exc hcl C.hg C.hk C.hs C.ha C.hn C.ht C.hm) I.kIn J e (fun z => nomatch z) fun tk => ⟨.bl b, H, I.kept (t' := tk) fun _ _ z => z, rfl, q⟩
end TKE
set_option maxHeartbeats 2000000
set_option pp.maxSteps 300
/-! What the heap behind the top says of such classes: a check, what it gives, a hook with their __init__. -/
namespace TKE
open PySem PySem.Spec PyProof.Rows L2 NdefX TK
open He (ga ma)
def clsB (K : PySem.W.Frag) (C : Addr) : Bool := match K.lookup C with
  | some ⟨.type "type", _, .cls cd, sl⟩ => (match cd.mro, sl.toList with
    | .ref C' :: bm, [_, _, _, _, some (.builtin n), _] => C' == C && (n == "ValueError.__new__" && (!cd.hasDel && (cd.hasDict && PySem.HandSPX.refsVE bm)))
    | _, _ => false)
  | _ => false
theorem clsB_ok {K : PySem.W.Frag} {C : Addr} (q : clsB K C = true) : ∃ nm q N bs bm sn sub ab col dd k0 k1 k2 k3 k5, K.lookup C = some (excClassObj nm q C N bs bm true sn sub ab col dd k0 k1 k2 k3 k5 "ValueError.__new__") ∧ PySem.HandSPX.refsVE bm = true := by
  unfold clsB at q
  split at q
  · rename_i dd cd sl ho
    split at q
    · rename_i C' bm k0 k1 k2 k3 n k5 hm hs
      simp only [Bool.and_eq_true, beq_iff_eq, Bool.not_eq_true'] at q
      obtain ⟨rfl, rfl, hdel, hd, ht⟩ := q
      obtain ⟨nm, bs, mro, ns, qn, hd', sn, sub, ab, col, del⟩ := cd
      dsimp only at hm hdel hd
      subst hm hdel hd
      have hsl : sl = #[k0, k1, k2, k3, some (.builtin "ValueError.__new__"), k5] := by
        obtain ⟨l⟩ := sl
        simp only at hs
        rw [hs]
      subst hsl
      exact ⟨nm, qn, ns, bs, bm, sn, sub, ab, col, dd, k0, k1, k2, k3, k5, ho, ht⟩
    · cases q
  · cases q
def cellB (K : PySem.W.Frag) (cc C : Addr) : Bool := match K.lookup cc with
  | some ⟨_, _, .cell (some (.ref C')), _⟩ => C' == C
  | _ => false
theorem cellB_ok {K : PySem.W.Frag} {cc C : Addr} (q : cellB K cc C = true) : ∃ cl cld csl, K.lookup cc = some ⟨cl, cld, .cell (some (.ref C)), csl⟩ := by
  unfold cellB at q
  split at q
  · rename_i cl cld C' csl ho
    obtain rfl := beq_iff_eq.mp q
    exact ⟨_, _, _, ho⟩
  · cases q
def fileB (K : PySem.W.Frag) (cda : Addr) (file : Str) : Bool := match K.lookup cda with
  | some ⟨_, _, .fields vs, _⟩ => (match (vs[2]? : Option Value) with
    | some (Value.str f _) => file == f
    | _ => false)
  | _ => false
theorem fileB_ok {K : PySem.W.Frag} {cda : Addr} {file : Str} (q : fileB K cda file = true) : ∃ ccl cdd vs ccs f tf, K.lookup cda = some ⟨ccl, cdd, .fields vs, ccs⟩ ∧ vs[2]? = some (.str f tf) ∧ (file == f) = true := by
  unfold fileB at q
  split at q
  · rename_i cl cld vs csl ho
    split at q
    · rename_i f tf hv
      exact ⟨_, _, _, _, _, _, ho, hv, q⟩
    · cases q
  · cases q
def fnB (K : PySem.W.Frag) (f C : Addr) (qual file : Str) : Bool := match K.lookup f with
  | some ⟨_, _, .func fd, _⟩ => (match fd.closure, fd.code, fd.defaults, fd.kwdefaults with
    | [(n, cc)], .ref cda, .none, .none => n == "__class__" && (PySem.W.codeIn K (.ref cda) qual && (cellB K cc C && fileB K cda file))
    | _, _, _, _ => false)
  | _ => false
def fnC (K : PySem.W.Frag) (p : Str × Option Str) : He.FnW := match K.lookup (He.fAd K p) with
  | some ⟨_, _, .func fd, _⟩ => some (fd.name, fd.qualname, fd.params, fd.body, fd.scope, fd.globals, [], fd.builtins)
  | _ => none
theorem fnB_ok {K : PySem.W.Frag} {p : Str × Option Str} {C : Addr} {nm qual file : Str} {params : Arguments} {body : List Stmt} {scope : Scope} (e : fnC K p = He.DefD.val ⟨p, nm, qual, params, body, scope, [], []⟩) (q : fnB K (He.fAd K p) C qual file = true) :
    ∃ cda cc oc od doc pm an ct osl, K.lookup (He.fAd K p) = some ⟨oc, od, .func (PySem.W.fnX nm qual params body scope [("__class__", cc)] .none .none doc pm an (.ref cda) ct), osl⟩ ∧ PySem.W.codeIn K (.ref cda) qual = true ∧ cellB K cc C = true ∧ fileB K cda file = true := by
  unfold fnB at q
  unfold fnC at e
  split at q
  · rename_i oc od fd osl ho
    rw [ho] at e
    split at q
    · rename_i n cc cda h1 h2 h3 h4
      simp only [Bool.and_eq_true, beq_iff_eq] at q
      obtain ⟨rfl, q1, q2, q3⟩ := q
      obtain ⟨n1, n2, n3, n4, n5, n6, n7, n8, n9, n10, n11, n12, n13, n14, n15⟩ := fd
      dsimp only at h1 h2 h3 h4
      subst h1 h2 h3 h4
      have e2 : (some (n1, n2, n3, n4, n5, n6, [], n15) : He.FnW) = some (nm, qual, params, .stmts body, scope, mainGlobals, [], builtinsNs) := e
      simp only [Option.some.injEq, Prod.mk.injEq] at e2
      obtain ⟨h1, h2, h3, h4, h5, h6, h7, h8⟩ := e2
      subst h1 h2 h3 h4 h5 h6 h8
      exact ⟨cda, cc, oc, od, _, _, _, _, osl, ho, q1, q2, q3⟩
    · cases q
  · cases q
/-- the class named x, its field fld, its __init__'s qualified name, the text's file -/
def excB (K : PySem.W.Frag) (x fld qual file : Str) : List Bool := [clsB K (ga K x),
  decide (PySem.W.findIn K (.ref (ga K x)) "__setattr__" = some (some (.builtin "object.__setattr__"))), decide (PySem.W.subIn K (.ref (ga K x)) (.type "BaseException") = some true), decide (PySem.W.typeIn K (.ref (ga K x)) = some (.type "type")), PySem.W.keepIn K (.ref (ga K x)),
  decide (PySem.W.findIn K (.ref (ga K x)) "__init__" = some (some (.ref (ma K (ga K x) "__init__")))), decide (PySem.W.typeIn K (.ref (ma K (ga K x) "__init__")) = some (.type "function")), decide (PySem.W.ks_superIn K (ga K x) (ga K x) "__init__" = some (some (.builtin "ValueError.__init__"))),
  decide (PySem.W.subIn K (.ref (ga K x)) (.type "ValueError") = some true), decide (PySem.W.mroIn K (ga K x) (.ref (ga K x)) = some true), decide (PySem.W.nsIn K cStatics "thirdparty.any" = some none),
  fnB K (ma K (ga K x) "__init__") (ga K x) qual file, decide (PySem.W.findIn K (.ref (ga K x)) fld = some none),
  decide (PySem.W.findIn K (.ref (ga K x)) "__getattribute__" = some (some (.builtin "BaseException.__getattribute__"))), decide (PySem.W.findIn K (.ref (ga K x)) "__getattr__" = some none), PySem.W.hasDictIn K (ga K x),
  decide (PySem.W.findIn K (.ref (ga K x)) "__class__" = some (some (.builtin "object.__class__"))), decide (PySem.W.specialIn K (.builtin "object.__class__") "__get__" = some (some (.builtin "getset_descriptor.__get__"))),
  decide (PySem.W.takesIn K (.builtin "object.__class__") = some true), decide (PySem.W.mroIn K (ga K x) (.type "object") = some true)]
def excAll (K : PySem.W.Frag) (x fld qual file : Str) : Bool := (excB K x fld qual file).all id
structure ExTxt (K : PySem.W.Frag) (P : Program) (x fld qual : Str) (params : Arguments) (body : List Stmt) (scope : Scope) : Prop where
  ex : ∃ cda cc oc od doc pm an ct osl, SupTxt K P (ga K x) (ma K (ga K x) "__init__") cda cc ∧ K.lookup (ma K (ga K x) "__init__") = some ⟨oc, od, .func (PySem.W.fnX "__init__" qual params body scope [("__class__", cc)] .none .none doc pm an (.ref cda) ct), osl⟩ ∧ PySem.W.codeIn K (.ref cda) qual = true
  no : PySem.W.findIn K (.ref (ga K x)) fld = some none
  ec : ExcC K (ga K x)
  xf : XfC K (ga K x)
theorem exTxt_of {K : PySem.W.Frag} {P : Program} {x fld qual file : Str} {params : Arguments} {body : List Stmt} {scope : Scope} (h : excAll K x fld qual file = true) (hP : P.main.file = file)
    (e : fnC K (x, some "__init__") = He.DefD.val ⟨(x, some "__init__"), "__init__", qual, params, body, scope, [], []⟩) : ExTxt K P x fld qual params body scope := by
  have a : ∀ (i : Nat) (b : Bool), (excB K x fld qual file)[i]? = some b → b = true := fun i b hi => exAt h i hi
  obtain ⟨cda, cc, oc, od, doc, pm, an, ct, osl, hl, hcd, hcell, hfile⟩ := fnB_ok (C := ga K x) (file := file) e (a 11 _ rfl)
  have h2 := of_decide_eq_true (a 2 _ rfl)
  have h13 := of_decide_eq_true (a 13 _ rfl)
  have h14 := of_decide_eq_true (a 14 _ rfl)
  have oex : OexC K (ga K x) := ⟨clsB_ok (a 0 _ rfl), of_decide_eq_true (a 1 _ rfl), h2, of_decide_eq_true (a 3 _ rfl), a 4 _ rfl⟩
  refine ⟨⟨cda, cc, oc, od, doc, pm, an, ct, osl, ⟨oex, of_decide_eq_true (a 5 _ rfl), of_decide_eq_true (a 6 _ rfl), of_decide_eq_true (a 7 _ rfl), of_decide_eq_true (a 8 _ rfl), of_decide_eq_true (a 9 _ rfl), of_decide_eq_true (a 10 _ rfl), ?_, cellB_ok hcell⟩, hl, hcd⟩, of_decide_eq_true (a 12 _ rfl),
    ⟨h13, h14, h2, a 15 _ rfl, of_decide_eq_true (a 16 _ rfl), of_decide_eq_true (a 17 _ rfl), of_decide_eq_true (a 18 _ rfl), of_decide_eq_true (a 19 _ rfl)⟩, ⟨h13, h14, h2, a 15 _ rfl⟩⟩
  rw [hP]
  obtain ⟨ccl, cdd, vs, ccs, f, tf, z⟩ := fileB_ok hfile
  exact ⟨ccl, cdd, vs, ccs, f, tf, z⟩
/-! ### the hook -/
def asE (g : Addr → Option Obj) (n : Nat) (es : List He.DefD) : List Addr :=
  He.asD g n ++ (cStatics :: es.flatMap fun d => match (He.frG g (He.asD g n)).lookup (He.fAd (He.frG g (He.asD g n)) d.at_) with
    | some ⟨_, _, .func fd, _⟩ => fd.closure.map (·.2)
    | _ => [])
abbrev AlE : Type := He.AlD × List He.FnW
def obsE (n : Nat) (fa : List He.Fa) (fn : List He.DefD) (ex : PySem.W.Frag → List Bool) (es : List He.DefD) (g : Addr → Option Obj) : AlE :=
  let K := He.frG g (asE g n es)
  (((He.obsD fa fn K).1 && (ex K).all id, (He.obsD fa fn K).2), es.map fun d => fnC K d.at_)
def hookE (n : Nat) (fa : List He.Fa) (fn : List He.DefD) (ex : PySem.W.Frag → List Bool) (es : List He.DefD) : PySem.W.Hook where
  α := AlE
  obs s := obsE n fa fn ex es s.heap.get?
  val _ := (He.valD fn, es.map He.DefD.val)
  says _ h := ∃ K : PySem.W.Frag, K.In h ∧ He.SaysD fa fn K ∧ (ex K).all id = true ∧ es.map (fun d => fnC K d.at_) = es.map He.DefD.val
  of _ _ e := by
    have e0 := congrArg (fun z : AlE => z.1) e
    have e1 := congrArg (fun z : He.AlD => z.1) e0
    have e2 := congrArg (fun z : He.AlD => z.2) e0
    have e3 := congrArg (fun z : AlE => z.2) e
    obtain ⟨a, b⟩ := Bool.and_eq_true_iff.mp e1
    exact ⟨_, He.frG_in, Prod.ext a e2, b, e3⟩
  keeps _ _ _ c k := let ⟨K, hK, c⟩ := c; ⟨K, PySem.W.Frag.In.keeps hK k, c⟩
theorem obsE_eq {n : Nat} {fa : List He.Fa} {fn : List He.DefD} {ex : PySem.W.Frag → List Bool} {es : List He.DefD} {g : Addr → Option Obj} {s : Shared} (h : ∀ a, g a = s.heap.get? a) : obsE n fa fn ex es g = (hookE n fa fn ex es).obs s := by
  obtain rfl : g = s.heap.get? := funext h
  rfl
theorem fnC_at {K : PySem.W.Frag} {es : List He.DefD} (h : es.map (fun d => fnC K d.at_) = es.map He.DefD.val) (i : Nat) {d : He.DefD} (hd : es[i]? = some d) : fnC K d.at_ = d.val := by
  have e2 : (es.map fun d => fnC K d.at_)[i]? = (es.map He.DefD.val)[i]? := by rw [h]
  rw [List.getElem?_map, List.getElem?_map, hd] at e2
  exact Option.some.inj e2
end TKE
set_option maxHeartbeats 2000000
set_option pp.maxSteps 300
/-! Texts with such classes: the pieces that the generated terms name. -/
namespace TKE
open PySem PySem.Spec PyProof.Rows L2 NdefX TK
def isS : V → Prop := fun y => ∃ z : Str, y = .str z ∧ z.length ≤ 1000
def isI : V → Prop := fun y => ∃ z : Int, y = .int z ∧ z.natAbs.log2 < 1920 ∧ (toString z : Str).length ≤ 1000
theorem ex_l1 {z : Str} (hz : z.length ≤ 1000) : z.length ≤ sizeLine := Nat.le_trans hz (by decide)
theorem ex_l2 {p z : Str} (hp : p.length ≤ 200) (hz : z.length ≤ 1000) : (p ++ z).length ≤ sizeLine := by
  rw [cat_len, sizeLine_eq]
  omega
theorem ex_l3 {p z q : Str} (hp : p.length ≤ 200) (hq : q.length ≤ 200) (hz : z.length ≤ 1000) : (p ++ z ++ q).length ≤ sizeLine := by
  rw [cat_len, cat_len, sizeLine_eq]
  omega
theorem pg_tupK {X : Cx} (K : PySem.W.Frag) (e : X.K = K) {es : List Expr} {k : Nat} {t : TGs} {n : Nat} {pos : Pos} (hc : X.calm = true) (h : PGs X es t)
    (hn : (assignEach es X.env).length = n := by rfl) (hst : (assignEach es X.env).findIdx? (·.1) = none := by rfl) : PG X (.Tuple es k pos) (gTup K n t) := by
  subst e
  exact pg_tup hc h hn hst
def rTupOf (K : PySem.W.Frag) : List V → Hp → VK → Prop := fun xs H Q => ∃ p ys, xs = [.ref p] ∧ ((SqL K H p ys ∧ ∀ l, H l = none → Q (.ref l) (upd H l (.tup ys))) ∨ (SqT K H p ys ∧ Q (.ref p) H))
theorem tupOfK {X : Cx} (K : PySem.W.Frag) (e : X.K = K) : CallR X (.type "tuple") (rTupOf K) := by
  subst e
  exact call_tuple_of
section
variable {P : Program} {w : World} {K : PySem.W.Frag} {mg : Str → Option Value} {base : Heap}
theorem makX_of {x qual : Str} {C f : Addr} {params : Arguments} {body : List Stmt} {scope : Scope} {fd : FuncData} {ps : List Str} {k n : Nat} {sp : Sp} (M : Mk K C f) (hm : mg x = some (.ref C)) (F : FunD K "__init__" qual params body scope [] [] f fd) (G : FnOk P w K mg base (L2.CX P w) k f fd ps sp) (hn : ps.length = n + 1)
    (h : ∀ (kV doc pm : Value) (an : Option Addr) (cdv ct : Value) (us : List Value), us.length = ps.length → bindArgs (PySem.W.fnOf "__init__" qual params body scope .none kV doc pm an cdv ct) ⟨us, []⟩ = pure (ps.zip us)) : MakX P w K mg base k x C sp n [] (fun vs _ => vs) :=
  ⟨f, fd, ps, fun us _ => us, M, G, hm, ⟨fun s us ws _ h1 _ => F.bindsA h s us (h1.trans hn.symm), fun r _ => r⟩⟩
end
end TKE
set_option maxHeartbeats 1000000
namespace PySem
section
variable {prog : Program} {w : World} {A : Around} {E : Value → Shared → Prop} {s : Shared} {T : String} {r d : Addr} {n : Nat} {P : Nat → Value → Prop} {OK : Heap → Prop}
theorem W.iadd_kdl {R : Result → Shared → Prop} (K : W.KdlSrc prog w T r d n P OK) (hh : A.handled = none) (hok : OK s.heap) (S : Addr) (hSr : S ≠ r) (hSd : S ≠ d) (hS : s.heap.get? S = some { cls := .type "list", data := .seq #[] }) (hn : n ≤ sizeLine)
    (hR : ∀ h' tk (acc' : Array Value) c', (∀ b o, b ≠ S → s.heap.get? b = some o → h'.get? b = some o) → h'.get? S = some { cls := .type "list", dict := none, data := .seq acc' c', slots := #[] } → ItemsOf P acc' n → R (.ok (.ret (.ref S))) { s with heap := h', toks := tk }) :
    codeAny (model prog w) A (.builtin "list.__iadd__" ⟨[.ref S, .ref r], []⟩) R s := by
  refine codeAny_builtin F.entry_list_iadd ?_
  rw [Around.under_plainId F.plain_list_iadd _]
  exact W.kdl_extend (A := A) (R := R) K hh hok S hSr hSd _ 0 hS hR hn
theorem W.collect_kdl {Q : List Value → Shared → Prop} (K : W.KdlSrc prog w T r d n P OK) (hh : A.handled = none) (hok : OK s.heap) (hn : n ≤ sizeLine)
    (hQ : ∀ h' tk (acc : Array Value), (∀ b o, s.heap.get? b = some o → h'.get? b = some o) → ItemsOf P acc n → Q acc.toList { s with heap := h', toks := tk }) :
    wpAny (model prog w) A (collect (.ref r)) Q E s := by
  have hlt := K.there _ hok
  unfold collect
  refine wpAny_bind (wpAny_runValue (codeAny_builtin F.entry_proto_collect ?_))
  rw [Around.under_plainId F.plain_proto_collect _]
  show wpAny _ A.in1 (newList [] >>= fun l => again (.builtin "list.__iadd__" ⟨[l, .ref r], []⟩)) _ _ s
  refine wpAny_bind (wpAny_newObj_type ?_)
  have hS : (s.heap.push { cls := .type "list", data := .seq ([] : List Value).toArray }).get? s.heap.objs.size = some { cls := .type "list", data := .seq ([] : List Value).toArray } := Heap.get?_push_size _ rfl
  refine wpAny_pure ⟨plainId_quiet F.plain_list_iadd _, W.iadd_kdl (A := A) (s := { s with heap := s.heap.push { cls := .type "list", data := .seq ([] : List Value).toArray } }) K hh (K.keep _ _ hok fun b _ o e => Heap.get?_push_of_some _ e) s.heap.objs.size (Nat.ne_of_gt hlt.1) (Nat.ne_of_gt hlt.2) hS hn fun h' tk acc' c' hk hS' hacc => ?_⟩
  show wpAny _ A (load s.heap.objs.size >>= _) _ _ _
  refine wpAny_bind (wpAny_load hS' ?_)
  exact wpAny_pure (hQ h' tk acc' (fun b o e => hk b o (Nat.ne_of_lt (Heap.lt_size e)) (Heap.get?_push_of_some _ e)) hacc)
end
end PySem
namespace TK
open PySem PySem.Spec PyProof.Rows L2 SX
section
variable {X : Cx} {pins : List (Addr × Obj)} {σ : L2.St} {H : Hp} {s : Shared}
theorem star_dict (hcalm : X.calm = true) {a : Addr} {kvs : List (Key × V)} {E : Value → Shared → Prop} {Q : List Value → Shared → Prop} (I : Inv X pins σ H s) (hd : Rd H a (.dK kvs)) (hQ : ∀ us s', Inv X pins σ H s' → Vals (kvs.map fun kv => kV kv.1) us → Q us s') : PySem.W.StarOf (model X.prog X.w) X.A E (.ref a) Q s := by
  obtain ⟨z, lo, vs, rel, dd⟩ := dk_rd I.hok hd
  obtain ⟨ep, hat⟩ := dd.dictAt
  have ek : (kvs.map fun kv => kV kv.1) = vs.map fun p => kV p.1 := by
    have e := congrArg (List.map kV) rel.keys
    rw [List.map_map, List.map_map] at e
    exact e
  have q : wpAny (model X.prog X.w) X.A (collect (.ref a)) Q E s := by
    refine PySem.W.collect_kdl (PySem.W.kdl_dict (knd := mixKind X.prog X.w) (kvs := vs) (ep := ep) lo) (I.ok.hd hcalm) hat (by rw [← rel.length]; exact z) fun h' tk acc hk hacc => ?_
    have hv : Vals (vs.map fun p => kV p.1) acc.toList := keys_at (by rw [Array.length_toList]; exact hacc.1) fun j v e => hacc.2 j v (by rw [← Array.getElem?_toList]; exact e)
    exact hQ _ _ (I.kept (t' := tk) hk) (by rw [ek]; exact hv)
  unfold PySem.W.StarOf notIterableAtAll
  exact wpAny_bind (wpAny_specialOf dd.typeIs PySem.F.slot_dict_iter.lookup (wpAny_pure ⟨rfl, q⟩))
theorem slListK {X : Cx} (K : PySem.W.Frag) (e : X.K = K) : SlR X (rSlL K) := by
  subst e
  exact sl_list
/-- *d, d a dict -/
def tStarD (te : TE) (t : TA) : TA := fun σ H Q => te σ H fun x H1 => ∃ p kvs, x = V.ref p ∧ H1 p = some (.dK kvs) ∧ t σ H1 fun ys H2 => Q ((kvs.map fun kv => kV kv.1) ++ ys) H2
theorem pa_starD {e : Expr} {es : List Expr} {te : TE} {t : TA} {p : Pos} (hcalm : X.calm = true) (he : PE X e te) (hr : PA X es t) (hs : starEach (.Starred e p :: es) X.env = (true, eval e X.env) :: starEach es X.env := by rfl) : PA X (.Starred e p :: es) (tStarD te t) := by
  refine ⟨fun pos pins s σ H Q I h => ?_⟩
  refine PySem.W.items_star (thn (he.run pins s σ H _ I h) fun v s1 ⟨y, H1, I1, ry, a, kvs, ey, hx, q⟩ => ?_) hs
  subst ey
  obtain rfl : v = Value.ref a := ry
  refine star_dict hcalm I1 (.inl hx) fun us s2 I2 rv => ?_
  exact thn (hr.run pos pins s2 σ H1 _ I2 q) fun ws s3 ⟨vs, H3, I3, r3, q3⟩ => ⟨_, H3, I3, rv.append r3, q3⟩
end
end TK
set_option maxHeartbeats 1000000
namespace K11
open PySem PySem.Spec PyProof.Rows L2 SX TK
/-! ### the mathematics of a journal, over lists of code points -/
def cks (l : List Nat) : Nat := l.foldl (fun t c => (t * 31 + c) % 9973) 7
def lnL (r : List Nat) : List Nat := r ++ 32 :: TL.numL (cks r)
def sealL (r : List Nat) : List Nat := lnL r ++ [10]
def cat (rows : List (List Nat)) : List Nat := (rows.map sealL).flatten
theorem lnL_free {r : List Nat} (h : 10 ∉ r) : 10 ∉ lnL r := by
  unfold lnL
  rw [List.mem_append, List.mem_cons, not_or, not_or]
  exact ⟨h, by decide, TL.numL_free (.inl (by decide))⟩
theorem hX0' : Txt.split (S []) (S [10]) = [S []] := by decide +kernel
theorem split_cons {a X : List Nat} (h : 10 ∉ a) : Txt.split (S (a ++ 10 :: X)) (S [10]) = S a :: Txt.split (S X) (S [10]) := by
  have j := StrLaws.join_split (S X) (S [10])
  have f := StrLaws.split_free (S X) 10
  have hne : Txt.split (S X) (S [10]) ≠ [] := by
    intro e
    rw [e] at j
    have q := congrArg TL.tl j
    rw [TL.tl_join] at q
    have q2 : X = [] := q.symm
    rw [q2, hX0'] at e
    cases e
  generalize Txt.split (S X) (S [10]) = ps at j f hne ⊢
  have e : Txt.join (S [10]) (S a :: ps) = S (a ++ 10 :: X) := by
    apply TL.ext_tl
    rw [TL.join_eq, TL.tl_join]
    cases ps with
    | nil => exact absurd rfl hne
    | cons p r =>
      have j2 : TL.joinL [10] ((p :: r).map TL.tl) = X := by
        have := congrArg TL.tl j
        rw [TL.tl_join] at this
        exact this
      show TL.tl (S a) ++ ([10] ++ TL.joinL [10] ((p :: r).map TL.tl)) = _
      rw [j2]
      rfl
  rw [← e]
  exact TL.split_join (s := 10) (S := []) rfl (by decide +kernel) (by intro z; cases z) fun p hp => (List.mem_cons.mp hp).elim (fun z => by rw [z]; exact h) (f p)

theorem split_one {a : List Nat} (h : 10 ∉ a) : Txt.split (S a) (S [10]) = [S a] := by
  have e : Txt.join (S [10]) [S a] = S a := by
    apply TL.ext_tl
    rw [TL.join_eq, TL.tl_join]
    rfl
  rw [← e]
  exact (TL.split_join (s := 10) (S := []) rfl (by decide +kernel) (by intro z; cases z) fun p hp => by rw [List.mem_singleton.mp hp]; exact h).trans (by rw [e])
/-- what stands ahead of the last blank of a line -/
theorem told_ln (r : List Nat) : (Txt.rpartition (S (lnL r)) " ").1 = S r := by
  have at_iff : ∀ i, StrLaws.At (S (lnL r)) " " (S (lnL r)).length i ↔ (lnL r)[i]? = some 32 := by
    intro i
    have e := TL.at_iff (x := S (lnL r)) (y := " ") (by show TL.tl " " ≠ []; decide +kernel) i
    refine e.trans ?_
    rw [show TL.tl (" " : Str) = [32] by decide +kernel]
    show (TL.pre [32] ((lnL r).drop i) = true) ↔ _
    have h0 : (lnL r)[i]? = ((lnL r).drop i)[0]? := by rw [List.getElem?_drop]; simp
    rw [h0]
    cases (lnL r).drop i with
    | nil => exact ⟨(fun h => by cases h), (fun h => by cases h)⟩
    | cons a q =>
      show ((((a :: q).take 1) == [32]) = true) ↔ _
      rw [beq_iff_eq]
      show [a] = [32] ↔ some a = some 32
      simp
  have h32 : (lnL r)[r.length]? = some 32 := by
    unfold lnL
    rw [List.getElem?_append_right (Nat.le_refl _), Nat.sub_self]
    rfl
  unfold Txt.rpartition
  rcases StrLaws.last_spec (S (lnL r)) " " with ⟨_, hn⟩ | ⟨i, e, hi, hn⟩
  · exact absurd ((at_iff _).mpr h32) (hn _)
  · rw [e]
    have ei : i = r.length := by
      rcases Nat.lt_trichotomy i r.length with z | z | z
      · exact absurd ((at_iff _).mpr h32) (hn _ z)
      · exact z
      · exfalso
        have q := (at_iff i).mp hi
        unfold lnL at q
        rw [List.getElem?_append_right (Nat.le_of_lt z)] at q
        obtain ⟨k, ek⟩ : ∃ k, i - r.length = k + 1 := ⟨i - r.length - 1, by omega⟩
        rw [ek, List.getElem?_cons_succ] at q
        exact TL.numL_free (.inl (by decide)) (List.mem_of_getElem? q)
    show Builtin.Str.strSub (S (lnL r)) 0 i = S r
    rw [ei]
    apply TL.ext_tl
    show ((S (lnL r)).cps.extract 0 r.length).toList = r
    rw [Array.toList_extract]
    show ((lnL r).take r.length).drop 0 = r
    unfold lnL
    rw [List.drop_zero, List.take_left]
def sealT (z : Str) : Str := Str.empty ++ z ++ " " ++ numS (cks (TL.tl z)) ++ "\n"
theorem tl_seal (z : Str) : TL.tl (sealT z) = sealL (TL.tl z) := by
  unfold sealT sealL lnL
  rw [TL.tl_append, TL.tl_append, TL.tl_append, TL.tl_append, numS_tl (by omega), show TL.tl Str.empty = [] from rfl, show TL.tl (" " : Str) = [32] by decide +kernel, show TL.tl ("\n" : Str) = [10] by decide +kernel]
  simp
/-- the texts of the lines up to the first wrong one -/
def readL : List Str → List Str
  | [] => []
  | l :: r => if sealT (Txt.rpartition l " ").1 = l ++ "\n" then (Txt.rpartition l " ").1 :: readL r else []
def readJ (z : Str) : List Str := readL (Txt.split z "\n").dropLast
theorem nl_S : ("\n" : Str) = S [10] := by decide +kernel
theorem readJ_seal {r X : List Nat} (h : 10 ∉ r) : readJ (S (sealL r ++ X)) = S r :: readJ (S X) := by
  unfold readJ
  rw [nl_S, show sealL r ++ X = lnL r ++ 10 :: X by unfold sealL; simp, split_cons (lnL_free h)]
  have hne : Txt.split (S X) (S [10]) ≠ [] := fun e => by
    have q := congrArg TL.tl (StrLaws.join_split (S X) (S [10]))
    rw [e, TL.tl_join] at q
    have q2 : X = [] := q.symm
    rw [q2, hX0'] at e
    cases e
  rw [List.dropLast_cons_of_ne_nil hne]
  show (if sealT (Txt.rpartition (S (lnL r)) " ").1 = S (lnL r) ++ "\n" then _ else _) = _
  rw [told_ln, if_pos]
  apply TL.ext_tl
  rw [tl_seal, TL.tl_append, nl_S]
  rfl
theorem readJ_free {X : List Nat} (h : 10 ∉ X) : readJ (S X) = [] := by
  unfold readJ
  rw [nl_S, split_one h]
  rfl
theorem cat_cons (r : List Nat) (rs : List (List Nat)) : cat (r :: rs) = sealL r ++ cat rs := rfl
theorem readJ_cat {X : List Nat} : ∀ rows : List (List Nat), (∀ r ∈ rows, 10 ∉ r) → readJ (S (cat rows ++ X)) = rows.map S ++ readJ (S X)
  | [], _ => rfl
  | r :: rs, h => by
    rw [cat_cons, List.append_assoc, readJ_seal (h r (List.mem_cons_self ..)), readJ_cat rs fun q m => h q (List.mem_cons_of_mem _ m)]
    rfl
/-- the rows whose lines stand whole at the front -/
def wholeL : List (List Nat) → List Nat → List (List Nat)
  | [], _ => []
  | r :: rs, t => if t.take (sealL r).length = sealL r then r :: wholeL rs (t.drop (sealL r).length) else []
theorem dec : ∀ (rows : List (List Nat)) (n : Nat), (∀ r ∈ rows, 10 ∉ r) → ∃ k X, k ≤ rows.length ∧ (cat rows).take n = cat (rows.take k) ++ X ∧ 10 ∉ X ∧ wholeL rows ((cat rows).take n) = rows.take k ∧ ∀ j, j ≤ rows.length → (cat (rows.take j)).length ≤ n → j ≤ k
  | [], n, _ => ⟨0, [], Nat.le_refl _, by simp [cat], by simp, rfl, fun j h _ => h⟩
  | r :: rs, n, h => by
    by_cases hn : (sealL r).length ≤ n
    · obtain ⟨k, X, h1, h2, h3, h4, h5⟩ := dec rs (n - (sealL r).length) fun q m => h q (List.mem_cons_of_mem _ m)
      have e : (cat (r :: rs)).take n = sealL r ++ (cat rs).take (n - (sealL r).length) := by
        rw [cat_cons, List.take_append, List.take_of_length_le hn]
      refine ⟨k + 1, X, Nat.succ_le_succ h1, ?_, h3, ?_, fun j hj hl => ?_⟩
      · rw [e, h2, List.take_succ_cons, cat_cons, List.append_assoc]
      · rw [e]
        show (if (sealL r ++ _).take (sealL r).length = sealL r then _ else _) = _
        rw [List.take_left, if_pos rfl, List.drop_left, h4]
        rfl
      · cases j with
        | zero => exact Nat.zero_le _
        | succ j =>
          rw [List.take_succ_cons, cat_cons, List.length_append] at hl
          exact Nat.succ_le_succ (h5 j (Nat.le_of_succ_le_succ hj) (by omega))
    · have hn2 : n ≤ (lnL r).length := by
        have : (sealL r).length = (lnL r).length + 1 := by unfold sealL; rw [List.length_append]; rfl
        omega
      have e : (cat (r :: rs)).take n = (lnL r).take n := by
        rw [cat_cons]
        unfold sealL
        rw [List.append_assoc, List.take_append_of_le_length hn2]
      refine ⟨0, (lnL r).take n, Nat.zero_le _, by rw [e]; rfl, fun m => lnL_free (h r (List.mem_cons_self ..)) (List.mem_of_mem_take m), ?_, fun j hj hl => ?_⟩
      · rw [e]
        show (if ((lnL r).take n).take (sealL r).length = sealL r then _ else _) = _
        refine (if_neg fun z => ?_).trans rfl
        have := congrArg List.length z
        rw [List.length_take, List.length_take] at this
        omega
      · cases j with
        | zero => exact Nat.zero_le _
        | succ j =>
          rw [List.take_succ_cons, cat_cons, List.length_append] at hl
          omega
theorem count10 : ∀ (rows : List (List Nat)) (X : List Nat), (∀ r ∈ rows, 10 ∉ r) → 10 ∉ X → (cat rows ++ X).count 10 = rows.length
  | [], X, _, hx => List.count_eq_zero.mpr hx
  | r :: rs, X, h, hx => by
    rw [cat_cons, List.append_assoc, List.count_append, count10 rs X (fun q m => h q (List.mem_cons_of_mem _ m)) hx]
    unfold sealL
    rw [List.count_append, List.count_eq_zero.mpr (lnL_free (h r (List.mem_cons_self ..)))]
    show 0 + 1 + rs.length = rs.length + 1
    omega
theorem count_S (l : List Nat) : Txt.count (S l) "\n" = ((l.count 10 : Nat) : Int) := by
  rw [nl_S]
  refine (count_is (S l) 10).trans ?_
  show countIn _ (l.map fun n => PyData.str ⟨#[n]⟩) = _
  rw [countIn_signs_sum]
  induction l with
  | nil => rfl
  | cons a r ih =>
    rw [List.map_cons, List.sum_cons, ih, List.count_cons]
    by_cases h : a = 10
    · rw [if_pos (decide_eq_true h), if_pos (by rw [h]; rfl)]
      omega
    · rw [if_neg (by rw [decide_eq_false h]; exact Bool.false_ne_true), if_neg (by simpa using h)]
      omega
end K11
set_option maxHeartbeats 1000000
namespace LD
open PySem PySem.Spec PyProof.Rows L2 SX TK
/-! ### the mathematics of a ledger: its records, what stands in it -/
inductive Rc where
  | op (n : Int) (c a : Str) (t : Int)
  | cl (n e k : Int)
structure Un where
  n : Int
  c : Str
  a : Str
  t : Int
structure Bi where
  n : Int
  c : Str
  a : Str
  t : Int
  e : Int
  k : Int
def Un.kv (u : Un) : Int × List V := (u.n, [.str u.c, .str u.a, .int u.t])
def Bi.v (b : Bi) : List V := [.int b.n, .str b.c, .str b.a, .int b.t, .int b.e, .int b.k]
def Bi.kv (b : Bi) : Int × List V := (b.n, b.v)
structure Lg where
  un : List Un
  fi : List Bi
def toBi (u : Un) (e k : Int) : Bi := ⟨u.n, u.c, u.a, u.t, e, k⟩
def Lg.step (S : Lg) : Rc → Lg
  | .op n c a t => ⟨S.un ++ [⟨n, c, a, t⟩], S.fi⟩
  | .cl n e k => match S.un.find? (fun u => decide (u.n = n)) with
    | some u => ⟨S.un.filter (fun x => decide (x.n ≠ n)), S.fi ++ [⟨n, u.c, u.a, u.t, e, k⟩]⟩
    | none => S
theorem step_cl (S : Lg) (n e k : Int) : S.step (.cl n e k) = match S.un.find? (fun u => decide (u.n = n)) with
    | some u => ⟨S.un.filter (fun x => decide (x.n ≠ n)), S.fi ++ [⟨n, u.c, u.a, u.t, e, k⟩]⟩
    | none => S := rfl
theorem any_find {α : Type} (p : α → Bool) (l : List α) : (l.find? p).isSome = l.any p := by
  rw [Bool.eq_iff_iff, List.find?_isSome, List.any_eq_true]
def Lg.opens (S : Lg) (n : Int) : Bool := S.un.any fun u => decide (u.n = n)
def Lg.knows (S : Lg) (n : Int) : Bool := S.opens n || S.fi.any fun b => decide (b.n = n)
def Lg.legal (S : Lg) : Rc → Bool
  | .op n .. => !S.knows n
  | .cl n .. => S.opens n
def st (rs : List Rc) : Lg := rs.foldl Lg.step ⟨[], []⟩
theorem st_snoc (rs : List Rc) (r : Rc) : st (rs ++ [r]) = (st rs).step r := by
  unfold st
  rw [List.foldl_append]
  rfl
theorem un_len (rs : List Rc) : (st rs).un.length ≤ rs.length ∧ (st rs).fi.length ≤ rs.length := by
  have one : ∀ (S : Lg) (r : Rc), (S.step r).un.length ≤ S.un.length + 1 ∧ (S.step r).fi.length ≤ S.fi.length + 1 := by
    intro S r
    cases r with
    | op n c a t => exact ⟨by show (S.un ++ _).length ≤ _; rw [List.length_append]; exact Nat.le_refl _, Nat.le_succ _⟩
    | cl n e k =>
      rw [step_cl]
      cases S.un.find? (fun u => decide (u.n = n)) with
      | none => exact ⟨Nat.le_succ _, Nat.le_succ _⟩
      | some u => exact ⟨Nat.le_succ_of_le (List.length_filter_le _ _), by show (S.fi ++ _).length ≤ _; rw [List.length_append]; exact Nat.le_refl _⟩
  have key : ∀ i, i ≤ rs.length → (st (rs.take i)).un.length ≤ i ∧ (st (rs.take i)).fi.length ≤ i := by
    intro i
    induction i with
    | zero => exact fun _ => ⟨Nat.le_refl _, Nat.le_refl _⟩
    | succ i ih =>
      intro hi
      have e : rs[i]? = some rs[i] := List.getElem?_eq_getElem (by omega)
      rw [List.take_add_one, e]
      show (st (rs.take i ++ [rs[i]])).un.length ≤ _ ∧ (st (rs.take i ++ [rs[i]])).fi.length ≤ _
      rw [st_snoc]
      have := one (st (rs.take i)) rs[i]
      have := ih (by omega)
      omega
  have := key rs.length (Nat.le_refl _)
  rw [List.take_length] at this
  exact this
def Good (rs : List Rc) : Prop := ∀ i r, rs[i]? = some r → (st (rs.take i)).legal r = true
theorem Good.nil : Good [] := fun i r h => by simp at h
theorem Good.snoc {rs : List Rc} {r : Rc} (h : Good rs) (k : (st rs).legal r = true) : Good (rs ++ [r]) := by
  intro i x hx
  by_cases hi : i < rs.length
  · rw [List.getElem?_append_left hi] at hx
    rw [List.take_append_of_le_length (by omega)]
    exact h i x hx
  · rw [List.getElem?_append_right (by omega)] at hx
    have e : i = rs.length := by
      by_cases q : i - rs.length = 0
      · omega
      · rw [List.getElem?_eq_none (by show 1 ≤ _; omega)] at hx
        cases hx
    subst e
    rw [Nat.sub_self] at hx
    obtain rfl : r = x := Option.some.inj hx
    rw [List.take_left]
    exact k
theorem Good.take {rs : List Rc} (h : Good rs) (m : Nat) : Good (rs.take m) := by
  intro i x hx
  rw [List.getElem?_take] at hx
  split at hx
  · rename_i hi
    rw [List.take_take, Nat.min_eq_left (by omega)]
    exact h i x hx
  · cases hx
def Disj (S : Lg) : Prop := ∀ u ∈ S.un, ∀ b ∈ S.fi, u.n ≠ b.n
theorem Disj.step {S : Lg} {r : Rc} (h : Disj S) (k : S.legal r = true) : Disj (S.step r) := by
  cases r with
  | op n c a t =>
    have k1 : (S.un.any fun u => decide (u.n = n)) = false ∧ (S.fi.any fun b => decide (b.n = n)) = false := by
      have : (!(S.opens n || S.fi.any fun b => decide (b.n = n))) = true := k
      rw [Bool.not_eq_true', Bool.or_eq_false_iff] at this
      exact this
    intro u hu b hb
    rcases List.mem_append.mp hu with z | z
    · exact h u z b hb
    · rw [List.mem_singleton.mp z]
      intro e
      have := List.any_eq_false.mp k1.2 b hb
      exact this (decide_eq_true e.symm)
  | cl n e k =>
    rw [step_cl]
    cases q : S.un.find? (fun u => decide (u.n = n)) with
    | none => exact h
    | some u =>
      intro x hx b hb
      obtain ⟨h1, h2⟩ := List.mem_filter.mp hx
      rcases List.mem_append.mp hb with z | z
      · exact h x h1 b z
      · rw [List.mem_singleton.mp z]
        exact of_decide_eq_true h2
theorem Good.disj : ∀ {rs : List Rc}, Good rs → Disj (st rs) := by
  intro rs h
  have key : ∀ i, i ≤ rs.length → Disj (st (rs.take i)) := by
    intro i
    induction i with
    | zero => exact fun _ u hu => by cases hu
    | succ i ih =>
      intro hi
      have e : rs[i]? = some rs[i] := List.getElem?_eq_getElem (by omega)
      rw [List.take_add_one, e]
      show Disj (st (rs.take i ++ [rs[i]]))
      rw [st_snoc]
      exact (ih (by omega)).step (h i _ e)
  have := key rs.length (Nat.le_refl _)
  rw [List.take_length] at this
  exact this
/-- what a reader of records takes -/
def eat (rs : List Rc) : Option Rc → List Rc
  | some r => if (st rs).legal r = true then rs ++ [r] else rs
  | none => rs
def eats (os : List (Option Rc)) : List Rc := os.foldl eat []
theorem eats_snoc (os : List (Option Rc)) (o : Option Rc) : eats (os ++ [o]) = eat (eats os) o := by
  unfold eats
  rw [List.foldl_append]
  rfl
theorem eat_good {rs : List Rc} (h : Good rs) (o : Option Rc) : Good (eat rs o) := by
  unfold eat
  cases o with
  | none => exact h
  | some r =>
    dsimp only
    split
    · rename_i k
      exact h.snoc k
    · exact h
theorem eats_good {rs : List Rc} (h : Good rs) : eats (rs.map some) = rs := by
  have key : ∀ i, i ≤ rs.length → eats ((rs.take i).map some) = rs.take i := by
    intro i
    induction i with
    | zero => exact fun _ => rfl
    | succ i ih =>
      intro hi
      have e : rs[i]? = some rs[i] := List.getElem?_eq_getElem (by omega)
      rw [List.take_add_one, e]
      show eats ((rs.take i ++ [rs[i]]).map some) = rs.take i ++ [rs[i]]
      rw [List.map_append]
      show eats (_ ++ [some rs[i]]) = _
      rw [eats_snoc, ih (by omega)]
      exact if_pos (h i _ e)
  have := key rs.length (Nat.le_refl _)
  rw [List.take_length] at this
  exact this
theorem sort_uniq {a b : List Int} (p : a.Perm b) (ha : a.Pairwise (· ≤ ·)) (hb : b.Pairwise (· < ·)) : a = b :=
  List.Perm.eq_of_pairwise (le := (· ≤ ·)) (fun _ _ _ _ h1 h2 => Int.le_antisymm h1 h2) ha (hb.imp Int.le_of_lt) p
/-- closing all that is open, in any order of different numbers -/
def clR (g : Un → Int × Int) (u : Un) : Rc := .cl u.n (g u).1 (g u).2
theorem fold_cl (g : Un → Int × Int) : ∀ (us : List Un) (S : Lg), S.un.Perm us → (us.map (·.n)).Pairwise (· < ·) → (us.map (clR g)).foldl Lg.step S = ⟨[], S.fi ++ us.map fun u => toBi u (g u).1 (g u).2⟩
  | [], S, h, _ => by
    obtain ⟨un, fi⟩ := S
    have : un = [] := List.Perm.eq_nil h
    subst this
    show (⟨[], fi⟩ : Lg) = ⟨[], fi ++ []⟩
    rw [List.append_nil]
  | u :: r, S, h, hp => by
    rw [List.map_cons, List.pairwise_cons] at hp
    have hn : ∀ x ∈ r, x.n ≠ u.n := fun x hx => by
      have := hp.1 x.n (List.mem_map.mpr ⟨x, hx, rfl⟩)
      omega
    have hf : S.un.find? (fun x => decide (x.n = u.n)) = some u := by
      cases q : S.un.find? (fun x => decide (x.n = u.n)) with
      | none =>
        have := List.find?_eq_none.mp q u (h.symm.subset (List.mem_cons_self ..))
        exact absurd (decide_eq_true rfl) this
      | some x =>
        have h1 := List.mem_of_find?_eq_some q
        have h2 : x.n = u.n := by simpa using List.find?_some (p := fun (x : Un) => decide (x.n = u.n)) q
        rcases List.mem_cons.mp (h.subset h1) with z | z
        · rw [z]
        · exact absurd h2 (hn x z)
    have hs : S.step (clR g u) = ⟨S.un.filter (fun x => decide (x.n ≠ u.n)), S.fi ++ [toBi u (g u).1 (g u).2]⟩ := by
      unfold clR
      rw [step_cl, hf]
      rfl
    have hp2 : (S.un.filter (fun x => decide (x.n ≠ u.n))).Perm r := by
      refine (h.filter _).trans ?_
      rw [List.filter_cons_of_neg (by simp), List.filter_eq_self.mpr fun x hx => decide_eq_true (hn x hx)]
    rw [List.map_cons, List.foldl_cons, hs, fold_cl g r _ hp2 hp.2]
    show (⟨[], (S.fi ++ [toBi u (g u).1 (g u).2]) ++ _⟩ : Lg) = _
    rw [List.append_assoc]
    rfl
/-- closing the first of what is open -/
theorem cl_step (g : Un → Int × Int) {S : Lg} {u : Un} {r : List Un} (h : S.un.Perm (u :: r)) (hn : ∀ x ∈ r, x.n ≠ u.n) : S.un.find? (fun x => decide (x.n = u.n)) = some u ∧ (S.step (clR g u)).un.Perm r ∧ S.legal (clR g u) = true := by
  have hf : S.un.find? (fun x => decide (x.n = u.n)) = some u := by
    cases q : S.un.find? (fun x => decide (x.n = u.n)) with
    | none =>
      have := List.find?_eq_none.mp q u (h.symm.subset (List.mem_cons_self ..))
      exact absurd (decide_eq_true rfl) this
    | some x =>
      have h1 := List.mem_of_find?_eq_some q
      have h2 : x.n = u.n := by simpa using List.find?_some (p := fun (x : Un) => decide (x.n = u.n)) q
      rcases List.mem_cons.mp (h.subset h1) with z | z
      · rw [z]
      · exact absurd h2 (hn x z)
  refine ⟨hf, ?_, ?_⟩
  · unfold clR
    rw [step_cl, hf]
    refine (h.filter _).trans ?_
    rw [List.filter_cons_of_neg (by simp), List.filter_eq_self.mpr fun x hx => decide_eq_true (hn x hx)]
  · show (S.un.any fun x => decide (x.n = u.n)) = true
    rw [← any_find, hf]
    rfl
theorem cl_some (g : Un → Int × Int) {rs : List Rc} {us : List Un} (hg : Good rs) (h : us.Perm (st rs).un) (hp : (us.map (·.n)).Pairwise (· < ·)) : ∀ i, i ≤ us.length → Good (rs ++ (us.take i).map (clR g)) ∧ (st (rs ++ (us.take i).map (clR g))).un.Perm (us.drop i) := by
  intro i
  induction i with
  | zero =>
    intro _
    show Good (rs ++ []) ∧ (st (rs ++ [])).un.Perm us
    rw [List.append_nil]
    exact ⟨hg, h.symm⟩
  | succ i ih =>
    intro hi
    obtain ⟨g1, p1⟩ := ih (by omega)
    rw [List.drop_eq_getElem_cons (show i < us.length by omega)] at p1
    have hn : ∀ x ∈ us.drop (i + 1), x.n ≠ us[i].n := fun x hx => by
      obtain ⟨k, hk, ek⟩ := List.mem_iff_getElem.mp hx
      rw [List.length_drop] at hk
      rw [List.getElem_drop] at ek
      have := List.pairwise_iff_getElem.mp hp i (i + 1 + k) (by rw [List.length_map]; omega) (by rw [List.length_map]; omega) (by omega)
      rw [List.getElem_map, List.getElem_map, ek] at this
      omega
    obtain ⟨_, a2, a3⟩ := cl_step g p1 hn
    have e : rs ++ (us.take (i + 1)).map (clR g) = (rs ++ (us.take i).map (clR g)) ++ [clR g us[i]] := by
      rw [List.take_add_one, List.getElem?_eq_getElem (show i < us.length by omega)]
      show rs ++ (us.take i ++ [us[i]]).map (clR g) = _
      rw [List.map_append, ← List.append_assoc]
      rfl
    rw [e, st_snoc]
    exact ⟨g1.snoc a3, a2⟩
theorem cl_find (g : Un → Int × Int) {rs : List Rc} {us : List Un} (hg : Good rs) (h : us.Perm (st rs).un) (hp : (us.map (·.n)).Pairwise (· < ·)) {i : Nat} (hi : i < us.length) : (st (rs ++ (us.take i).map (clR g))).un.find? (fun x => decide (x.n = us[i].n)) = some us[i] := by
  obtain ⟨_, p1⟩ := cl_some g hg h hp i (Nat.le_of_lt hi)
  rw [List.drop_eq_getElem_cons hi] at p1
  refine (cl_step g p1 fun x hx => ?_).1
  obtain ⟨k, hk, ek⟩ := List.mem_iff_getElem.mp hx
  rw [List.length_drop] at hk
  rw [List.getElem_drop] at ek
  have := List.pairwise_iff_getElem.mp hp i (i + 1 + k) (by rw [List.length_map]; omega) (by rw [List.length_map]; omega) (by omega)
  rw [List.getElem_map, List.getElem_map, ek] at this
  omega
theorem st_all (g : Un → Int × Int) {rs : List Rc} {us : List Un} (h : us.Perm (st rs).un) (hp : (us.map (·.n)).Pairwise (· < ·)) : st (rs ++ us.map (clR g)) = ⟨[], (st rs).fi ++ us.map fun u => toBi u (g u).1 (g u).2⟩ := by
  unfold st
  rw [List.foldl_append]
  exact fold_cl g us _ h.symm hp
/-! ### a dict at an address -/
def DAt (H : Hp) : List (Key × V) → List (Int × List V) → Prop
  | [], [] => True
  | kv :: r, x :: r2 => kv.1 = Sum.inl x.1 ∧ (∃ t, kv.2 = .ref t ∧ H t = some (.tup x.2)) ∧ DAt H r r2
  | _, _ => False
theorem DAt.mono {H H' : Hp} (s : ∀ x b, H x = some (.tup b) → H' x = some (.tup b)) : ∀ {a : List (Key × V)} {b : List (Int × List V)}, DAt H a b → DAt H' a b
  | [], [], _ => trivial
  | _ :: _, _ :: _, ⟨h1, ⟨t, h2, h3⟩, h4⟩ => ⟨h1, ⟨t, h2, s _ _ h3⟩, DAt.mono s h4⟩
  | [], _ :: _, h => h
  | _ :: _, [], h => h
theorem DAt.len {H : Hp} : ∀ {a : List (Key × V)} {b : List (Int × List V)}, DAt H a b → a.length = b.length
  | [], [], _ => rfl
  | _ :: _, _ :: _, ⟨_, _, h⟩ => congrArg Nat.succ (DAt.len h)
  | [], _ :: _, h => h.elim
  | _ :: _, [], h => h.elim
theorem DAt.keys {H : Hp} : ∀ {a : List (Key × V)} {b : List (Int × List V)}, DAt H a b → a.map (·.1) = (b.map (·.1)).map Sum.inl
  | [], [], _ => rfl
  | _ :: _, _ :: _, ⟨h1, _, h⟩ => by
    rw [List.map_cons, List.map_cons, List.map_cons, DAt.keys h, h1]
  | [], _ :: _, h => h.elim
  | _ :: _, [], h => h.elim
theorem DAt.keyVs {H : Hp} {a : List (Key × V)} {b : List (Int × List V)} (h : DAt H a b) : (a.map fun kv => kV kv.1) = (b.map (·.1)).map V.int := by
  have e := congrArg (List.map kV) h.keys
  rw [List.map_map, List.map_map] at e
  exact e
theorem DAt.val {H : Hp} (n : Int) : ∀ {a : List (Key × V)} {b : List (Int × List V)}, DAt H a b → (b.find? (fun x => decide (x.1 = n)) = none ∧ valV a (Sum.inl n) = none) ∨ ∃ x t, b.find? (fun x => decide (x.1 = n)) = some x ∧ valV a (Sum.inl n) = some (.ref t) ∧ H t = some (.tup x.2)
  | [], [], _ => .inl ⟨rfl, rfl⟩
  | kv :: r, x :: r2, ⟨h1, ⟨t, h2, h3⟩, h⟩ => by
    by_cases q : x.1 = n
    · refine .inr ⟨x, t, by rw [List.find?_cons_of_pos (by simp [q])], ?_, h3⟩
      rw [valV_pos (by rw [h1, q]), h2]
    · rw [List.find?_cons_of_neg (by simp [q]), valV_neg (by rw [h1]; exact fun z => q (Sum.inl.inj z))]
      exact DAt.val n h
  | [], _ :: _, h => h.elim
  | _ :: _, [], h => h.elim
theorem DAt.some_ {H : Hp} (n : Int) {a : List (Key × V)} {b : List (Int × List V)} (h : DAt H a b) : (valV a (Sum.inl n)).isSome = b.any fun x => decide (x.1 = n) := by
  rw [← any_find]
  rcases h.val n with ⟨e1, e2⟩ | ⟨x, t, e1, e2, _⟩
  · rw [e1, e2]; rfl
  · rw [e1, e2]; rfl
theorem DAt.snoc {H : Hp} {t : Addr} {x : Int × List V} (ht : H t = some (.tup x.2)) : ∀ {a : List (Key × V)} {b : List (Int × List V)}, DAt H a b → DAt H (a ++ [(Sum.inl x.1, .ref t)]) (b ++ [x])
  | [], [], _ => ⟨rfl, ⟨t, rfl, ht⟩, trivial⟩
  | _ :: _, _ :: _, ⟨h1, h2, h⟩ => ⟨h1, h2, DAt.snoc ht h⟩
  | [], _ :: _, h => h.elim
  | _ :: _, [], h => h.elim
theorem DAt.put {H : Hp} {t : Addr} {x : Int × List V} {a : List (Key × V)} {b : List (Int × List V)} (h : DAt H a b) (ht : H t = some (.tup x.2)) (hn : (b.any fun y => decide (y.1 = x.1)) = false) : DAt H (putK a (Sum.inl x.1) (.ref t)) (b ++ [x]) := by
  have e := h.some_ x.1
  rw [hn] at e
  have e2 : valV a (Sum.inl x.1) = none := by
    cases q : valV a (Sum.inl x.1) with
    | none => rfl
    | some v => rw [q] at e; cases e
  rw [putK_new _ e2]
  exact h.snoc ht
theorem DAt.drop {H : Hp} (n : Int) : ∀ {a : List (Key × V)} {b : List (Int × List V)}, DAt H a b → DAt H (dropK a (Sum.inl n)) (b.filter fun x => decide (x.1 ≠ n))
  | [], [], _ => trivial
  | kv :: r, x :: r2, ⟨h1, h2, h⟩ => by
    have ih := DAt.drop n h
    unfold dropK at *
    by_cases q : x.1 = n
    · rw [List.filter_cons_of_neg (by rw [h1, q]; simp), List.filter_cons_of_neg (by simp [q])]
      exact ih
    · rw [List.filter_cons_of_pos (by rw [h1]; exact decide_eq_true fun z => q (Sum.inl.inj z)), List.filter_cons_of_pos (by simp [q])]
      exact ⟨h1, h2, ih⟩
  | [], _ :: _, h => h.elim
  | _ :: _, [], h => h.elim
end LD
set_option maxHeartbeats 1000000
namespace LD
open PySem PySem.Spec PyProof.Rows L2 SX TK
/-! ### the law's rows beside a ledger -/
structure Rw where
  n : Int
  t : Int
  e : Option (Int × Int × Nat)
  f : Bool
def bobS (n : Int) : Str := "bob" ++ numS n ++ "@x"
def Rw.un (r : Rw) : Un := ⟨r.n, "ann@x", bobS r.n, r.t⟩
def unC (r : Rw) (x : Int × Int × Nat) : Bi := toBi r.un x.1 x.2.1
def closedOf (R : List Rw) : List Bi := R.filterMap fun r => r.e.map (unC r)
def openOf (R : List Rw) : List Un := R.filterMap fun r => if r.e.isNone = true then some r.un else none
structure Agr (S : Lg) (R : List Rw) : Prop where
  f : S.fi.Perm (closedOf R)
  u : S.un.Perm (openOf R)
def Inc (R : List Rw) : Prop := (R.map (·.n)).Pairwise (· < ·)
theorem closedOf_app (A B : List Rw) : closedOf (A ++ B) = closedOf A ++ closedOf B := List.filterMap_append ..
theorem openOf_app (A B : List Rw) : openOf (A ++ B) = openOf A ++ openOf B := List.filterMap_append ..
theorem closed1 (r : Rw) : closedOf [r] = match r.e with | some x => [unC r x] | none => [] := by
  unfold closedOf
  cases h : r.e with
  | none => rw [List.filterMap_cons_none (by rw [h]; rfl)]; rfl
  | some x => rw [List.filterMap_cons_some (by rw [h]; rfl)]; rfl
theorem open1 (r : Rw) : openOf [r] = match r.e with | some _ => [] | none => [r.un] := by
  unfold openOf
  cases h : r.e with
  | none => rw [List.filterMap_cons_some (by rw [h]; rfl)]; rfl
  | some x => rw [List.filterMap_cons_none (by rw [h]; rfl)]; rfl
theorem agr_op {S : Lg} {R : List Rw} (h : Agr S R) (n t : Int) : Agr (S.step (.op n "ann@x" (bobS n) t)) (R ++ [⟨n, t, none, false⟩]) := by
  refine ⟨?_, ?_⟩
  · rw [closedOf_app, closed1, List.append_nil]
    exact h.f
  · rw [openOf_app, open1]
    exact h.u.append_right _
theorem mem_open {R : List Rw} {u : Un} (h : u ∈ openOf R) : ∃ r ∈ R, u = r.un ∧ r.e = none := by
  obtain ⟨r, hr, e⟩ := List.mem_filterMap.mp h
  split at e
  · rename_i q
    exact ⟨r, hr, (Option.some.inj e).symm, Option.isNone_iff_eq_none.mp q⟩
  · cases e
theorem mem_closed {R : List Rw} {b : Bi} (h : b ∈ closedOf R) : ∃ r ∈ R, ∃ x, r.e = some x ∧ b = unC r x := by
  obtain ⟨r, hr, e⟩ := List.mem_filterMap.mp h
  cases q : r.e with
  | none => rw [q] at e; cases e
  | some x => rw [q] at e; exact ⟨r, hr, x, q, (Option.some.inj e).symm⟩
theorem agr_cl {S : Lg} {A B : List Rw} {r : Rw} (h : Agr S (A ++ r :: B)) (hi : Inc (A ++ r :: B)) (he : r.e = none) (e k : Int) (m : Nat) (f : Bool) :
    S.un.find? (fun x => decide (x.n = r.n)) = some r.un ∧ Agr (S.step (.cl r.n e k)) (A ++ { r with e := some (e, k, m), f := f } :: B) := by
  have hA : ∀ x ∈ A, x.n ≠ r.n := fun x hx => by
    unfold Inc at hi
    rw [List.map_append, List.pairwise_append] at hi
    have := hi.2.2 x.n (List.mem_map.mpr ⟨x, hx, rfl⟩) r.n (List.mem_map.mpr ⟨r, List.mem_cons_self .., rfl⟩)
    omega
  have hB : ∀ x ∈ B, x.n ≠ r.n := fun x hx => by
    unfold Inc at hi
    rw [List.map_append, List.pairwise_append, List.map_cons, List.pairwise_cons] at hi
    have := hi.2.1.1 x.n (List.mem_map.mpr ⟨x, hx, rfl⟩)
    omega
  have e1 : openOf (A ++ r :: B) = openOf A ++ r.un :: openOf B := by
    rw [show r :: B = [r] ++ B from rfl, openOf_app, openOf_app, open1, he]
    rfl
  have hp : S.un.Perm (r.un :: (openOf A ++ openOf B)) := h.u.trans (by rw [e1]; exact List.perm_middle)
  have hn : ∀ x ∈ openOf A ++ openOf B, x.n ≠ r.un.n := fun x hx => by
    rcases List.mem_append.mp hx with z | z
    · obtain ⟨y, hy, rfl, _⟩ := mem_open z
      exact hA y hy
    · obtain ⟨y, hy, rfl, _⟩ := mem_open z
      exact hB y hy
  obtain ⟨c1, c2, _⟩ := cl_step (fun _ => (e, k)) hp hn
  refine ⟨c1, ?_, ?_⟩
  · rw [step_cl]
    have c1' : S.un.find? (fun x => decide (x.n = r.n)) = some r.un := c1
    rw [c1']
    have e2 : closedOf (A ++ { r with e := some (e, k, m), f := f } :: B) = closedOf A ++ (⟨r.n, "ann@x", bobS r.n, r.t, e, k⟩ : Bi) :: closedOf B := by
      rw [show ({ r with e := some (e, k, m), f := f } : Rw) :: B = [({ r with e := some (e, k, m), f := f } : Rw)] ++ B from rfl, closedOf_app, closedOf_app, closed1]
      rfl
    have e3 : closedOf (A ++ r :: B) = closedOf A ++ closedOf B := by
      rw [show r :: B = [r] ++ B from rfl, closedOf_app, closedOf_app, closed1, he]
      rfl
    rw [e2]
    have hf := h.f
    rw [e3] at hf
    show (S.fi ++ [(⟨r.n, "ann@x", bobS r.n, r.t, e, k⟩ : Bi)]).Perm _
    exact (hf.append_right _).trans (List.perm_append_comm.trans (show ((⟨r.n, "ann@x", bobS r.n, r.t, e, k⟩ : Bi) :: (closedOf A ++ closedOf B)).Perm _ from List.perm_middle.symm))
  · have e2 : openOf (A ++ { r with e := some (e, k, m), f := f } :: B) = openOf A ++ openOf B := by
      rw [show ({ r with e := some (e, k, m), f := f } : Rw) :: B = [({ r with e := some (e, k, m), f := f } : Rw)] ++ B from rfl, openOf_app, openOf_app, open1]
      rfl
    rw [e2]
    exact c2
/-- what a row was ahead of the record m -/
def cutR (m : Nat) (r : Rw) : Rw := match r.e with
  | some (_, _, i) => if i < m then r else { r with e := none }
  | none => r
theorem cut_n (m : Nat) (r : Rw) : (cutR m r).n = r.n ∧ (cutR m r).t = r.t := by
  unfold cutR
  split
  · split
    · exact ⟨rfl, rfl⟩
    · exact ⟨rfl, rfl⟩
  · exact ⟨rfl, rfl⟩
theorem inc_cut {m : Nat} {R : List Rw} (h : Inc R) : Inc (R.map (cutR m)) := by
  unfold Inc at *
  rw [List.map_map, show ((·.n) ∘ cutR m : Rw → Int) = (·.n) from funext fun r => (cut_n m r).1]
  exact h
theorem fm_pw {R : List Rw} (h : Inc R) {α : Type} (f : Rw → Option α) (g : α → Int) (hg : ∀ r a, f r = some a → g a = r.n) : ((R.filterMap f).map g).Pairwise (· < ·) := by
  induction R with
  | nil => exact .nil
  | cons r q ih =>
    unfold Inc at h ih
    rw [List.map_cons, List.pairwise_cons] at h
    cases e : f r with
    | none =>
      rw [List.filterMap_cons_none e]
      exact ih h.2
    | some a =>
      rw [List.filterMap_cons_some e, List.map_cons, List.pairwise_cons]
      refine ⟨fun y hy => ?_, ih h.2⟩
      obtain ⟨b, hb, rfl⟩ := List.mem_map.mp hy
      obtain ⟨x, hx, ex⟩ := List.mem_filterMap.mp hb
      rw [hg r a e, hg x b ex]
      exact h.1 x.n (List.mem_map.mpr ⟨x, hx, rfl⟩)
theorem closed_pw {R : List Rw} (h : Inc R) : ((closedOf R).map (·.n)).Pairwise (· < ·) := fm_pw h _ _ fun r a e => by
  cases q : r.e with
  | none => rw [q] at e; cases e
  | some x => rw [q] at e; rw [← Option.some.inj e]; rfl
theorem open_pw {R : List Rw} (h : Inc R) : ((openOf R).map (·.n)).Pairwise (· < ·) := fm_pw h _ _ fun r a e => by
  split at e
  · rw [← Option.some.inj e]; rfl
  · cases e
/-- all bills, the open ones closed by g -/
def billOf (g : Un → Int × Int) (r : Rw) : Bi := match r.e with
  | some x => unC r x
  | none => toBi r.un (g r.un).1 (g r.un).2
theorem bills_perm (g : Un → Int × Int) : ∀ R : List Rw, (closedOf R ++ (openOf R).map fun u => toBi u (g u).1 (g u).2).Perm (R.map (billOf g))
  | [] => .nil
  | r :: q => by
    have ih := bills_perm g q
    rw [show r :: q = [r] ++ q from rfl, closedOf_app, openOf_app, closed1, open1, List.map_append, List.map_append]
    cases e : r.e with
    | some x =>
      show (unC r x :: (closedOf q) ++ ([] ++ _)).Perm (billOf g r :: _)
      have : billOf g r = unC r x := by unfold billOf; rw [e]
      rw [this]
      exact ih.cons _
    | none =>
      have : billOf g r = toBi r.un (g r.un).1 (g r.un).2 := by unfold billOf; rw [e]
      show (([] ++ closedOf q) ++ (toBi r.un (g r.un).1 (g r.un).2 :: _)).Perm (billOf g r :: _)
      rw [this]
      exact List.perm_middle.trans (ih.cons _)
theorem bill_n (g : Un → Int × Int) (r : Rw) : (billOf g r).n = r.n := by
  unfold billOf
  split <;> rfl
theorem len_open (R : List Rw) : (openOf R).length ≤ R.length := List.length_filterMap_le _ _
theorem len_closed (R : List Rw) : (closedOf R).length ≤ R.length := List.length_filterMap_le _ _
theorem opens_iff {S : Lg} {R : List Rw} (h : Agr S R) (n : Int) : S.opens n = true ↔ ∃ r ∈ R, r.n = n ∧ r.e = none := by
  unfold Lg.opens
  rw [List.any_eq_true]
  constructor
  · rintro ⟨u, hu, e⟩
    obtain ⟨r, hr, rfl, q⟩ := mem_open (h.u.subset hu)
    exact ⟨r, hr, of_decide_eq_true e, q⟩
  · rintro ⟨r, hr, e, q⟩
    refine ⟨r.un, h.u.symm.subset (List.mem_filterMap.mpr ⟨r, hr, by rw [q]; rfl⟩), decide_eq_true e⟩
theorem knows_iff {S : Lg} {R : List Rw} (h : Agr S R) (n : Int) : S.knows n = true ↔ ∃ r ∈ R, r.n = n := by
  unfold Lg.knows
  rw [Bool.or_eq_true, opens_iff h, List.any_eq_true]
  constructor
  · rintro (⟨r, hr, e, _⟩ | ⟨b, hb, e⟩)
    · exact ⟨r, hr, e⟩
    · obtain ⟨r, hr, x, q, rfl⟩ := mem_closed (h.f.subset hb)
      exact ⟨r, hr, of_decide_eq_true e⟩
  · rintro ⟨r, hr, e⟩
    cases q : r.e with
    | none => exact .inl ⟨r, hr, e, q⟩
    | some x => exact .inr ⟨unC r x, h.f.symm.subset (List.mem_filterMap.mpr ⟨r, hr, by rw [q]; rfl⟩), decide_eq_true e⟩
end LD
set_option maxHeartbeats 1000000
set_option pp.maxSteps 500
namespace K12
open PySem PySem.Spec PyProof.Rows L2 SX TK NdefX K11 LD
open C8 (pe_c)
def top (i : Nat) : Stmt := PySem.Challenge.pw_trunkland_k12_bills.main.body.getD i (.Pass ⟨0, 0, 0, 0⟩)
abbrev s_Journal___init : Stmt := inClass (top 4) 0
abbrev s_Journal_append : Stmt := inClass (top 4) 1
abbrev s_Journal_sync : Stmt := inClass (top 4) 2
abbrev s_Journal_after_crash : Stmt := inClass (top 4) 3
abbrev s_checksum : Stmt := top 5
abbrev s_sealed : Stmt := top 6
abbrev s_read_journal : Stmt := top 7
abbrev s_is_name : Stmt := top 14
abbrev s_is_address : Stmt := top 15
abbrev s_read_number : Stmt := top 16
abbrev s_split_address : Stmt := top 17
abbrev s_consists_of : Stmt := top 18
abbrev s_Ledger___init : Stmt := inClass (top 21) 0
abbrev s_Ledger_begin : Stmt := inClass (top 21) 1
abbrev s_Ledger_finish : Stmt := inClass (top 21) 2
abbrev s_Ledger_close : Stmt := inClass (top 21) 3
abbrev s_Ledger_is_open : Stmt := inClass (top 21) 4
abbrev s_Ledger_is_known : Stmt := inClass (top 21) 5
abbrev s_Ledger_answer_of : Stmt := inClass (top 21) 6
abbrev s_Ledger_bills : Stmt := inClass (top 21) 7
abbrev s_Ledger_pending : Stmt := inClass (top 21) 8
abbrev s_Ledger_greatest : Stmt := inClass (top 21) 9
abbrev s_recover : Stmt := top 22
abbrev s_take_record : Stmt := top 23
abbrev s_take_open : Stmt := top 24
abbrev s_take_close : Stmt := top 25
abbrev s_Tariff___init : Stmt := inClass (top 33) 0
abbrev s_Tariff_units : Stmt := inClass (top 33) 1
abbrev s_Tariff_cost : Stmt := inClass (top 33) 2
abbrev s_is_unit : Stmt := top 34
abbrev s_is_price : Stmt := top 35
abbrev s_are_bands : Stmt := top 36
abbrev s_law_state : Stmt := top 38
abbrev s_law_draw : Stmt := top 39
abbrev s_law_pick : Stmt := top 40
abbrev s_law_agrees : Stmt := top 41
abbrev s_law_recovered : Stmt := top 42
abbrev s_law : Stmt := top 43
abbrev si_ConfigError : Stmt := inClass (top 28) 0
theorem sc_Journal___init : FnScope ["self"] ["self"] (defScope s_Journal___init) := ⟨rfl, rfl, rfl, by decide +kernel, rfl, by decide +kernel, by decide +kernel⟩
theorem sc_Journal_append : FnScope ["self", "text"] ["self", "text"] (defScope s_Journal_append) := ⟨rfl, rfl, rfl, by decide +kernel, rfl, by decide +kernel, by decide +kernel⟩
theorem sc_Journal_sync : FnScope ["self"] ["self"] (defScope s_Journal_sync) := ⟨rfl, rfl, rfl, by decide +kernel, rfl, by decide +kernel, by decide +kernel⟩
theorem sc_Journal_after_crash : FnScope ["self", "kept"] ["self", "kept"] (defScope s_Journal_after_crash) := ⟨rfl, rfl, rfl, by decide +kernel, rfl, by decide +kernel, by decide +kernel⟩
theorem sc_checksum : FnScope ["text", "total", "mark"] ["text"] (defScope s_checksum) := ⟨rfl, rfl, rfl, by decide +kernel, rfl, by decide +kernel, by decide +kernel⟩
theorem sc_sealed : FnScope ["text"] ["text"] (defScope s_sealed) := ⟨rfl, rfl, rfl, by decide +kernel, rfl, by decide +kernel, by decide +kernel⟩
theorem sc_read_journal : FnScope ["text", "lines", "texts", "line", "told"] ["text"] (defScope s_read_journal) := ⟨rfl, rfl, rfl, by decide +kernel, rfl, by decide +kernel, by decide +kernel⟩
theorem sc_is_name : FnScope ["word"] ["word"] (defScope s_is_name) := ⟨rfl, rfl, rfl, by decide +kernel, rfl, by decide +kernel, by decide +kernel⟩
theorem sc_is_address : FnScope ["word"] ["word"] (defScope s_is_address) := ⟨rfl, rfl, rfl, by decide +kernel, rfl, by decide +kernel, by decide +kernel⟩
theorem sc_read_number : FnScope ["word", "most", "number"] ["word", "most"] (defScope s_read_number) := ⟨rfl, rfl, rfl, by decide +kernel, rfl, by decide +kernel, by decide +kernel⟩
theorem sc_split_address : FnScope ["word", "parts", "user", "host"] ["word"] (defScope s_split_address) := ⟨rfl, rfl, rfl, by decide +kernel, rfl, by decide +kernel, by decide +kernel⟩
theorem sc_consists_of : FnScope ["word", "marks", "longest", "mark"] ["word", "marks", "longest"] (defScope s_consists_of) := ⟨rfl, rfl, rfl, by decide +kernel, rfl, by decide +kernel, by decide +kernel⟩
theorem sc_Ledger___init : FnScope ["self", "tariff"] ["self", "tariff"] (defScope s_Ledger___init) := ⟨rfl, rfl, rfl, by decide +kernel, rfl, by decide +kernel, by decide +kernel⟩
theorem sc_Ledger_begin : FnScope ["self", "number", "caller", "callee", "now"] ["self", "number", "caller", "callee", "now"] (defScope s_Ledger_begin) := ⟨rfl, rfl, rfl, by decide +kernel, rfl, by decide +kernel, by decide +kernel⟩
theorem sc_Ledger_finish : FnScope ["self", "number", "now"] ["self", "number", "now"] (defScope s_Ledger_finish) := ⟨rfl, rfl, rfl, by decide +kernel, rfl, by decide +kernel, by decide +kernel⟩
theorem sc_Ledger_close : FnScope ["self", "number", "now", "cost", "caller", "callee", "answer"] ["self", "number", "now", "cost"] (defScope s_Ledger_close) := ⟨rfl, rfl, rfl, by decide +kernel, rfl, by decide +kernel, by decide +kernel⟩
theorem sc_Ledger_is_open : FnScope ["self", "number"] ["self", "number"] (defScope s_Ledger_is_open) := ⟨rfl, rfl, rfl, by decide +kernel, rfl, by decide +kernel, by decide +kernel⟩
theorem sc_Ledger_is_known : FnScope ["self", "number"] ["self", "number"] (defScope s_Ledger_is_known) := ⟨rfl, rfl, rfl, by decide +kernel, rfl, by decide +kernel, by decide +kernel⟩
theorem sc_Ledger_answer_of : FnScope ["self", "number"] ["self", "number"] (defScope s_Ledger_answer_of) := ⟨rfl, rfl, rfl, by decide +kernel, rfl, by decide +kernel, by decide +kernel⟩
theorem sc_Ledger_bills : FnScope ["self", "number"] ["self"] (defScope s_Ledger_bills) := ⟨rfl, rfl, rfl, by decide +kernel, rfl, by decide +kernel, by decide +kernel⟩
theorem sc_Ledger_pending : FnScope ["self"] ["self"] (defScope s_Ledger_pending) := ⟨rfl, rfl, rfl, by decide +kernel, rfl, by decide +kernel, by decide +kernel⟩
theorem sc_Ledger_greatest : FnScope ["self"] ["self"] (defScope s_Ledger_greatest) := ⟨rfl, rfl, rfl, by decide +kernel, rfl, by decide +kernel, by decide +kernel⟩
theorem sc_recover : FnScope ["tariff", "text", "now", "ledger", "record", "number"] ["tariff", "text", "now"] (defScope s_recover) := ⟨rfl, rfl, rfl, by decide +kernel, rfl, by decide +kernel, by decide +kernel⟩
theorem sc_take_record : FnScope ["ledger", "words"] ["ledger", "words"] (defScope s_take_record) := ⟨rfl, rfl, rfl, by decide +kernel, rfl, by decide +kernel, by decide +kernel⟩
theorem sc_take_open : FnScope ["ledger", "words", "number", "answer", "are_right"] ["ledger", "words"] (defScope s_take_open) := ⟨rfl, rfl, rfl, by decide +kernel, rfl, by decide +kernel, by decide +kernel⟩
theorem sc_take_close : FnScope ["ledger", "words", "number", "end", "cost", "word"] ["ledger", "words"] (defScope s_take_close) := ⟨rfl, rfl, rfl, by decide +kernel, rfl, by decide +kernel, by decide +kernel⟩
theorem sc_Tariff___init : FnScope ["self", "unit", "bands", "last", "band"] ["self", "unit", "bands", "last"] (defScope s_Tariff___init) := ⟨rfl, rfl, rfl, by decide +kernel, rfl, by decide +kernel, by decide +kernel⟩
theorem sc_Tariff_units : FnScope ["self", "span"] ["self", "span"] (defScope s_Tariff_units) := ⟨rfl, rfl, rfl, by decide +kernel, rfl, by decide +kernel, by decide +kernel⟩
theorem sc_Tariff_cost : FnScope ["self", "span", "left", "total", "many", "price", "taken"] ["self", "span"] (defScope s_Tariff_cost) := ⟨rfl, rfl, rfl, by decide +kernel, rfl, by decide +kernel, by decide +kernel⟩
theorem sc_is_unit : FnScope ["number"] ["number"] (defScope s_is_unit) := ⟨rfl, rfl, rfl, by decide +kernel, rfl, by decide +kernel, by decide +kernel⟩
theorem sc_is_price : FnScope ["number"] ["number"] (defScope s_is_price) := ⟨rfl, rfl, rfl, by decide +kernel, rfl, by decide +kernel, by decide +kernel⟩
theorem sc_are_bands : FnScope ["bands", "many", "price"] ["bands"] (defScope s_are_bands) := ⟨rfl, rfl, rfl, by decide +kernel, rfl, by decide +kernel, by decide +kernel⟩
theorem sc_law_state : FnScope ["script", "seed", "cell"] ["script"] (defScope s_law_state) := ⟨rfl, rfl, rfl, by decide +kernel, rfl, by decide +kernel, by decide +kernel⟩
theorem sc_law_draw : FnScope ["state", "many", "cells", "value", "mixed"] ["state", "many"] (defScope s_law_draw) := ⟨rfl, rfl, rfl, by decide +kernel, rfl, by decide +kernel, by decide +kernel⟩
theorem sc_law_pick : FnScope ["state", "row"] ["state", "row"] (defScope s_law_pick) := ⟨rfl, rfl, rfl, by decide +kernel, rfl, by decide +kernel, by decide +kernel⟩
theorem sc_law_agrees : FnScope ["ledger", "rows", "done", "open_ones", "told", "numbers", "row"] ["ledger", "rows"] (defScope s_law_agrees) := ⟨rfl, rfl, rfl, by decide +kernel, rfl, by decide +kernel, by decide +kernel⟩
theorem sc_law_recovered : FnScope ["state", "ledger", "rows", "now", "text", "again", "told", "k", "row", "bill", "more"] ["state", "ledger", "rows", "now"] (defScope s_law_recovered) := ⟨rfl, rfl, rfl, by decide +kernel, rfl, by decide +kernel, by decide +kernel⟩
theorem sc_law : FnScope ["script", "state", "tariff", "ledger", "rows", "now", "number", "cell", "kind", "open_ones", "row", "again"] ["script"] (defScope s_law) := ⟨rfl, rfl, rfl, by decide +kernel, rfl, by decide +kernel, by decide +kernel⟩
structure Tx (K : PySem.W.Frag) (mg : Str → Option Value) : Prop where
  g_DIGITS : ∃ t, mg "DIGITS" = some (.str "0123456789" t)
  g_FACTOR : ∃ t, mg "FACTOR" = some (.int 31 t)
  g_FIRST_SUM : ∃ t, mg "FIRST_SUM" = some (.int 7 t)
  g_GREATEST_NUMBER : ∃ t, mg "GREATEST_NUMBER" = some (.int 999999999 t)
  g_GREATEST_PRICE : ∃ t, mg "GREATEST_PRICE" = some (.int 10000 t)
  g_GREATEST_UNIT : ∃ t, mg "GREATEST_UNIT" = some (.int 10000 t)
  g_LONGEST_NUMBER : ∃ t, mg "LONGEST_NUMBER" = some (.int 9 t)
  g_LONGEST_WORD : ∃ t, mg "LONGEST_WORD" = some (.int 16 t)
  g_MODULUS : ∃ t, mg "MODULUS" = some (.int 9973 t)
  g_MOST_BANDS : ∃ t, mg "MOST_BANDS" = some (.int 8 t)
  g_NAME_MARKS : ∃ t, mg "NAME_MARKS" = some (.str "abcdefghijklmnopqrstuvwxyz0123456789" t)
  g_SMALL_LETTERS : ∃ t, mg "SMALL_LETTERS" = some (.str "abcdefghijklmnopqrstuvwxyz" t)
  f_abs : mg "abs" = none
  f_all : mg "all" = none
  f_int : mg "int" = none
  f_len : mg "len" = none
  f_list : mg "list" = none
  f_max : mg "max" = none
  f_min : mg "min" = none
  f_ord : mg "ord" = none
  f_range : mg "range" = none
  f_sorted : mg "sorted" = none
  f_str : mg "str" = none
  f_super : mg "super" = none
  f_tuple : mg "tuple" = none
  cl_Journal : Cls K (He.ga K "Journal")
  na_Journal_text : NoAttr K (He.ga K "Journal") "text"
  na_Journal_synced : NoAttr K (He.ga K "Journal") "synced"
  cl_Ledger : Cls K (He.ga K "Ledger")
  na_Ledger_tariff : NoAttr K (He.ga K "Ledger") "tariff"
  na_Ledger_journal : NoAttr K (He.ga K "Ledger") "journal"
  na_Ledger__unfinished : NoAttr K (He.ga K "Ledger") "_unfinished"
  na_Ledger__finished : NoAttr K (He.ga K "Ledger") "_finished"
  cl_Tariff : Cls K (He.ga K "Tariff")
  na_Tariff_unit : NoAttr K (He.ga K "Tariff") "unit"
  na_Tariff_bands : NoAttr K (He.ga K "Tariff") "bands"
  na_Tariff_last : NoAttr K (He.ga K "Tariff") "last"
  g_TrunklandError : mg "TrunklandError" = some (.ref (He.ga K "TrunklandError"))
  g_ConfigError : mg "ConfigError" = some (.ref (He.ga K "ConfigError"))
  xf_ConfigError : XfC K (He.ga K "ConfigError")
  ec_ConfigError : ExcC K (He.ga K "ConfigError")
  no_ConfigError : PySem.W.findIn K (.ref (He.ga K "ConfigError")) "setting" = some none
theorem ok_exc_ConfigError {P : Program} {w : World} {K : PySem.W.Frag} {mg : Str → Option Value} {base : Heap} (hm : mg "super" = none) (htop : (P.main.scope.names.lookup ("super" : Str)).isSome = false) (hg : mg "ConfigError" = some (.ref (He.ga K "ConfigError")))
    (T : TKE.ExTxt K P "ConfigError" "setting" "ConfigError.__init__" (defArgs si_ConfigError) (defBody si_ConfigError) (defScope si_ConfigError)) : TKE.ExcMk P w K mg base "ConfigError" (He.ga K "ConfigError") "setting" TKE.isS := by
  obtain ⟨cda, cc, oc, od, doc, pm, an, ct, osl, S, hl, hcd⟩ := T.ex
  refine ⟨_, _, ["self", "setting"], S.oex, S.iC, S.tI, TKE.fnok_sup S hl hcd (nscope_by (by decide +kernel)) rfl rfl rfl rfl rfl hm htop (fun vs H Q E h => ?_) (fun A outer s H vs Q E h => ?_) (fun _ _ _ _ _ => rfl) (fun _ _ _ _ _ => rfl) (fun _ _ _ _ _ => rfl) (fun _ _ _ _ _ => rfl), .all (fun us hl => match us, hl with | [_, _], _ => rfl), hg⟩
  · obtain ⟨a, y, rfl, _⟩ := h
    rfl
  · obtain ⟨a, y, rfl, ⟨z, rfl, hz⟩, ha, k⟩ := h
    refine ⟨a, _, _, _, rfl, ha, pe_joined (PJ.cons pe_str (PJ.cons (pe_fmt (pv 1)) (PJ.cons pe_str PJ.nil))), pss_one (ps_ost (pv 0) (pv 1)), _, rfl, by decide +kernel, _, rfl, ?_⟩
    refine .inl ⟨z, rfl, TKE.ex_l1 hz, _, rfl, TKE.ex_l2 (by decide +kernel) hz, _, rfl, TKE.ex_l3 (by decide +kernel) (by decide +kernel) hz, ?_⟩
    exact ⟨ha, ⟨_, rfl, _, rfl, a, _, rfl, S.oex, T.no, .inl ⟨ha, k⟩⟩, rfl⟩
/-! ### the law's source of draws -/
def spState (K : PySem.W.Frag) : Sp := fun vs H Q _ => ∃ (a : Addr) (ns : List Int), vs = [.ref a] ∧ SqL K H a (ns.map V.int) ∧ ns.length ≤ 63 ∧ ∀ s c H', Same H H' → H s = none → H c = none → StAt H' s c → Q (.ref s) H'
theorem ok_law_state {P : Program} {w : World} {K : PySem.W.Frag} {mg : Str → Option Value} {base : Heap} {f : Addr} {fd : FuncData} (T : Tx K mg) 
    (F : FunD K "_law_state" "_law_state" (defArgs s_law_state) (defBody s_law_state) (defScope s_law_state) [] [] f fd) : FnOk P w K mg base CX0 1 f fd ["script"] (spState K) := by
  refine F.ok sc_law_state (fun vs H Q E h => ?_) (fun cdv A outer s H vs Q E hr h => ?_)
  · obtain ⟨a, ns, rfl, _⟩ := h
    rfl
  · obtain ⟨a, ns, rfl, hS, hn, k⟩ := h
    refine ⟨_, PSs.nox (pss_cons (ps_set (i := 1) sc_law_state.nd rfl (Or.inl rfl) pe_int) (pss_cons (ps_for PassesOwn.never rfl (pi_list (pv 0)) (pg_name (i := 2) sc_law_state.nd rfl (Or.inl rfl)) (pss_one (ps_set (i := 1) sc_law_state.nd rfl (Or.inl rfl) (pe_op op_mod (pe_callTy call_int1 rfl T.f_int (by decide +kernel) (pa_cons (pe_op op_add (pe_op op_mul (pv 1) pe_int) (pv 2)) pa_nil)) pe_int)))) (pss_one (ps_ret (pe_lst (pa_cons (pe_lc (own := [("cell", 2)]) (g := gName 2) rfl sc_law_state.nd (pi_list (pv 0)) (blkOk_by (own := [("cell", 2)]) (N := ["script", "seed", "cell"]) (sc := defScope s_law_state) (by decide +kernel)) (fun _ _ _ _ _ => pg_name (i := 2) sc_law_state.nd rfl (Or.inl rfl)) (fun _ _ _ _ _ => pts_nil) (fun _ _ _ _ _ => (pe_callB call_abs rfl T.f_abs (by decide +kernel) (pa_cons (pv 2) pa_nil)))) (pa_cons (pe_op op_add (pv 1) pe_int) pa_nil))))))), ?_⟩
    refine ⟨_, rfl, a, rfl, ⟨_, hS⟩, for_list (K := K) (a := a) (xs := ns.map V.int) (fun i σ H' => H' = H ∧ ∃ (n : Int) (v : Option V), σ = [some (.ref a), some (.int n), v]) ⟨rfl, 7, none, rfl⟩ (fun i σ H' _ q => q.1 ▸ hS) ?_ ?_⟩
    · rintro i y σ H' hi ⟨rfl, n, v, rfl⟩
      obtain ⟨z, rfl⟩ : ∃ z, y = V.int z := by
        obtain ⟨z, _, e⟩ := List.mem_map.mp (List.mem_of_getElem? hi)
        exact ⟨z, e.symm⟩
      refine ⟨_, rfl, _, _, rfl, rfl, .inr ⟨by decide, by decide⟩, _, rfl, _, _, rfl, rfl, .inl ⟨_, rfl, _, _, rfl, rfl, (by show (0 : Int) < 1000003; decide), rfl, _, _, rfl⟩⟩
    · rintro σ H' ⟨rfl, n, v, rfl⟩
      refine ⟨_, rfl, a, rfl, ⟨_, hS⟩, fun D hD => ?_⟩
      have hS2 : ∀ o, SqL K (upd H' D o) a (ns.map V.int) := fun o => (same_upd hD).seq hS
      refine lc_pureN walk_list (fun i => V.int (if ns.getD i 0 < 0 then -(ns.getD i 0) else ns.getD i 0)) (by rw [List.length_map]; exact Nat.le_trans hn (by decide)) (fun _ _ => hS2 _) (fun i x H1 kk hi y q => ?_) ?_
      · obtain ⟨rfl, hx⟩ := y
        refine ⟨rfl, _, rfl, ns.getD i 0, ?_, q⟩
        rw [List.getElem?_map] at hx
        rw [List.length_map] at hi
        rw [List.getElem?_eq_getElem hi] at hx
        rw [List.getD_eq_getElem?_getD, List.getElem?_eq_getElem hi]
        exact congrArg (fun v => [v]) (Option.some.inj hx).symm
      · refine ⟨_, rfl, _, _, rfl, rfl, by show 2 ≤ sizeLine; decide, fun p hp => ?_⟩
        have npD : p ≠ D := fun e => by
          rw [e, upd_same] at hp
          cases hp
        have hp0 : H' p = none := by
          rw [upd_ne npD] at hp
          exact hp
        refine k p D _ ((same_upd hD).trans (same_upd hp)) hp0 hD ⟨npD, ⟨_, upd_same⟩, ns.map (fun i => if i < 0 then -i else i), ?_, ?_⟩
        · rw [upd_ne npD.symm, upd_same, List.length_map, List.map_map]
          exact congrArg (fun l => some (HO.lst l)) (range_map_getD ns 0 fun i => V.int (if i < 0 then -i else i))
        · rw [List.length_map]
          exact hn
def spDraw : Sp := fun vs H Q _ => ∃ (s c : Addr) (m : Int), vs = [.ref s, .int m] ∧ StAt H s c ∧ 0 < m ∧ m < 1073741824 ∧ ∀ r H', 0 ≤ r → r < m → StAt H' s c → Keep H H' s c → Q (.int r) H'
theorem ok_law_draw {P : Program} {w : World} {K : PySem.W.Frag} {mg : Str → Option Value} {base : Heap} {f : Addr} {fd : FuncData} (T : Tx K mg) 
    (F : FunD K "_law_draw" "_law_draw" (defArgs s_law_draw) (defBody s_law_draw) (defScope s_law_draw) [] [] f fd) : FnOk P w K mg base CX0 1 f fd ["state", "many"] spDraw := by
  refine F.ok sc_law_draw (fun vs H Q E h => ?_) (fun cdv A outer s0 H vs Q E hr h => ?_)
  · obtain ⟨s, c, m, rfl, _⟩ := h
    rfl
  · obtain ⟨s, c, m, rfl, ⟨ne, ⟨n, h1⟩, ns, h2, h3⟩, hm0, hm1, k⟩ := h
    refine ⟨_, PSs.nox (pss_cons (ps_set (i := 2) sc_law_draw.nd rfl (Or.inl rfl) (pe_ix ix_list (pv 0) pe_int (fun _ _ => rfl))) (C8.pss_cut (ps_while PassesOwn.never (PW.pt (pw_and (pt_cmpR op_gt (pe_callB call_len_seq rfl T.f_len PySem.boot_len (pa_cons (pv 2) pa_nil)) pe_int (nomark _)) (pw_and1 (pt_cmpR op_eq (pe_ix ix_list (pv 2) pe_int (fun _ _ => rfl)) pe_int (nomark _))))) (pss_one (ps_expr (pe_bm PySem.F.plainAttrs_list PySem.F.slot_list_pop PySem.F.type_list_pop mt_popAt (pv 2) (pa_cons pe_int pa_nil))))) (C8.pss_cut (ps_if (pt_cmpR op_gt (pe_callB call_len_seq rfl T.f_len PySem.boot_len (pa_cons (pv 2) pa_nil)) pe_int (nomark _)) (pss_cons (ps_set (i := 3) sc_law_draw.nd rfl (Or.inl rfl) (pe_ix ix_list (pv 2) pe_int (fun _ _ => rfl))) (pss_cons (ps_asg (pe_op op_fdiv (pv 3) (pv 1)) (pg_sub (pv 2) pe_int set_list)) (pss_one (ps_ret (pe_op op_mod (pe_callTy call_int1 rfl T.f_int (by decide +kernel) (pa_cons (pv 3) pa_nil)) (pv 1)))))) pss_nil) (pss_cons (ps_set (i := 4) sc_law_draw.nd rfl (Or.inl rfl) (pe_op op_mod (pe_callTy call_int1 rfl T.f_int (by decide +kernel) (pa_cons (pe_op op_add (pe_op op_mul (pe_ix ix_list (pv 0) pe_int (fun _ _ => rfl)) pe_int) pe_int) pa_nil)) pe_int)) (pss_cons (ps_asg (pv 4) (pg_sub (pv 0) pe_int set_list)) (pss_one (ps_ret (pe_op op_mod (pe_callTy call_int1 rfl T.f_int (by decide +kernel) (pa_cons (pe_op op_fdiv (pv 4) pe_int) pa_nil)) (pv 1))))))))), ?_⟩
    refine ⟨_, rfl, s, _, 0, _, rfl, rfl, SqL.of h1, rfl, ?_⟩
    let I : L2.St → Hp → List Int → Prop := fun σ H' ns' => σ = [some (.ref s), some (.int m), some (.ref c), none, none] ∧ H' s = some (.lst [.ref c, .int n]) ∧ Keep H H' s c ∧ H' c = some (.lst (ns'.map V.int)) ∧ ns'.length ≤ 63
    refine ⟨fun σ H' => ∃ ns', I σ H' ns', ?_, ?_⟩
    · refine ⟨fun l σ H' => ∃ ns', l = ns'.length ∧ I σ H' ns', ⟨ns.length, ns, rfl, rfl, h1, Keep.refl _ _ _, h2, h3⟩, ?_⟩
      rintro l σ H' ⟨ns', rfl, rfl, g1, kp, g2, g3⟩
      refine ⟨_, rfl, c, _, rfl, .inl (SqL.of g2), _, _, rfl, rfl, _, rfl, ?_⟩
      cases ns' with
      | nil => exact iteF (iteF ⟨[], rfl, g1, kp, g2, g3⟩)
      | cons v r =>
        rw [List.length_map, decide_eq_true (by rw [List.length_cons]; omega)]
        refine iteT ?_
        refine ⟨_, rfl, c, _, 0, V.int v, rfl, rfl, SqL.of g2, atC _ _, rfl, _, rfl, ?_⟩
        refine ite2 (fun h5 => ?_) (fun h5 => ⟨v :: r, rfl, g1, kp, g2, g3⟩)
        refine ⟨fun σ' H2 => ∃ l, l < (v :: r).length ∧ ∃ ns', l = ns'.length ∧ I σ' H2 ns', fun _ _ q => q, ?_⟩
        refine ⟨_, rfl, .inl ⟨rfl, _, SqL.of g2⟩, c, _, 0, 0, V.int v, rfl, rfl, g2, by decide, by decide, sqC _ _, rfl, ?_⟩
        refine ⟨r.length, Nat.lt_succ_self _, r, rfl, rfl, ?_, fun b o e q1 q2 => ?_, upd_same, Nat.le_of_succ_le g3⟩
        · rw [upd_ne ne]
          exact g1
        · rw [upd_ne q2]
          exact kp b o e q1 q2
    · rintro σ H' ⟨ns', rfl, g1, kp, g2, g3⟩
      refine ⟨fun σ' H2 => σ' = [some (.ref s), some (.int m), some (.ref c), none, none] ∧ H2 = H', ?_, ?_⟩
      · refine ⟨_, rfl, c, _, rfl, .inl (SqL.of g2), _, _, rfl, rfl, _, rfl, ?_⟩
        cases ns' with
        | nil => exact iteF ⟨rfl, rfl⟩
        | cons v r =>
          rw [List.length_map, decide_eq_true (by rw [List.length_cons]; omega)]
          refine iteT ?_
          refine ⟨_, rfl, c, _, 0, V.int v, rfl, rfl, SqL.of g2, atC _ _, ?_⟩
          refine ⟨_, rfl, _, rfl, _, _, rfl, rfl, ⟨hm0, hm1⟩, _, rfl, c, _, 0, 0, rfl, rfl, g2, ixC _ _, ?_⟩
          refine ⟨_, rfl, .inl ⟨_, rfl, _, rfl, _, _, rfl, rfl, hm0, ?_⟩⟩
          refine k _ _ (Int.emod_nonneg _ (by omega)) (Int.emod_lt_of_pos _ hm0) ⟨ne, ⟨n, ?_⟩, (v / m) :: r, upd_same, g3⟩ (fun b o e q1 q2 => ?_)
          · rw [upd_ne ne]
            exact g1
          · rw [upd_ne q2]
            exact kp b o e q1 q2
      · rintro σ' H2 ⟨rfl, rfl⟩
        refine ⟨_, rfl, s, _, 1, _, rfl, rfl, SqL.of g1, rfl, _, _, rfl, rfl, .inr ⟨by decide, by decide⟩, _, _, rfl, rfl, .inl ⟨_, rfl, _, _, rfl, rfl, (by show (0 : Int) < 2147483647; decide), ?_⟩⟩
        refine ⟨_, rfl, _, rfl, s, _, 1, 1, rfl, rfl, g1, rfl, ?_⟩
        refine ⟨_, rfl, _, _, rfl, rfl, ⟨by decide, by decide⟩, .inl ⟨_, rfl, _, rfl, _, _, rfl, rfl, hm0, ?_⟩⟩
        refine k _ _ (Int.emod_nonneg _ (by omega)) (Int.emod_lt_of_pos _ hm0) ⟨ne, ⟨_, upd_same⟩, ns', ?_, g3⟩ (fun b o e q1 q2 => ?_)
        · rw [upd_ne ne.symm]
          exact g2
        · rw [upd_ne q1]
          exact kp b o e q1 q2
/-- of a text: one of its signs; of a list: one of its items -/
def spPick : Sp := fun vs H Q _ => ∃ (s c : Addr) (x : V), vs = [.ref s, x] ∧ StAt H s c ∧
  ((∃ z : Str, x = .str z ∧ 0 < z.length ∧ z.length ≤ 1000 ∧ ∀ ch H', ch ∈ TL.tl z → StAt H' s c → Keep H H' s c → Q (.str (S [ch])) H') ∨
   (∃ a xs, x = .ref a ∧ H a = some (.lst xs) ∧ a ≠ s ∧ a ≠ c ∧ 0 < xs.length ∧ xs.length ≤ 1000 ∧ ∀ v ∈ xs, ∀ H', StAt H' s c → Keep H H' s c → Q v H'))
theorem ok_law_pick {P : Program} {w : World} {K : PySem.W.Frag} {mg : Str → Option Value} {base : Heap} {f : Addr} {fd : FuncData} (T : Tx K mg) (c_law_draw : C8.Cal P w K mg base 1 "_law_draw" spDraw [])
    (F : FunD K "_law_pick" "_law_pick" (defArgs s_law_pick) (defBody s_law_pick) (defScope s_law_pick) [] [] f fd) : FnOk P w K mg base CX0 2 f fd ["state", "row"] spPick := by
  refine F.ok sc_law_pick (fun vs H Q E h => ?_) (fun cdv A outer s0 H vs Q E hr h => ?_)
  · obtain ⟨s, c, x, rfl, _⟩ := h
    rfl
  · obtain ⟨s, c, x, rfl, hst, h⟩ := h
    refine ⟨_, PSs.nox (pss_one (ps_ret (pe_ix ix_seq (pv 1) (pe_c c_law_draw hr (by decide) rfl (pa_cons (pv 0) (pa_cons (pe_callB call_len rfl T.f_len PySem.boot_len (pa_cons (pv 1) pa_nil)) pa_nil))) (fun _ _ => rfl)))), ?_⟩
    rcases h with ⟨z, rfl, z0, z1, k⟩ | ⟨a, xs, rfl, ha, as, ac, x0, x1, k⟩
    · have hz2 : z.length ≤ sizeLine := Nat.le_trans z1 (by decide)
      refine ⟨_, rfl, _, rfl, _, rfl, _, z.length, rfl, ⟨hz2, rfl⟩, s, c, _, rfl, hst, by omega, by omega, fun r H' r0 r1 st' kp' => ?_⟩
      have hl : r < ((TL.tl z).length : Nat) := by rw [← len_eq]; exact r1
      refine .inr (.inr ⟨z, r, _, rfl, rfl, hz2, atN 0 r0 hl, ?_⟩)
      refine k _ H' ?_ st' kp'
      have hl2 : r.toNat < (TL.tl z).length := by omega
      rw [List.getD_eq_getElem?_getD, List.getElem?_eq_getElem hl2]
      exact List.getElem_mem _
    · have hx2 : xs.length ≤ sizeLine := Nat.le_trans x1 (by decide)
      refine ⟨_, rfl, _, rfl, _, rfl, _, xs.length, rfl, .inl ⟨xs, SqL.of ha, rfl⟩, s, c, _, rfl, hst, by omega, by omega, fun r H' r0 r1 st' kp' => ?_⟩
      refine .inl ⟨a, xs, r, _, rfl, rfl, SqL.of (kp' a _ ha as ac), atN .non r0 r1, ?_⟩
      refine k _ ?_ H' st' kp'
      rw [List.getD_eq_getElem?_getD, List.getElem?_eq_getElem (by omega)]
      exact List.getElem_mem _

end K12
set_option maxHeartbeats 1000000
set_option pp.maxSteps 500
namespace K12
open PySem PySem.Spec PyProof.Rows L2 SX TK NdefX K11 LD
open C8 (pe_c)
/-! ### what the program's defs answer -/
def consL (l m : List Nat) (n : Int) : Bool := (decide ((1 : Int) ≤ (l.length : Int)) && decide ((l.length : Int) ≤ n)) && l.all fun c => decide (c ∈ m)
def consB (z m : Str) (n : Int) : Bool := consL (TL.tl z) (TL.tl m) n
theorem consB_len {z m : Str} {n : Int} (h : consB z m n = true) : 0 < (TL.tl z).length ∧ ((TL.tl z).length : Int) ≤ n ∧ ∀ c ∈ TL.tl z, c ∈ TL.tl m := by
  unfold consB consL at h
  rw [Bool.and_eq_true, Bool.and_eq_true, decide_eq_true_eq, decide_eq_true_eq] at h
  refine ⟨by omega, h.1.2, fun c hc => ?_⟩
  exact of_decide_eq_true (List.all_eq_true.mp h.2 c hc)
def spCons : Sp := fun vs H Q _ => ∃ (z m : Str) (n : Int), vs = [.str z, .str m, .int n] ∧ z.length ≤ 1000 ∧ ∀ H', Same H H' → Q (.bl (consB z m n)) H'
theorem ok_consists_of {P : Program} {w : World} {K : PySem.W.Frag} {mg : Str → Option Value} {base : Heap} {f : Addr} {fd : FuncData} (T : Tx K mg) 
    (F : FunD K "_consists_of" "_consists_of" (defArgs s_consists_of) (defBody s_consists_of) (defScope s_consists_of) [] [] f fd) : FnOk P w K mg base CX0 1 f fd ["word", "marks", "longest"] spCons := by
  refine F.ok sc_consists_of (fun vs H Q E h => ?_) (fun cdv A outer s H vs Q E hr h => ?_)
  · obtain ⟨z, m, n, rfl, _⟩ := h
    rfl
  · obtain ⟨z, m, n, rfl, hz, k⟩ := h
    have hz2 : z.length ≤ sizeLine := Nat.le_trans hz (by decide)
    have eB : consB z m n = ((decide ((1 : Int) ≤ (z.length : Int)) && decide ((z.length : Int) ≤ n)) && (TL.tl z).all fun c => decide (c ∈ TL.tl m)) := by
      unfold consB consL
      rw [len_eq]
    refine ⟨_, PSs.nox (pss_one (ps_ret (pe_and (pe_chain op_le op_le pe_int (pe_callB call_len_str rfl T.f_len PySem.boot_len (pa_cons (pv 0) pa_nil)) (pv 2)) (pe_one (pe_callB (cr_all rfl) rfl T.f_all (by decide +kernel) (pa_cons (pe_lc (own := [("mark", 3)]) (g := gName 3) rfl sc_consists_of.nd (pi_str (pv 0)) (blkOk_by (own := [("mark", 3)]) (N := ["word", "marks", "longest", "mark"]) (sc := defScope s_consists_of) (by decide +kernel)) (fun _ _ _ _ _ => pg_name (i := 3) sc_consists_of.nd rfl (Or.inl rfl)) (fun _ _ _ _ _ => pts_nil) (fun _ _ _ _ _ => (pe_cmpR op_in_sign (pv 3) (pv 1) (by with_unfolding_all rfl)))) pa_nil)))))), ?_⟩
    refine ⟨_, rfl, _, rfl, hz2, _, _, rfl, rfl, _, rfl, ?_⟩
    refine ite2 (fun h1 => ?_) (fun h1 => ?_)
    · refine ⟨_, rfl, _, _, rfl, rfl, _, rfl, ?_⟩
      refine ite2 (fun h2 => ?_) (fun h2 => ?_)
      · refine ⟨_, rfl, _, rfl, fun D hD => ?_⟩
        have hn : z.cps.size ≤ sizeLine := by
          rw [size_tl, ← len_eq]
          exact hz2
        refine lc_pureN walk_str (fun i => V.bl (decide ((TL.tl z).getD i 0 ∈ TL.tl m))) hn (fun _ _ => trivial) (fun i x H' kk hi y q => ?_) ?_
        · obtain ⟨rfl, c, hc, rfl⟩ := y
          refine ⟨rfl, _, rfl, _, rfl, _, _, rfl, rfl, ?_⟩
          have e : (TL.tl z).getD i 0 = c := by
            have h5 : (TL.tl z)[i]? = some c := by
              show z.cps.toList[i]? = some c
              rw [Array.getElem?_toList]
              exact hc
            rw [List.getD_eq_getElem?_getD, h5]
            rfl
          rw [← e]
          exact q
        · refine ⟨D, (TL.tl z).map fun c => decide (c ∈ TL.tl m), rfl, SqL.of ?_, ?_⟩
          · rw [upd_same, size_tl, List.map_map]
            exact congrArg (fun l => some (HO.lst l)) (range_map_getD (TL.tl z) 0 fun c => V.bl (decide (c ∈ TL.tl m)))
          · have e : (List.map (fun c => decide (c ∈ TL.tl m)) (TL.tl z)).all id = consB z m n := by
              rw [eB, h1, h2, List.all_map]
              rfl
            rw [e]
            exact k _ (same_upd hD)
      · have e : consB z m n = false := by
          rw [eB, ef h2, Bool.and_false, Bool.false_and]
        have q := k H (Same.refl H)
        rw [e] at q
        exact q
    · have e : consB z m n = false := by
        rw [eB, ef h1, Bool.false_and, Bool.false_and]
      refine ⟨false, rfl, iteF ?_⟩
      have q := k H (Same.refl H)
      rw [e] at q
      exact q

/-! ### names, tags -/
abbrev zSM : Str := "abcdefghijklmnopqrstuvwxyz"
abbrev zNM : Str := "abcdefghijklmnopqrstuvwxyz0123456789"
abbrev zTM : Str := "ABCDEFGHIJKLMNOPQRSTUVWXYZabcdefghijklmnopqrstuvwxyz0123456789"
abbrev zDG : Str := "0123456789"
def nameB (z : Str) : Bool := consB z zNM 16 && decide ((TL.tl z).getD 0 0 ∈ TL.tl zSM)
def spName : Sp := fun vs H Q _ => ∃ z : Str, vs = [.str z] ∧ z.length ≤ 1000 ∧ ∀ H', Same H H' → Q (.bl (nameB z)) H'
theorem ok_is_name {P : Program} {w : World} {K : PySem.W.Frag} {mg : Str → Option Value} {base : Heap} {f : Addr} {fd : FuncData} (T : Tx K mg) (c_consists_of : C8.Cal P w K mg base 1 "_consists_of" spCons [])
    (F : FunD K "is_name" "is_name" (defArgs s_is_name) (defBody s_is_name) (defScope s_is_name) [] [] f fd) : FnOk P w K mg base CX0 2 f fd ["word"] spName := by
  refine F.ok sc_is_name (fun vs H Q E h => ?_) (fun cdv A outer s H vs Q E hr h => ?_)
  · obtain ⟨z, rfl, _⟩ := h
    rfl
  · obtain ⟨z, rfl, hz, k⟩ := h
    have hz2 : z.length ≤ sizeLine := Nat.le_trans hz (by decide)
    refine ⟨_, PSs.nox (pss_one (ps_ret (pe_and (pe_c c_consists_of hr (by decide) rfl (pa_cons (pv 0) (pa_cons (pgS T.g_NAME_MARKS) (pa_cons (pgI T.g_LONGEST_WORD) pa_nil)))) (pe_one (pe_cmpR op_in_sign (pe_ix ix_str (pv 0) pe_int (fun _ _ => rfl)) (pgS T.g_SMALL_LETTERS) (by with_unfolding_all rfl)))))), ?_⟩
    refine ⟨_, rfl, z, zNM, 16, rfl, hz, fun H1 s1 => ⟨_, rfl, ?_⟩⟩
    refine ite2 (fun h1 => ?_) (fun h1 => ?_)
    · refine ⟨_, rfl, _, 0, _, rfl, rfl, hz2, at0 0 (consB_len h1).1, _, _, rfl, rfl, ?_⟩
      have e : decide ((TL.tl z).getD 0 0 ∈ TL.tl zSM) = nameB z := by
        unfold nameB
        rw [h1, Bool.true_and]
      have q := k H1 s1
      rw [← e] at q
      exact q
    · have e : nameB z = false := by
        unfold nameB
        rw [ef h1, Bool.false_and]
      have q := k H1 s1
      rw [e] at q
      exact q

/-! ### numbers -/
def numV (z : Str) (most : Int) : V :=
  if consB z zDG 9 = true then
    (if (decide (V.str (S [(TL.tl z).getD 0 0]) = V.str "0") && !decide (V.str z = V.str "0")) = true then .non
     else if ((NumText.digitsVal (TL.tl z) : Nat) : Int) ≤ most then .int (NumText.digitsVal (TL.tl z) : Nat) else .non)
  else .non
theorem digits_of {z : Str} (h : ∀ c ∈ TL.tl z, c ∈ TL.tl zDG) : ∀ c ∈ TL.tl z, 48 ≤ c ∧ c ≤ 57 := fun c hc => by
  have h1 := h c hc
  have h2 : ∀ c ∈ TL.tl zDG, 48 ≤ c ∧ c ≤ 57 := by decide +kernel
  exact h2 c h1
def spNum : Sp := fun vs H Q _ => ∃ (z : Str) (m : Int), vs = [.str z, .int m] ∧ z.length ≤ 1000 ∧ ∀ H', Same H H' → Q (numV z m) H'
theorem ok_read_number {P : Program} {w : World} {K : PySem.W.Frag} {mg : Str → Option Value} {base : Heap} {f : Addr} {fd : FuncData} (T : Tx K mg) (c_consists_of : C8.Cal P w K mg base 1 "_consists_of" spCons [])
    (F : FunD K "read_number" "read_number" (defArgs s_read_number) (defBody s_read_number) (defScope s_read_number) [] [] f fd) : FnOk P w K mg base CX0 2 f fd ["word", "most"] spNum := by
  refine F.ok sc_read_number (fun vs H Q E h => ?_) (fun cdv A outer s H vs Q E hr h => ?_)
  · obtain ⟨z, m, rfl, _⟩ := h
    rfl
  · obtain ⟨z, m, rfl, hz, k⟩ := h
    have hz2 : z.length ≤ sizeLine := Nat.le_trans hz (by decide)
    refine ⟨_, PSs.nox (C8.pss_cut (ps_if (pt_not (pt_val (pe_c c_consists_of hr (by decide) rfl (pa_cons (pv 0) (pa_cons (pgS T.g_DIGITS) (pa_cons (pgI T.g_LONGEST_NUMBER) pa_nil)))))) (pss_one (ps_ret pe_non)) pss_nil) (C8.pss_cut (ps_if (PW.pt (pw_and (pt_cmpR op_eq (pe_ix ix_str (pv 0) pe_int (fun _ _ => rfl)) pe_str (nomark _)) (pw_and1 (pt_cmpR op_ne (pv 0) pe_str (nomark _))))) (pss_one (ps_ret pe_non)) pss_nil) (pss_cons (ps_set (i := 2) sc_read_number.nd rfl (Or.inl rfl) (pe_callTy call_int_str rfl T.f_int (by decide +kernel) (pa_cons (pv 0) pa_nil))) (pss_one (ps_ret (pe_ifExp (pt_cmpR op_le (pv 2) (pv 1) (nomark _)) (pv 2) pe_non)))))), ?_⟩
    refine ⟨fun σ' H' => σ' = [some (.str z), some (.int m), none] ∧ Same H H' ∧ consB z zDG 9 = true, ?_, ?_⟩
    · refine ⟨_, rfl, z, zDG, 9, rfl, hz, fun H1 s1 => ⟨_, rfl, ?_⟩⟩
      have q := k H1 s1
      unfold numV at q
      by_cases h1 : consB z zDG 9 = true
      · rw [h1]
        exact iteF ⟨rfl, s1, rfl⟩
      · rw [if_neg h1] at q
        rw [ef h1]
        exact iteT q
    · rintro σ' H1 ⟨rfl, s1, h1⟩
      have q := k H1 s1
      unfold numV at q
      rw [if_pos h1] at q
      have hl := consB_len h1
      by_cases h2 : (decide (V.str (S [(TL.tl z).getD 0 0]) = V.str "0") && !decide (V.str z = V.str "0")) = true
      · rw [if_pos h2] at q
        rw [Bool.and_eq_true] at h2
        refine ⟨fun σ' H' => False, ?_, fun _ _ z => z.elim⟩
        refine ⟨_, rfl, _, 0, _, rfl, rfl, hz2, at0 0 hl.1, rfl, _, rfl, ?_⟩
        refine ite2 (fun _ => ?_) (fun h3 => absurd h2.1 h3)
        refine ⟨_, rfl, rfl, _, rfl, ?_⟩
        refine ite2 (fun _ => q) (fun h3 => absurd h2.2 h3)
      · rw [if_neg h2] at q
        refine ⟨fun σ' H' => σ' = [some (.str z), some (.int m), none] ∧ H' = H1, ?_, ?_⟩
        · refine ⟨_, rfl, _, 0, _, rfl, rfl, hz2, at0 0 hl.1, rfl, _, rfl, ?_⟩
          refine ite2 (fun h3 => ?_) (fun h3 => iteF ⟨rfl, rfl⟩)
          refine ⟨_, rfl, rfl, _, rfl, ?_⟩
          refine ite2 (fun h4 => absurd (Bool.and_eq_true_iff.mpr ⟨h3, h4⟩) h2) (fun _ => ⟨rfl, rfl⟩)
        · rintro σ' H' ⟨rfl, rfl⟩
          refine ⟨_, rfl, z, _, rfl, PySem.intText_digits (x := z) (digits_of hl.2.2) (List.length_pos_iff.mp hl.1) (by rw [len_eq]; omega), by rw [len_eq]; omega, ?_⟩
          refine ⟨_, rfl, _, rfl, _, _, rfl, rfl, _, rfl, ?_⟩
          by_cases h5 : ((NumText.digitsVal (TL.tl z) : Nat) : Int) ≤ m
          · rw [if_pos h5] at q
            rw [decide_eq_true h5]
            exact iteT ⟨_, rfl, q⟩
          · rw [if_neg h5] at q
            rw [decide_eq_false h5]
            exact iteF q

/-! ### addresses -/
def splitO : List Str → Option (Str × Str)
  | [u, h] => if (nameB u && nameB h) = true then some (u, h) else none
  | _ => none
def splitB (z : Str) : Option (Str × Str) := splitO (Txt.split z "@")
/-- None, or a tuple of two texts -/
def PairV (H : Hp) (x : V) : Option (Str × Str) → Prop
  | none => x = .non
  | some (u, h) => ∃ p, x = .ref p ∧ H p = some (.tup [.str u, .str h])
theorem at_len : ("@" : Str) = S [64] := by decide +kernel
theorem split_parts {z u h : Str} (e : Txt.split z "@" = [u, h]) : TL.tl z = TL.tl u ++ 64 :: TL.tl h ∧ 64 ∉ TL.tl u ∧ 64 ∉ TL.tl h := by
  rw [at_len] at e
  have j := StrLaws.join_split z (S [64])
  rw [e] at j
  have f := StrLaws.split_free z 64
  refine ⟨?_, f u (by rw [e]; simp), f h (by rw [e]; simp)⟩
  have e2 := TL.tl_join (S [64]) [u, h]
  rw [← j, e2]
  rfl
theorem split_two {z : Str} {a b : List Nat} (e : TL.tl z = a ++ 64 :: b) (ha : 64 ∉ a) (hb : 64 ∉ b) : Txt.split z "@" = [S a, S b] := by
  rw [at_len]
  have e1 : z = S (a ++ 64 :: b) := by
    rw [← e]
  rw [e1, split_S (by simp) (by decide)]
  have e2 : a ++ 64 :: b = TL.joinL [64] [a, b] := rfl
  rw [e2, spl_join (by simp) (by
    intro p hp
    rcases List.mem_cons.mp hp with z | z
    · rw [z]; exact ha
    · rw [List.mem_singleton.mp z]; exact hb)]
  rfl
def spSplit : Sp := fun vs H Q _ => ∃ z : Str, vs = [.str z] ∧ z.length ≤ 1000 ∧ ∀ x H', Same H H' → PairV H' x (splitB z) → Q x H'
theorem ok_split_address {P : Program} {w : World} {K : PySem.W.Frag} {mg : Str → Option Value} {base : Heap} {f : Addr} {fd : FuncData} (T : Tx K mg) (c_is_name : C8.Cal P w K mg base 2 "is_name" spName [])
    (F : FunD K "split_address" "split_address" (defArgs s_split_address) (defBody s_split_address) (defScope s_split_address) [] [] f fd) : FnOk P w K mg base CX0 3 f fd ["word"] spSplit := by
  refine F.ok sc_split_address (fun vs H Q E h => ?_) (fun cdv A outer s H vs Q E hr h => ?_)
  · obtain ⟨z, rfl, _⟩ := h
    rfl
  · obtain ⟨z, rfl, hz, k⟩ := h
    have hz2 : z.length + 2 ≤ sizeLine := Nat.le_trans (Nat.add_le_add_right hz 2) (by decide)
    refine ⟨_, PSs.nox (pss_cons (ps_set (i := 1) sc_split_address.nd rfl (Or.inl rfl) (pe_split (pv 0) pe_str)) (C8.pss_cut (ps_if (pt_cmpR op_ne (pe_callB call_len_seq rfl T.f_len PySem.boot_len (pa_cons (pv 1) pa_nil)) pe_int (nomark _)) (pss_one (ps_ret pe_non)) pss_nil) (pss_cons (ps_asg (pv 1) (pg_unl rfl (pgs_cons (pg_name (i := 2) sc_split_address.nd rfl (Or.inl rfl)) (pgs_cons (pg_name (i := 3) sc_split_address.nd rfl (Or.inl rfl)) pgs_nil)))) (pss_one (ps_ret (pe_ifExp (PW.pt (pw_and (pt_val (pe_c c_is_name hr (by decide) rfl (pa_cons (pv 2) pa_nil))) (pw_and1 (pt_val (pe_c c_is_name hr (by decide) rfl (pa_cons (pv 3) pa_nil)))))) (pe_tup (pa_cons (pv 2) (pa_cons (pv 3) pa_nil))) pe_non)))))), ?_⟩
    refine ⟨_, rfl, ⟨_, rfl⟩, z, "@", rfl, rfl, by decide +kernel, hz2, fun p hp => ?_⟩
    have s1 := same_upd (o := .lst ((Txt.split z "@").map V.str)) hp
    generalize eY : Txt.split z "@" = ys at *
    refine ⟨fun σ' H' => σ' = [some (.str z), some (.ref p), none, none] ∧ H' = upd H p (.lst (ys.map V.str)) ∧ ys.length = 2, ?_, ?_⟩
    · refine ⟨_, rfl, p, _, rfl, .inl (SqL.of upd_same), rfl, _, rfl, ?_⟩
      rw [List.length_map]
      by_cases h2 : ys.length = 2
      · rw [h2]
        exact iteF ⟨rfl, rfl, rfl⟩
      · have e : decide (V.int (ys.length : Nat) = V.int 2) = false := decide_eq_false fun q => h2 (by
          have := V.int.inj q
          omega)
        rw [e]
        refine iteT ?_
        refine k _ _ s1 ?_
        unfold splitB
        rw [eY]
        unfold splitO
        split
        · exact absurd rfl h2
        · rfl
    · rintro σ' H' ⟨rfl, rfl, h2⟩
      obtain ⟨u, ys, rfl⟩ : ∃ u r, ys = u :: r := by
        cases ys with
        | nil => cases h2
        | cons u r => exact ⟨u, r, rfl⟩
      obtain ⟨h, ys, rfl⟩ : ∃ u r, ys = u :: r := by
        cases ys with
        | nil => cases h2
        | cons u r => exact ⟨u, r, rfl⟩
      obtain rfl : ys = [] := List.length_eq_zero_iff.mp (by
        rw [List.length_cons, List.length_cons] at h2
        omega)
      obtain ⟨ez, _, _⟩ := split_parts eY
      have el := congrArg List.length ez
      rw [List.length_append, List.length_cons, ← len_eq, ← len_eq, ← len_eq] at el
      refine ⟨_, rfl, p, _, rfl, SqL.of upd_same, rfl, _, _, rfl, _, _, rfl, rfl, ?_⟩
      refine ⟨_, rfl, u, rfl, by omega, fun H2 s2 => ⟨_, rfl, ?_⟩⟩
      have eB : splitB z = if (nameB u && nameB h) = true then some (u, h) else none := by
        unfold splitB
        rw [eY]
        rfl
      by_cases h3 : nameB u = true
      · rw [h3]
        refine iteT ⟨_, rfl, h, rfl, by omega, fun H3 s3 => ⟨_, rfl, ?_⟩⟩
        by_cases h4 : nameB h = true
        · rw [h4]
          refine iteT ⟨_, rfl, _, rfl, by show 2 ≤ sizeLine; decide, fun t ht => ?_⟩
          refine k _ _ (((s1.trans s2).trans s3).trans (same_upd ht)) ?_
          rw [eB, h3, h4]
          exact ⟨t, rfl, upd_same⟩
        · rw [ef h4]
          refine iteF (k _ _ ((s1.trans s2).trans s3) ?_)
          rw [eB, h3, ef h4]
          rfl
      · rw [ef h3]
        refine iteF (iteF (k _ _ (s1.trans s2) ?_))
        rw [eB, ef h3]
        rfl
def spIsAddr : Sp := fun vs H Q _ => ∃ z : Str, vs = [.str z] ∧ z.length ≤ 1000 ∧ ∀ H', Same H H' → Q (.bl (splitB z).isSome) H'
theorem PairV.none_iff {H : Hp} {x : V} {o : Option (Str × Str)} (h : PairV H x o) : (!decide (x = .non)) = o.isSome := by
  cases o with
  | none =>
    cases (show x = .non from h)
    rfl
  | some q =>
    obtain ⟨u, w⟩ := q
    obtain ⟨p, rfl, _⟩ := h
    rfl
theorem ok_is_address {P : Program} {w : World} {K : PySem.W.Frag} {mg : Str → Option Value} {base : Heap} {f : Addr} {fd : FuncData} (T : Tx K mg) (c_split_address : C8.Cal P w K mg base 3 "split_address" spSplit [])
    (F : FunD K "is_address" "is_address" (defArgs s_is_address) (defBody s_is_address) (defScope s_is_address) [] [] f fd) : FnOk P w K mg base CX0 4 f fd ["word"] spIsAddr := by
  refine F.ok sc_is_address (fun vs H Q E h => ?_) (fun cdv A outer s H vs Q E hr h => ?_)
  · obtain ⟨z, rfl, _⟩ := h
    rfl
  · obtain ⟨z, rfl, hz, k⟩ := h
    refine ⟨_, PSs.nox (pss_one (ps_ret (pe_cmpR op_notN (pe_c c_split_address hr (by decide) rfl (pa_cons (pv 0) pa_nil)) pe_non (nomark _)))), ?_⟩
    refine ⟨_, rfl, z, rfl, hz, fun x H1 s1 hp => ⟨rfl, ?_⟩⟩
    rw [hp.none_iff]
    exact k H1 s1

end K12
set_option maxHeartbeats 1000000
set_option pp.maxSteps 500
namespace K12
open PySem PySem.Spec PyProof.Rows L2 SX TK NdefX K11 LD
open C8 (pe_c)
def jfl (t : Str) (n : Int) : List (Str × V) := [("text", .str t), ("synced", .int n)]
instance {t : Str} {n : Int} : SmallF (jfl t n) 2 := ⟨Nat.le_refl _⟩
def JAt (K : PySem.W.Frag) (H : Hp) (p : Addr) (t : Str) (n : Int) : Prop := ∃ dx, H p = some (.ins (He.ga K "Journal") dx (jfl t n))
def spJInit (K : PySem.W.Frag) : Sp := fun vs H Q _ => ∃ (p dx : Addr), vs = [.ref p] ∧ H p = some (.ins (He.ga K "Journal") dx []) ∧ Q .non (upd H p (.ins (He.ga K "Journal") dx (jfl "" 0)))
theorem ok_Journal___init {P : Program} {w : World} {K : PySem.W.Frag} {mg : Str → Option Value} {base : Heap} {f : Addr} {fd : FuncData} (T : Tx K mg) 
    (F : FunD K "__init__" "Journal.__init__" (defArgs s_Journal___init) (defBody s_Journal___init) (defScope s_Journal___init) [] [] f fd) : FnOk P w K mg base CX0 1 f fd ["self"] (spJInit K) := by
  refine F.ok sc_Journal___init (fun vs H Q E h => ?_) (fun cdv A outer s H vs Q E hr h => ?_)
  · obtain ⟨p, dx, rfl, _⟩ := h
    rfl
  · obtain ⟨p, dx, rfl, hp, k⟩ := h
    refine ⟨_, PSs.nox (pss_cons (ps_fldC rfl T.cl_Journal T.na_Journal_text (pv 0) pe_str rfl) (pss_one (ps_fldC rfl T.cl_Journal T.na_Journal_synced (pv 0) pe_int rfl))), ?_⟩
    refine ⟨_, rfl, p, dx, _, rfl, hp, sm, _, rfl, p, dx, _, rfl, upd_same, sm, ?_⟩
    rw [upd_upd]
    exact k
def spCks : Sp := fun vs H Q _ => ∃ z : Str, vs = [.str z] ∧ Q (.int (cks (TL.tl z) : Nat)) H
theorem ok_checksum {P : Program} {w : World} {K : PySem.W.Frag} {mg : Str → Option Value} {base : Heap} {f : Addr} {fd : FuncData} (T : Tx K mg) 
    (F : FunD K "checksum" "checksum" (defArgs s_checksum) (defBody s_checksum) (defScope s_checksum) [] [] f fd) : FnOk P w K mg base CX0 1 f fd ["text"] spCks := by
  refine F.ok sc_checksum (fun vs H Q E h => ?_) (fun cdv A outer s H vs Q E hr h => ?_)
  · obtain ⟨z, rfl, _⟩ := h
    rfl
  · obtain ⟨z, rfl, k⟩ := h
    refine ⟨_, PSs.nox (pss_cons (ps_set (i := 1) sc_checksum.nd rfl (Or.inl rfl) (pgI T.g_FIRST_SUM)) (pss_cons (ps_for PassesOwn.never rfl (pi_str (pv 0)) (pg_name (i := 2) sc_checksum.nd rfl (Or.inl rfl)) (pss_one (ps_set (i := 1) sc_checksum.nd rfl (Or.inl rfl) (pe_op op_mod (pe_op op_add (pe_op op_mul (pv 1) (pgI T.g_FACTOR)) (pe_callB call_ord rfl T.f_ord (by decide +kernel) (pa_cons (pv 2) pa_nil))) (pgI T.g_MODULUS))))) (pss_one (ps_ret (pv 1))))), ?_⟩
    refine ⟨_, rfl, z, rfl, for_it walk_str (fun i σ H1 => H1 = H ∧ ∃ v, σ = [some (.str z), some (.int (cks ((TL.tl z).take i) : Nat)), v]) ⟨rfl, none, rfl⟩ (fun _ _ _ _ _ => trivial) ?_ ?_⟩
    · rintro i x σ H1 H2 hi ⟨rfl, v, rfl⟩ ⟨rfl, c, hc, rfl⟩
      have e : (TL.tl z)[i]? = some c := by
        show z.cps.toList[i]? = some c
        rw [Array.getElem?_toList]
        exact hc
      refine ⟨_, rfl, _, _, rfl, rfl, .inr ⟨by decide, by decide⟩, _, rfl, _, rfl, rfl, _, _, rfl, rfl, _, _, rfl, rfl, (by show (0 : Int) < 9973; decide), rfl, some (.str (S [c])), ?_⟩
      have e3 : (TL.tl z).take (i + 1) = (TL.tl z).take i ++ [c] := by
        rw [List.take_add_one, e]
        rfl
      rw [e3]
      unfold cks
      rw [List.foldl_append]
      refine congrArg (fun v => [some (V.str z), some (V.int v), some (V.str (S [c]))]) ?_
      show ((_ : Int) * 31 + ((c : Nat) : Int)) % 9973 = (((_ * 31 + c) % 9973 : Nat) : Int)
      omega
    · rintro σ H1 ⟨rfl, v, rfl⟩
      rw [List.take_of_length_le (by rw [size_tl]; exact Nat.le_refl _)]
      exact ⟨_, rfl, k⟩
def spSeal : Sp := fun vs H Q _ => ∃ z : Str, vs = [.str z] ∧ z.length ≤ 10000 ∧ Q (.str (sealT z)) H
theorem cks_lt (l : List Nat) : cks l < 9973 := by
  unfold cks
  cases l with
  | nil => decide
  | cons a r =>
    have : ∀ (l : List Nat) (t : Nat), t < 9973 → l.foldl (fun t c => (t * 31 + c) % 9973) t < 9973 := by
      intro l
      induction l with
      | nil => exact fun t h => h
      | cons b q ih => exact fun t h => ih _ (Nat.mod_lt _ (by decide))
    exact this (a :: r) 7 (by decide)
theorem k_bl : (" " : Str).length = 1 := by decide +kernel
theorem k_nl : ("\n" : Str).length = 1 := by decide +kernel
theorem emp0 : Str.empty.length = 0 := rfl
theorem cks_small (z : Str) : ((cks (TL.tl z) : Nat) : Int).natAbs < 1000000000 := by
  have := cks_lt (TL.tl z)
  omega
theorem seal_len (z : Str) : (sealT z).length ≤ z.length + 12 := by
  unfold sealT
  have := numS_len (cks_small z)
  rw [cat_len, cat_len, cat_len, cat_len, emp0, k_bl, k_nl]
  omega
theorem ok_sealed {P : Program} {w : World} {K : PySem.W.Frag} {mg : Str → Option Value} {base : Heap} {f : Addr} {fd : FuncData} (T : Tx K mg) (c_checksum : C8.Cal P w K mg base 1 "checksum" spCks [])
    (F : FunD K "sealed" "sealed" (defArgs s_sealed) (defBody s_sealed) (defScope s_sealed) [] [] f fd) : FnOk P w K mg base CX0 2 f fd ["text"] spSeal := by
  refine F.ok sc_sealed (fun vs H Q E h => ?_) (fun cdv A outer s H vs Q E hr h => ?_)
  · obtain ⟨z, rfl, _⟩ := h
    rfl
  · obtain ⟨z, rfl, hz, k⟩ := h
    have hn := numS_len (cks_small z)
    refine ⟨_, PSs.nox (pss_one (ps_ret (pe_joined (PJ.cons (pe_fmt (pv 0)) (PJ.cons pe_str (PJ.cons (pe_fmt (pe_c c_checksum hr (by decide) rfl (pa_cons (pv 0) pa_nil))) (PJ.cons pe_str PJ.nil))))))), ?_⟩
    refine ⟨_, rfl, .inl ⟨_, rfl, szl (by omega), _, rfl, szl (by rw [cat_len, emp0]; omega), _, rfl, szl (by rw [cat_len, cat_len, emp0, k_bl]; omega), ?_⟩⟩
    refine ⟨_, rfl, z, rfl, .inr ⟨_, rfl, numS_log (cks_small z), ?_⟩⟩
    refine ⟨_, rfl, szl (by show (_ ++ _ ++ _ ++ numS _).length ≤ _; rw [cat_len, cat_len, cat_len, emp0, k_bl]; omega), _, rfl, szl (by show (_ ++ _ ++ _ ++ numS _ ++ _).length ≤ _; rw [cat_len, cat_len, cat_len, cat_len, emp0, k_bl, k_nl]; omega), k⟩
def spJAppend (K : PySem.W.Frag) : Sp := fun vs H Q _ => ∃ (p : Addr) (t z : Str) (n : Int), vs = [.ref p, .str z] ∧ JAt K H p t n ∧ t.length ≤ 10000 ∧ z.length ≤ 10000 ∧ ∀ H', JAt K H' p (t ++ sealT z) n → (∀ c o, H c = some o → c ≠ p → H' c = some o) → Q .non H'
theorem ok_Journal_append {P : Program} {w : World} {K : PySem.W.Frag} {mg : Str → Option Value} {base : Heap} {f : Addr} {fd : FuncData} (T : Tx K mg) (c_sealed : C8.Cal P w K mg base 2 "sealed" spSeal [])
    (F : FunD K "append" "Journal.append" (defArgs s_Journal_append) (defBody s_Journal_append) (defScope s_Journal_append) [] [] f fd) : FnOk P w K mg base CX0 3 f fd ["self", "text"] (spJAppend K) := by
  refine F.ok sc_Journal_append (fun vs H Q E h => ?_) (fun cdv A outer s H vs Q E hr h => ?_)
  · obtain ⟨p, t, z, n, rfl, _⟩ := h
    rfl
  · obtain ⟨p, t, z, n, rfl, ⟨dx, hp⟩, ht, hz, k⟩ := h
    refine ⟨_, PSs.nox (pss_one (ps_fldaug (pv 0) (pe_c c_sealed hr (by decide) rfl (pa_cons (pv 1) pa_nil)) in_addS)), ?_⟩
    have := seal_len z
    refine ⟨_, rfl, p, _, dx, _, _, rfl, hp, T.cl_Journal, T.na_Journal_text, rfl, _, rfl, z, rfl, hz, _, _, rfl, rfl, Nat.le_trans (show t.length + (sealT z).length ≤ 100000 by omega) (by decide), dx, _, hp, sm, ?_⟩
    exact k _ ⟨dx, upd_same⟩ fun c o e hc => (upd_ne hc).trans e
def spJSync (K : PySem.W.Frag) : Sp := fun vs H Q _ => ∃ (p : Addr) (t : Str) (n : Int), vs = [.ref p] ∧ JAt K H p t n ∧ t.length ≤ 10000 ∧ ∀ H', JAt K H' p t (t.length : Nat) → (∀ c o, H c = some o → c ≠ p → H' c = some o) → Q .non H'
theorem ok_Journal_sync {P : Program} {w : World} {K : PySem.W.Frag} {mg : Str → Option Value} {base : Heap} {f : Addr} {fd : FuncData} (T : Tx K mg) 
    (F : FunD K "sync" "Journal.sync" (defArgs s_Journal_sync) (defBody s_Journal_sync) (defScope s_Journal_sync) [] [] f fd) : FnOk P w K mg base CX0 1 f fd ["self"] (spJSync K) := by
  refine F.ok sc_Journal_sync (fun vs H Q E h => ?_) (fun cdv A outer s H vs Q E hr h => ?_)
  · obtain ⟨p, t, n, rfl, _⟩ := h
    rfl
  · obtain ⟨p, t, n, rfl, ⟨dx, hp⟩, ht, k⟩ := h
    refine ⟨_, PSs.nox (pss_one (ps_fldC rfl T.cl_Journal T.na_Journal_synced (pv 0) (pe_callB call_len_str rfl T.f_len PySem.boot_len (pa_cons (pe_fldC rfl T.cl_Journal T.na_Journal_text (pv 0) rfl) pa_nil)) rfl)), ?_⟩
    refine ⟨_, rfl, p, dx, _, _, rfl, hp, rfl, t, rfl, szl (by omega), _, rfl, p, dx, _, rfl, hp, sm, ?_⟩
    exact k _ ⟨dx, upd_same⟩ fun c o e hc => (upd_ne hc).trans e
def spJCrash (K : PySem.W.Frag) : Sp := fun vs H Q _ => ∃ (p : Addr) (t : Str) (n m : Int), vs = [.ref p, .int m] ∧ JAt K H p t n ∧ t.length ≤ 10000 ∧ Q (.str (Txt.slice t none (some (n + m)))) H
theorem ok_Journal_after_crash {P : Program} {w : World} {K : PySem.W.Frag} {mg : Str → Option Value} {base : Heap} {f : Addr} {fd : FuncData} (T : Tx K mg) 
    (F : FunD K "after_crash" "Journal.after_crash" (defArgs s_Journal_after_crash) (defBody s_Journal_after_crash) (defScope s_Journal_after_crash) [] [] f fd) : FnOk P w K mg base CX0 1 f fd ["self", "kept"] (spJCrash K) := by
  refine F.ok sc_Journal_after_crash (fun vs H Q E h => ?_) (fun cdv A outer s H vs Q E hr h => ?_)
  · obtain ⟨p, t, n, m, rfl, _⟩ := h
    rfl
  · obtain ⟨p, t, n, m, rfl, ⟨dx, hp⟩, ht, k⟩ := h
    refine ⟨_, PSs.nox (pss_one (ps_ret (pe_slice C8.sl_txt (pe_fldC rfl T.cl_Journal T.na_Journal_text (pv 0) rfl) po_none (po_some (pe_op op_add (pe_fldC rfl T.cl_Journal T.na_Journal_synced (pv 0) rfl) (pv 1)))))), ?_⟩
    exact ⟨_, rfl, p, dx, _, _, rfl, hp, rfl, _, rfl, p, dx, _, _, rfl, hp, rfl, _, rfl, _, _, rfl, rfl, n + m, rfl, t, rfl, szl (by omega), k⟩

theorem split_ne (z : Str) : Txt.split z "\n" ≠ [] := by
  rw [nl_S]
  intro e
  have q := congrArg TL.tl (StrLaws.join_split z (S [10]))
  rw [e, TL.tl_join] at q
  have q2 : TL.tl z = [] := q.symm
  have e2 : z = S [] := TL.ext_tl (by rw [q2])
  rw [e2, hX0'] at e
  cases e
theorem readL_cons (l : Str) (r : List Str) : readL (l :: r) = if sealT (Txt.rpartition l " ").1 = l ++ "\n" then (Txt.rpartition l " ").1 :: readL r else [] := rfl
theorem vstr (a b : Str) : decide (V.str a = V.str b) = decide (a = b) := by
  by_cases h : a = b
  · rw [h, decide_eq_true rfl, decide_eq_true rfl]
  · rw [decide_eq_false h, decide_eq_false fun e => h (V.str.inj e)]
def spRead : Sp := fun vs H Q _ => ∃ z : Str, vs = [.str z] ∧ z.length ≤ 9000 ∧ ∀ r H', Same H H' → H' r = some (.lst ((readJ z).map V.str)) → Q (.ref r) H'
theorem joinL_ge : ∀ l : List (List Nat), l.length ≤ (TL.joinL [10] l).length + 1
  | [] => Nat.zero_le _
  | [p] => by simp
  | p :: a :: r => by
    have ih := joinL_ge (a :: r)
    show (a :: r).length + 1 ≤ (p ++ ([10] ++ TL.joinL [10] (a :: r))).length + 1
    rw [List.length_append, List.length_append]
    have : ([10] : List Nat).length = 1 := rfl
    omega
theorem parts_le (z : Str) : (Txt.split z "\n").length ≤ z.length + 1 := by
  have e := congrArg TL.tl (StrLaws.join_split z "\n")
  rw [TL.tl_join, nl_S] at e
  have q := joinL_ge ((Txt.split z (S [10])).map TL.tl)
  rw [List.length_map, show TL.joinL [10] ((Txt.split z (S [10])).map TL.tl) = TL.tl z from e, ← len_eq] at q
  rw [nl_S]
  exact q
theorem ok_read_journal {P : Program} {w : World} {K : PySem.W.Frag} {mg : Str → Option Value} {base : Heap} {f : Addr} {fd : FuncData} (T : Tx K mg) (c_sealed : C8.Cal P w K mg base 2 "sealed" spSeal [])
    (F : FunD K "read_journal" "read_journal" (defArgs s_read_journal) (defBody s_read_journal) (defScope s_read_journal) [] [] f fd) : FnOk P w K mg base CX0 4 f fd ["text"] spRead := by
  refine F.ok sc_read_journal (fun vs H Q E h => ?_) (fun cdv A outer s H vs Q E hr h => ?_)
  · obtain ⟨z, rfl, _⟩ := h
    rfl
  · obtain ⟨z, rfl, hz, k⟩ := h
    refine ⟨_, PSs.nox (pss_cons (ps_set (i := 1) sc_read_journal.nd rfl (Or.inl rfl) (pe_split (pv 0) pe_str)) (pss_cons (ps_expr (pe_bm0 PySem.F.plainAttrs_list PySem.F.slot_list_pop PySem.F.type_list_pop mt_pop (pv 1))) (pss_cons (ps_set (i := 2) sc_read_journal.nd rfl (Or.inl rfl) (pe_lst pa_nil)) (pss_cons (ps_for PassesOwn.never rfl (pi_list (pv 1)) (pg_name (i := 3) sc_read_journal.nd rfl (Or.inl rfl)) (pss_cons (ps_set (i := 4) sc_read_journal.nd rfl (Or.inl rfl) (pe_ix ix_tup (TK.pe_rpartition (pv 3) pe_str) pe_int (fun _ _ => rfl))) (C8.pss_cut (ps_if (pt_cmpR op_ne (pe_c c_sealed hr (by decide) rfl (pa_cons (pv 4) pa_nil)) (pe_op op_add_str (pv 3) pe_str) (nomark _)) (pss_one (ps_ret (pv 2))) pss_nil) (pss_one (ps_expr (pe_bm PySem.F.plainAttrs_list PySem.F.slot_list_append PySem.F.type_list_append mt_append (pv 2) (pa_cons (pv 4) pa_nil))))))) (pss_one (ps_ret (pv 2))))))), ?_⟩
    refine ⟨_, rfl, ⟨_, rfl⟩, z, "\n", rfl, rfl, by decide +kernel, Nat.le_trans (Nat.add_le_add_right hz 2) (by decide), fun l hl => ?_⟩
    have hne := split_ne z
    have hpl : ∀ x ∈ Txt.split z "\n", x.length ≤ z.length := fun x hx => part_len hx
    have hle := parts_le z
    have k2 : ∀ r H', Same H H' → H' r = some (.lst ((readL (Txt.split z "\n").dropLast).map V.str)) → Q (.ref r) H' := k
    generalize Txt.split z "\n" = ps at hne hpl hle k2 ⊢
    -- lines.pop()
    have hlast : (ps.map V.str)[(ps.map V.str).length - 1]? = some (.str (ps.getLast hne)) := by
      rw [List.length_map, List.getElem?_map, List.getLast_eq_getElem]
      rw [List.getElem?_eq_getElem (by have := List.length_pos_iff.mpr hne; omega)]
      rfl
    refine ⟨_, rfl, .inl ⟨rfl, _, SqL.of upd_same⟩, l, _, _, rfl, rfl, upd_same, hlast, ?_⟩
    rw [upd_upd, ← List.map_dropLast]
    have hd : ∀ x ∈ ps.dropLast, x.length ≤ 9000 := fun x hx => Nat.le_trans (hpl x (List.dropLast_subset ps hx)) hz
    have hdl : ps.dropLast.length ≤ 9001 := by rw [List.length_dropLast]; omega
    generalize ps.dropLast = ls at hd hdl k2 ⊢
    refine ⟨by show 0 ≤ sizeLine; decide, fun t ht => ?_⟩
    obtain ⟨lt, ht0, s2, q1, q2⟩ := new2 (u := .lst []) hl ht
    refine ⟨_, rfl, l, rfl, ⟨_, SqL.of q1⟩, for_list (K := K) (a := l) (xs := ls.map V.str) (fun i σ H1 => ∃ (acc : List Str) (v3 v4 : Option V), σ = [some (.str z), some (.ref l), some (.ref t), v3, v4] ∧ Same H H1 ∧ H1 l = some (.lst (ls.map V.str)) ∧ H1 t = some (.lst (acc.map V.str)) ∧ acc.length = i ∧ i ≤ ls.length ∧ readL ls = acc ++ readL (ls.drop i)) ⟨[], none, none, rfl, s2, q1, q2, rfl, Nat.zero_le _, rfl⟩ (fun i σ H1 _ ⟨_, _, _, _, _, q, _⟩ => SqL.of q) ?_ ?_⟩
    · rintro i y σ H1 hi ⟨acc, v3, v4, rfl, s1, h1, h2, h3, h4, h5⟩
      have hi2 : i < ls.length := by
        have := (List.getElem?_eq_some_iff.mp hi).1
        rw [List.length_map] at this
        exact this
      rw [List.getElem?_map, List.getElem?_eq_getElem hi2] at hi
      obtain rfl := Option.some.inj hi
      have hx := hd _ (List.getElem_mem hi2)
      have hf := (fact_rpartition ls[i] " ").1
      have hd2 : ls.drop i = ls[i] :: ls.drop (i + 1) := List.drop_eq_getElem_cons hi2
      refine ⟨_, rfl, ⟨_, rfl⟩, ls[i], " ", rfl, rfl, by decide +kernel, szl (by omega), fun p hp => ?_⟩
      have sp := same_upd (o := .tup [.str (Txt.rpartition ls[i] " ").1, .str (Txt.rpartition ls[i] " ").2.1, .str (Txt.rpartition ls[i] " ").2.2]) hp
      refine ⟨p, _, 0, _, rfl, rfl, SqT.of upd_same, rfl, ?_⟩
      have h1' := sp _ _ h1
      have h2' := sp _ _ h2
      have s1' := s1.trans sp
      generalize upd H1 p (.tup [.str (Txt.rpartition ls[i] " ").1, .str (Txt.rpartition ls[i] " ").2.1, .str (Txt.rpartition ls[i] " ").2.2]) = H2 at h1' h2' s1' ⊢
      have hsl := seal_len (Txt.rpartition ls[i] " ").1
      rw [hd2, readL_cons] at h5
      refine ⟨fun σ' H' => σ' = [some (.str z), some (.ref l), some (.ref t), some (.str ls[i]), some (.str (Txt.rpartition ls[i] " ").1)] ∧ H' = H2 ∧ sealT (Txt.rpartition ls[i] " ").1 = ls[i] ++ "\n", ?_, ?_⟩
      · refine ⟨_, rfl, _, rfl, by omega, _, rfl, _, _, rfl, rfl, Nat.le_trans (Nat.add_le_add hx (Nat.le_of_eq k_nl)) (by decide), rfl, _, rfl, ?_⟩
        rw [vstr]
        by_cases hs : sealT (Txt.rpartition ls[i] " ").1 = ls[i] ++ "\n"
        · rw [decide_eq_true hs]
          exact iteF ⟨rfl, rfl, hs⟩
        · rw [decide_eq_false hs]
          rw [if_neg hs, List.append_nil] at h5
          exact iteT ⟨_, rfl, k2 t H2 s1' (by rw [h5]; exact h2')⟩
      rintro σ' H' ⟨rfl, rfl, hs⟩
      rw [if_pos hs] at h5
      refine ⟨_, rfl, .inl ⟨rfl, _, SqL.of h2'⟩, _, rfl, t, _, _, rfl, rfl, h2', by rw [List.length_map, h3]; exact Nat.lt_of_lt_of_le (show i < 10000 by omega) (by decide), ?_⟩
      exact ⟨acc ++ [(Txt.rpartition ls[i] " ").1], _, _, rfl, TK.Same.upd_of s1' ht0, (upd_ne lt).trans h1', by rw [List.map_append]; exact upd_same, by rw [List.length_append, h3]; rfl, hi2, by rw [h5, List.append_assoc]; rfl⟩
    · rintro σ H1 ⟨acc, v3, v4, rfl, s1, h1, h2, h3, h4, h5⟩
      rw [List.length_map, List.drop_length] at h5
      exact ⟨_, rfl, k2 t H1 s1 (by rw [h5]; unfold readL; rw [List.append_nil]; exact h2)⟩

end K12
set_option maxHeartbeats 1000000
set_option pp.maxSteps 500
namespace K12
open PySem PySem.Spec PyProof.Rows L2 SX TK NdefX K11 LD
open C8 (pe_c)
abbrev Bd : Type := Int × Int
def tupV (b : Bd) : List V := [.int b.1, .int b.2]
def TupsAt (H : Hp) : List Addr → List Bd → Prop
  | [], [] => True
  | t :: ts, b :: bs => H t = some (.tup (tupV b)) ∧ TupsAt H ts bs
  | _, _ => False
theorem TupsAt.mono {H H' : Hp} (s : ∀ x b, H x = some (.tup (tupV b)) → H' x = some (.tup (tupV b))) : ∀ {ts : List Addr} {bs : List Bd}, TupsAt H ts bs → TupsAt H' ts bs
  | [], [], _ => trivial
  | t :: ts, b :: bs, h => ⟨s _ _ h.1, TupsAt.mono s h.2⟩
  | [], _ :: _, h => h
  | _ :: _, [], h => h
theorem TupsAt.snoc {H : Hp} {t : Addr} {b : Bd} (ht : H t = some (.tup (tupV b))) : ∀ {ts : List Addr} {bs : List Bd}, TupsAt H ts bs → TupsAt H (ts ++ [t]) (bs ++ [b])
  | [], [], _ => ⟨ht, trivial⟩
  | _ :: _, _ :: _, h => ⟨h.1, TupsAt.snoc ht h.2⟩
  | [], _ :: _, h => h.elim
  | _ :: _, [], h => h.elim
theorem TupsAt.app {H : Hp} : ∀ {ts ts' : List Addr} {bs bs' : List Bd}, TupsAt H ts bs → TupsAt H ts' bs' → TupsAt H (ts ++ ts') (bs ++ bs')
  | [], _, [], _, _, h => h
  | _ :: _, _, _ :: _, _, h, h' => ⟨h.1, TupsAt.app h.2 h'⟩
  | [], _, _ :: _, _, h, _ => h.elim
  | _ :: _, _, [], _, h, _ => h.elim
theorem TupsAt.take {H : Hp} : ∀ {ts : List Addr} {bs : List Bd} (n : Nat), TupsAt H ts bs → TupsAt H (ts.take n) (bs.take n)
  | [], [], n, _ => by rw [List.take_nil, List.take_nil]; trivial
  | _ :: _, _ :: _, 0, _ => trivial
  | _ :: _, _ :: _, n + 1, h => ⟨h.1, TupsAt.take n h.2⟩
  | [], _ :: _, _, h => h.elim
  | _ :: _, [], _, h => h.elim
theorem TupsAt.drop {H : Hp} : ∀ {ts : List Addr} {bs : List Bd} (n : Nat), TupsAt H ts bs → TupsAt H (ts.drop n) (bs.drop n)
  | [], [], n, _ => by rw [List.drop_nil, List.drop_nil]; trivial
  | _ :: _, _ :: _, 0, h => h
  | _ :: _, _ :: _, n + 1, h => TupsAt.drop n h.2
  | [], _ :: _, _, h => h.elim
  | _ :: _, [], _, h => h.elim
theorem TupsAt.len {H : Hp} : ∀ {ts : List Addr} {bs : List Bd}, TupsAt H ts bs → ts.length = bs.length
  | [], [], _ => rfl
  | _ :: _, _ :: _, h => congrArg Nat.succ (TupsAt.len h.2)
  | [], _ :: _, h => h.elim
  | _ :: _, [], h => h.elim
theorem TupsAt.at_ {H : Hp} : ∀ {ts : List Addr} {bs : List Bd}, TupsAt H ts bs → ∀ (i : Nat) (x : V), (ts.map V.ref)[i]? = some x → ∃ t, x = .ref t ∧ ts[i]? = some t ∧ i < bs.length ∧ H t = some (.tup (tupV (bs.getD i (0, 0))))
  | [], [], _, i, x, h => by cases h
  | t :: _, b :: _, h, 0, x, e => ⟨t, (Option.some.inj e).symm, rfl, Nat.succ_pos _, h.1⟩
  | _ :: ts, _ :: bs, h, i + 1, x, e => by
    obtain ⟨t, e1, e2, e3, e4⟩ := TupsAt.at_ h.2 i x e
    exact ⟨t, e1, e2, Nat.succ_lt_succ e3, e4⟩
  | [], _ :: _, h, _, _, _ => h.elim
  | _ :: _, [], h, _, _, _ => h.elim
def BAt (H : Hp) (r : Addr) (bs : List Bd) : Prop := ∃ ts : List Addr, H r = some (.lst (ts.map V.ref)) ∧ TupsAt H ts bs
theorem BAt.same {H H' : Hp} {r : Addr} {bs : List Bd} (h : BAt H r bs) (s : Same H H') : BAt H' r bs := by
  obtain ⟨ts, e, t⟩ := h
  exact ⟨ts, s _ _ e, t.mono fun x b e => s _ _ e⟩
theorem BAt.keep {H H' : Hp} {r s c : Addr} {bs : List Bd} (h : BAt H r bs) (hs : StAt H s c) (k : Keep H H' s c) (h1 : r ≠ s) (h2 : r ≠ c) : BAt H' r bs := by
  obtain ⟨ts, e, t⟩ := h
  obtain ⟨_, ⟨n, hn⟩, ns, hc, _⟩ := hs
  exact ⟨ts, k _ _ e h1 h2, t.mono fun x b e => k _ _ e (ne_of e hn (by intro z; cases z)) (ne_of e hc (by intro z; cases z))⟩
def okU (i : Int) : Bool := if 1 ≤ i then decide (i ≤ 10000) else false
def okP (i : Int) : Bool := if 0 ≤ i then decide (i ≤ 10000) else false
def okD (b : Bd) : Bool := if okU b.1 = true then okP b.2 else false
def okB (bs : List Bd) : Bool := if bs.length ≤ 8 then bs.all okD else false
def spIsU : Sp := fun vs H Q _ => ∃ i : Int, vs = [.int i] ∧ Q (.bl (okU i)) H
def spIsP : Sp := fun vs H Q _ => ∃ i : Int, vs = [.int i] ∧ Q (.bl (okP i)) H
def spAreB (K : PySem.W.Frag) : Sp := fun vs H Q _ => ∃ (r : Addr) (bs : List Bd), vs = [.ref r] ∧ BAt H r bs ∧ bs.length ≤ 40 ∧ ∀ H', Same H H' → Q (.bl (okB bs)) H'
theorem ok_is_unit {P : Program} {w : World} {K : PySem.W.Frag} {mg : Str → Option Value} {base : Heap} {f : Addr} {fd : FuncData} (T : Tx K mg) 
    (F : FunD K "_is_unit" "_is_unit" (defArgs s_is_unit) (defBody s_is_unit) (defScope s_is_unit) [] [] f fd) : FnOk P w K mg base CX0 1 f fd ["number"] spIsU := by
  refine F.ok sc_is_unit (fun vs H Q E h => ?_) (fun cdv A outer s0 H vs Q E hr h => ?_)
  · obtain ⟨i, rfl, _⟩ := h
    rfl
  · obtain ⟨i, rfl, k⟩ := h
    refine ⟨_, PSs.nox (pss_one (ps_ret (pe_chain op_le op_le pe_int (pv 0) (pgI T.g_GREATEST_UNIT)))), ?_⟩
    refine ⟨_, rfl, _, _, rfl, rfl, _, rfl, ?_⟩
    unfold okU at k
    by_cases c : 1 ≤ i
    · rw [if_pos c] at k
      rw [decide_eq_true c]
      exact iteT ⟨_, _, rfl, rfl, k⟩
    · rw [if_neg c] at k
      rw [decide_eq_false c]
      exact iteF k
theorem ok_is_price {P : Program} {w : World} {K : PySem.W.Frag} {mg : Str → Option Value} {base : Heap} {f : Addr} {fd : FuncData} (T : Tx K mg) 
    (F : FunD K "_is_price" "_is_price" (defArgs s_is_price) (defBody s_is_price) (defScope s_is_price) [] [] f fd) : FnOk P w K mg base CX0 1 f fd ["number"] spIsP := by
  refine F.ok sc_is_price (fun vs H Q E h => ?_) (fun cdv A outer s0 H vs Q E hr h => ?_)
  · obtain ⟨i, rfl, _⟩ := h
    rfl
  · obtain ⟨i, rfl, k⟩ := h
    refine ⟨_, PSs.nox (pss_one (ps_ret (pe_chain op_le op_le pe_int (pv 0) (pgI T.g_GREATEST_PRICE)))), ?_⟩
    refine ⟨_, rfl, _, _, rfl, rfl, _, rfl, ?_⟩
    unfold okP at k
    by_cases c : 0 ≤ i
    · rw [if_pos c] at k
      rw [decide_eq_true c]
      exact iteT ⟨_, _, rfl, rfl, k⟩
    · rw [if_neg c] at k
      rw [decide_eq_false c]
      exact iteF k
theorem ok_are_bands {P : Program} {w : World} {K : PySem.W.Frag} {mg : Str → Option Value} {base : Heap} {f : Addr} {fd : FuncData} (T : Tx K mg) (c_is_unit : C8.Cal P w K mg base 1 "_is_unit" spIsU []) (c_is_price : C8.Cal P w K mg base 1 "_is_price" spIsP [])
    (F : FunD K "_are_bands" "_are_bands" (defArgs s_are_bands) (defBody s_are_bands) (defScope s_are_bands) [] [] f fd) : FnOk P w K mg base CX0 2 f fd ["bands"] (spAreB K) := by
  refine F.ok sc_are_bands (fun vs H Q E h => ?_) (fun cdv A outer s0 H vs Q E hr h => ?_)
  · obtain ⟨r, bs, rfl, _⟩ := h
    rfl
  · obtain ⟨r, bs, rfl, hB, hn, k⟩ := h
    refine ⟨_, PSs.nox (pss_one (ps_ret (pe_and (pe_cmpR op_le (pe_callB call_len_seq rfl T.f_len PySem.boot_len (pa_cons (pv 0) pa_nil)) (pgI T.g_MOST_BANDS) (nomark _)) (pe_one (pe_callB (cr_all rfl) rfl T.f_all (by decide +kernel) (pa_cons (pe_lc (own := [("many", 1), ("price", 2)]) rfl sc_are_bands.nd (pi_list (pv 0)) (blkOk_by (own := [("many", 1), ("price", 2)]) (N := ["bands", "many", "price"]) (sc := defScope s_are_bands) (by decide +kernel)) (fun _ _ _ _ _ => TKE.pg_tupK (n := 2) K rfl rfl (pgs_cons (pg_name (i := 1) sc_are_bands.nd rfl (Or.inl rfl)) (pgs_cons (pg_name (i := 2) sc_are_bands.nd rfl (Or.inl rfl)) pgs_nil))) (fun _ _ _ _ _ => pts_nil) (fun _ _ _ _ _ => (pe_and (pe_c c_is_unit hr (by decide) rfl (pa_cons (pv 1) pa_nil)) (pe_one (pe_c c_is_price hr (by decide) rfl (pa_cons (pv 2) pa_nil)))))) pa_nil)))))), ?_⟩
    obtain ⟨ts, e, q⟩ := hB
    refine ⟨_, rfl, r, _, rfl, .inl (SqL.of e), _, _, rfl, rfl, _, rfl, ?_⟩
    have hl := q.len
    unfold okB at k
    by_cases c : bs.length ≤ 8
    · rw [List.length_map, hl, decide_eq_true (by omega)]
      simp only [if_pos c] at k
      refine iteT ?_
      refine ⟨_, rfl, r, rfl, ⟨_, SqL.of e⟩, fun D hD => ?_⟩
      have hnm : (ts.map V.ref).length ≤ sizeLine := by rw [List.length_map, hl, sizeLine_eq]; omega
      have hR : ∀ o, SqL K (upd H D o) r (ts.map V.ref) := fun o => SqL.of ((same_upd hD) _ _ e)
      refine lc_pure walk_list (fun i => V.bl (okD (bs.getD i (0, 0)))) hnm (fun _ _ => hR _) (fun i x H1 kk hi y qq => ?_) (fun _ _ _ _ h q => h _ _ q) (fun x σ H Q Q' h z => ?_) ?_
      · obtain ⟨rfl, hx⟩ := y
        obtain ⟨t, rfl, _, _, ht⟩ := q.at_ i x hx
        refine ⟨t, _, rfl, SqT.of ((same_upd hD) _ _ ht), rfl, _, _, rfl, _, _, rfl, rfl, rfl, rfl, ?_⟩
        generalize bs.getD i (0, 0) = b at qq
        refine ⟨_, rfl, b.1, rfl, _, rfl, ?_⟩
        unfold okD at qq
        by_cases c1 : okU b.1 = true
        · rw [if_pos c1] at qq
          rw [c1]
          exact iteT ⟨_, rfl, b.2, rfl, qq⟩
        · rw [if_neg c1] at qq
          rw [ef c1]
          exact iteF qq
      · obtain ⟨a, xs, e1, e2, e3, v1, r1, e4, v2, r2, e5, e6, q⟩ := z
        exact ⟨a, xs, e1, e2, e3, v1, r1, e4, v2, r2, e5, e6, h _ _ q⟩
      · refine ⟨D, bs.map okD, rfl, ?_, ?_⟩
        · have e9 : (List.range (ts.map V.ref).length).map (fun i => V.bl (okD (bs.getD i (0, 0)))) = (bs.map okD).map V.bl := by
            rw [List.length_map, hl, range_map_getD bs (0, 0) fun b => V.bl (okD b), List.map_map]
            rfl
          rw [e9]
          exact SqL.of upd_same
        · rw [List.all_map] 
          exact k _ (same_upd hD)
    · rw [List.length_map, hl, decide_eq_false (by omega)]
      simp only [if_neg c] at k
      exact iteF (k _ fun _ _ e => e)

end K12
set_option maxHeartbeats 1000000
set_option pp.maxSteps 500
namespace K12
open PySem PySem.Spec PyProof.Rows L2 SX TK NdefX K11 LD
open C8 (pe_c)
def minI (i j : Int) : Int := if j < i then j else i
def step (s : Int × Int) (b : Bd) : Int × Int := (s.1 - minI s.1 b.1, s.2 + minI s.1 b.1 * b.2)
def unitsI (u span : Int) : Int := (span + u - 1) / u
def costI (u : Int) (bs : List Bd) (l span : Int) : Int := (bs.foldl step (unitsI u span, 0)).2 + (bs.foldl step (unitsI u span, 0)).1 * l
def tfl (u : Int) (r : Addr) (l : Int) : List (Str × V) := [("unit", .int u), ("bands", .ref r), ("last", .int l)]
def TAt (K : PySem.W.Frag) (H : Hp) (p r : Addr) (u : Int) (bs : List Bd) (l : Int) : Prop := ∃ dx, H p = some (.ins (He.ga K "Tariff") dx (tfl u r l)) ∧ BAt H r bs
theorem TAt.same {K : PySem.W.Frag} {H H' : Hp} {p r : Addr} {u : Int} {bs : List Bd} {l : Int} (h : TAt K H p r u bs l) (s : Same H H') : TAt K H' p r u bs l := by
  obtain ⟨dx, e, t⟩ := h
  exact ⟨dx, s _ _ e, t.same s⟩
theorem okD_get {bs : List Bd} (h : okB bs = true) {i : Nat} (hi : i < bs.length) : okU (bs.getD i (0, 0)).1 = true ∧ okP (bs.getD i (0, 0)).2 = true := by
  unfold okB at h
  by_cases c : bs.length ≤ 8
  · rw [if_pos c, List.all_eq_true] at h
    have e := h (bs.getD i (0, 0)) (by rw [List.getD_eq_getElem?_getD, List.getElem?_eq_getElem hi]; exact List.getElem_mem _)
    unfold okD at e
    by_cases c1 : okU (bs.getD i (0, 0)).1 = true
    · rw [if_pos c1] at e
      exact ⟨c1, e⟩
    · rw [if_neg c1] at e
      cases e
  · rw [if_neg c] at h
    cases h
theorem okB_len {bs : List Bd} (h : okB bs = true) : bs.length ≤ 8 := by
  unfold okB at h
  by_cases c : bs.length ≤ 8
  · exact c
  · rw [if_neg c] at h
    cases h
theorem okU_to {i : Int} (h : okU i = true) : 1 ≤ i ∧ i ≤ 10000 := by
  unfold okU at h
  by_cases c : 1 ≤ i
  · rw [if_pos c] at h
    exact ⟨c, of_decide_eq_true h⟩
  · rw [if_neg c] at h
    cases h
theorem okP_to {i : Int} (h : okP i = true) : 0 ≤ i ∧ i ≤ 10000 := by
  unfold okP at h
  by_cases c : 0 ≤ i
  · rw [if_pos c] at h
    exact ⟨c, of_decide_eq_true h⟩
  · rw [if_neg c] at h
    cases h
theorem take_step {bs : List Bd} {i : Nat} (hi : i < bs.length) (s0 : Int × Int) : (bs.take (i + 1)).foldl step s0 = step ((bs.take i).foldl step s0) (bs.getD i (0, 0)) := by
  rw [List.take_add_one, List.getElem?_eq_getElem hi, List.foldl_append, List.getD_eq_getElem?_getD, List.getElem?_eq_getElem hi]
  rfl
def spUnits (K : PySem.W.Frag) : Sp := fun vs H Q _ => ∃ (p dx r : Addr) (u l span : Int), vs = [.ref p, .int span] ∧ H p = some (.ins (He.ga K "Tariff") dx (tfl u r l)) ∧ 1 ≤ u ∧ u ≤ 10000 ∧ Q (.int (unitsI u span)) H
theorem ok_Tariff_units {P : Program} {w : World} {K : PySem.W.Frag} {mg : Str → Option Value} {base : Heap} {f : Addr} {fd : FuncData} (T : Tx K mg) 
    (F : FunD K "units" "Tariff.units" (defArgs s_Tariff_units) (defBody s_Tariff_units) (defScope s_Tariff_units) [] [] f fd) : FnOk P w K mg base CX0 1 f fd ["self", "span"] (spUnits K) := by
  refine F.ok sc_Tariff_units (fun vs H Q E h => ?_) (fun cdv A outer s0 H vs Q E hr h => ?_)
  · obtain ⟨p, dx, r, u, l, span, rfl, _⟩ := h
    rfl
  · obtain ⟨p, dx, r, u, l, span, rfl, hp, h1, h2, k⟩ := h
    refine ⟨_, PSs.nox (pss_one (ps_ret (pe_op op_fdiv (pe_op op_sub (pe_op op_add (pv 1) (pe_fldC rfl T.cl_Tariff T.na_Tariff_unit (pv 0) rfl)) pe_int) (pe_fldC rfl T.cl_Tariff T.na_Tariff_unit (pv 0) rfl)))), ?_⟩
    exact ⟨_, rfl, _, rfl, p, dx, _, _, rfl, hp, rfl, _, _, rfl, rfl, _, _, rfl, rfl, _, rfl, p, dx, _, _, rfl, hp, rfl, _, _, rfl, rfl, ⟨by omega, by omega⟩, k⟩
def spCost (K : PySem.W.Frag) : Sp := fun vs H Q _ => ∃ (p r : Addr) (u l span : Int) (bs : List Bd), vs = [.ref p, .int span] ∧ TAt K H p r u bs l ∧ okU u = true ∧ okB bs = true ∧ okP l = true ∧ Q (.int (costI u bs l span)) H
theorem ok_Tariff_cost {P : Program} {w : World} {K : PySem.W.Frag} {mg : Str → Option Value} {base : Heap} {f : Addr} {fd : FuncData} (T : Tx K mg) (c_Tariff_units : C8.Met P w K mg base 1 (He.ga K "Tariff") "units" (spUnits K) [])
    (F : FunD K "cost" "Tariff.cost" (defArgs s_Tariff_cost) (defBody s_Tariff_cost) (defScope s_Tariff_cost) [] [] f fd) : FnOk P w K mg base CX0 2 f fd ["self", "span"] (spCost K) := by
  refine F.ok sc_Tariff_cost (fun vs H Q E h => ?_) (fun cdv A outer s0 H vs Q E hr h => ?_)
  · obtain ⟨p, r, u, l, span, bs, rfl, _⟩ := h
    rfl
  · obtain ⟨p, r, u, l, span, bs, rfl, ⟨dx, hp, ts, e, q⟩, h1, h2, h3, k⟩ := h
    refine ⟨_, PSs.nox (pss_cons (ps_set (i := 2) sc_Tariff_cost.nd rfl (Or.inl rfl) (C8.pe_mt c_Tariff_units hr (by decide) (pv 0) (pa_cons (pv 1) pa_nil))) (pss_cons (ps_set (i := 3) sc_Tariff_cost.nd rfl (Or.inl rfl) pe_int) (pss_cons (ps_for PassesOwn.never rfl (pi_list (pe_fldC rfl T.cl_Tariff T.na_Tariff_bands (pv 0) rfl)) (pg_tup rfl (pgs_cons (pg_name (i := 4) sc_Tariff_cost.nd rfl (Or.inl rfl)) (pgs_cons (pg_name (i := 5) sc_Tariff_cost.nd rfl (Or.inl rfl)) pgs_nil))) (pss_cons (ps_set (i := 6) sc_Tariff_cost.nd rfl (Or.inl rfl) (pe_callB (call_min2 rfl) rfl T.f_min (by decide +kernel) (pa_cons (pv 2) (pa_cons (pv 4) pa_nil)))) (pss_cons (ps_aug (i := 3) sc_Tariff_cost.nd rfl (Or.inl rfl) (pe_op op_mul (pv 6) (pv 5)) ip_add) (pss_one (ps_aug (i := 2) sc_Tariff_cost.nd rfl (Or.inl rfl) (pv 6) ip_sub))))) (pss_one (ps_ret (pe_op op_add (pv 3) (pe_op op_mul (pv 2) (pe_fldC rfl T.cl_Tariff T.na_Tariff_last (pv 0) rfl)))))))), ?_⟩
    have hl := q.len
    have hu := okU_to h1
    have hlp := okP_to h3
    refine ⟨_, rfl, p, dx, _, rfl, hp, rfl, _, rfl, p, dx, r, u, l, span, rfl, hp, hu.1, hu.2, ?_⟩
    refine ⟨_, rfl, p, dx, _, _, rfl, hp, rfl, r, rfl, ⟨_, SqL.of e⟩, for_list (K := K) (a := r) (xs := ts.map V.ref) (fun i σ H' => H' = H ∧ ∃ (v1 v2 v3 : Option V), σ = [some (.ref p), some (.int span), some (.int ((bs.take i).foldl step (unitsI u span, 0)).1), some (.int ((bs.take i).foldl step (unitsI u span, 0)).2), v1, v2, v3]) ⟨rfl, none, none, none, rfl⟩ (fun i σ H' _ q => q.1 ▸ SqL.of e) ?_ ?_⟩
    · rintro i y σ H' hi ⟨rfl, v1, v2, v3, rfl⟩
      obtain ⟨t, rfl, _, hib, ht⟩ := q.at_ i y hi
      obtain ⟨b1, b2⟩ := okD_get h2 hib
      have hb2 := okP_to b2
      have e9 := take_step hib (unitsI u span, 0)
      rw [e9]
      generalize (bs.take i).foldl step (unitsI u span, 0) = st
      generalize bs.getD i (0, 0) = b at ht b1 b2 hb2
      refine ⟨t, _, rfl, SqT.of ht, rfl, _, _, rfl, _, _, rfl, rfl, ?_⟩
      refine ⟨_, rfl, _, rfl, _, _, rfl, ?_⟩
      refine ⟨_, rfl, _, rfl, _, rfl, _, _, rfl, rfl, .inr ⟨by omega, by omega⟩, ?_⟩
      exact ⟨_, _, rfl, rfl, _, rfl, _, rfl, _, _, rfl, rfl, rfl, some (.int b.1), some (.int b.2), some (.int (minI st.1 b.1)), rfl⟩
    · rintro σ H' ⟨rfl, v1, v2, v3, rfl⟩
      rw [List.length_map, hl, List.take_length]
      refine ⟨_, rfl, _, rfl, _, rfl, p, dx, _, _, rfl, hp, rfl, _, _, rfl, rfl, .inr ⟨by omega, by omega⟩, _, _, rfl, rfl, k⟩
def fltS (u : Int) (bs : List Bd) (l : Int) : Str := if okU u = true then (if okB bs = true then (if okP l = true then "" else "last") else "bands") else "unit"
def spTrInit (K : PySem.W.Frag) : Sp := fun vs H Q E => ∃ (p dx a : Addr) (u l : Int) (bs : List Bd), vs = [.ref p, .int u, .ref a, .int l] ∧ H p = some (.ins (He.ga K "Tariff") dx []) ∧ BAt H a bs ∧ bs.length ≤ 40 ∧
  (fltS u bs l = "" → ∀ r H', H' p = some (.ins (He.ga K "Tariff") dx (tfl u r l)) → BAt H' r bs → H r = none → (∀ c o, H c = some o → c ≠ p → H' c = some o) → Q .non H') ∧
  (fltS u bs l ≠ "" → ∀ d H', H' d = some (.xd [("setting", .str (fltS u bs l))]) → Same H H' → E (.ref (He.ga K "ConfigError")) (some d) H')
theorem ok_Tariff___init {P : Program} {w : World} {K : PySem.W.Frag} {mg : Str → Option Value} {base : Heap} {f : Addr} {fd : FuncData} (T : Tx K mg) (x_ConfigError : TKE.ExcMk P w K mg base "ConfigError" (He.ga K "ConfigError") "setting" TKE.isS) (c_is_unit : C8.Cal P w K mg base 1 "_is_unit" spIsU []) (c_is_price : C8.Cal P w K mg base 1 "_is_price" spIsP []) (c_are_bands : C8.Cal P w K mg base 2 "_are_bands" (spAreB K) [])
    (F : FunD K "__init__" "Tariff.__init__" (defArgs s_Tariff___init) (defBody s_Tariff___init) (defScope s_Tariff___init) [] [] f fd) : FnOk P w K mg base (L2.CX P w) 3 f fd ["self", "unit", "bands", "last"] (spTrInit K) := by
  refine F.ok sc_Tariff___init (fun vs H Q E h => ?_) (fun cdv A outer s0 H vs Q E hr h => ?_)
  · obtain ⟨p, dx, a, u, l, bs, rfl, _⟩ := h
    rfl
  · obtain ⟨p, dx, a, u, l, bs, rfl, hp, hB, hn, k1, k2⟩ := h
    refine ⟨_, (C8.pss_cut (ps_if (pt_not (pt_val (pe_c c_is_unit hr (by decide) rfl (pa_cons (pv 1) pa_nil)))) (pss_one (TKE.ps_raiseE x_ConfigError rfl (takes_of rfl rfl rfl rfl) hr (by decide) rfl pe_str)) pss_nil) (C8.pss_cut (ps_if (pt_not (pt_val (pe_c c_are_bands hr (by decide) rfl (pa_cons (pv 2) pa_nil)))) (pss_one (TKE.ps_raiseE x_ConfigError rfl (takes_of rfl rfl rfl rfl) hr (by decide) rfl pe_str)) pss_nil) (C8.pss_cut (ps_if (pt_not (pt_val (pe_c c_is_price hr (by decide) rfl (pa_cons (pv 3) pa_nil)))) (pss_one (TKE.ps_raiseE x_ConfigError rfl (takes_of rfl rfl rfl rfl) hr (by decide) rfl pe_str)) pss_nil) (pss_cons (ps_fldC rfl T.cl_Tariff T.na_Tariff_unit (pv 0) (pv 1) rfl) (pss_cons (ps_fldC rfl T.cl_Tariff T.na_Tariff_bands (pv 0) (pe_lc (own := [("band", 4)]) (g := gName 4) rfl sc_Tariff___init.nd (pi_list (pv 2)) (blkOk_by (own := [("band", 4)]) (N := ["self", "unit", "bands", "last", "band"]) (sc := defScope s_Tariff___init) (by decide +kernel)) (fun _ _ _ _ _ => pg_name (i := 4) sc_Tariff___init.nd rfl (Or.inl rfl)) (fun _ _ _ _ _ => pts_nil) (fun _ _ _ _ _ => (pe_callTy (TKE.tupOfK K rfl) rfl T.f_tuple (by decide +kernel) (pa_cons (pv 4) pa_nil)))) rfl) (pss_one (ps_fldC rfl T.cl_Tariff T.na_Tariff_last (pv 0) (pv 3) rfl))))))), ?_⟩
    refine ⟨fun σ' H' => okU u = true ∧ σ' = [some (.ref p), some (.int u), some (.ref a), some (.int l), none] ∧ H' = H, ?_, ?_⟩
    · refine ⟨_, rfl, u, rfl, _, rfl, ?_⟩
      by_cases c : okU u = true
      · rw [c]
        exact iteF ⟨rfl, rfl, rfl⟩
      · rw [ef c]
        refine iteT ⟨⟨"unit", rfl, by decide⟩, fun d hd => ?_⟩
        have ef1 : fltS u bs l = "unit" := by unfold fltS; rw [if_neg c]
        exact k2 (by rw [ef1]; decide) d _ (by rw [ef1]; exact upd_same) (same_upd hd)
    · rintro σ' H' ⟨cu, rfl, rfl⟩
      refine ⟨fun σ' H2 => okB bs = true ∧ σ' = [some (.ref p), some (.int u), some (.ref a), some (.int l), none] ∧ Same H' H2, ?_, ?_⟩
      · refine ⟨_, rfl, a, bs, rfl, hB, hn, fun H1 s1 => ⟨_, rfl, ?_⟩⟩
        by_cases c : okB bs = true
        · rw [c]
          exact iteF ⟨rfl, rfl, s1⟩
        · rw [ef c]
          refine iteT ⟨⟨"bands", rfl, by decide⟩, fun d hd => ?_⟩
          have ef1 : fltS u bs l = "bands" := by unfold fltS; rw [if_pos cu, if_neg c]
          exact k2 (by rw [ef1]; decide) d _ (by rw [ef1]; exact upd_same) (s1.trans (same_upd hd))
      · rintro σ' H2 ⟨cb, rfl, s2⟩
        refine ⟨fun σ' H3 => okP l = true ∧ σ' = [some (.ref p), some (.int u), some (.ref a), some (.int l), none] ∧ H3 = H2, ?_, ?_⟩
        · refine ⟨_, rfl, l, rfl, _, rfl, ?_⟩
          by_cases c : okP l = true
          · rw [c]
            exact iteF ⟨rfl, rfl, rfl⟩
          · rw [ef c]
            refine iteT ⟨⟨"last", rfl, by decide⟩, fun d hd => ?_⟩
            have ef1 : fltS u bs l = "last" := by unfold fltS; rw [if_pos cu, if_pos cb, if_neg c]
            exact k2 (by rw [ef1]; decide) d _ (by rw [ef1]; exact upd_same) (s2.trans (same_upd hd))
        · rintro σ' H3 ⟨cl, rfl, rfl⟩
          have ef1 : fltS u bs l = "" := by unfold fltS; rw [if_pos cu, if_pos cb, if_pos cl]
          have k := k1 ef1
          clear k1 k2
          have hp3 := s2 _ _ hp
          obtain ⟨ts, e, q⟩ := hB.same s2
          have pa : a ≠ p := ne_of e hp3 (by intro z; cases z)
          refine ⟨_, rfl, _, rfl, p, dx, _, rfl, hp3, sm, ?_⟩
          refine ⟨_, rfl, a, rfl, ⟨_, SqL.of ((upd_ne pa).trans e)⟩, fun D hD => ?_⟩
          have Dp : D ≠ p := fun z => by rw [z, upd_same] at hD; cases hD
          have hD3 : H3 D = none := by rw [upd_ne Dp] at hD; exact hD
          have aD : a ≠ D := ne_of_none e hD3
          have hl := q.len
          have hR : ∀ o, SqL K (upd (upd H3 p (.ins (He.ga K "Tariff") dx (putF "unit" (.int u) []))) D o) a (ts.map V.ref) := fun o => SqL.of ((upd_ne aD).trans ((upd_ne pa).trans e))
          refine lc_pureN walk_list (fun i => V.ref (ts.getD i 0)) (by rw [List.length_map, hl, sizeLine_eq]; omega) (fun _ _ => hR _) (fun i x H1 kk hi y qq => ?_) ?_
          · obtain ⟨rfl, hx⟩ := y
            obtain ⟨t, rfl, ht0, _, ht⟩ := q.at_ i x hx
            refine ⟨rfl, _, rfl, t, _, rfl, .inr ⟨SqT.of ((upd_ne (ne_of_none ht hD3)).trans ((upd_ne (ne_of ht hp3 (by intro z; cases z))).trans ht)), ?_⟩⟩
            have e0 : ts.getD i 0 = t := getD_at 0 ht0
            rw [e0] at qq
            exact qq
          · have e9 : (List.range (ts.map V.ref).length).map (fun i => V.ref (ts.getD i 0)) = ts.map V.ref := by
              rw [List.length_map, range_map_getD ts 0 V.ref]
            rw [e9]
            refine ⟨_, rfl, p, dx, _, rfl, (upd_ne Dp.symm).trans upd_same, sm, ?_⟩
            refine ⟨_, rfl, _, rfl, p, dx, _, rfl, upd_same, sm, ?_⟩
            rw [upd_upd]
            have hH : ∀ c o, H3 c = some o → c ≠ p → (upd (upd (upd H3 p (.ins (He.ga K "Tariff") dx (putF "unit" (.int u) []))) D (.lst (ts.map V.ref))) p (.ins (He.ga K "Tariff") dx (tfl u D l))) c = some o := fun c o ec hc =>
              (upd_ne hc).trans ((upd_ne (ne_of_none ec hD3)).trans ((upd_ne hc).trans ec))
            refine k D _ upd_same ⟨ts, (upd_ne Dp).trans upd_same, q.mono fun x b ex => hH _ _ ex (ne_of ex hp3 (by intro z; cases z))⟩ ?_ fun c o ec hc => hH c o (s2 _ _ ec) hc
            cases eD : H' D with
            | none => rfl
            | some o => rw [s2 _ _ eD] at hD3; cases hD3

end K12
set_option maxHeartbeats 1000000
set_option pp.maxSteps 500
namespace K12
open PySem PySem.Spec PyProof.Rows L2 SX TK NdefX K11 LD
open C8 (pe_c)
/-! ### the ledger -/
def lineS : Rc → Str
  | .op n c a t => Str.empty ++ "open " ++ numS n ++ " " ++ c ++ " " ++ a ++ " " ++ numS t
  | .cl n e k => Str.empty ++ "close " ++ numS n ++ " " ++ numS e ++ " " ++ numS k
def catS (rs : List Rc) : Str := S (cat (rs.map fun r => TL.tl (lineS r)))
theorem catS_snoc (rs : List Rc) (r : Rc) : catS (rs ++ [r]) = catS rs ++ sealT (lineS r) := by
  apply TL.ext_tl
  rw [TL.tl_append, tl_seal]
  show cat ((rs ++ [r]).map _) = cat (rs.map _) ++ _
  unfold cat
  rw [List.map_append, List.map_append, List.flatten_append]
  simp
theorem catS_len : ∀ {rs : List Rc}, (∀ r ∈ rs, (lineS r).length ≤ 60) → (catS rs).length ≤ 72 * rs.length := by
  intro rs h
  have key : ∀ i, i ≤ rs.length → (catS (rs.take i)).length ≤ 72 * i := by
    intro i
    induction i with
    | zero => exact fun _ => Nat.le_of_eq rfl
    | succ i ih =>
      intro hi
      have e : rs[i]? = some rs[i] := List.getElem?_eq_getElem (by omega)
      rw [List.take_add_one, e]
      show (catS (rs.take i ++ [rs[i]])).length ≤ _
      rw [catS_snoc, cat_len]
      have := seal_len (lineS rs[i])
      have := h _ (List.getElem_mem (show i < rs.length by omega))
      have := ih (by omega)
      omega
  have := key rs.length (Nat.le_refl _)
  rw [List.take_length] at this
  exact this
def adr (z : Str) : Prop := (splitB z).isSome = true ∧ 32 ∉ TL.tl z ∧ 10 ∉ TL.tl z
def nOk (i : Int) : Prop := 0 ≤ i ∧ i ≤ 999999999
theorem nOk.ab {i : Int} (h : nOk i) : i.natAbs < 1000000000 := by
  have := h.1
  have := h.2
  omega
def RcOk : Rc → Prop
  | .op n c a t => nOk n ∧ nOk t ∧ adr c ∧ adr a ∧ (lineS (.op n c a t)).length ≤ 60
  | .cl n e k => nOk n ∧ nOk e ∧ nOk k ∧ (lineS (.cl n e k)).length ≤ 60
theorem RcOk.len {r : Rc} (h : RcOk r) : (lineS r).length ≤ 60 := by
  cases r with
  | op n c a t => exact h.2.2.2.2
  | cl n e k => exact h.2.2.2
def lfl (tr j d1 d2 : Addr) : List (Str × V) := [("tariff", .ref tr), ("journal", .ref j), ("_unfinished", .ref d1), ("_finished", .ref d2)]
instance {a b c d : Addr} : SmallF (lfl a b c d) 4 := ⟨Nat.le_refl _⟩
structure LedAt (K : PySem.W.Frag) (H : Hp) (p tr j d1 d2 : Addr) (rs : List Rc) (sy : Int) : Prop where
  o : ∃ dx, H p = some (.ins (He.ga K "Ledger") dx (lfl tr j d1 d2))
  jt : JAt K H j (catS rs) sy
  u : ∃ kvs, H d1 = some (.dK kvs) ∧ DAt H kvs ((st rs).un.map Un.kv)
  f : ∃ kvs, H d2 = some (.dK kvs) ∧ DAt H kvs ((st rs).fi.map Bi.kv)
  ne : d1 ≠ d2
theorem LedAt.via {K : PySem.W.Frag} {H H' : Hp} {p tr j d1 d2 : Addr} {rs : List Rc} {sy : Int} (h : LedAt K H p tr j d1 d2 rs sy) (s : ∀ x o, H x = some o → (x = p ∨ x = j ∨ x = d1 ∨ x = d2 ∨ ∃ b, o = .tup b) → H' x = some o) : LedAt K H' p tr j d1 d2 rs sy := by
  obtain ⟨⟨dx, o⟩, ⟨dj, jt⟩, ⟨k1, u1, u2⟩, ⟨k2, f1, f2⟩, ne⟩ := h
  have t : ∀ x b, H x = some (.tup b) → H' x = some (.tup b) := fun x b e => s x _ e (.inr (.inr (.inr (.inr ⟨b, rfl⟩))))
  exact ⟨⟨dx, s _ _ o (.inl rfl)⟩, ⟨dj, s _ _ jt (.inr (.inl rfl))⟩, ⟨k1, s _ _ u1 (.inr (.inr (.inl rfl))), u2.mono t⟩, ⟨k2, s _ _ f1 (.inr (.inr (.inr (.inl rfl)))), f2.mono t⟩, ne⟩
theorem LedAt.same {K : PySem.W.Frag} {H H' : Hp} {p tr j d1 d2 : Addr} {rs : List Rc} {sy : Int} (h : LedAt K H p tr j d1 d2 rs sy) (s : Same H H') : LedAt K H' p tr j d1 d2 rs sy := h.via fun x o e _ => s x o e
/-- all but a journal and two dicts stays -/
def FrL (H H' : Hp) (j d1 d2 : Addr) : Prop := ∀ b o, H b = some o → b ≠ j → b ≠ d1 → b ≠ d2 → H' b = some o
theorem FrL.trans {H H1 H2 : Hp} {j d1 d2 : Addr} (a : FrL H H1 j d1 d2) (b : FrL H1 H2 j d1 d2) : FrL H H2 j d1 d2 := fun x o e h1 h2 h3 => b x o (a x o e h1 h2 h3) h1 h2 h3
theorem FrL.of_same {H H1 : Hp} {j d1 d2 : Addr} (a : Same H H1) : FrL H H1 j d1 d2 := fun x o e _ _ _ => a x o e
def spLdInit (K : PySem.W.Frag) : Sp := fun vs H Q _ => ∃ (p dx tr : Addr), vs = [.ref p, .ref tr] ∧ H p = some (.ins (He.ga K "Ledger") dx []) ∧ ∀ j d1 d2 H', H j = none → H d1 = none → H d2 = none → LedAt K H' p tr j d1 d2 [] 0 → (∀ b o, H b = some o → b ≠ p → H' b = some o) → Q .non H'
theorem ok_Ledger___init {P : Program} {w : World} {K : PySem.W.Frag} {mg : Str → Option Value} {base : Heap} {f : Addr} {fd : FuncData} (T : Tx K mg) (c_mk_Journal : C8.Mak P w K mg base 1 "Journal" (He.ga K "Journal") (spJInit K) [])
    (F : FunD K "__init__" "Ledger.__init__" (defArgs s_Ledger___init) (defBody s_Ledger___init) (defScope s_Ledger___init) [] [] f fd) : FnOk P w K mg base CX0 3 f fd ["self", "tariff"] (spLdInit K) := by
  refine F.ok sc_Ledger___init (fun vs H Q E h => ?_) (fun cdv A outer s0 H vs Q E hr h => ?_)
  · obtain ⟨p, dx, tr, rfl, _⟩ := h
    rfl
  · obtain ⟨p, dx, tr, rfl, hp, k⟩ := h
    refine ⟨_, PSs.nox (pss_cons (ps_fldC rfl T.cl_Ledger T.na_Ledger_tariff (pv 0) (pv 1) rfl) (pss_cons (ps_fldC rfl T.cl_Ledger T.na_Ledger_journal (pv 0) (pe_mk0 c_mk_Journal hr (by decide) rfl) rfl) (pss_cons (ps_fldC rfl T.cl_Ledger T.na_Ledger__unfinished (pv 0) pe_dnewK rfl) (pss_one (ps_fldC rfl T.cl_Ledger T.na_Ledger__finished (pv 0) pe_dnewK rfl))))), ?_⟩
    refine ⟨_, rfl, _, rfl, p, dx, _, rfl, hp, sm, ?_⟩
    refine fun j dj hj hdj ne => ⟨j, dj, rfl, upd_same, ⟨rfl, ?_⟩⟩
    rw [upd_upd]
    have pj : j ≠ p := fun z => by rw [z, upd_same] at hj; cases hj
    have pdj : dj ≠ p := fun z => by rw [z, upd_same] at hdj; cases hdj
    have hj0 : H j = none := by rw [upd_ne pj] at hj; exact hj
    refine ⟨_, rfl, p, dx, _, rfl, (upd_ne pj.symm).trans ((upd_ne pdj.symm).trans upd_same), sm, ?_⟩
    have fr : ∀ b o, H b = some o → b ≠ p → (upd (upd (upd (upd H p (.ins (He.ga K "Ledger") dx [("tariff", .ref tr)])) dj (.own j)) j (.ins (He.ga K "Journal") dj (jfl "" 0))) p (.ins (He.ga K "Ledger") dx [("tariff", .ref tr), ("journal", .ref j)])) b = some o := fun b o e hb => by
      have e1 : H dj = none := by rw [upd_ne pdj] at hdj; exact hdj
      exact (upd_ne hb).trans ((upd_ne (ne_of_none e hj0)).trans ((upd_ne (ne_of_none e e1)).trans ((upd_ne hb).trans e)))
    have hpj : (upd (upd (upd (upd H p (.ins (He.ga K "Ledger") dx [("tariff", .ref tr)])) dj (.own j)) j (.ins (He.ga K "Journal") dj (jfl "" 0))) p (.ins (He.ga K "Ledger") dx [("tariff", .ref tr), ("journal", .ref j)])) j = some (.ins (He.ga K "Journal") dj (jfl "" 0)) := (upd_ne pj).trans upd_same
    have hpp : (upd (upd (upd (upd H p (.ins (He.ga K "Ledger") dx [("tariff", .ref tr)])) dj (.own j)) j (.ins (He.ga K "Journal") dj (jfl "" 0))) p (.ins (He.ga K "Ledger") dx [("tariff", .ref tr), ("journal", .ref j)])) p = some (.ins (He.ga K "Ledger") dx [("tariff", .ref tr), ("journal", .ref j)]) := upd_same
    intro d1 hd1
    refine ⟨_, rfl, p, dx, _, rfl, (upd_ne (ne_of_none hpp hd1)).trans hpp, sm, fun d2 hd2 => ?_⟩
    have n1 : d1 ≠ p := (ne_of_none hpp hd1).symm
    have n2 : d1 ≠ j := (ne_of_none hpj hd1).symm
    have m1 : d2 ≠ p := fun z => by rw [z, upd_same] at hd2; cases hd2
    rw [upd_ne m1] at hd2
    have m2 : d2 ≠ d1 := fun z => by rw [z, upd_same] at hd2; cases hd2
    rw [upd_ne m2] at hd2
    have m3 : d2 ≠ j := (ne_of_none hpj hd2).symm
    refine ⟨_, rfl, p, dx, _, rfl, (upd_ne m1.symm).trans upd_same, sm, ?_⟩
    have z1 : H d1 = none := by
      cases eq : H d1 with
      | none => rfl
      | some o => exact absurd ((fr _ _ eq n1).symm.trans hd1) (by intro z; cases z)
    have z2 : H d2 = none := by
      cases eq : H d2 with
      | none => rfl
      | some o => exact absurd ((fr _ _ eq m1).symm.trans hd2) (by intro z; cases z)
    refine k j d1 d2 _ hj0 z1 z2 ⟨⟨dx, upd_same⟩, ⟨dj, (upd_ne pj).trans ((upd_ne m3.symm).trans ((upd_ne pj).trans ((upd_ne n2.symm).trans hpj)))⟩, ⟨[], (upd_ne n1).trans ((upd_ne m2.symm).trans ((upd_ne n1).trans upd_same)), trivial⟩, ⟨[], (upd_ne m1).trans upd_same, trivial⟩, m2.symm⟩ fun b o e hb => ?_
    exact (upd_ne hb).trans ((upd_ne (ne_of_none e z2)).trans ((upd_ne hb).trans ((upd_ne (ne_of_none e z1)).trans (fr _ _ e hb))))

end K12
set_option maxHeartbeats 1000000
set_option pp.maxSteps 500
namespace K12
open PySem PySem.Spec PyProof.Rows L2 SX TK NdefX K11 LD
open C8 (pe_c)
theorem k_op : ("open " : Str).length = 5 := by decide +kernel
theorem k_cl : ("close " : Str).length = 6 := by decide +kernel
theorem un_kv_any (l : List Un) (n : Int) : ((l.map Un.kv).any fun x => decide (x.1 = n)) = l.any fun u => decide (u.n = n) := by
  rw [List.any_map]
  rfl
theorem fi_kv_any (l : List Bi) (n : Int) : ((l.map Bi.kv).any fun x => decide (x.1 = n)) = l.any fun u => decide (u.n = n) := by
  rw [List.any_map]
  rfl
theorem un_kv_filter (l : List Un) (n : Int) : ((l.map Un.kv).filter fun x => decide (x.1 ≠ n)) = (l.filter fun u => decide (u.n ≠ n)).map Un.kv := by
  rw [List.filter_map]
  rfl
theorem un_kv_find (l : List Un) (n : Int) : ((l.map Un.kv).find? fun x => decide (x.1 = n)) = (l.find? fun u => decide (u.n = n)).map Un.kv := by
  rw [List.find?_map]
  rfl
theorem fi_kv_find (l : List Bi) (n : Int) : ((l.map Bi.kv).find? fun x => decide (x.1 = n)) = (l.find? fun u => decide (u.n = n)).map Bi.kv := by
  rw [List.find?_map]
  rfl
def spLBegin (K : PySem.W.Frag) : Sp := fun vs H Q _ => ∃ (p tr j d1 d2 : Addr) (rs : List Rc) (sy n t : Int) (c a : Str), vs = [.ref p, .int n, .str c, .str a, .int t] ∧ LedAt K H p tr j d1 d2 rs sy ∧ nOk n ∧ nOk t ∧ (lineS (.op n c a t)).length ≤ 60 ∧ (∀ r ∈ rs, (lineS r).length ≤ 60) ∧ rs.length ≤ 110 ∧ (st rs).legal (.op n c a t) = true ∧
  ∀ H', LedAt K H' p tr j d1 d2 (rs ++ [.op n c a t]) ((catS (rs ++ [.op n c a t])).length : Nat) → FrL H H' j d1 d2 → Q .non H'
theorem ok_Ledger_begin {P : Program} {w : World} {K : PySem.W.Frag} {mg : Str → Option Value} {base : Heap} {f : Addr} {fd : FuncData} (T : Tx K mg) (c_Journal_append : C8.Met P w K mg base 3 (He.ga K "Journal") "append" (spJAppend K) []) (c_Journal_sync : C8.Met P w K mg base 1 (He.ga K "Journal") "sync" (spJSync K) [])
    (F : FunD K "begin" "Ledger.begin" (defArgs s_Ledger_begin) (defBody s_Ledger_begin) (defScope s_Ledger_begin) [] [] f fd) : FnOk P w K mg base CX0 4 f fd ["self", "number", "caller", "callee", "now"] (spLBegin K) := by
  refine F.ok sc_Ledger_begin (fun vs H Q E h => ?_) (fun cdv A outer s0 H vs Q E hr h => ?_)
  · obtain ⟨p, tr, j, d1, d2, rs, sy, n, t, c, a, rfl, _⟩ := h
    rfl
  · obtain ⟨p, tr, j, d1, d2, rs, sy, n, t, c, a, rfl, hL, hn, ht, hl, hls, hlr, hg, k⟩ := h
    refine ⟨_, PSs.nox (pss_cons (ps_dput (hu_of hr) (pe_fldC rfl T.cl_Ledger T.na_Ledger__unfinished (pv 0) rfl) (pv 1) (pe_tup (pa_cons (pv 2) (pa_cons (pv 3) (pa_cons (pv 4) pa_nil)))) rfl) (pss_cons (ps_expr (C8.pe_mt c_Journal_append hr (by decide) (pe_fldC rfl T.cl_Ledger T.na_Ledger_journal (pv 0) rfl) (pa_cons (pe_joined (PJ.cons pe_str (PJ.cons (pe_fmt (pv 1)) (PJ.cons pe_str (PJ.cons (pe_fmt (pv 2)) (PJ.cons pe_str (PJ.cons (pe_fmt (pv 3)) (PJ.cons pe_str (PJ.cons (pe_fmt (pv 4)) PJ.nil))))))))) pa_nil))) (pss_one (ps_expr (C8.pe_mt0 c_Journal_sync hr (by decide) (pe_fldC rfl T.cl_Ledger T.na_Ledger_journal (pv 0) rfl)))))), ?_⟩
    obtain ⟨⟨dx, hp⟩, ⟨dj, hj⟩, ⟨k1, u1, u2⟩, ⟨k2, f1, f2⟩, ne⟩ := hL
    have hcl := catS_len hls
    have lk1 := u2.len
    have hkn : ((st rs).un.any fun u => decide (u.n = n)) = false ∧ ((st rs).fi.any fun b => decide (b.n = n)) = false := by
      have : (!((st rs).opens n || (st rs).fi.any fun b => decide (b.n = n))) = true := hg
      rw [Bool.not_eq_true', Bool.or_eq_false_iff] at this
      exact this
    have hu9 : (st rs).un.length ≤ rs.length := (un_len rs).1
    refine ⟨_, rfl, _, rfl, _, rfl, by show 3 ≤ sizeLine; decide, fun x hx => ?_⟩
    have sx := same_upd (o := .tup [.str c, .str a, .int t]) hx
    have ex : (upd H x (.tup [.str c, .str a, .int t])) x = some (.tup [.str c, .str a, .int t]) := upd_same
    refine ⟨_, rfl, p, dx, _, _, rfl, sx _ _ hp, rfl, _, rfl, d1, _, rfl, DPut.k (k := Sum.inl n) (sx _ _ u1) (by rw [lk1, List.length_map, sizeLine_eq]; omega), ?_⟩
    have tk : ∀ {y b}, H y = some (.tup b) → (upd (upd H x (.tup [.str c, .str a, .int t])) d1 (.dK (putK k1 (Sum.inl n) (.ref x)))) y = some (.tup b) := fun z => (upd_ne (ne_of (sx _ _ z) (sx _ _ u1) (by intro z; cases z))).trans (sx _ _ z)
    have nk : ∀ {y C d fs}, H y = some (.ins C d fs) → (upd (upd H x (.tup [.str c, .str a, .int t])) d1 (.dK (putK k1 (Sum.inl n) (.ref x)))) y = some (.ins C d fs) := fun z => (upd_ne (ne_of (sx _ _ z) (sx _ _ u1) (by intro z; cases z))).trans (sx _ _ z)
    have ex2 : (upd (upd H x (.tup [.str c, .str a, .int t])) d1 (.dK (putK k1 (Sum.inl n) (.ref x)))) x = some (.tup [.str c, .str a, .int t]) := (upd_ne (ne_of ex (sx _ _ u1) (by intro z; cases z))).trans ex
    have eu : (upd (upd H x (.tup [.str c, .str a, .int t])) d1 (.dK (putK k1 (Sum.inl n) (.ref x)))) d1 = some (.dK (putK k1 (Sum.inl n) (.ref x))) := upd_same
    have ef : (upd (upd H x (.tup [.str c, .str a, .int t])) d1 (.dK (putK k1 (Sum.inl n) (.ref x)))) d2 = some (.dK k2) := (upd_ne ne.symm).trans (sx _ _ f1)
    have fr : FrL H (upd (upd H x (.tup [.str c, .str a, .int t])) d1 (.dK (putK k1 (Sum.inl n) (.ref x)))) j d1 d2 := fun b o e b1 b2 b3 => (upd_ne b2).trans (sx _ _ e)
    have u2b : DAt (upd (upd H x (.tup [.str c, .str a, .int t])) d1 (.dK (putK k1 (Sum.inl n) (.ref x)))) (putK k1 (Sum.inl n) (.ref x)) ((st rs).un.map Un.kv ++ [(n, [.str c, .str a, .int t])]) := (u2.mono fun y b z => tk z).put (x := (n, [.str c, .str a, .int t])) ex2 (by rw [un_kv_any]; exact hkn.1)
    have f2b := f2.mono fun y b z => tk z
    have hp2 := nk hp
    have hj2 := nk hj
    clear tk nk ex2 sx ex hx u1 f1
    generalize upd (upd H x (.tup [.str c, .str a, .int t])) d1 (.dK (putK k1 (Sum.inl n) (.ref x))) = H1 at *
    have hl2 := hl
    unfold lineS at hl2
    simp only [cat_len] at hl2
    refine ⟨_, rfl, p, dx, _, _, rfl, hp2, rfl, j, dj, _, rfl, hj2, rfl, ?_⟩
    refine ⟨_, rfl, szl (by simp only [cat_len]; omega), _, rfl, .inr ⟨_, rfl, numS_log hn.ab, _, rfl, szl (by simp only [cat_len]; unfold numS at hl2; omega), _, rfl, szl (by simp only [cat_len]; unfold numS at hl2; omega), _, rfl, .inl ⟨_, rfl, szl (by omega), _, rfl, szl (by simp only [cat_len]; unfold numS at hl2; omega), _, rfl, szl (by simp only [cat_len]; unfold numS at hl2; omega), _, rfl, .inl ⟨_, rfl, szl (by omega), _, rfl, szl (by simp only [cat_len]; unfold numS at hl2; omega), _, rfl, szl (by simp only [cat_len]; unfold numS at hl2; omega), _, rfl, .inr ⟨_, rfl, numS_log ht.ab, _, rfl, szl (by simp only [cat_len]; unfold numS at hl2; omega), ?_⟩⟩⟩⟩⟩
    refine ⟨j, catS rs, lineS (.op n c a t), sy, rfl, ⟨dj, hj2⟩, by omega, by omega, fun H2 hj3 fr2 => ?_⟩
    have hp3 := fr2 _ _ hp2 (by rintro rfl; rw [hj2] at hp2; injection hp2 with z; injection z with _ _ z; cases z)
    obtain ⟨dj3, hj3⟩ := hj3
    refine ⟨_, rfl, p, dx, _, _, rfl, hp3, rfl, j, dj3, _, rfl, hj3, rfl, j, _, sy, rfl, ⟨dj3, hj3⟩, ?_, fun H3 hj4 fr3 => ?_⟩
    · rw [← catS_snoc]
      have := catS_len (rs := rs ++ [.op n c a t]) (by
        intro r hr
        rcases List.mem_append.mp hr with z | z
        · exact hls r z
        · rw [List.mem_singleton.mp z]; exact hl)
      rw [List.length_append] at this
      have e1 : [Rc.op n c a t].length = 1 := rfl
      omega
    · rw [← catS_snoc] at hj4
      have keep : ∀ {y o}, H1 y = some o → y ≠ j → H3 y = some o := fun z q => fr3 _ _ (fr2 _ _ z q) q
      have t3 : ∀ y b, H1 y = some (.tup b) → H3 y = some (.tup b) := fun y b z => keep z (ne_of z hj2 (by intro z; cases z))
      refine k H3 ⟨⟨dx, keep hp2 (by rintro rfl; rw [hj2] at hp2; injection hp2 with z; injection z with _ _ z; cases z)⟩, hj4, ⟨_, keep eu (ne_of eu hj2 (by intro z; cases z)), ?_⟩, ⟨_, keep ef (ne_of ef hj2 (by intro z; cases z)), ?_⟩, ne⟩ fun b o e b1 b2 b3 => keep (fr b o e b1 b2 b3) b1
      · rw [st_snoc]
        show DAt H3 _ (((st rs).un ++ [(⟨n, c, a, t⟩ : Un)]).map Un.kv)
        rw [List.map_append]
        exact u2b.mono t3
      · rw [st_snoc]
        exact f2b.mono t3

end K12
set_option maxHeartbeats 1000000
set_option pp.maxSteps 500
namespace K12
open PySem PySem.Spec PyProof.Rows L2 SX TK NdefX K11 LD
open C8 (pe_c)
theorem find_n {l : List Un} {n : Int} {u : Un} (h : l.find? (fun x => decide (x.n = n)) = some u) : u.n = n ∧ u ∈ l := ⟨by simpa using List.find?_some (p := fun (x : Un) => decide (x.n = n)) h, List.mem_of_find?_eq_some h⟩
theorem jt_ne {K : PySem.W.Frag} {H : Hp} {p j dx dj : Addr} {a b c d : Addr} {t : Str} {n : Int} (hp : H p = some (.ins (He.ga K "Ledger") dx (lfl a b c d))) (hj : H j = some (.ins (He.ga K "Journal") dj (jfl t n))) : p ≠ j := by
  rintro rfl
  rw [hj] at hp
  injection hp with z
  injection z with _ _ z
  cases z
def spLClose (K : PySem.W.Frag) : Sp := fun vs H Q _ => ∃ (p tr j d1 d2 : Addr) (rs : List Rc) (sy n e k : Int) (u : Un), vs = [.ref p, .int n, .int e, .int k] ∧ LedAt K H p tr j d1 d2 rs sy ∧ nOk n ∧ nOk e ∧ nOk k ∧ (lineS (.cl n e k)).length ≤ 60 ∧ (∀ r ∈ rs, (lineS r).length ≤ 60) ∧ rs.length ≤ 110 ∧ (st rs).un.find? (fun x => decide (x.n = n)) = some u ∧ Disj (st rs) ∧
  ∀ H', LedAt K H' p tr j d1 d2 (rs ++ [.cl n e k]) sy → FrL H H' j d1 d2 → Q .non H'
theorem ok_Ledger_close {P : Program} {w : World} {K : PySem.W.Frag} {mg : Str → Option Value} {base : Heap} {f : Addr} {fd : FuncData} (T : Tx K mg) (c_Journal_append : C8.Met P w K mg base 3 (He.ga K "Journal") "append" (spJAppend K) [])
    (F : FunD K "close" "Ledger.close" (defArgs s_Ledger_close) (defBody s_Ledger_close) (defScope s_Ledger_close) [] [] f fd) : FnOk P w K mg base CX0 4 f fd ["self", "number", "now", "cost"] (spLClose K) := by
  refine F.ok sc_Ledger_close (fun vs H Q E h => ?_) (fun cdv A outer s0 H vs Q E hr h => ?_)
  · obtain ⟨p, tr, j, d1, d2, rs, sy, n, e, k, u, rfl, _⟩ := h
    rfl
  · obtain ⟨p, tr, j, d1, d2, rs, sy, n, e, k, u, rfl, hL, hn, he, hk9, hl, hls, hlr, hf, hdj, k0⟩ := h
    refine ⟨_, PSs.nox (pss_cons (ps_asg (pe_dpop1 (pe_fldC rfl T.cl_Ledger T.na_Ledger__unfinished (pv 0) rfl) (pv 1) ⟨rfl, by rfl, rfl, rfl⟩) (pg_tup rfl (pgs_cons (pg_name (i := 4) sc_Ledger_close.nd rfl (Or.inl rfl)) (pgs_cons (pg_name (i := 5) sc_Ledger_close.nd rfl (Or.inl rfl)) (pgs_cons (pg_name (i := 6) sc_Ledger_close.nd rfl (Or.inl rfl)) pgs_nil))))) (pss_cons (ps_dput (hu_of hr) (pe_fldC rfl T.cl_Ledger T.na_Ledger__finished (pv 0) rfl) (pv 1) (pe_tup (pa_cons (pv 1) (pa_cons (pv 4) (pa_cons (pv 5) (pa_cons (pv 6) (pa_cons (pv 2) (pa_cons (pv 3) pa_nil))))))) rfl) (pss_one (ps_expr (C8.pe_mt c_Journal_append hr (by decide) (pe_fldC rfl T.cl_Ledger T.na_Ledger_journal (pv 0) rfl) (pa_cons (pe_joined (PJ.cons pe_str (PJ.cons (pe_fmt (pv 1)) (PJ.cons pe_str (PJ.cons (pe_fmt (pv 2)) (PJ.cons pe_str (PJ.cons (pe_fmt (pv 3)) PJ.nil))))))) pa_nil)))))), ?_⟩
    obtain ⟨⟨dx, hp⟩, ⟨dj, hj⟩, ⟨k1, u1, u2⟩, ⟨k2, f1, f2⟩, ne⟩ := hL
    have hcl := catS_len hls
    have lk2 := f2.len
    have hu9 := un_len rs
    obtain ⟨en, hmem⟩ := find_n hf
    obtain ⟨t, hv, ht⟩ : ∃ t, valV k1 (Sum.inl n) = some (.ref t) ∧ H t = some (.tup [.str u.c, .str u.a, .int u.t]) := by
      rcases u2.val n with ⟨a1, _⟩ | ⟨x, t, a1, a2, a3⟩
      · rw [un_kv_find, hf] at a1; cases a1
      · rw [un_kv_find, hf] at a1
        obtain rfl : Un.kv u = x := Option.some.inj a1
        exact ⟨t, a2, a3⟩
    refine ⟨_, rfl, p, dx, _, _, rfl, hp, rfl, d1, rfl, .inl ⟨_, .inl u1⟩, _, rfl, k1, Sum.inl n, .ref t, u1, rfl, hv, ?_⟩
    have tk : ∀ {y b}, H y = some (.tup b) → (upd H d1 (.dK (dropK k1 (Sum.inl n)))) y = some (.tup b) := fun z => (upd_ne (ne_of z u1 (by intro z; cases z))).trans z
    have nk : ∀ {y C d fs}, H y = some (.ins C d fs) → (upd H d1 (.dK (dropK k1 (Sum.inl n)))) y = some (.ins C d fs) := fun z => (upd_ne (ne_of z u1 (by intro z; cases z))).trans z
    have eu : (upd H d1 (.dK (dropK k1 (Sum.inl n)))) d1 = some (.dK (dropK k1 (Sum.inl n))) := upd_same
    have ef : (upd H d1 (.dK (dropK k1 (Sum.inl n)))) d2 = some (.dK k2) := (upd_ne ne.symm).trans f1
    have u2b : DAt (upd H d1 (.dK (dropK k1 (Sum.inl n)))) (dropK k1 (Sum.inl n)) (((st rs).un.filter fun x => decide (x.n ≠ n)).map Un.kv) := by
      rw [← un_kv_filter]
      exact (u2.drop n).mono fun y b z => tk z
    have f2b := f2.mono fun y b z => tk z
    have hp2 := nk hp
    have hj2 := nk hj
    have ht2 := tk ht
    have fr1 : FrL H (upd H d1 (.dK (dropK k1 (Sum.inl n)))) j d1 d2 := fun b o e b1 b2 b3 => (upd_ne b2).trans e
    clear tk nk u1 u2 f1 f2 hv
    refine ⟨t, _, rfl, SqT.of ht2, rfl, _, _, rfl, _, _, rfl, _, _, rfl, rfl, ?_⟩
    generalize upd H d1 (.dK (dropK k1 (Sum.inl n))) = H1 at *
    refine ⟨_, rfl, _, rfl, _, rfl, _, rfl, _, rfl, _, rfl, by show 6 ≤ sizeLine; decide, fun x hx => ?_⟩
    have sx := same_upd (o := .tup [.int n, .str u.c, .str u.a, .int u.t, .int e, .int k]) hx
    have ex : (upd H1 x (.tup [.int n, .str u.c, .str u.a, .int u.t, .int e, .int k])) x = some (.tup [.int n, .str u.c, .str u.a, .int u.t, .int e, .int k]) := upd_same
    refine ⟨_, rfl, p, dx, _, _, rfl, sx _ _ hp2, rfl, _, rfl, d2, _, rfl, DPut.k (k := Sum.inl n) (sx _ _ ef) (by rw [lk2, List.length_map, sizeLine_eq]; omega), ?_⟩
    have tk : ∀ {y b}, H1 y = some (.tup b) → (upd (upd H1 x (.tup [.int n, .str u.c, .str u.a, .int u.t, .int e, .int k])) d2 (.dK (putK k2 (Sum.inl n) (.ref x)))) y = some (.tup b) := fun z => (upd_ne (ne_of (sx _ _ z) (sx _ _ ef) (by intro z; cases z))).trans (sx _ _ z)
    have nk : ∀ {y C d fs}, H1 y = some (.ins C d fs) → (upd (upd H1 x (.tup [.int n, .str u.c, .str u.a, .int u.t, .int e, .int k])) d2 (.dK (putK k2 (Sum.inl n) (.ref x)))) y = some (.ins C d fs) := fun z => (upd_ne (ne_of (sx _ _ z) (sx _ _ ef) (by intro z; cases z))).trans (sx _ _ z)
    have ex2 : (upd (upd H1 x (.tup [.int n, .str u.c, .str u.a, .int u.t, .int e, .int k])) d2 (.dK (putK k2 (Sum.inl n) (.ref x)))) x = some (.tup [.int n, .str u.c, .str u.a, .int u.t, .int e, .int k]) := (upd_ne (ne_of ex (sx _ _ ef) (by intro z; cases z))).trans ex
    have eu2 : (upd (upd H1 x (.tup [.int n, .str u.c, .str u.a, .int u.t, .int e, .int k])) d2 (.dK (putK k2 (Sum.inl n) (.ref x)))) d1 = some (.dK (dropK k1 (Sum.inl n))) := (upd_ne ne).trans (sx _ _ eu)
    have ef2 : (upd (upd H1 x (.tup [.int n, .str u.c, .str u.a, .int u.t, .int e, .int k])) d2 (.dK (putK k2 (Sum.inl n) (.ref x)))) d2 = some (.dK (putK k2 (Sum.inl n) (.ref x))) := upd_same
    have fr2 : FrL H (upd (upd H1 x (.tup [.int n, .str u.c, .str u.a, .int u.t, .int e, .int k])) d2 (.dK (putK k2 (Sum.inl n) (.ref x)))) j d1 d2 := fun b o e b1 b2 b3 => (upd_ne b3).trans (sx _ _ (fr1 b o e b1 b2 b3))
    have hno : ((st rs).fi.any fun b => decide (b.n = n)) = false := by
      rw [List.any_eq_false]
      intro b hb
      have := hdj u hmem b hb
      rw [en] at this
      simp [Ne.symm this]
    have f3b : DAt (upd (upd H1 x (.tup [.int n, .str u.c, .str u.a, .int u.t, .int e, .int k])) d2 (.dK (putK k2 (Sum.inl n) (.ref x)))) (putK k2 (Sum.inl n) (.ref x)) ((st rs).fi.map Bi.kv ++ [(n, [.int n, .str u.c, .str u.a, .int u.t, .int e, .int k])]) := (f2b.mono fun y b z => tk z).put (x := (n, [.int n, .str u.c, .str u.a, .int u.t, .int e, .int k])) ex2 (by rw [fi_kv_any]; exact hno)
    have u3b := u2b.mono fun y b z => tk z
    have hp3 := nk hp2
    have hj3 := nk hj2
    clear tk nk ex2 sx ex hx eu ef u2b f2b hp2 hj2
    generalize upd (upd H1 x (.tup [.int n, .str u.c, .str u.a, .int u.t, .int e, .int k])) d2 (.dK (putK k2 (Sum.inl n) (.ref x))) = H2 at *
    have hl2 := hl
    unfold lineS at hl2
    simp only [cat_len] at hl2
    refine ⟨_, rfl, p, dx, _, _, rfl, hp3, rfl, j, dj, _, rfl, hj3, rfl, ?_⟩
    refine ⟨_, rfl, szl (by simp only [cat_len]; omega), _, rfl, .inr ⟨_, rfl, numS_log hn.ab, _, rfl, szl (by simp only [cat_len]; unfold numS at hl2; omega), _, rfl, szl (by simp only [cat_len]; unfold numS at hl2; omega), _, rfl, .inr ⟨_, rfl, numS_log he.ab, _, rfl, szl (by simp only [cat_len]; unfold numS at hl2; omega), _, rfl, szl (by simp only [cat_len]; unfold numS at hl2; omega), _, rfl, .inr ⟨_, rfl, numS_log hk9.ab, _, rfl, szl (by simp only [cat_len]; unfold numS at hl2; omega), ?_⟩⟩⟩⟩
    refine ⟨j, catS rs, lineS (.cl n e k), sy, rfl, ⟨dj, hj3⟩, by omega, by omega, fun H3 hj4 fr3 => ?_⟩
    rw [← catS_snoc] at hj4
    have est : st (rs ++ [.cl n e k]) = ⟨(st rs).un.filter (fun x => decide (x.n ≠ n)), (st rs).fi ++ [⟨n, u.c, u.a, u.t, e, k⟩]⟩ := by
      rw [st_snoc, step_cl, hf]
    refine k0 H3 ⟨⟨dx, fr3 _ _ hp3 (jt_ne hp3 hj3)⟩, hj4, ⟨_, fr3 _ _ eu2 (ne_of eu2 hj3 (by intro z; cases z)), ?_⟩, ⟨_, fr3 _ _ ef2 (ne_of ef2 hj3 (by intro z; cases z)), ?_⟩, ne⟩ fun b o e b1 b2 b3 => fr3 _ _ (fr2 b o e b1 b2 b3) b1
    · rw [est]
      exact u3b.mono fun y b z => fr3 _ _ z (ne_of z hj3 (by intro z; cases z))
    · rw [est]
      show DAt H3 _ (((st rs).fi ++ [(⟨n, u.c, u.a, u.t, e, k⟩ : Bi)]).map Bi.kv)
      rw [List.map_append]
      exact f3b.mono fun y b z => fr3 _ _ z (ne_of z hj3 (by intro z; cases z))
def spLOpen (K : PySem.W.Frag) : Sp := fun vs H Q _ => ∃ (p tr j d1 d2 : Addr) (rs : List Rc) (sy n : Int), vs = [.ref p, .int n] ∧ LedAt K H p tr j d1 d2 rs sy ∧ Q (.bl ((st rs).opens n)) H
theorem ok_Ledger_is_open {P : Program} {w : World} {K : PySem.W.Frag} {mg : Str → Option Value} {base : Heap} {f : Addr} {fd : FuncData} (T : Tx K mg) 
    (F : FunD K "is_open" "Ledger.is_open" (defArgs s_Ledger_is_open) (defBody s_Ledger_is_open) (defScope s_Ledger_is_open) [] [] f fd) : FnOk P w K mg base CX0 1 f fd ["self", "number"] (spLOpen K) := by
  refine F.ok sc_Ledger_is_open (fun vs H Q E h => ?_) (fun cdv A outer s0 H vs Q E hr h => ?_)
  · obtain ⟨p, tr, j, d1, d2, rs, sy, n, rfl, _⟩ := h
    rfl
  · obtain ⟨p, tr, j, d1, d2, rs, sy, n, rfl, hL, k⟩ := h
    refine ⟨_, PSs.nox (pss_one (ps_ret (pe_cmp (pc_din (hu_of hr) (pv 1) (pe_fldC rfl T.cl_Ledger T.na_Ledger__unfinished (pv 0) rfl)) rfl))), ?_⟩
    obtain ⟨⟨dx, hp⟩, _, ⟨k1, u1, u2⟩, _, _⟩ := hL
    refine ⟨_, rfl, _, rfl, p, dx, _, _, rfl, hp, rfl, d1, _, rfl, DGet.k (k := Sum.inl n) u1, ?_⟩
    rw [u2.some_ n, un_kv_any]
    exact k
def spLKnown (K : PySem.W.Frag) : Sp := fun vs H Q _ => ∃ (p tr j d1 d2 : Addr) (rs : List Rc) (sy n : Int), vs = [.ref p, .int n] ∧ LedAt K H p tr j d1 d2 rs sy ∧ Q (.bl ((st rs).knows n)) H
theorem ok_Ledger_is_known {P : Program} {w : World} {K : PySem.W.Frag} {mg : Str → Option Value} {base : Heap} {f : Addr} {fd : FuncData} (T : Tx K mg) 
    (F : FunD K "is_known" "Ledger.is_known" (defArgs s_Ledger_is_known) (defBody s_Ledger_is_known) (defScope s_Ledger_is_known) [] [] f fd) : FnOk P w K mg base CX0 1 f fd ["self", "number"] (spLKnown K) := by
  refine F.ok sc_Ledger_is_known (fun vs H Q E h => ?_) (fun cdv A outer s0 H vs Q E hr h => ?_)
  · obtain ⟨p, tr, j, d1, d2, rs, sy, n, rfl, _⟩ := h
    rfl
  · obtain ⟨p, tr, j, d1, d2, rs, sy, n, rfl, hL, k⟩ := h
    refine ⟨_, PSs.nox (pss_one (ps_ret (pe_or (pe_cmp (pc_din (hu_of hr) (pv 1) (pe_fldC rfl T.cl_Ledger T.na_Ledger__unfinished (pv 0) rfl)) rfl) (pe_one (pe_cmp (pc_din (hu_of hr) (pv 1) (pe_fldC rfl T.cl_Ledger T.na_Ledger__finished (pv 0) rfl)) rfl))))), ?_⟩
    obtain ⟨⟨dx, hp⟩, _, ⟨k1, u1, u2⟩, ⟨k2, f1, f2⟩, _⟩ := hL
    refine ⟨_, rfl, _, rfl, p, dx, _, _, rfl, hp, rfl, d1, _, rfl, DGet.k (k := Sum.inl n) u1, _, rfl, ?_⟩
    rw [u2.some_ n, un_kv_any]
    unfold Lg.knows Lg.opens at k
    cases q : (st rs).un.any fun u => decide (u.n = n) with
    | true =>
      rw [q, Bool.true_or] at k
      exact iteT k
    | false =>
      rw [q, Bool.false_or] at k
      refine iteF ⟨_, rfl, _, rfl, p, dx, _, _, rfl, hp, rfl, d2, _, rfl, DGet.k (k := Sum.inl n) f1, ?_⟩
      rw [f2.some_ n, fi_kv_any]
      exact k
def spLAns (K : PySem.W.Frag) : Sp := fun vs H Q _ => ∃ (p tr j d1 d2 : Addr) (rs : List Rc) (sy n : Int) (u : Un), vs = [.ref p, .int n] ∧ LedAt K H p tr j d1 d2 rs sy ∧ (st rs).un.find? (fun x => decide (x.n = n)) = some u ∧ Q (.int u.t) H
theorem ok_Ledger_answer_of {P : Program} {w : World} {K : PySem.W.Frag} {mg : Str → Option Value} {base : Heap} {f : Addr} {fd : FuncData} (T : Tx K mg) 
    (F : FunD K "answer_of" "Ledger.answer_of" (defArgs s_Ledger_answer_of) (defBody s_Ledger_answer_of) (defScope s_Ledger_answer_of) [] [] f fd) : FnOk P w K mg base CX0 1 f fd ["self", "number"] (spLAns K) := by
  refine F.ok sc_Ledger_answer_of (fun vs H Q E h => ?_) (fun cdv A outer s0 H vs Q E hr h => ?_)
  · obtain ⟨p, tr, j, d1, d2, rs, sy, n, u, rfl, _⟩ := h
    rfl
  · obtain ⟨p, tr, j, d1, d2, rs, sy, n, u, rfl, hL, hf, k⟩ := h
    refine ⟨_, PSs.nox (pss_one (ps_ret (pe_ix ix_tup (pe_dget (hu_of hr) (pe_fldC rfl T.cl_Ledger T.na_Ledger__unfinished (pv 0) rfl) (pv 1) (fun _ _ => rfl)) pe_int (fun _ _ => rfl)))), ?_⟩
    obtain ⟨⟨dx, hp⟩, _, ⟨k1, u1, u2⟩, _, _⟩ := hL
    obtain ⟨t, hv, ht⟩ : ∃ t, valV k1 (Sum.inl n) = some (.ref t) ∧ H t = some (.tup [.str u.c, .str u.a, .int u.t]) := by
      rcases u2.val n with ⟨a1, _⟩ | ⟨x, t, a1, a2, a3⟩
      · rw [un_kv_find, hf] at a1; cases a1
      · rw [un_kv_find, hf] at a1
        obtain rfl : Un.kv u = x := Option.some.inj a1
        exact ⟨t, a2, a3⟩
    exact ⟨_, rfl, p, dx, _, _, rfl, hp, rfl, _, rfl, d1, .ref t, rfl, by rw [← hv]; exact DGet.k (k := Sum.inl n) u1, t, _, 2, .int u.t, rfl, rfl, SqT.of ht, rfl, k⟩

end K12
set_option maxHeartbeats 1000000
set_option pp.maxSteps 500
namespace K12
open PySem PySem.Spec PyProof.Rows L2 SX TK NdefX K11 LD
open C8 (pe_c)
def TsAt (H : Hp) : List Addr → List (List V) → Prop
  | [], [] => True
  | t :: ts, b :: bs => H t = some (.tup b) ∧ TsAt H ts bs
  | _, _ => False
theorem TsAt.mono {H H' : Hp} (s : ∀ x b, H x = some (.tup b) → H' x = some (.tup b)) : ∀ {ts : List Addr} {bs : List (List V)}, TsAt H ts bs → TsAt H' ts bs
  | [], [], _ => trivial
  | t :: ts, b :: bs, h => ⟨s _ _ h.1, TsAt.mono s h.2⟩
  | [], _ :: _, h => h
  | _ :: _, [], h => h
theorem TsAt.snoc {H : Hp} {t : Addr} {b : List V} (ht : H t = some (.tup b)) : ∀ {ts : List Addr} {bs : List (List V)}, TsAt H ts bs → TsAt H (ts ++ [t]) (bs ++ [b])
  | [], [], _ => ⟨ht, trivial⟩
  | _ :: _, _ :: _, h => ⟨h.1, TsAt.snoc ht h.2⟩
  | [], _ :: _, h => h.elim
  | _ :: _, [], h => h.elim
theorem TsAt.len {H : Hp} : ∀ {ts : List Addr} {bs : List (List V)}, TsAt H ts bs → ts.length = bs.length
  | [], [], _ => rfl
  | _ :: _, _ :: _, h => congrArg Nat.succ (TsAt.len h.2)
  | [], _ :: _, h => h.elim
  | _ :: _, [], h => h.elim
theorem TsAt.at_ {H : Hp} : ∀ {ts : List Addr} {bs : List (List V)}, TsAt H ts bs → ∀ (i : Nat) (x : V), (ts.map V.ref)[i]? = some x → ∃ t b, x = .ref t ∧ bs[i]? = some b ∧ H t = some (.tup b)
  | [], [], _, i, x, h => by cases h
  | t :: _, b :: _, h, 0, x, e => ⟨t, b, (Option.some.inj e).symm, rfl, h.1⟩
  | _ :: ts, _ :: bs, h, i + 1, x, e => TsAt.at_ h.2 i x e
  | [], _ :: _, h, _, _, _ => h.elim
  | _ :: _, [], h, _, _, _ => h.elim
theorem TsAt.get {H : Hp} : ∀ {ts : List Addr} {bs : List (List V)}, TsAt H ts bs → ∀ (i : Nat) (b : List V), bs[i]? = some b → ∃ t, (ts.map V.ref)[i]? = some (.ref t) ∧ H t = some (.tup b)
  | [], [], _, i, x, h => by cases h
  | t :: _, b :: _, h, 0, x, e => ⟨t, rfl, by rw [← Option.some.inj e]; exact h.1⟩
  | _ :: ts, _ :: bs, h, i + 1, x, e => TsAt.get h.2 i x e
  | [], _ :: _, h, _, _, _ => h.elim
  | _ :: _, [], h, _, _, _ => h.elim

def spLPend (K : PySem.W.Frag) : Sp := fun vs H Q _ => ∃ (p tr j d1 d2 : Addr) (rs : List Rc) (sy : Int) (us : List Un), vs = [.ref p] ∧ LedAt K H p tr j d1 d2 rs sy ∧ rs.length ≤ 110 ∧ us.Perm (st rs).un ∧ us.length < 64 ∧ (us.map (·.n)).Pairwise (· < ·) ∧ ∀ r H', Same H H' → H r = none → H' r = some (.lst ((us.map (·.n)).map V.int)) → Q (.ref r) H'
theorem ok_Ledger_pending {P : Program} {w : World} {K : PySem.W.Frag} {mg : Str → Option Value} {base : Heap} {f : Addr} {fd : FuncData} (T : Tx K mg) 
    (F : FunD K "pending" "Ledger.pending" (defArgs s_Ledger_pending) (defBody s_Ledger_pending) (defScope s_Ledger_pending) [] [] f fd) : FnOk P w K mg base CX0 1 f fd ["self"] (spLPend K) := by
  refine F.ok sc_Ledger_pending (fun vs H Q E h => ?_) (fun cdv A outer s0 H vs Q E hr h => ?_)
  · obtain ⟨p, tr, j, d1, d2, rs, sy, us, rfl, _⟩ := h
    rfl
  · obtain ⟨p, tr, j, d1, d2, rs, sy, us, rfl, hL, hlr, hp9, h64, hpw, k⟩ := h
    refine ⟨_, PSs.nox (pss_one (ps_ret (pe_callB (call_sortedDI rfl) rfl T.f_sorted (by decide +kernel) (pa_cons (pe_fldC rfl T.cl_Ledger T.na_Ledger__unfinished (pv 0) rfl) pa_nil)))), ?_⟩
    obtain ⟨⟨dx, hp⟩, _, ⟨k1, u1, u2⟩, _, _⟩ := hL
    refine ⟨_, rfl, p, dx, _, _, rfl, hp, rfl, d1, k1, (st rs).un.map (·.n), rfl, .inl u1, ?_, ?_, fun ys q hperm hpw2 hq => ?_⟩
    · rw [u2.keys]
      simp only [List.map_map]
      rfl
    · rw [List.length_map, ← hp9.length_eq]
      exact h64
    · have e : ys = us.map (·.n) := sort_uniq (hperm.trans (hp9.map _).symm) hpw2 hpw
      rw [e]
      exact k q _ (same_upd hq) hq upd_same
def spLBills (K : PySem.W.Frag) : Sp := fun vs H Q _ => ∃ (p tr j d1 d2 : Addr) (rs : List Rc) (sy : Int) (bs : List Bi), vs = [.ref p] ∧ LedAt K H p tr j d1 d2 rs sy ∧ rs.length ≤ 110 ∧ bs.Perm (st rs).fi ∧ bs.length < 64 ∧ (bs.map (·.n)).Pairwise (· < ·) ∧ ∀ r ts H', Same H H' → H r = none → H' r = some (.lst (ts.map V.ref)) → TsAt H' ts (bs.map Bi.v) → Q (.ref r) H'
theorem ok_Ledger_bills {P : Program} {w : World} {K : PySem.W.Frag} {mg : Str → Option Value} {base : Heap} {f : Addr} {fd : FuncData} (T : Tx K mg) 
    (F : FunD K "bills" "Ledger.bills" (defArgs s_Ledger_bills) (defBody s_Ledger_bills) (defScope s_Ledger_bills) [] [] f fd) : FnOk P w K mg base CX0 1 f fd ["self"] (spLBills K) := by
  refine F.ok sc_Ledger_bills (fun vs H Q E h => ?_) (fun cdv A outer s0 H vs Q E hr h => ?_)
  · obtain ⟨p, tr, j, d1, d2, rs, sy, bs, rfl, _⟩ := h
    rfl
  · obtain ⟨p, tr, j, d1, d2, rs, sy, bs, rfl, hL, hlr, hp9, h64, hpw, k⟩ := h
    refine ⟨_, PSs.nox (pss_one (ps_ret (pe_lc (own := [("number", 1)]) (g := gName 1) rfl sc_Ledger_bills.nd (pi_list (pe_callB (call_sortedDI rfl) rfl T.f_sorted (by decide +kernel) (pa_cons (pe_fldC rfl T.cl_Ledger T.na_Ledger__finished (pv 0) rfl) pa_nil))) (blkOk_by (own := [("number", 1)]) (N := ["self", "number"]) (sc := defScope s_Ledger_bills) (by decide +kernel)) (fun _ _ _ _ _ => pg_name (i := 1) sc_Ledger_bills.nd rfl (Or.inl rfl)) (fun _ _ _ _ _ => pts_nil) (fun _ _ _ _ _ => (pe_dget (hu_of hr) (pe_fldC rfl T.cl_Ledger T.na_Ledger__finished (pv 0) rfl) (pv 1) (fun _ _ => rfl)))))), ?_⟩
    obtain ⟨⟨dx, hp⟩, _, _, ⟨k2, f1, f2⟩, _⟩ := hL
    refine ⟨_, rfl, p, dx, _, _, rfl, hp, rfl, d2, k2, (st rs).fi.map (·.n), rfl, .inl f1, ?_, ?_, fun ys q hperm hpw2 hq => ?_⟩
    · rw [f2.keys]
      simp only [List.map_map]
      rfl
    · rw [List.length_map, ← hp9.length_eq]
      exact h64
    · have e : ys = bs.map (·.n) := sort_uniq (hperm.trans (hp9.map _).symm) hpw2 hpw
      subst e
      have sq := same_upd (o := .lst ((bs.map (·.n)).map V.int)) hq
      have hp1 := sq _ _ hp
      have f11 := sq _ _ f1
      have f21 := f2.mono fun y b z => sq _ _ z
      have eq0 : (upd H q (.lst ((bs.map (·.n)).map V.int))) q = some (.lst ((bs.map (·.n)).map V.int)) := upd_same
      refine ⟨q, rfl, ⟨_, SqL.of upd_same⟩, fun D hD => ?_⟩
      have D0 : H D = none := by
        cases eq : H D with
        | none => rfl
        | some o => rw [sq _ _ eq] at hD; cases hD
      generalize upd H q (.lst ((bs.map (·.n)).map V.int)) = H1 at *
      have hfind : ∀ b ∈ bs, (st rs).fi.find? (fun x => decide (x.n = b.n)) = some b := fun b hb => by
        cases qf : (st rs).fi.find? (fun x => decide (x.n = b.n)) with
        | none => exact absurd (decide_eq_true rfl) (List.find?_eq_none.mp qf b (hp9.subset hb))
        | some x =>
          have e1 : x.n = b.n := by simpa using List.find?_some (p := fun (x : Bi) => decide (x.n = b.n)) qf
          have m1 : x ∈ bs := hp9.symm.subset (List.mem_of_find?_eq_some qf)
          obtain ⟨i, hi, ei⟩ := List.mem_iff_getElem.mp hb
          obtain ⟨j', hj', ej⟩ := List.mem_iff_getElem.mp m1
          have pw := List.pairwise_iff_getElem.mp hpw
          have g : ∀ k (hk : k < bs.length), (bs.map (·.n))[k]'(by rw [List.length_map]; exact hk) = bs[k].n := fun k hk => List.getElem_map ..
          rcases Nat.lt_trichotomy i j' with z | z | z
          · have := pw i j' (by rw [List.length_map]; exact hi) (by rw [List.length_map]; exact hj') z
            rw [g i hi, g j' hj', ei, ej] at this
            omega
          · subst z
            rw [← ei, ← ej]
          · have := pw j' i (by rw [List.length_map]; exact hj') (by rw [List.length_map]; exact hi) z
            rw [g i hi, g j' hj', ei, ej] at this
            omega
      refine lc_itN walk_list (fun i H' => Same H1 H' ∧ ∃ ts : List Addr, H' D = some (.lst (ts.map V.ref)) ∧ TsAt H' ts ((bs.take i).map Bi.v)) ⟨same_upd hD, [], upd_same, trivial⟩ (fun i H' _ q => SqL.of (q.1 _ _ eq0)) (fun i x H3 H4 hi p9 y => ?_) (fun H3 p9 => ?_)
      · obtain ⟨s3, ts, e1, e2⟩ := p9
        obtain ⟨rfl, hx⟩ := y
        rw [List.length_map, List.length_map] at hi
        rw [List.getElem?_map, List.getElem?_map, List.getElem?_eq_getElem hi] at hx
        obtain rfl := Option.some.inj hx
        obtain ⟨t, hv, ht⟩ : ∃ t, valV k2 (Sum.inl bs[i].n) = some (.ref t) ∧ H1 t = some (.tup bs[i].v) := by
          have hf := hfind _ (List.getElem_mem hi)
          rcases f21.val bs[i].n with ⟨a1, _⟩ | ⟨x, t, a1, a2, a3⟩
          · rw [fi_kv_find, hf] at a1; cases a1
          · rw [fi_kv_find, hf] at a1
            obtain rfl : Bi.kv bs[i] = x := Option.some.inj a1
            exact ⟨t, a2, a3⟩
        refine ⟨rfl, _, rfl, p, dx, _, _, rfl, s3 _ _ hp1, rfl, _, rfl, d2, .ref t, rfl, by rw [← hv]; exact DGet.k (k := Sum.inl bs[i].n) (s3 _ _ f11), _, e1, ?_, fun b o eb => (upd_ne (ne_of_none eb hD)).trans (s3 _ _ eb), ts ++ [t], ?_, ?_⟩
        · have := e2.len
          rw [List.length_map, List.length_take] at this
          rw [List.length_map, sizeLine_eq]
          omega
        · rw [upd_same, List.map_append]
          rfl
        · rw [List.take_add_one, List.getElem?_eq_getElem hi]
          show TsAt _ _ ((bs.take i ++ [bs[i]]).map Bi.v)
          rw [List.map_append]
          refine TsAt.snoc ((upd_ne (ne_of (s3 _ _ ht) e1 (by intro z; cases z))).trans (s3 _ _ ht)) (e2.mono fun x b ex => ?_)
          exact (upd_ne (ne_of ex e1 (by intro z; cases z))).trans ex
      · obtain ⟨s3, ts, e1, e2⟩ := p9
        rw [List.length_map, List.length_map, List.take_length] at e2
        exact k D ts H3 (sq.trans s3) D0 e1 e2
def spLGreat (K : PySem.W.Frag) : Sp := fun vs H Q _ => ∃ (p tr j d1 d2 : Addr) (rs : List Rc) (sy m : Int), vs = [.ref p] ∧ LedAt K H p tr j d1 d2 rs sy ∧ rs.length ≤ 110 ∧ (m = 0 ∨ m ∈ (st rs).un.map (·.n) ∨ m ∈ (st rs).fi.map (·.n)) ∧ 0 ≤ m ∧ (∀ x ∈ (st rs).un.map (·.n), x ≤ m) ∧ (∀ x ∈ (st rs).fi.map (·.n), x ≤ m) ∧ ∀ H', Same H H' → Q (.int m) H'
theorem ok_Ledger_greatest {P : Program} {w : World} {K : PySem.W.Frag} {mg : Str → Option Value} {base : Heap} {f : Addr} {fd : FuncData} (T : Tx K mg) 
    (F : FunD K "greatest" "Ledger.greatest" (defArgs s_Ledger_greatest) (defBody s_Ledger_greatest) (defScope s_Ledger_greatest) [] [] f fd) : FnOk P w K mg base CX0 1 f fd ["self"] (spLGreat K) := by
  refine F.ok sc_Ledger_greatest (fun vs H Q E h => ?_) (fun cdv A outer s0 H vs Q E hr h => ?_)
  · obtain ⟨p, tr, j, d1, d2, rs, sy, m, rfl, _⟩ := h
    rfl
  · obtain ⟨p, tr, j, d1, d2, rs, sy, m, rfl, hL, hlr, hm, m0, m1, m2, k⟩ := h
    refine ⟨_, PSs.nox (pss_one (ps_ret (pe_callB (cr_max rfl) rfl T.f_max (by decide +kernel) (pa_cons (pe_lst (pa_cons pe_int (TK.pa_starD rfl (pe_fldC rfl T.cl_Ledger T.na_Ledger__unfinished (pv 0) rfl) (TK.pa_starD rfl (pe_fldC rfl T.cl_Ledger T.na_Ledger__finished (pv 0) rfl) pa_nil)))) pa_nil)))), ?_⟩
    obtain ⟨⟨dx, hp⟩, _, ⟨k1, u1, u2⟩, ⟨k2, f1, f2⟩, _⟩ := hL
    have hu9 := un_len rs
    refine ⟨_, rfl, p, dx, _, _, rfl, hp, rfl, d1, k1, rfl, u1, _, rfl, p, dx, _, _, rfl, hp, rfl, d2, k2, rfl, f1, ?_⟩
    rw [u2.keyVs, f2.keyVs]
    have el : (V.int 0 :: (((((st rs).un.map Un.kv).map (·.1)).map V.int) ++ (((((st rs).fi.map Bi.kv).map (·.1)).map V.int) ++ []))) = ((0 : Int) :: ((st rs).un.map (·.n) ++ (st rs).fi.map (·.n))).map V.int := by
      rw [List.append_nil, List.map_cons, List.map_append]
      simp only [List.map_map]
      rfl
    delta tNil
    dsimp only
    rw [el]
    refine ⟨?_, fun q hq => ⟨q, _, rfl, SqL.of upd_same, Nat.succ_pos _, fun m' h1 h2 => ?_⟩⟩
    · rw [List.length_map, List.length_cons, List.length_append, List.length_map, List.length_map, sizeLine_eq]
      omega
    · have a1 : m ≤ m' := by
        refine h2 m ?_
        rcases hm with z | z | z
        · rw [z]; exact List.mem_cons_self ..
        · exact List.mem_cons_of_mem _ (List.mem_append_left _ z)
        · exact List.mem_cons_of_mem _ (List.mem_append_right _ z)
      have a2 : m' ≤ m := by
        rcases List.mem_cons.mp h1 with z | z
        · omega
        · rcases List.mem_append.mp z with z | z
          · exact m1 _ z
          · exact m2 _ z
      obtain rfl : m = m' := by omega
      exact k _ (same_upd hq)

end K12
set_option maxHeartbeats 1000000
set_option pp.maxSteps 500
namespace K12
open PySem PySem.Spec PyProof.Rows L2 SX TK NdefX K11 LD
open C8 (pe_c)
def oV : Option Int → V
  | none => .non
  | some i => .int i
def numO (z : Str) : Option Int :=
  if consB z zDG 9 = true then
    (if (decide (V.str (S [(TL.tl z).getD 0 0]) = V.str "0") && !decide (V.str z = V.str "0")) = true then none
     else if ((NumText.digitsVal (TL.tl z) : Nat) : Int) ≤ 999999999 then some (NumText.digitsVal (TL.tl z) : Nat) else none)
  else none
theorem numV_O (z : Str) : numV z 999999999 = oV (numO z) := by
  unfold numV numO
  split
  · split
    · rfl
    · split <;> rfl
  · rfl
theorem numO_ok {z : Str} {i : Int} (h : numO z = some i) : nOk i := by
  unfold numO at h
  split at h
  · split at h
    · cases h
    · split at h
      · rename_i q
        obtain rfl := Option.some.inj h
        exact ⟨Int.natCast_nonneg _, q⟩
      · cases h
  · cases h
def recW : List Str → Option Rc
  | [w0, w1, w2, w3, w4] => if w0 = "open" then (match numO w1, numO w4 with
    | some n, some t => if ((splitB w2).isSome && (splitB w3).isSome) = true then some (.op n w2 w3 t) else none
    | _, _ => none) else none
  | [w0, w1, w2, w3] => if w0 = "close" then (match numO w1, numO w2, numO w3 with
    | some n, some e, some k => some (.cl n e k)
    | _, _, _ => none) else none
  | _ => none
theorem dn_O (o : Option Int) : decide (oV o = V.non) = o.isNone := by
  cases o with
  | none => exact decide_eq_true rfl
  | some i => exact decide_eq_false (fun z => by cases z)
theorem Same.frl {H H1 H2 : Hp} {j d1 d2 : Addr} (s : Same H H1) (f : FrL H1 H2 j d1 d2) : FrL H H2 j d1 d2 := fun b o e b1 b2 b3 => f b o (s b o e) b1 b2 b3
def spTOpen (K : PySem.W.Frag) : Sp := fun vs H Q _ => ∃ (p tr j d1 d2 w : Addr) (rs : List Rc) (sy : Int) (w1 w2 w3 w4 : Str), vs = [.ref p, .ref w] ∧ LedAt K H p tr j d1 d2 rs sy ∧ H w = some (.lst [.str "open", .str w1, .str w2, .str w3, .str w4]) ∧ w1.length ≤ 1000 ∧ w2.length ≤ 1000 ∧ w3.length ≤ 1000 ∧ w4.length ≤ 1000 ∧
  (∀ r, recW ["open", w1, w2, w3, w4] = some r → (lineS r).length ≤ 60) ∧ (∀ r ∈ rs, (lineS r).length ≤ 60) ∧ rs.length ≤ 110 ∧ ∀ H' sy', LedAt K H' p tr j d1 d2 (eat rs (recW ["open", w1, w2, w3, w4])) sy' → FrL H H' j d1 d2 → Q .non H'
theorem ok_take_open {P : Program} {w : World} {K : PySem.W.Frag} {mg : Str → Option Value} {base : Heap} {f : Addr} {fd : FuncData} (T : Tx K mg) (c_read_number : C8.Cal P w K mg base 2 "read_number" spNum []) (c_is_address : C8.Cal P w K mg base 4 "is_address" spIsAddr []) (c_Ledger_is_known : C8.Met P w K mg base 1 (He.ga K "Ledger") "is_known" (spLKnown K) []) (c_Ledger_begin : C8.Met P w K mg base 4 (He.ga K "Ledger") "begin" (spLBegin K) [])
    (F : FunD K "_take_open" "_take_open" (defArgs s_take_open) (defBody s_take_open) (defScope s_take_open) [] [] f fd) : FnOk P w K mg base CX0 5 f fd ["ledger", "words"] (spTOpen K) := by
  refine F.ok sc_take_open (fun vs H Q E h => ?_) (fun cdv A outer s0 H vs Q E hr h => ?_)
  · obtain ⟨p, tr, j, d1, d2, w, rs, sy, w1, w2, w3, w4, rfl, _⟩ := h
    rfl
  · obtain ⟨p, tr, j, d1, d2, w, rs, sy, w1, w2, w3, w4, rfl, hL, hw, l1, l2, l3, l4, hln, hls, hlr, k⟩ := h
    refine ⟨_, PSs.nox (pss_cons (ps_set (i := 2) sc_take_open.nd rfl (Or.inl rfl) (pe_c c_read_number hr (by decide) rfl (pa_cons (pe_ix ix_list (pv 1) pe_int (fun _ _ => rfl)) (pa_cons (pgI T.g_GREATEST_NUMBER) pa_nil)))) (pss_cons (ps_set (i := 3) sc_take_open.nd rfl (Or.inl rfl) (pe_c c_read_number hr (by decide) rfl (pa_cons (pe_ix ix_list (pv 1) pe_int (fun _ _ => rfl)) (pa_cons (pgI T.g_GREATEST_NUMBER) pa_nil)))) (pss_cons (ps_set (i := 4) sc_take_open.nd rfl (Or.inl rfl) (pe_cut (pe_and (pe_c c_is_address hr (by decide) rfl (pa_cons (pe_ix ix_list (pv 1) pe_int (fun _ _ => rfl)) pa_nil)) (pe_and (pe_c c_is_address hr (by decide) rfl (pa_cons (pe_ix ix_list (pv 1) pe_int (fun _ _ => rfl)) pa_nil)) (pe_and (pe_cmpR op_notN (pv 2) pe_non (nomark _)) (pe_one (pe_cmpR op_notN (pv 3) pe_non (nomark _)))))))) (pss_one (ps_if (PW.pt (pw_and (pt_val (pv 4)) (pw_and1 (pt_not (pt_val (C8.pe_mt c_Ledger_is_known hr (by decide) (pv 0) (pa_cons (pv 2) pa_nil))))))) (pss_one (ps_expr (C8.pe_mt c_Ledger_begin hr (by decide) (pv 0) (pa_cons (pv 2) (pa_cons (pe_ix ix_list (pv 1) pe_int (fun _ _ => rfl)) (pa_cons (pe_ix ix_list (pv 1) pe_int (fun _ _ => rfl)) (pa_cons (pv 3) pa_nil))))))) pss_nil))))), ?_⟩
    refine ⟨_, rfl, w, _, 1, .str w1, rfl, rfl, SqL.of hw, rfl, w1, 999999999, rfl, l1, fun H1 s1 => ?_⟩
    rw [numV_O]
    refine ⟨_, rfl, w, _, 4, .str w4, rfl, rfl, SqL.of (s1 _ _ hw), rfl, w4, 999999999, rfl, l4, fun H2 s2 => ?_⟩
    rw [numV_O]
    have s12 := s1.trans s2
    have hw2 := s12 _ _ hw
    have kN : ∀ H3, Same H2 H3 → eat rs (recW ["open", w1, w2, w3, w4]) = rs → Q .non H3 := fun H3 s3 e => k H3 sy (by rw [e]; exact hL.same (s12.trans s3)) (FrL.of_same (s12.trans s3))
    have hrec : recW ["open", w1, w2, w3, w4] = (match numO w1, numO w4 with
      | some n, some t => if ((splitB w2).isSome && (splitB w3).isSome) = true then some (.op n w2 w3 t) else none
      | _, _ => none) := by
      exact (show (if ("open" : Str) = "open" then (match numO w1, numO w4 with
        | some n, some t => if ((splitB w2).isSome && (splitB w3).isSome) = true then some (Rc.op n w2 w3 t) else none
        | _, _ => none) else none) = _ from if_pos rfl)
    refine ⟨fun v H' => Same H2 H' ∧ v = .bl ((splitB w2).isSome && ((splitB w3).isSome && (!(numO w1).isNone && !(numO w4).isNone))), ?_, ?_⟩
    · refine ⟨_, rfl, w, _, 2, .str w2, rfl, rfl, SqL.of hw2, rfl, w2, rfl, l2, fun H3 s3 => ⟨_, rfl, ?_⟩⟩
      cases (splitB w2).isSome with
      | false => exact iteF ⟨s3, rfl⟩
      | true =>
        refine iteT ⟨_, rfl, w, _, 3, .str w3, rfl, rfl, SqL.of (s3 _ _ hw2), rfl, w3, rfl, l3, fun H4 s4 => ⟨_, rfl, ?_⟩⟩
        cases (splitB w3).isSome with
        | false => exact iteF ⟨s3.trans s4, rfl⟩
        | true =>
          refine iteT ⟨_, rfl, rfl, _, rfl, ?_⟩
          rw [dn_O]
          cases (numO w1).isNone with
          | true => exact iteF ⟨s3.trans s4, rfl⟩
          | false =>
            refine iteT ⟨_, rfl, rfl, s3.trans s4, ?_⟩
            rw [dn_O]
            rfl
    · rintro v H3 ⟨s3, rfl⟩
      generalize hb : ((splitB w2).isSome && ((splitB w3).isSome && (!(numO w1).isNone && !(numO w4).isNone))) = b at *
      refine ⟨_, rfl, _, rfl, ?_⟩
      cases b with
      | false =>
        refine iteF (kN H3 s3 ?_)
        rw [hrec]
        cases e1 : numO w1 with
        | none => rfl
        | some n =>
          cases e4 : numO w4 with
          | none => rfl
          | some t =>
            dsimp only
            rw [if_neg]
            · rfl
            · intro z
              rw [Bool.and_eq_true] at z
              rw [e1, e4, z.1, z.2] at hb
              cases hb
      | true =>
        rw [Bool.and_eq_true, Bool.and_eq_true, Bool.and_eq_true] at hb
        obtain ⟨b2, b3, b1, b4⟩ := hb
        obtain ⟨n, e1⟩ : ∃ n, numO w1 = some n := by
          cases e : numO w1 with
          | none => rw [e] at b1; cases b1
          | some n => exact ⟨n, rfl⟩
        obtain ⟨t, e4⟩ : ∃ t, numO w4 = some t := by
          cases e : numO w4 with
          | none => rw [e] at b4; cases b4
          | some n => exact ⟨n, rfl⟩
        have hrec2 : recW ["open", w1, w2, w3, w4] = some (.op n w2 w3 t) := by
          rw [hrec, e1, e4]
          dsimp only
          rw [b2, b3]
          rfl
        rw [e1, e4]
        have hL3 := hL.same (s12.trans s3)
        obtain ⟨dx, hp⟩ := hL3.o
        refine iteT ⟨_, rfl, p, dx, _, rfl, hp, rfl, _, rfl, p, tr, j, d1, d2, rs, sy, n, rfl, hL3, _, rfl, ?_⟩
        cases hk : (st rs).knows n with
        | true => exact iteF (kN H3 s3 (by rw [hrec2]; unfold eat; dsimp only; rw [if_neg]; show ¬ (!(st rs).knows n) = true; rw [hk]; decide))
        | false =>
          have hleg : (st rs).legal (.op n w2 w3 t) = true := by
            show (!(st rs).knows n) = true
            rw [hk]
            rfl
          refine iteT ⟨_, rfl, p, dx, _, rfl, hp, rfl, _, rfl, _, rfl, w, _, 2, .str w2, rfl, rfl, SqL.of (s3 _ _ hw2), rfl, _, rfl, w, _, 3, .str w3, rfl, rfl, SqL.of (s3 _ _ hw2), rfl, _, rfl, p, tr, j, d1, d2, rs, sy, n, t, w2, w3, rfl, hL3, numO_ok e1, numO_ok e4, hln _ hrec2, hls, hlr, hleg, fun H4 hL4 f4 => k H4 ((catS (rs ++ [.op n w2 w3 t])).length : Nat) ?_ (Same.frl (s12.trans s3) f4)⟩
          rw [hrec2]
          unfold eat
          dsimp only
          rw [if_pos hleg]
          exact hL4
def spTClose (K : PySem.W.Frag) : Sp := fun vs H Q _ => ∃ (p tr j d1 d2 w : Addr) (rs : List Rc) (sy : Int) (w1 w2 w3 : Str), vs = [.ref p, .ref w] ∧ LedAt K H p tr j d1 d2 rs sy ∧ H w = some (.lst [.str "close", .str w1, .str w2, .str w3]) ∧ w1.length ≤ 1000 ∧ w2.length ≤ 1000 ∧ w3.length ≤ 1000 ∧
  (∀ r, recW ["close", w1, w2, w3] = some r → (lineS r).length ≤ 60) ∧ (∀ r ∈ rs, (lineS r).length ≤ 60) ∧ rs.length ≤ 110 ∧ Disj (st rs) ∧ ∀ H' sy', LedAt K H' p tr j d1 d2 (eat rs (recW ["close", w1, w2, w3])) sy' → FrL H H' j d1 d2 → Q .non H'
theorem ok_take_close {P : Program} {w : World} {K : PySem.W.Frag} {mg : Str → Option Value} {base : Heap} {f : Addr} {fd : FuncData} (T : Tx K mg) (c_read_number : C8.Cal P w K mg base 2 "read_number" spNum []) (c_Ledger_is_open : C8.Met P w K mg base 1 (He.ga K "Ledger") "is_open" (spLOpen K) []) (c_Ledger_close : C8.Met P w K mg base 4 (He.ga K "Ledger") "close" (spLClose K) [])
    (F : FunD K "_take_close" "_take_close" (defArgs s_take_close) (defBody s_take_close) (defScope s_take_close) [] [] f fd) : FnOk P w K mg base CX0 5 f fd ["ledger", "words"] (spTClose K) := by
  refine F.ok sc_take_close (fun vs H Q E h => ?_) (fun cdv A outer s0 H vs Q E hr h => ?_)
  · obtain ⟨p, tr, j, d1, d2, w, rs, sy, w1, w2, w3, rfl, _⟩ := h
    rfl
  · obtain ⟨p, tr, j, d1, d2, w, rs, sy, w1, w2, w3, rfl, hL, hw, l1, l2, l3, hln, hls, hlr, hdj, k⟩ := h
    refine ⟨_, PSs.nox (pss_cons (ps_asg (pe_lc (own := [("word", 5)]) (g := gName 5) rfl sc_take_close.nd (pi_list (pe_slice sl_list (pv 1) (po_some pe_int) po_none)) (blkOk_by (own := [("word", 5)]) (N := ["ledger", "words", "number", "end", "cost", "word"]) (sc := defScope s_take_close) (by decide +kernel)) (fun _ _ _ _ _ => pg_name (i := 5) sc_take_close.nd rfl (Or.inl rfl)) (fun _ _ _ _ _ => pts_nil) (fun _ _ _ _ _ => (pe_c c_read_number hr (by decide) rfl (pa_cons (pv 5) (pa_cons (pgI T.g_GREATEST_NUMBER) pa_nil))))) (pg_unl rfl (pgs_cons (pg_name (i := 2) sc_take_close.nd rfl (Or.inl rfl)) (pgs_cons (pg_name (i := 3) sc_take_close.nd rfl (Or.inl rfl)) (pgs_cons (pg_name (i := 4) sc_take_close.nd rfl (Or.inl rfl)) pgs_nil))))) (pss_one (ps_if (PW.pt (pw_and (pt_cmpR op_notN (pv 2) pe_non (nomark _)) (pw_and (pt_cmpR op_notN (pv 3) pe_non (nomark _)) (pw_and (pt_cmpR op_notN (pv 4) pe_non (nomark _)) (pw_and1 (pt_val (C8.pe_mt c_Ledger_is_open hr (by decide) (pv 0) (pa_cons (pv 2) pa_nil)))))))) (pss_one (ps_expr (C8.pe_mt c_Ledger_close hr (by decide) (pv 0) (pa_cons (pv 2) (pa_cons (pv 3) (pa_cons (pv 4) pa_nil)))))) pss_nil))), ?_⟩
    refine ⟨_, rfl, _, rfl, w, _, rfl, SqL.of hw, fun cu hcu => ⟨cu, rfl, ⟨_, SqL.of upd_same⟩, fun D hD => ?_⟩⟩
    have ec : cutV [V.str "close", .str w1, .str w2, .str w3] (some 1) none = [w1, w2, w3].map V.str := rfl
    rw [ec] at hD ⊢
    have sc2 := same_upd (o := .lst ([w1, w2, w3].map V.str)) hcu
    have ecu : (upd H cu (.lst ([w1, w2, w3].map V.str))) cu = some (.lst ([w1, w2, w3].map V.str)) := upd_same
    generalize upd H cu (.lst ([w1, w2, w3].map V.str)) = H1 at *
    refine lc_itN walk_list (fun i H' => Same H1 H' ∧ H' D = some (.lst (([w1, w2, w3].map fun z => oV (numO z)).take i))) ⟨same_upd hD, upd_same⟩ (fun i H' _ q => SqL.of (q.1 _ _ ecu)) (fun i x H3 H4 hi p9 y => ?_) (fun H3 p9 => ?_)
    · obtain ⟨s3, e3⟩ := p9
      obtain ⟨rfl, hx⟩ := y
      have hi3 : i < [w1, w2, w3].length := by rw [List.length_map] at hi; exact hi
      rw [List.getElem?_map, List.getElem?_eq_getElem hi3] at hx
      obtain rfl := Option.some.inj hx
      have hlz : [w1, w2, w3][i].length ≤ 1000 := by
        have m := List.getElem_mem hi3
        simp only [List.mem_cons, List.not_mem_nil, or_false] at m
        rcases m with z | z | z <;> rw [z] <;> assumption
      refine ⟨rfl, _, rfl, [w1, w2, w3][i], 999999999, rfl, hlz, fun H5 s5 => ⟨_, s5 _ _ e3, ?_, fun b o eb => (upd_ne (ne_of_none eb hD)).trans (s5 _ _ (s3 _ _ eb)), ?_⟩⟩
      · rw [List.length_take, List.length_map, sizeLine_eq]
        have : [w1, w2, w3].length = 3 := rfl
        omega
      · rw [upd_same, List.take_add_one, List.getElem?_map, List.getElem?_eq_getElem hi3, numV_O]
        rfl
    · obtain ⟨s3, e30⟩ := p9
      have e3 : H3 D = some (.lst [oV (numO w1), oV (numO w2), oV (numO w3)]) := e30
      have s13 := sc2.trans s3
      refine ⟨D, _, rfl, SqL.of e3, rfl, _, _, rfl, _, _, rfl, _, _, rfl, rfl, ?_⟩
      have kN : eat rs (recW ["close", w1, w2, w3]) = rs → Q .non H3 := fun e => k H3 sy (by rw [e]; exact hL.same s13) (FrL.of_same s13)
      have hrec : recW ["close", w1, w2, w3] = (match numO w1, numO w2, numO w3 with
        | some n, some e, some k => some (.cl n e k)
        | _, _, _ => none) := by
        exact (show (if ("close" : Str) = "close" then (match numO w1, numO w2, numO w3 with
          | some n, some e, some k => some (Rc.cl n e k)
          | _, _, _ => none) else none) = _ from if_pos rfl)
      refine ⟨_, rfl, rfl, _, rfl, ?_⟩
      rw [dn_O]
      cases e1 : numO w1 with
      | none => exact iteF (kN (by rw [hrec, e1]; rfl))
      | some n =>
        refine iteT ⟨_, rfl, rfl, _, rfl, ?_⟩
        rw [dn_O]
        cases e2 : numO w2 with
        | none => exact iteF (kN (by rw [hrec, e1, e2]; rfl))
        | some e =>
          refine iteT ⟨_, rfl, rfl, _, rfl, ?_⟩
          rw [dn_O]
          cases e4 : numO w3 with
          | none => exact iteF (kN (by rw [hrec, e1, e2, e4]; rfl))
          | some kk =>
            have hrec2 : recW ["close", w1, w2, w3] = some (.cl n e kk) := by rw [hrec, e1, e2, e4]
            have hL3 := hL.same s13
            obtain ⟨dx, hp⟩ := hL3.o
            refine iteT ⟨_, rfl, p, dx, _, rfl, hp, rfl, _, rfl, p, tr, j, d1, d2, rs, sy, n, rfl, hL3, _, rfl, ?_⟩
            cases hk : (st rs).opens n with
            | false => exact iteF (kN (by rw [hrec2]; unfold eat; dsimp only; rw [if_neg]; show ¬ (st rs).opens n = true; rw [hk]; decide))
            | true =>
              obtain ⟨u, hu⟩ : ∃ u, (st rs).un.find? (fun x => decide (x.n = n)) = some u := by
                unfold Lg.opens at hk
                rw [← any_find] at hk
                exact Option.isSome_iff_exists.mp hk
              refine iteT ⟨_, rfl, p, dx, _, rfl, hp, rfl, _, rfl, _, rfl, _, rfl, p, tr, j, d1, d2, rs, sy, n, e, kk, u, rfl, hL3, numO_ok e1, numO_ok e2, numO_ok e4, hln _ hrec2, hls, hlr, hu, hdj, fun H4 hL4 f4 => k H4 sy ?_ (Same.frl s13 f4)⟩
              rw [hrec2]
              unfold eat
              dsimp only
              rw [if_pos (show (st rs).legal (.cl n e kk) = true from hk)]
              exact hL4

end K12
set_option maxHeartbeats 1000000
set_option pp.maxSteps 500
namespace K12
open PySem PySem.Spec PyProof.Rows L2 SX TK NdefX K11 LD
open C8 (pe_c)
def spTRec (K : PySem.W.Frag) : Sp := fun vs H Q _ => ∃ (p tr j d1 d2 w : Addr) (rs : List Rc) (sy : Int) (ws : List Str), vs = [.ref p, .ref w] ∧ LedAt K H p tr j d1 d2 rs sy ∧ H w = some (.lst (ws.map V.str)) ∧ ws ≠ [] ∧ (∀ z ∈ ws, z.length ≤ 1000) ∧
  (∀ r, recW ws = some r → (lineS r).length ≤ 60) ∧ (∀ r ∈ rs, (lineS r).length ≤ 60) ∧ rs.length ≤ 110 ∧ Disj (st rs) ∧ ∀ H' sy', LedAt K H' p tr j d1 d2 (eat rs (recW ws)) sy' → FrL H H' j d1 d2 → Q .non H'
theorem recW_no {ws : List Str} (h1 : ∀ r, ws.length = 5 → ws ≠ ("open" : Str) :: r) (h2 : ∀ r, ws.length = 4 → ws ≠ ("close" : Str) :: r) : recW ws = none := by
  unfold recW
  split
  · rename_i w0 w1 w2 w3 w4
    rw [if_neg]
    rintro rfl
    exact h1 _ rfl rfl
  · rename_i w0 w1 w2 w3
    rw [if_neg]
    rintro rfl
    exact h2 _ rfl rfl
  · rfl
theorem vstr2 (a b : Str) : decide (V.str a = V.str b) = decide (a = b) := by
  by_cases h : a = b
  · rw [h, decide_eq_true rfl, decide_eq_true rfl]
  · rw [decide_eq_false h, decide_eq_false fun e => h (V.str.inj e)]
theorem ok_take_record {P : Program} {w : World} {K : PySem.W.Frag} {mg : Str → Option Value} {base : Heap} {f : Addr} {fd : FuncData} (T : Tx K mg) (c_take_open : C8.Cal P w K mg base 5 "_take_open" (spTOpen K) []) (c_take_close : C8.Cal P w K mg base 5 "_take_close" (spTClose K) [])
    (F : FunD K "_take_record" "_take_record" (defArgs s_take_record) (defBody s_take_record) (defScope s_take_record) [] [] f fd) : FnOk P w K mg base CX0 6 f fd ["ledger", "words"] (spTRec K) := by
  refine F.ok sc_take_record (fun vs H Q E h => ?_) (fun cdv A outer s0 H vs Q E hr h => ?_)
  · obtain ⟨p, tr, j, d1, d2, w, rs, sy, ws, rfl, _⟩ := h
    rfl
  · obtain ⟨p, tr, j, d1, d2, w, rs, sy, ws, rfl, hL, hw, hne, hz, hln, hls, hlr, hdj, k⟩ := h
    refine ⟨_, PSs.nox (pss_one (ps_if (PW.pt (pw_and (pt_cmpR op_eq (pe_ix ix_list (pv 1) pe_int (fun _ _ => rfl)) pe_str (nomark _)) (pw_and1 (pt_cmpR op_eq (pe_callB call_len_seq rfl T.f_len PySem.boot_len (pa_cons (pv 1) pa_nil)) pe_int (nomark _))))) (pss_one (ps_expr (pe_c c_take_open hr (by decide) rfl (pa_cons (pv 0) (pa_cons (pv 1) pa_nil))))) (pss_one (ps_if (PW.pt (pw_and (pt_cmpR op_eq (pe_ix ix_list (pv 1) pe_int (fun _ _ => rfl)) pe_str (nomark _)) (pw_and1 (pt_cmpR op_eq (pe_callB call_len_seq rfl T.f_len PySem.boot_len (pa_cons (pv 1) pa_nil)) pe_int (nomark _))))) (pss_one (ps_expr (pe_c c_take_close hr (by decide) rfl (pa_cons (pv 0) (pa_cons (pv 1) pa_nil))))) pss_nil)))), ?_⟩
    obtain ⟨w0, r, rfl⟩ : ∃ w0 r, ws = w0 :: r := by
      cases ws with
      | nil => exact absurd rfl hne
      | cons a b => exact ⟨a, b, rfl⟩
    have kN : recW (w0 :: r) = none → Q .non H := fun e => k H sy (by rw [e]; exact hL) (FrL.of_same fun _ _ e => e)
    have hlen : (((w0 :: r).map V.str).length : Int) = (r.length : Int) + 1 := by
      rw [List.length_map, List.length_cons]
      rfl
    have rest : ¬ (w0 = "open" ∧ r.length = 4) → (w0 ≠ "close" ∨ r.length ≠ 3) → recW (w0 :: r) = none := fun a b => by
      refine recW_no (fun q hq e => ?_) (fun q hq e => ?_)
      · injection e with e1 e2
        rw [List.length_cons] at hq
        exact a ⟨e1, by omega⟩
      · injection e with e1 e2
        rw [List.length_cons] at hq
        rcases b with z | z
        · exact z e1
        · exact z (by omega)
    have hz0 : ∀ z ∈ r, z.length ≤ 1000 := fun z m => hz z (List.mem_cons_of_mem _ m)
    refine ⟨_, rfl, w, _, 0, .str w0, rfl, rfl, SqL.of hw, atC _ _, rfl, _, rfl, ?_⟩
    rw [vstr2]
    by_cases h0 : w0 = "open"
    · rw [decide_eq_true h0]
      refine iteT ⟨_, rfl, w, _, rfl, .inl (SqL.of hw), rfl, _, rfl, ?_⟩
      rw [hlen, dec_int]
      by_cases h4 : r.length = 4
      · rw [show ((r.length : Int) + 1 == 5) = true by rw [h4]; rfl]
        subst h0
        obtain ⟨w1, w2, w3, w4, rfl⟩ : ∃ w1 w2 w3 w4, r = [w1, w2, w3, w4] := by
          match r, h4 with
          | [a, b, c, d], _ => exact ⟨a, b, c, d, rfl⟩
        exact iteT ⟨_, rfl, _, rfl, p, tr, j, d1, d2, w, rs, sy, w1, w2, w3, w4, rfl, hL, hw, hz0 _ (by simp), hz0 _ (by simp), hz0 _ (by simp), hz0 _ (by simp), hln, hls, hlr, k⟩
      · rw [show ((r.length : Int) + 1 == 5) = false by simp only [beq_eq_false_iff_ne]; omega]
        refine iteF ⟨_, rfl, w, _, 0, .str w0, rfl, rfl, SqL.of hw, atC _ _, rfl, _, rfl, ?_⟩
        rw [vstr2, decide_eq_false (show ¬ w0 = "close" by rw [h0]; decide +kernel)]
        exact iteF (kN (rest (fun z => h4 z.2) (.inl (by rw [h0]; decide +kernel))))
    · rw [decide_eq_false h0]
      refine iteF ⟨_, rfl, w, _, 0, .str w0, rfl, rfl, SqL.of hw, atC _ _, rfl, _, rfl, ?_⟩
      rw [vstr2]
      by_cases h1 : w0 = "close"
      · rw [decide_eq_true h1]
        refine iteT ⟨_, rfl, w, _, rfl, .inl (SqL.of hw), rfl, _, rfl, ?_⟩
        rw [hlen, dec_int]
        by_cases h3 : r.length = 3
        · rw [show ((r.length : Int) + 1 == 4) = true by rw [h3]; rfl]
          subst h1
          obtain ⟨w1, w2, w3, rfl⟩ : ∃ w1 w2 w3, r = [w1, w2, w3] := by
            match r, h3 with
            | [a, b, c], _ => exact ⟨a, b, c, rfl⟩
          exact iteT ⟨_, rfl, _, rfl, p, tr, j, d1, d2, w, rs, sy, w1, w2, w3, rfl, hL, hw, hz0 _ (by simp), hz0 _ (by simp), hz0 _ (by simp), hln, hls, hlr, hdj, k⟩
        · rw [show ((r.length : Int) + 1 == 4) = false by simp only [beq_eq_false_iff_ne]; omega]
          exact iteF (kN (rest (fun z => h0 z.1) (.inr h3)))
      · rw [decide_eq_false h1]
        exact iteF (kN (rest (fun z => h0 z.1) (.inl h1)))
def spLFin (K : PySem.W.Frag) : Sp := fun vs H Q _ => ∃ (p tr rt j d1 d2 : Addr) (uu l : Int) (bds : List Bd) (rs : List Rc) (sy n now : Int) (u : Un), vs = [.ref p, .int n, .int now] ∧ LedAt K H p tr j d1 d2 rs sy ∧ TAt K H tr rt uu bds l ∧ okU uu = true ∧ okB bds = true ∧ okP l = true ∧ (st rs).un.find? (fun x => decide (x.n = n)) = some u ∧ nOk n ∧ nOk now ∧ nOk (costI uu bds l (now - u.t)) ∧ (lineS (.cl n now (costI uu bds l (now - u.t)))).length ≤ 60 ∧ (∀ r ∈ rs, (lineS r).length ≤ 60) ∧ rs.length ≤ 110 ∧ Disj (st rs) ∧
  ∀ H', LedAt K H' p tr j d1 d2 (rs ++ [.cl n now (costI uu bds l (now - u.t))]) sy → FrL H H' j d1 d2 → Q .non H'
theorem ok_Ledger_finish {P : Program} {w : World} {K : PySem.W.Frag} {mg : Str → Option Value} {base : Heap} {f : Addr} {fd : FuncData} (T : Tx K mg) (c_Ledger_close : C8.Met P w K mg base 4 (He.ga K "Ledger") "close" (spLClose K) []) (c_Ledger_answer_of : C8.Met P w K mg base 1 (He.ga K "Ledger") "answer_of" (spLAns K) []) (c_Tariff_cost : C8.Met P w K mg base 2 (He.ga K "Tariff") "cost" (spCost K) [])
    (F : FunD K "finish" "Ledger.finish" (defArgs s_Ledger_finish) (defBody s_Ledger_finish) (defScope s_Ledger_finish) [] [] f fd) : FnOk P w K mg base CX0 5 f fd ["self", "number", "now"] (spLFin K) := by
  refine F.ok sc_Ledger_finish (fun vs H Q E h => ?_) (fun cdv A outer s0 H vs Q E hr h => ?_)
  · obtain ⟨p, tr, rt, j, d1, d2, uu, l, bds, rs, sy, n, now, u, rfl, _⟩ := h
    rfl
  · obtain ⟨p, tr, rt, j, d1, d2, uu, l, bds, rs, sy, n, now, u, rfl, hL, hT, ou, ob, opp, hf, hn, hnow, hc, hln, hls, hlr, hdj, k⟩ := h
    refine ⟨_, PSs.nox (pss_one (ps_expr (C8.pe_mt c_Ledger_close hr (by decide) (pv 0) (pa_cons (pv 1) (pa_cons (pv 2) (pa_cons (C8.pe_mt c_Tariff_cost hr (by decide) (pe_fldC rfl T.cl_Ledger T.na_Ledger_tariff (pv 0) rfl) (pa_cons (pe_op op_sub (pv 2) (C8.pe_mt c_Ledger_answer_of hr (by decide) (pv 0) (pa_cons (pv 1) pa_nil))) pa_nil)) pa_nil)))))), ?_⟩
    obtain ⟨dx, hp⟩ := hL.o
    obtain ⟨dt, ht, _⟩ := id hT
    exact ⟨_, rfl, p, dx, _, rfl, hp, rfl, _, rfl, _, rfl, _, rfl, p, dx, _, _, rfl, hp, rfl, tr, dt, _, rfl, ht, rfl, _, rfl, _, rfl, p, dx, _, rfl, hp, rfl, _, rfl, p, tr, j, d1, d2, rs, sy, n, u, rfl, hL, hf, _, _, rfl, rfl, tr, rt, uu, l, _, bds, rfl, hT, ou, ob, opp, p, tr, j, d1, d2, rs, sy, n, now, _, u, rfl, hL, hn, hnow, hc, hln, hls, hlr, hf, hdj, k⟩

end K12
set_option maxHeartbeats 1000000
set_option pp.maxSteps 500
namespace K12
open PySem PySem.Spec PyProof.Rows L2 SX TK NdefX K11 LD
open C8 (pe_c)
theorem split_sp (z : Str) : Txt.split z " " ≠ [] := by
  have e0 : (" " : Str) = S [32] := by decide +kernel
  rw [e0]
  intro e
  have q := congrArg TL.tl (StrLaws.join_split z (S [32]))
  rw [e, TL.tl_join] at q
  have q2 : TL.tl z = [] := q.symm
  have e2 : z = S [] := TL.ext_tl (by rw [q2])
  have e3 : Txt.split (S []) (S [32]) = [S []] := by decide +kernel
  rw [e2, e3] at e
  cases e
def recL (x : Str) : Option Rc := recW (Txt.split x " ")
def mxI (a b : Int) : Int := if b > a then b else a
def gR (uu l : Int) (bds : List Bd) (now : Int) (u : Un) : Int × Int := (mxI now u.t, costI uu bds l (mxI now u.t - u.t))
def spRecover (K : PySem.W.Frag) : Sp := fun vs H Q _ => ∃ (tr rt : Addr) (uu l : Int) (bds : List Bd) (z : Str) (now : Int) (us : List Un), vs = [.ref tr, .str z, .int now] ∧ TAt K H tr rt uu bds l ∧ okU uu = true ∧ okB bds = true ∧ okP l = true ∧ z.length ≤ 9000 ∧ us.Perm (st (eats ((readJ z).map recL))).un ∧ us.length ≤ 55 ∧ (us.map (·.n)).Pairwise (· < ·) ∧
  (readJ z).length ≤ 110 ∧ (eats ((readJ z).map recL)).length + us.length ≤ 110 ∧ (∀ x ∈ readJ z, x.length ≤ 900 ∧ ∀ r, recL x = some r → (lineS r).length ≤ 60) ∧ (∀ u ∈ us, nOk u.n ∧ nOk (gR uu l bds now u).1 ∧ nOk (gR uu l bds now u).2 ∧ (lineS (clR (gR uu l bds now) u)).length ≤ 60) ∧
  ∀ p j d1 d2 H', H p = none → H j = none → H d1 = none → H d2 = none → LedAt K H' p tr j d1 d2 (eats ((readJ z).map recL) ++ us.map (clR (gR uu l bds now))) ((catS (eats ((readJ z).map recL) ++ us.map (clR (gR uu l bds now)))).length : Nat) → Same H H' → Q (.ref p) H'
theorem eat_len (rs : List Rc) (o : Option Rc) : (eat rs o).length ≤ rs.length + 1 := by
  unfold eat
  cases o with
  | none => exact Nat.le_succ _
  | some r =>
    dsimp only
    split
    · rw [List.length_append]
      exact Nat.le_refl _
    · exact Nat.le_succ _
theorem eats_len (f : Str → Option Rc) (l : List Str) (h : ∀ x ∈ l, ∀ r, f x = some r → (lineS r).length ≤ 60) : ∀ i, i ≤ l.length → Good (eats ((l.take i).map f)) ∧ (eats ((l.take i).map f)).length ≤ i ∧ ∀ r ∈ eats ((l.take i).map f), (lineS r).length ≤ 60 := by
  intro i
  induction i with
  | zero => exact fun _ => ⟨Good.nil, Nat.le_refl _, fun _ z => nomatch z⟩
  | succ i ih =>
    intro hi
    obtain ⟨a, b, c⟩ := ih (by omega)
    have e : eats ((l.take (i + 1)).map f) = eat (eats ((l.take i).map f)) (f l[i]) := by
      rw [List.take_add_one, List.getElem?_eq_getElem (show i < l.length by omega)]
      show eats ((l.take i ++ [l[i]]).map f) = _
      rw [List.map_append]
      exact eats_snoc _ _
    rw [e]
    refine ⟨eat_good a _, Nat.le_trans (eat_len _ _) (by omega), fun r hr => ?_⟩
    unfold eat at hr
    cases q : f l[i] with
    | none => rw [q] at hr; exact c r hr
    | some x =>
      rw [q] at hr
      dsimp only at hr
      split at hr
      · rcases List.mem_append.mp hr with z | z
        · exact c r z
        · rw [List.mem_singleton.mp z]
          exact h _ (List.getElem_mem (show i < l.length by omega)) x q
      · exact c r hr
theorem ok_recover {P : Program} {w : World} {K : PySem.W.Frag} {mg : Str → Option Value} {base : Heap} {f : Addr} {fd : FuncData} (T : Tx K mg) (c_mk_Ledger : C8.Mak P w K mg base 3 "Ledger" (He.ga K "Ledger") (spLdInit K) []) (c_read_journal : C8.Cal P w K mg base 4 "read_journal" spRead []) (c_take_record : C8.Cal P w K mg base 6 "_take_record" (spTRec K) []) (c_Ledger_pending : C8.Met P w K mg base 1 (He.ga K "Ledger") "pending" (spLPend K) []) (c_Ledger_finish : C8.Met P w K mg base 5 (He.ga K "Ledger") "finish" (spLFin K) []) (c_Ledger_answer_of : C8.Met P w K mg base 1 (He.ga K "Ledger") "answer_of" (spLAns K) []) (c_Journal_sync : C8.Met P w K mg base 1 (He.ga K "Journal") "sync" (spJSync K) [])
    (F : FunD K "recover" "recover" (defArgs s_recover) (defBody s_recover) (defScope s_recover) [] [] f fd) : FnOk P w K mg base CX0 7 f fd ["tariff", "text", "now"] (spRecover K) := by
  refine F.ok sc_recover (fun vs H Q E h => ?_) (fun cdv A outer s0 H vs Q E hr h => ?_)
  · obtain ⟨tr, rt, uu, l, bds, z, now, us, rfl, _⟩ := h
    rfl
  · obtain ⟨tr, rt, uu, l, bds, z, now, us, rfl, hT, ou, ob, opp, hz, hus, hul, hpw, hrl, htl, hline, hu9, k⟩ := h
    refine ⟨_, PSs.nox (pss_cons (ps_set (i := 3) sc_recover.nd rfl (Or.inl rfl) (C8.pe_mk c_mk_Ledger hr (by decide) rfl (pa_cons (pv 0) pa_nil))) (pss_cons (ps_for PassesOwn.never rfl (pi_list (pe_c c_read_journal hr (by decide) rfl (pa_cons (pv 1) pa_nil))) (pg_name (i := 4) sc_recover.nd rfl (Or.inl rfl)) (pss_one (ps_expr (pe_c c_take_record hr (by decide) rfl (pa_cons (pv 3) (pa_cons (pe_split (pv 4) pe_str) pa_nil)))))) (pss_cons (ps_for PassesOwn.never rfl (pi_list (C8.pe_mt0 c_Ledger_pending hr (by decide) (pv 3))) (pg_name (i := 5) sc_recover.nd rfl (Or.inl rfl)) (pss_one (ps_expr (C8.pe_mt c_Ledger_finish hr (by decide) (pv 3) (pa_cons (pv 5) (pa_cons (pe_callB (call_max2 rfl) rfl T.f_max (by decide +kernel) (pa_cons (pv 2) (pa_cons (C8.pe_mt c_Ledger_answer_of hr (by decide) (pv 3) (pa_cons (pv 5) pa_nil)) pa_nil))) pa_nil)))))) (pss_cons (ps_expr (C8.pe_mt0 c_Journal_sync hr (by decide) (pe_fldC rfl T.cl_Ledger T.na_Ledger_journal (pv 3) rfl))) (pss_one (ps_ret (pv 3))))))), ?_⟩
    have hpos := fun i => eats_len recL (readJ z) (fun x hx => (hline x hx).2) i
    refine ⟨_, rfl, fun p dx hp hdx ne => ⟨p, dx, tr, rfl, upd_same, fun j d1 d2 H1 hj hd1 hd2 hL1 fr1 => ⟨rfl, ?_⟩⟩⟩
    have so := same_own (C := He.ga K "Ledger") (fs := []) hp hdx
    have nn : ∀ {b : Addr}, (upd (upd H dx (.own p)) p (.ins (He.ga K "Ledger") dx [])) b = none → H b = none := fun {b} e => by
      cases eq : H b with
      | none => rfl
      | some o => rw [so _ _ eq] at e; cases e
    have hj0 := nn hj
    have hd10 := nn hd1
    have hd20 := nn hd2
    have s1 : Same H H1 := fun b o e => fr1 b o (so _ _ e) (ne_of_none e hp)
    clear fr1 so nn hj hd1 hd2 hdx ne
    have frs : ∀ {Ha Hb : Hp}, Same H Ha → FrL Ha Hb j d1 d2 → Same H Hb := fun s f b o e => f b o (s _ _ e) (ne_of_none e hj0) (ne_of_none e hd10) (ne_of_none e hd20)
    refine ⟨_, rfl, z, rfl, hz, fun r H2 s2 hr2 => ⟨r, rfl, ⟨_, SqL.of hr2⟩, ?_⟩⟩
    have hL2 := hL1.same s2
    have rne : r ≠ j ∧ r ≠ d1 ∧ r ≠ d2 := by
      obtain ⟨_, ⟨dj, a⟩, ⟨_, b, _⟩, ⟨_, c, _⟩, _⟩ := hL2
      exact ⟨ne_of hr2 a (by intro z; cases z), ne_of hr2 b (by intro z; cases z), ne_of hr2 c (by intro z; cases z)⟩
    refine for_list (K := K) (a := r) (xs := (readJ z).map V.str) (fun i σ H' => Same H H' ∧ H' r = some (.lst ((readJ z).map V.str)) ∧ ∃ (sy : Int) (v4 : Option V), σ = [some (.ref tr), some (.str z), some (.int now), some (.ref p), v4, none] ∧ LedAt K H' p tr j d1 d2 (eats (((readJ z).take i).map recL)) sy)
      ⟨s1.trans s2, hr2, 0, none, rfl, hL2⟩ (fun i σ H' _ q => SqL.of q.2.1) ?_ ?_
    · rintro i y σ H3 hi ⟨s3, hr3, sy, v4, rfl, hL3⟩
      have hi2 : i < (readJ z).length := by
        have := (List.getElem?_eq_some_iff.mp hi).1
        rw [List.length_map] at this
        exact this
      rw [List.getElem?_map, List.getElem?_eq_getElem hi2] at hi
      obtain rfl := Option.some.inj hi
      obtain ⟨g1, g2, g3⟩ := hpos i (Nat.le_of_lt hi2)
      obtain ⟨hx1, hx2⟩ := hline _ (List.getElem_mem hi2)
      have e : eats (((readJ z).take (i + 1)).map recL) = eat (eats (((readJ z).take i).map recL)) (recL (readJ z)[i]) := by
        rw [List.take_add_one, List.getElem?_eq_getElem hi2]
        show eats (((readJ z).take i ++ [(readJ z)[i]]).map recL) = _
        rw [List.map_append]
        exact eats_snoc _ _
      refine ⟨_, rfl, _, rfl, ⟨_, rfl⟩, (readJ z)[i], " ", rfl, rfl, by decide +kernel, Nat.le_trans (Nat.add_le_add_right hx1 2) (by decide), fun w hw => ?_⟩
      have sw := same_upd (o := .lst ((Txt.split (readJ z)[i] " ").map V.str)) hw
      refine ⟨p, tr, j, d1, d2, w, eats (((readJ z).take i).map recL), sy, Txt.split (readJ z)[i] " ", rfl, hL3.same sw, upd_same, split_sp _, fun x hx => Nat.le_trans (part_len hx) (by omega), hx2, g3, by omega, g1.disj, fun H4 sy' hL4 f4 => ?_⟩
      exact ⟨frs (s3.trans sw) f4, f4 _ _ (sw _ _ hr3) rne.1 rne.2.1 rne.2.2, sy', _, rfl, by rw [e]; exact hL4⟩
    · rintro σ H3 ⟨s3, hr3, sy, v4, rfl, hL3⟩
      rw [List.length_map, List.take_length] at hL3
      obtain ⟨g1, g2, g3⟩ := hpos _ (Nat.le_refl _)
      rw [List.take_length] at g1 g2 g3
      generalize eats ((readJ z).map recL) = rs at *
      obtain ⟨dx3, hp3⟩ := hL3.o
      refine ⟨_, rfl, p, dx3, _, rfl, hp3, rfl, p, tr, j, d1, d2, rs, sy, us, rfl, hL3, by omega, hus, by omega, hpw, fun q H4 s4 hq0 hq => ⟨q, rfl, ⟨_, SqL.of hq⟩, ?_⟩⟩
      have hL4 := hL3.same s4
      have qne : q ≠ j ∧ q ≠ d1 ∧ q ≠ d2 := by
        obtain ⟨_, ⟨dj, a⟩, ⟨_, b, _⟩, ⟨_, c, _⟩, _⟩ := hL4
        exact ⟨ne_of hq a (by intro z; cases z), ne_of hq b (by intro z; cases z), ne_of hq c (by intro z; cases z)⟩
      refine for_list (K := K) (a := q) (xs := (us.map (·.n)).map V.int) (fun i σ H' => Same H H' ∧ H' q = some (.lst ((us.map (·.n)).map V.int)) ∧ ∃ (v5 : Option V), σ = [some (.ref tr), some (.str z), some (.int now), some (.ref p), v4, v5] ∧ LedAt K H' p tr j d1 d2 (rs ++ (us.take i).map (clR (gR uu l bds now))) sy)
        ⟨s3.trans s4, hq, none, rfl, by rw [List.take_zero, List.map_nil, List.append_nil]; exact hL4⟩ (fun i σ H' _ q => SqL.of q.2.1) ?_ ?_
      · rintro i y σ H5 hi ⟨s5, hq5, v5, rfl, hL5⟩
        have hi2 : i < us.length := by
          have := (List.getElem?_eq_some_iff.mp hi).1
          rw [List.length_map, List.length_map] at this
          exact this
        rw [List.getElem?_map, List.getElem?_map, List.getElem?_eq_getElem hi2] at hi
        obtain rfl := Option.some.inj hi
        obtain ⟨c1, c2⟩ := cl_some (gR uu l bds now) g1 hus hpw i (Nat.le_of_lt hi2)
        have c3 := cl_find (gR uu l bds now) g1 hus hpw hi2
        obtain ⟨b1, b2, b3, b4⟩ := hu9 _ (List.getElem_mem hi2)
        have e : rs ++ (us.take (i + 1)).map (clR (gR uu l bds now)) = (rs ++ (us.take i).map (clR (gR uu l bds now))) ++ [clR (gR uu l bds now) us[i]] := by
          rw [List.take_add_one, List.getElem?_eq_getElem hi2]
          show rs ++ (us.take i ++ [us[i]]).map (clR (gR uu l bds now)) = _
          rw [List.map_append, ← List.append_assoc]
          rfl
        obtain ⟨dx5, hp5⟩ := hL5.o
        refine ⟨_, rfl, p, dx5, _, rfl, hp5, rfl, _, rfl, _, rfl, _, rfl, p, dx5, _, rfl, hp5, rfl, _, rfl, p, tr, j, d1, d2, _, sy, us[i].n, us[i], rfl, hL5, c3, _, _, rfl, p, tr, rt, j, d1, d2, uu, l, bds, _, sy, us[i].n, mxI now us[i].t, us[i], rfl, hL5, hT.same s5, ou, ob, opp, c3, b1, b2, b3, b4, fun r hr => ?_, ?_, c1.disj, fun H6 hL6 f6 => ?_⟩
        · rcases List.mem_append.mp hr with m | m
          · exact g3 r m
          · obtain ⟨u, hu, rfl⟩ := List.mem_map.mp m
            exact (hu9 u (List.mem_of_mem_take hu)).2.2.2
        · rw [List.length_append, List.length_map, List.length_take]
          omega
        · exact ⟨frs s5 f6, f6 _ _ hq5 qne.1 qne.2.1 qne.2.2, _, rfl, by rw [e]; exact hL6⟩
      · rintro σ H5 ⟨s5, hq5, v5, rfl, hL5⟩
        rw [List.length_map, List.length_map, List.take_length] at hL5
        obtain ⟨⟨dx5, hp5⟩, ⟨dj5, hj5⟩, hu5, hf5, ne5⟩ := hL5
        have lens : ∀ r ∈ rs ++ us.map (clR (gR uu l bds now)), (lineS r).length ≤ 60 := fun r hr => by
          rcases List.mem_append.mp hr with m | m
          · exact g3 r m
          · obtain ⟨u, hu, rfl⟩ := List.mem_map.mp m
            exact (hu9 u hu).2.2.2
        have hcl := catS_len lens
        rw [List.length_append, List.length_map] at hcl
        refine ⟨_, rfl, p, dx5, _, _, rfl, hp5, rfl, j, dj5, _, rfl, hj5, rfl, j, _, sy, rfl, ⟨dj5, hj5⟩, by omega, fun H6 hj6 f6 => ⟨_, rfl, ?_⟩⟩
        obtain ⟨k1, u1, u2⟩ := hu5
        obtain ⟨k2, f1, f2⟩ := hf5
        have t6 : ∀ y b, H5 y = some (.tup b) → H6 y = some (.tup b) := fun y b z => f6 _ _ z (ne_of z hj5 (by intro z; cases z))
        exact k p j d1 d2 H6 hp hj0 hd10 hd20 ⟨⟨dx5, f6 _ _ hp5 (jt_ne hp5 hj5)⟩, hj6, ⟨k1, f6 _ _ u1 (ne_of u1 hj5 (by intro z; cases z)), u2.mono t6⟩, ⟨k2, f6 _ _ f1 (ne_of f1 hj5 (by intro z; cases z)), f2.mono t6⟩, ne5⟩ fun b o e => f6 _ _ (s5 _ _ e) (ne_of_none e hj0)

end K12
set_option maxHeartbeats 1000000
set_option pp.maxSteps 500
namespace K12
open PySem PySem.Spec PyProof.Rows L2 SX TK NdefX K11 LD
open C8 (pe_c)
/-! ### an offer's words, read back -/
theorem numL_zero : ∀ n : Nat, (TL.numL n).getD 0 0 = 48 → n = 0 := by
  intro n
  induction n using Nat.strongRecOn with
  | _ n ih =>
    intro h
    by_cases h1 : n < 10
    · rw [TL.numL_lt h1] at h
      have : 48 + n = 48 := h
      omega
    · have h2 : 10 ≤ n := by omega
      rw [TL.numL_step h2] at h
      have h3 : (TL.numL (n / 10)).getD 0 0 = 48 := by
        cases e : TL.numL (n / 10) with
        | nil => exact absurd e (TL.numL_ne _)
        | cons a r =>
          rw [e] at h
          exact h
      have := ih (n / 10) (by omega) h3
      omega
theorem digits_in : ∀ c, 48 ≤ c → c ≤ 57 → c ∈ TL.tl zDG := by
  intro c h1 h2
  have e : TL.tl zDG = [48, 49, 50, 51, 52, 53, 54, 55, 56, 57] := by decide +kernel
  rw [e]
  simp only [List.mem_cons, List.not_mem_nil, or_false]
  omega
theorem num_back {i m : Int} (h0 : 0 ≤ i) (h1 : i ≤ m) (h2 : i ≤ 999999999) : numV (Str.ofString (toString i)) m = .int i := by
  obtain ⟨n, rfl⟩ := Int.eq_ofNat_of_zero_le h0
  rw [num_S]
  have hl : (TL.numL n).length ≤ 9 := TL.numL_len (by decide) (by omega)
  have hp : 0 < (TL.numL n).length := List.length_pos_iff.mpr (TL.numL_ne n)
  have hd := TL.numL_digits n
  have c1 : consB (S (TL.numL n)) zDG 9 = true := by
    unfold consB consL
    rw [Bool.and_eq_true, Bool.and_eq_true, decide_eq_true_eq, decide_eq_true_eq, List.all_eq_true]
    refine ⟨⟨?_, ?_⟩, fun c hc => decide_eq_true (digits_in c (hd c hc).1 (hd c hc).2)⟩
    · show (1 : Int) ≤ ((TL.numL n).length : Int)
      omega
    · show ((TL.numL n).length : Int) ≤ 9
      omega
  have c2 : (decide (V.str (S [(TL.tl (S (TL.numL n))).getD 0 0]) = V.str "0") && !decide (V.str (S (TL.numL n)) = V.str "0")) = false := by
    by_cases e : (TL.numL n).getD 0 0 = 48
    · have e0 := numL_zero n e
      subst e0
      decide +kernel
    · have e1 : decide (V.str (S [(TL.tl (S (TL.numL n))).getD 0 0]) = V.str "0") = false := decide_eq_false fun q => e (by
        have q2 := V.str.inj q
        rw [show ("0" : Str) = S [48] by decide +kernel] at q2
        exact (List.cons.inj (S_inj q2)).1)
      rw [e1]
      rfl
  unfold numV
  rw [if_pos c1, if_neg (by rw [c2]; exact Bool.false_ne_true)]
  show (if ((NumText.digitsVal (TL.numL n) : Nat) : Int) ≤ m then V.int (NumText.digitsVal (TL.numL n) : Nat) else .non) = _
  rw [TL.numL_val, if_pos h1]
theorem joinL_free {c : Nat} {s : List Nat} (hs : c ∉ s) : ∀ l : List (List Nat), (∀ p ∈ l, c ∉ p) → c ∉ TL.joinL s l
  | [], _ => by simp [TL.joinL]
  | [p], h => h p (by simp)
  | p :: q :: r, h => by
    show c ∉ p ++ (s ++ TL.joinL s (q :: r))
    rw [List.mem_append, List.mem_append]
    rintro (z | z | z)
    · exact h p (by simp) z
    · exact hs z
    · exact joinL_free hs (q :: r) (fun x hx => h x (List.mem_cons_of_mem _ hx)) z
theorem str_noblank {i : Int} (h0 : 0 ≤ i) : 32 ∉ TL.tl (Str.ofString (toString i)) := by
  obtain ⟨n, rfl⟩ := Int.eq_ofNat_of_zero_le h0
  rw [TL.tl_num]
  exact TL.numL_free (by omega)

def vD : V → PyData
  | .int i => .int i
  | .str z => .str z
  | .bl b => .bool b
  | _ => .none
def big (i : Int) : Prop := -1000000000 < i ∧ i < 1000000000
def okV : V → Prop
  | .non => True
  | .int i => big i
  | .str z => PyData.strOk z = true ∧ z.length ≤ 30
  | _ => False
def tupD (b : List V) : PyData := .tuple (b.map vD)
def rowsD (bs : List (List V)) : PyData := .list (bs.map tupD)
structure FlatD (d : PyData) : Prop where
  c : d.canLay0 = true
  w : d.weight ≤ 40
  i : d.intsShort 13 = true
  s : d.showable = true
  h : d.hasDict = false
  p : d.depth ≤ 0
theorem okV.flat {v : V} (h : okV v) : FlatD (vD v) := by
  cases v with
  | non => exact ⟨by simp [vD, PyData.canLay0], by simp [vD, PyData.weight], by simp [vD, PyData.intsShort], by simp [vD, PyData.showable], by simp [vD, PyData.hasDict], by simp [vD, PyData.depth]⟩
  | int i =>
    have hi : big i := h
    have hn : i.natAbs < 1000000000 := by unfold big at hi; omega
    have hl : i.natAbs.log2 < 30 := by
      by_cases z : i.natAbs = 0
      · rw [z]; decide
      · exact (Nat.log2_lt z).mpr (by omega)
    refine ⟨by simp [vD, PyData.canLay0], ?_, ?_, by simp only [vD, PyData.showable]; exact decide_eq_true (by omega), by simp [vD, PyData.hasDict], by simp [vD, PyData.depth]⟩
    · simp only [vD, PyData.weight]
      split
      · omega
      · omega
    · simp only [vD, PyData.intsShort]
      refine decide_eq_true ?_
      have := numS_len (i := i) (by omega)
      rw [PyData.shown_int]
      unfold numS at this
      omega
  | str z =>
    have hz : PyData.strOk z = true ∧ z.length ≤ 30 := h
    refine ⟨by simp [vD, PyData.canLay0, hz.1], ?_, by simp [vD, PyData.intsShort], by simp [vD, PyData.showable], by simp [vD, PyData.hasDict], by simp [vD, PyData.depth]⟩
    simp only [vD, PyData.weight]
    have : z.cps.size = z.length := rfl
    omega
  | _ => exact h.elim
theorem dp_v {K : PySem.W.Frag} {H : Hp} {v : V} (h : okV v) : Dp K H v (vD v) := by
  cases v with
  | non => exact .non
  | int i => exact .int i
  | str z => exact .str z
  | _ => exact h.elim
theorem dp_vs {K : PySem.W.Frag} {H : Hp} : ∀ {b : List V}, (∀ v ∈ b, okV v) → DpAll K H b (b.map vD)
  | [], _ => .nil
  | v :: r, h => .cons (dp_v (h v (List.mem_cons_self ..))) (dp_vs fun x hx => h x (List.mem_cons_of_mem _ hx))
theorem dp_rows {K : PySem.W.Frag} {H : Hp} : ∀ {ts : List Addr} {bs : List (List V)}, TsAt H ts bs → (∀ b ∈ bs, ∀ v ∈ b, okV v) → DpAll K H (ts.map V.ref) (bs.map tupD)
  | [], [], _, _ => .nil
  | t :: ts, b :: bs, h, hb => .cons (.tup (SqT.of h.1) (dp_vs (hb b (List.mem_cons_self ..)))) (dp_rows h.2 fun x hx => hb x (List.mem_cons_of_mem _ hx))
  | [], _ :: _, h, _ => h.elim
  | _ :: _, [], h, _ => h.elim
theorem rowsD_dp {K : PySem.W.Frag} {H : Hp} {a : Addr} {ts : List Addr} {bs : List (List V)} (e : H a = some (.lst (ts.map V.ref))) (h : TsAt H ts bs) (hb : ∀ b ∈ bs, ∀ v ∈ b, okV v) : Dp K H (.ref a) (rowsD bs) := .lst (SqL.of e) (dp_rows h hb)
theorem flats : ∀ {b : List V}, (∀ v ∈ b, okV v) → PyData.canLayAll0 (b.map vD) = true ∧ PyData.weightAll (b.map vD) ≤ 41 * b.length ∧ PyData.intsShortAll 13 (b.map vD) = true ∧ PyData.showableAll (b.map vD) = true ∧ PyData.hasDictAll (b.map vD) = false ∧ PyData.depthAll (b.map vD) ≤ 1
  | [], _ => ⟨by simp [PyData.canLayAll0], by simp [PyData.weightAll], by simp [PyData.intsShortAll], by simp [PyData.showableAll], by simp [PyData.hasDictAll], by simp [PyData.depthAll]⟩
  | v :: r, h => by
    obtain ⟨a1, a2, a3, a4, a5, a6⟩ := flats (b := r) fun x hx => h x (List.mem_cons_of_mem _ hx)
    obtain ⟨b1, b2, b3, b4, b5, b6⟩ := (h v (List.mem_cons_self ..)).flat
    refine ⟨by simp [PyData.canLayAll0, a1, b1], ?_, by simp [PyData.intsShortAll, a3, b3], by simp [PyData.showableAll, a4, b4], by simp [PyData.hasDictAll, a5, b5], ?_⟩
    · rw [List.map_cons, List.length_cons]
      simp only [PyData.weightAll]
      omega
    · rw [List.map_cons]
      simp only [PyData.depthAll]
      omega
theorem rows {n : Nat} : ∀ {bs : List (List V)}, (∀ b ∈ bs, ∀ v ∈ b, okV v) → (∀ b ∈ bs, b.length ≤ 11) → PyData.canLayAll0 (bs.map tupD) = true ∧ PyData.weightAll (bs.map tupD) ≤ 500 * bs.length ∧ PyData.intsShortAll 13 (bs.map tupD) = true ∧ PyData.showableAll (bs.map tupD) = true ∧ PyData.hasDictAll (bs.map tupD) = false ∧ PyData.depthAll (bs.map tupD) ≤ 3
  | [], _, _ => ⟨by simp [PyData.canLayAll0], by simp [PyData.weightAll], by simp [PyData.intsShortAll], by simp [PyData.showableAll], by simp [PyData.hasDictAll], by simp [PyData.depthAll]⟩
  | b :: r, h, hl => by
    obtain ⟨a1, a2, a3, a4, a5, a6⟩ := rows (n := n) (bs := r) (fun x hx => h x (List.mem_cons_of_mem _ hx)) fun x hx => hl x (List.mem_cons_of_mem _ hx)
    obtain ⟨b1, b2, b3, b4, b5, b6⟩ := flats (h b (List.mem_cons_self ..))
    have lb := hl b (List.mem_cons_self ..)
    refine ⟨by simp [PyData.canLayAll0, PyData.canLay0, tupD, a1, b1], ?_, by simp [PyData.intsShortAll, PyData.intsShort, tupD, a3, b3], by simp [PyData.showableAll, PyData.showable, tupD, a4, b4], by simp [PyData.hasDictAll, PyData.hasDict, tupD, a5, b5], ?_⟩
    · rw [List.map_cons, List.length_cons]
      simp only [PyData.weightAll, tupD, PyData.weight]
      have : PyData.weightAll (List.map tupD r) ≤ 500 * r.length := a2
      unfold tupD at this
      omega
    · rw [List.map_cons]
      simp only [PyData.depthAll, tupD, PyData.depth]
      have a7 := a6
      unfold tupD at a7
      omega
theorem rowsD_ok {bs : List (List V)} (h : ∀ b ∈ bs, ∀ v ∈ b, okV v) (hl : ∀ b ∈ bs, b.length ≤ 11) : SeqAt.shaped (rowsD bs) = true ∧ PyData.eqv (rowsD bs) (rowsD bs) = true := by
  obtain ⟨a1, a2, a3, a4, a5, a6⟩ := rows (n := 0) h hl
  have c : (rowsD bs).canLay0 = true := by unfold rowsD; simp [PyData.canLay0, a1]
  refine ⟨?_, SeqAt.eqv_refl _ c⟩
  unfold SeqAt.shaped
  rw [c, Bool.true_and, decide_eq_true_eq]
  simp only [rowsD, PyData.depth]
  omega

theorem num_O {i : Int} (h : nOk i) : numO (numS i) = some i := by
  have e := num_back h.1 h.2 h.2
  rw [show (Str.ofString (toString i)) = numS i from rfl, numV_O] at e
  cases q : numO (numS i) with
  | none => rw [q] at e; cases e
  | some k => rw [q] at e; rw [V.int.inj e]
theorem split32 {z : Str} {ps : List (List Nat)} (hne : ps ≠ []) (e : TL.tl z = TL.joinL [32] ps) (hp : ∀ p ∈ ps, 32 ∉ p) : Txt.split z " " = ps.map S := by
  rw [show (" " : Str) = S [32] by decide +kernel]
  have e1 : z = S (TL.joinL [32] ps) := by rw [← e]
  rw [e1, split_S (by simp) (by decide), spl_join hne hp]
theorem line_back {r : Rc} (h : RcOk r) : recL (lineS r) = some r := by
  cases r with
  | op n c a t =>
    obtain ⟨hn, ht, hc, ha, _⟩ := h
    have es : Txt.split (lineS (.op n c a t)) " " = ([TL.tl ("open" : Str), TL.tl (numS n), TL.tl c, TL.tl a, TL.tl (numS t)] : List (List Nat)).map S := by
      refine split32 (by simp) ?_ ?_
      · unfold lineS
        simp only [TL.tl_append]
        rw [show TL.tl Str.empty = [] from rfl, show TL.tl ("open " : Str) = TL.tl ("open" : Str) ++ [32] by decide +kernel, show TL.tl (" " : Str) = [32] by decide +kernel]
        simp [TL.joinL]
      · intro p hp
        simp only [List.mem_cons, List.not_mem_nil, or_false] at hp
        rcases hp with rfl | rfl | rfl | rfl | rfl
        · decide +kernel
        · exact str_noblank hn.1
        · exact hc.2.1
        · exact ha.2.1
        · exact str_noblank ht.1
    unfold recL
    rw [es]
    show (if ("open" : Str) = "open" then (match numO (numS n), numO (numS t) with
      | some n, some t => if ((splitB c).isSome && (splitB a).isSome) = true then some (Rc.op n c a t) else none
      | _, _ => none) else none) = _
    rw [num_O hn, num_O ht, hc.1, ha.1]
    rfl
  | cl n e k =>
    obtain ⟨hn, he, hk, _⟩ := h
    have es : Txt.split (lineS (.cl n e k)) " " = ([TL.tl ("close" : Str), TL.tl (numS n), TL.tl (numS e), TL.tl (numS k)] : List (List Nat)).map S := by
      refine split32 (by simp) ?_ ?_
      · unfold lineS
        simp only [TL.tl_append]
        rw [show TL.tl Str.empty = [] from rfl, show TL.tl ("close " : Str) = TL.tl ("close" : Str) ++ [32] by decide +kernel, show TL.tl (" " : Str) = [32] by decide +kernel]
        simp [TL.joinL]
      · intro p hp
        simp only [List.mem_cons, List.not_mem_nil, or_false] at hp
        rcases hp with rfl | rfl | rfl | rfl
        · decide +kernel
        · exact str_noblank hn.1
        · exact str_noblank he.1
        · exact str_noblank hk.1
    unfold recL
    rw [es]
    show (if ("close" : Str) = "close" then (match numO (numS n), numO (numS e), numO (numS k) with
      | some n, some e, some k => some (Rc.cl n e k)
      | _, _, _ => none) else none) = _
    rw [num_O hn, num_O he, num_O hk]
    rfl
theorem num_nonl {i : Int} (h : 0 ≤ i) : 10 ∉ TL.tl (numS i) := by
  obtain ⟨n, rfl⟩ := Int.eq_ofNat_of_zero_le h
  rw [show numS ((n : Nat) : Int) = Str.ofString (toString ((n : Nat) : Int)) from rfl, TL.tl_num]
  exact TL.numL_free (by omega)
theorem line_nonl {r : Rc} (h : RcOk r) : 10 ∉ TL.tl (lineS r) := by
  have e0 : (10 : Nat) ∉ TL.tl Str.empty := by decide
  have e1 : 10 ∉ TL.tl ("open " : Str) := by decide +kernel
  have e2 : 10 ∉ TL.tl ("close " : Str) := by decide +kernel
  have e3 : 10 ∉ TL.tl (" " : Str) := by decide +kernel
  cases r with
  | op n c a t =>
    obtain ⟨hn, ht, hc, ha, _⟩ := h
    have a1 := num_nonl hn.1
    have a2 := num_nonl ht.1
    have a3 := hc.2.2
    have a4 := ha.2.2
    unfold lineS
    simp only [TL.tl_append, List.mem_append, not_or]
    exact ⟨⟨⟨⟨⟨⟨⟨⟨e0, e1⟩, a1⟩, e3⟩, a3⟩, e3⟩, a4⟩, e3⟩, a2⟩
  | cl n e k =>
    obtain ⟨hn, he, hk, _⟩ := h
    have a1 := num_nonl hn.1
    have a2 := num_nonl he.1
    have a3 := num_nonl hk.1
    unfold lineS
    simp only [TL.tl_append, List.mem_append, not_or]
    exact ⟨⟨⟨⟨⟨⟨e0, e2⟩, a1⟩, e3⟩, a2⟩, e3⟩, a3⟩
theorem crash {rs : List Rc} (h : ∀ r ∈ rs, RcOk r) {m : Int} (hm : 0 ≤ m) : ∃ k, k ≤ rs.length ∧ readJ (Txt.slice (catS rs) none (some m)) = (rs.take k).map lineS ∧ ∀ j, j ≤ rs.length → ((catS (rs.take j)).length : Int) ≤ m → j ≤ k := by
  have hf : ∀ x ∈ rs.map (fun r => TL.tl (lineS r)), 10 ∉ x := fun x hx => by
    obtain ⟨r, hr, rfl⟩ := List.mem_map.mp hx
    exact line_nonl (h r hr)
  obtain ⟨k, X, k1, k2, k3, _, k5⟩ := dec (rs.map fun r => TL.tl (lineS r)) m.toNat hf
  rw [List.length_map] at k1 k5
  refine ⟨k, k1, ?_, fun j hj hl => k5 j hj ?_⟩
  · rw [slTo _ hm]
    show readJ (S ((cat (rs.map fun r => TL.tl (lineS r))).take m.toNat)) = _
    rw [k2, readJ_cat _ fun x hx => hf x (List.mem_of_mem_take hx), readJ_free k3, List.append_nil, ← List.map_take, List.map_map]
    rfl
  · have e : ((catS (rs.take j)).length : Int) = ((cat ((rs.map fun r => TL.tl (lineS r)).take j)).length : Int) := by
      rw [len_eq]
      show (((cat ((rs.take j).map fun r => TL.tl (lineS r)))).length : Int) = _
      rw [List.map_take]
    rw [e] at hl
    omega
theorem recs_back {rs : List Rc} (h : ∀ r ∈ rs, RcOk r) : (rs.map lineS).map recL = rs.map some := by
  rw [List.map_map]
  exact List.map_congr_left fun r hr => line_back (h r hr)
theorem readJ_all {rs : List Rc} (h : ∀ r ∈ rs, RcOk r) {m : Int} (hm : ((catS rs).length : Int) ≤ m) : readJ (Txt.slice (catS rs) none (some m)) = rs.map lineS := by
  obtain ⟨k, k1, k2, k3⟩ := crash h (m := m) (by omega)
  have := k3 rs.length (Nat.le_refl _) (by rw [List.take_length]; exact hm)
  obtain rfl : k = rs.length := by omega
  rw [k2, List.take_length]
theorem bob_len {n : Int} (h : nOk n) : (bobS n).length ≤ 15 := by
  unfold bobS
  have := numS_len h.ab
  rw [cat_len, cat_len, show ("bob" : Str).length = 3 by decide +kernel, show ("@x" : Str).length = 2 by decide +kernel]
  omega
theorem name_ok {l : List Nat} (h1 : 1 ≤ l.length) (h2 : l.length ≤ 16) (h3 : ∀ c ∈ l, c ∈ TL.tl zNM) (h4 : l.getD 0 0 ∈ TL.tl zSM) : nameB (S l) = true := by
  unfold nameB consB consL
  rw [Bool.and_eq_true, Bool.and_eq_true, Bool.and_eq_true, decide_eq_true_eq, decide_eq_true_eq, List.all_eq_true, decide_eq_true_eq]
  exact ⟨⟨⟨by show (1 : Int) ≤ (l.length : Int); omega, by show (l.length : Int) ≤ 16; omega⟩, fun c hc => decide_eq_true (h3 c hc)⟩, h4⟩
theorem bob_adr {n : Int} (h : nOk n) : adr (bobS n) := by
  have hd : ∀ c ∈ TL.tl (numS n), 48 ≤ c ∧ c ≤ 57 := by
    obtain ⟨k, rfl⟩ := Int.eq_ofNat_of_zero_le h.1
    rw [show numS ((k : Nat) : Int) = Str.ofString (toString ((k : Nat) : Int)) from rfl, TL.tl_num]
    exact TL.numL_digits k
  have hl := numS_len h.ab
  rw [len_eq] at hl
  have e : TL.tl (bobS n) = (TL.tl ("bob" : Str) ++ TL.tl (numS n)) ++ 64 :: TL.tl ("x" : Str) := by
    unfold bobS
    rw [TL.tl_append, TL.tl_append, show TL.tl ("@x" : Str) = 64 :: TL.tl ("x" : Str) by decide +kernel]
  have dg : ∀ c, 48 ≤ c → c ≤ 57 → c ∈ TL.tl zNM := by
    intro c c1 c2
    have : ∀ k, k < 10 → 48 + k ∈ TL.tl zNM := by decide +kernel
    have := this (c - 48) (by omega)
    rwa [show 48 + (c - 48) = c by omega] at this
  have bo : ∀ c ∈ TL.tl ("bob" : Str), c ∈ TL.tl zNM ∧ c ≠ 64 ∧ c ≠ 32 ∧ c ≠ 10 := by decide +kernel
  have hx : nameB (S (TL.tl ("x" : Str))) = true := by decide +kernel
  have n64 : 64 ∉ TL.tl ("bob" : Str) ++ TL.tl (numS n) := fun m => by
    rcases List.mem_append.mp m with z | z
    · exact (bo _ z).2.1 rfl
    · have := hd _ z
      omega
  refine ⟨?_, ?_, ?_⟩
  · unfold splitB
    rw [split_two e n64 (by decide +kernel)]
    have b1 : nameB (S (TL.tl ("bob" : Str) ++ TL.tl (numS n))) = true := by
      refine name_ok ?_ ?_ ?_ ?_
      · rw [List.length_append]
        have : (TL.tl ("bob" : Str)).length = 3 := by decide +kernel
        omega
      · rw [List.length_append]
        have : (TL.tl ("bob" : Str)).length = 3 := by decide +kernel
        omega
      · intro c hc
        rcases List.mem_append.mp hc with z | z
        · exact (bo c z).1
        · exact dg c (hd c z).1 (hd c z).2
      · rw [show TL.tl ("bob" : Str) = [98, 111, 98] by decide +kernel]
        show 98 ∈ TL.tl zSM
        decide +kernel
    show (if (nameB (S (TL.tl ("bob" : Str) ++ TL.tl (numS n))) && nameB (S (TL.tl ("x" : Str)))) = true then some (_, _) else none).isSome = true
    rw [b1, hx]
    rfl
  · rw [e]
    intro m
    rcases List.mem_append.mp m with z | z
    · rcases List.mem_append.mp z with z | z
      · exact (bo _ z).2.2.1 rfl
      · have := hd _ z
        omega
    · revert z
      decide +kernel
  · rw [e]
    intro m
    rcases List.mem_append.mp m with z | z
    · rcases List.mem_append.mp z with z | z
      · exact (bo _ z).2.2.2 rfl
      · have := hd _ z
        omega
    · revert z
      decide +kernel
theorem ann_adr : adr "ann@x" := ⟨by decide +kernel, by decide +kernel, by decide +kernel⟩
theorem op_ok {n t : Int} (hn : nOk n) (ht : nOk t) : RcOk (.op n "ann@x" (bobS n) t) := by
  refine ⟨hn, ht, ann_adr, bob_adr hn, ?_⟩
  have a := numS_len hn.ab
  have b := numS_len ht.ab
  have c := bob_len hn
  unfold lineS
  simp only [cat_len, emp0, k_op, k_bl]
  rw [show ("ann@x" : Str).length = 5 by decide +kernel]
  omega
theorem cl_ok {n e k : Int} (hn : nOk n) (he : nOk e) (hk : nOk k) : RcOk (.cl n e k) := by
  refine ⟨hn, he, hk, ?_⟩
  have a := numS_len hn.ab
  have b := numS_len he.ab
  have c := numS_len hk.ab
  unfold lineS
  simp only [cat_len, emp0, k_cl, k_bl]
  omega

end K12
set_option maxHeartbeats 2000000
set_option pp.maxSteps 500
namespace K12
open PySem PySem.Spec PyProof.Rows L2 SX TK NdefX K11 LD
open C8 (pe_c)
def lstD (b : List V) : PyData := .list (b.map vD)
theorem lstD_ok {b : List V} (h : ∀ v ∈ b, okV v) : SeqAt.shaped (lstD b) = true ∧ PyData.eqv (lstD b) (lstD b) = true := by
  obtain ⟨a1, a2, a3, a4, a5, a6⟩ := flats h
  have c : (lstD b).canLay0 = true := by unfold lstD; simp [PyData.canLay0, a1]
  refine ⟨?_, SeqAt.eqv_refl _ c⟩
  unfold SeqAt.shaped
  rw [c, Bool.true_and, decide_eq_true_eq]
  simp only [lstD, PyData.depth]
  omega
theorem lstD_dp {K : PySem.W.Frag} {H : Hp} {a : Addr} {b : List V} (e : H a = some (.lst b)) (h : ∀ v ∈ b, okV v) : Dp K H (.ref a) (lstD b) := .lst (SqL.of e) (dp_vs h)
def LsAt (H : Hp) : List Addr → List (List V) → Prop
  | [], [] => True
  | t :: ts, b :: bs => H t = some (.lst b) ∧ LsAt H ts bs
  | _, _ => False
theorem LsAt.mono {H H' : Hp} : ∀ {ts : List Addr} {bs : List (List V)}, (∀ x ∈ ts, ∀ b, H x = some (.lst b) → H' x = some (.lst b)) → LsAt H ts bs → LsAt H' ts bs
  | [], [], _, _ => trivial
  | t :: ts, b :: bs, s, h => ⟨s _ (List.mem_cons_self ..) _ h.1, LsAt.mono (fun x hx => s x (List.mem_cons_of_mem _ hx)) h.2⟩
  | [], _ :: _, _, h => h
  | _ :: _, [], _, h => h
theorem LsAt.same {H H' : Hp} {ts : List Addr} {bs : List (List V)} (s : Same H H') (h : LsAt H ts bs) : LsAt H' ts bs := h.mono fun x _ b e => s _ _ e
theorem LsAt.snoc {H : Hp} {t : Addr} {b : List V} (ht : H t = some (.lst b)) : ∀ {ts : List Addr} {bs : List (List V)}, LsAt H ts bs → LsAt H (ts ++ [t]) (bs ++ [b])
  | [], [], _ => ⟨ht, trivial⟩
  | _ :: _, _ :: _, h => ⟨h.1, LsAt.snoc ht h.2⟩
  | [], _ :: _, h => h.elim
  | _ :: _, [], h => h.elim
theorem LsAt.len {H : Hp} : ∀ {ts : List Addr} {bs : List (List V)}, LsAt H ts bs → ts.length = bs.length
  | [], [], _ => rfl
  | _ :: _, _ :: _, h => congrArg Nat.succ (LsAt.len h.2)
  | [], _ :: _, h => h.elim
  | _ :: _, [], h => h.elim
theorem LsAt.at_ {H : Hp} : ∀ {ts : List Addr} {bs : List (List V)}, LsAt H ts bs → ∀ (i : Nat) (x : V), (ts.map V.ref)[i]? = some x → ∃ t b, x = .ref t ∧ bs[i]? = some b ∧ H t = some (.lst b)
  | [], [], _, i, x, h => by cases h
  | t :: _, b :: _, h, 0, x, e => ⟨t, b, (Option.some.inj e).symm, rfl, h.1⟩
  | _ :: ts, _ :: bs, h, i + 1, x, e => LsAt.at_ h.2 i x e
  | [], _ :: _, h, _, _, _ => h.elim
  | _ :: _, [], h, _, _, _ => h.elim
def rv6 (r : Rw) : List V := [.int r.n, .str "ann@x", .str (bobS r.n), .int r.t, oV (r.e.map (·.1)), oV (r.e.map (·.2.1))]
structure RwOk (r : Rw) : Prop where
  n : 1 ≤ r.n ∧ r.n ≤ 900
  t : nOk r.t
  e : ∀ x, r.e = some x → nOk x.1 ∧ nOk x.2.1
theorem RwOk.nn {r : Rw} (h : RwOk r) : nOk r.n := ⟨by have := h.n; omega, by have := h.n; omega⟩
theorem nOk.big {i : Int} (h : nOk i) : big i := ⟨by have := h.1; omega, by have := h.2; omega⟩
theorem bob_ok {n : Int} (h : nOk n) : okV (.str (bobS n)) := ⟨ok_cat (ok_cat (by decide +kernel) (ok_num h.1)) (by decide +kernel), by have := bob_len h; omega⟩
theorem unC_ok {r : Rw} (h : RwOk r) {x : Int × Int × Nat} (hx : r.e = some x) : ∀ v ∈ (unC r x).v, okV v := by
  intro v hv
  have hh := h.e x hx
  simp only [unC, toBi, Rw.un, Bi.v, List.mem_cons, List.not_mem_nil, or_false] at hv
  rcases hv with rfl | rfl | rfl | rfl | rfl | rfl
  · exact h.nn.big
  · exact ⟨by decide +kernel, by decide +kernel⟩
  · exact bob_ok h.nn
  · exact h.t.big
  · exact hh.1.big
  · exact hh.2.big
theorem closed_ok {R : List Rw} (h : ∀ r ∈ R, RwOk r) : (∀ b ∈ (closedOf R).map Bi.v, ∀ v ∈ b, okV v) ∧ ∀ b ∈ (closedOf R).map Bi.v, b.length ≤ 11 := by
  constructor
  · intro b hb
    obtain ⟨c, hc, rfl⟩ := List.mem_map.mp hb
    obtain ⟨r, hr, x, hx, rfl⟩ := mem_closed hc
    exact unC_ok (h r hr) hx
  · intro b hb
    obtain ⟨c, hc, rfl⟩ := List.mem_map.mp hb
    exact (by decide : 6 ≤ 11)
theorem open_ok {R : List Rw} (h : ∀ r ∈ R, RwOk r) : ∀ v ∈ ((openOf R).map (·.n)).map V.int, okV v := by
  intro v hv
  obtain ⟨i, hi, rfl⟩ := List.mem_map.mp hv
  obtain ⟨u, hu, rfl⟩ := List.mem_map.mp hi
  obtain ⟨r, hr, rfl, _⟩ := mem_open hu
  exact (h r hr).nn.big
theorem max_of : ∀ l : List Int, ∃ m, (m = 0 ∨ m ∈ l) ∧ 0 ≤ m ∧ ∀ x ∈ l, x ≤ m
  | [] => ⟨0, .inl rfl, Int.le_refl _, fun _ h => nomatch h⟩
  | a :: r => by
    obtain ⟨m, h1, h2, h3⟩ := max_of r
    by_cases q : m ≤ a
    · refine ⟨a, .inr (List.mem_cons_self ..), by omega, fun x hx => ?_⟩
      rcases List.mem_cons.mp hx with z | z
      · omega
      · have := h3 x z
        omega
    · refine ⟨m, h1.imp id fun z => List.mem_cons_of_mem _ z, h2, fun x hx => ?_⟩
      rcases List.mem_cons.mp hx with z | z
      · omega
      · exact h3 x z
theorem take_snoc {α : Type} {l : List α} {i : Nat} {x : α} (h : l[i]? = some x) : l.take (i + 1) = l.take i ++ [x] := by
  rw [List.take_add_one, h]
  rfl
def spAgrees (K : PySem.W.Frag) : Sp := fun vs H Q _ => ∃ (p tr j d1 d2 rw : Addr) (rs : List Rc) (sy : Int) (as : List Addr) (R : List Rw), vs = [.ref p, .ref rw] ∧ LedAt K H p tr j d1 d2 rs sy ∧ rs.length ≤ 110 ∧ Agr (st rs) R ∧ Inc R ∧ (∀ r ∈ R, RwOk r) ∧ R.length ≤ 55 ∧ H rw = some (.lst (as.map V.ref)) ∧ LsAt H as (R.map rv6) ∧ ∀ H', Same H H' → Q (.bl true) H'
theorem ok_law_agrees {P : Program} {w : World} {K : PySem.W.Frag} {mg : Str → Option Value} {base : Heap} {f : Addr} {fd : FuncData} (T : Tx K mg) (c_Ledger_bills : C8.Met P w K mg base 1 (He.ga K "Ledger") "bills" (spLBills K) []) (c_Ledger_pending : C8.Met P w K mg base 1 (He.ga K "Ledger") "pending" (spLPend K) []) (c_Ledger_is_open : C8.Met P w K mg base 1 (He.ga K "Ledger") "is_open" (spLOpen K) []) (c_Ledger_greatest : C8.Met P w K mg base 1 (He.ga K "Ledger") "greatest" (spLGreat K) [])
    (F : FunD K "_law_agrees" "_law_agrees" (defArgs s_law_agrees) (defBody s_law_agrees) (defScope s_law_agrees) [] [] f fd) : FnOk P w K mg base CX0 4 f fd ["ledger", "rows"] (spAgrees K) := by
  refine F.ok sc_law_agrees (fun vs H Q E h => ?_) (fun cdv A outer s0 H vs Q E hr h => ?_)
  · obtain ⟨p, tr, j, d1, d2, rw, rs, sy, as, R, rfl, _⟩ := h
    rfl
  · obtain ⟨p, tr, j, d1, d2, rw, rs, sy, as, R, rfl, hL, hlr, hA, hI, hok, hRl, hrw, has, k⟩ := h
    refine ⟨_, PSs.nox (pss_cons (ps_setLc (i := 2) (own := [("row", 6)]) (g := gName 6) rfl sc_law_agrees.nd rfl rfl (sw_true rfl rfl rfl (by decide +kernel)) (pi_list (pv 1)) (blkOk_by (own := [("row", 6)]) (N := ["ledger", "rows", "done", "open_ones", "told", "numbers", "row"]) (sc := defScope s_law_agrees) (by decide +kernel)) (fun _ _ _ _ _ => pg_name (i := 6) sc_law_agrees.nd rfl (Or.inl rfl)) (fun _ _ _ _ _ => pts_one (pt_cmpR op_notN (pe_ix (ixListK K rfl) (pv 6) pe_int (fun _ _ => rfl)) pe_non (nomark _))) (fun _ _ _ _ _ => (pe_callTy (TKE.tupOfK K rfl) rfl T.f_tuple (by decide +kernel) (pa_cons (pv 6) pa_nil)))) (pss_cons (ps_setLc (i := 3) (own := [("row", 6)]) (g := gName 6) rfl sc_law_agrees.nd rfl rfl (sw_true rfl rfl rfl (by decide +kernel)) (pi_list (pv 1)) (blkOk_by (own := [("row", 6)]) (N := ["ledger", "rows", "done", "open_ones", "told", "numbers", "row"]) (sc := defScope s_law_agrees) (by decide +kernel)) (fun _ _ _ _ _ => pg_name (i := 6) sc_law_agrees.nd rfl (Or.inl rfl)) (fun _ _ _ _ _ => pts_one (pt_cmpR op_isN (pe_ix (ixListK K rfl) (pv 6) pe_int (fun _ _ => rfl)) pe_non (nomark _))) (fun _ _ _ _ _ => (pe_ix (ixListK K rfl) (pv 6) pe_int (fun _ _ => rfl)))) (pss_cons (ps_set (i := 4) sc_law_agrees.nd rfl (Or.inl rfl) (C8.pe_mt0 c_Ledger_bills hr (by decide) (pv 0))) (pss_cons (ps_set (i := 5) sc_law_agrees.nd rfl (Or.inl rfl) (C8.pe_mt0 c_Ledger_pending hr (by decide) (pv 0))) (C8.pss_cut (ps_if (PW.pt (pw_or (pt_cmpR (op_neD hr.units) (pv 4) (pv 2) (nomark _)) (pw_or1 (pt_cmpR (op_neD hr.units) (pv 5) (pv 3) (nomark _))))) (pss_one (ps_ret pe_bl)) pss_nil) (pss_cons (ps_expr (pe_bm PySem.F.plainAttrs_list PySem.F.slot_list_append PySem.F.type_list_append mt_append (pv 4) (pa_cons (pe_tup (pa_cons pe_int (pa_cons pe_str (pa_cons pe_str (pa_cons pe_int (pa_cons pe_int (pa_cons pe_int pa_nil))))))) pa_nil))) (pss_cons (ps_expr (pe_bm PySem.F.plainAttrs_list PySem.F.slot_list_append PySem.F.type_list_append mt_append (pv 5) (pa_cons pe_int pa_nil))) (C8.pss_cut (ps_if (PW.pt (pw_or (pt_cmpR (op_neD hr.units) (C8.pe_mt0 c_Ledger_bills hr (by decide) (pv 0)) (pv 2) (nomark _)) (pw_or1 (pt_cmpR (op_neD hr.units) (C8.pe_mt0 c_Ledger_pending hr (by decide) (pv 0)) (pv 3) (nomark _))))) (pss_one (ps_ret pe_bl)) pss_nil) (pss_cons (ps_for PassesOwn.never rfl (pi_list (pv 1)) (pg_name (i := 6) sc_law_agrees.nd rfl (Or.inl rfl)) (pss_one (ps_if (pt_cmpR op_ne (C8.pe_mt c_Ledger_is_open hr (by decide) (pv 0) (pa_cons (pe_ix ix_list (pv 6) pe_int (fun _ _ => rfl)) pa_nil)) (pe_cmpR op_isN (pe_ix ix_list (pv 6) pe_int (fun _ _ => rfl)) pe_non (nomark _)) (nomark _)) (pss_one (ps_ret pe_bl)) pss_nil))) (pss_one (ps_ret (pe_and (pe_cmpR op_eq (C8.pe_mt0 c_Ledger_greatest hr (by decide) (pv 0)) (pe_callB (cr_max rfl) rfl T.f_max (by decide +kernel) (pa_cons (pe_op op_cat (pe_lst (pa_cons pe_int pa_nil)) (pe_lc (own := [("row", 6)]) (g := gName 6) rfl sc_law_agrees.nd (pi_list (pv 1)) (blkOk_by (own := [("row", 6)]) (N := ["ledger", "rows", "done", "open_ones", "told", "numbers", "row"]) (sc := defScope s_law_agrees) (by decide +kernel)) (fun _ _ _ _ _ => pg_name (i := 6) sc_law_agrees.nd rfl (Or.inl rfl)) (fun _ _ _ _ _ => pts_nil) (fun _ _ _ _ _ => (pe_ix (ixListK K rfl) (pv 6) pe_int (fun _ _ => rfl))))) pa_nil)) (nomark _)) (pe_one (pe_not (C8.pe_mt c_Ledger_is_open hr (by decide) (pv 0) (pa_cons pe_int pa_nil)))))))))))))))), ?_⟩
    have las : as.length = R.length := by rw [has.len, List.length_map]
    have lcl := len_closed R
    have lop := len_open R
    obtain ⟨okc, lenc⟩ := closed_ok hok
    have oko := open_ok hok
    have row : ∀ {H' : Hp}, Same H H' → ∀ (i : Nat) (x : V), (as.map V.ref)[i]? = some x → ∃ t r, x = .ref t ∧ R[i]? = some r ∧ r ∈ R ∧ H' t = some (.lst (rv6 r)) := fun s i x hx => by
      obtain ⟨t, b, rfl, hb, ht⟩ := has.at_ i x hx
      rw [List.getElem?_map] at hb
      obtain ⟨r, hr, rfl⟩ := Option.map_eq_some_iff.mp hb
      exact ⟨t, r, rfl, hr, List.mem_of_getElem? hr, s _ _ ht⟩
    -- done
    refine ⟨_, rfl, rw, rfl, ⟨_, SqL.of hrw⟩, fun D1 hD1 => ?_⟩
    refine lc_it walk_list (fun i H' => Same H H' ∧ ∃ ts : List Addr, H' D1 = some (.lst (ts.map V.ref)) ∧ TsAt H' ts ((closedOf (R.take i)).map Bi.v)) ⟨same_upd hD1, [], upd_same, trivial⟩ (fun i H' _ q => SqL.of (q.1 _ _ hrw)) (fun i x H3 H4 hi p9 y => ?_) (fun H1 p9 => ?_)
    · obtain ⟨s3, ts, e1, e2⟩ := p9
      obtain ⟨rfl, hx⟩ := y
      obtain ⟨t, r, rfl, hr9, _, ht⟩ := row s3 i x hx
      refine ⟨rfl, _, rfl, t, _, 4, oV (r.e.map (·.1)), rfl, rfl, SqL.of ht, rfl, rfl, _, rfl, ?_⟩
      rw [dn_O]
      rw [take_snoc hr9, closedOf_app, closed1]
      cases he : r.e with
      | none => exact iteF ⟨s3, ts, e1, by rw [List.append_nil]; exact e2⟩
      | some xx =>
        have ev : (rv6 r) = (unC r xx).v := by unfold rv6; rw [he]; rfl
        refine iteT ⟨_, rfl, t, _, rfl, .inl ⟨SqL.of ht, fun w hw => ?_⟩⟩
        have wD : w ≠ D1 := (ne_of_none e1 hw).symm
        refine ⟨_, (upd_ne wD.symm).trans e1, ?_, fun b o eb => (upd_ne (ne_of_none eb hD1)).trans ((same_upd hw) _ _ (s3 _ _ eb)), ts ++ [w], ?_, ?_⟩
        · have l1 := e2.len
          have l2 := len_closed (R.take i)
          rw [List.length_map] at l1
          rw [List.length_take] at l2
          rw [List.length_map, sizeLine_eq]
          omega
        · rw [upd_same, List.map_append]
          rfl
        · rw [List.map_append]
          refine TsAt.snoc ((upd_ne wD).trans (by rw [← ev]; exact upd_same)) (e2.mono fun x b ex => ?_)
          exact (upd_ne (ne_of ex e1 (by intro z; cases z))).trans ((same_upd hw) _ _ ex)
    obtain ⟨s1, ts1, eD1, tD1⟩ := p9
    rw [List.length_map, las, List.take_length] at tD1
    -- open_ones
    refine ⟨_, rfl, rw, rfl, ⟨_, SqL.of (s1 _ _ hrw)⟩, fun D2 hD2 => ?_⟩
    refine lc_it walk_list (fun i H' => Same H1 H' ∧ H' D2 = some (.lst (((openOf (R.take i)).map (·.n)).map V.int))) ⟨same_upd hD2, upd_same⟩ (fun i H' _ q => SqL.of (q.1 _ _ (s1 _ _ hrw))) (fun i x H3 H4 hi p9 y => ?_) (fun H2 p9 => ?_)
    · obtain ⟨s3, e1⟩ := p9
      obtain ⟨rfl, hx⟩ := y
      obtain ⟨t, r, rfl, hr9, _, ht⟩ := row (s1.trans s3) i x hx
      refine ⟨rfl, _, rfl, t, _, 4, oV (r.e.map (·.1)), rfl, rfl, SqL.of ht, rfl, rfl, _, rfl, ?_⟩
      rw [dn_O]
      rw [take_snoc hr9, openOf_app, open1]
      cases he : r.e with
      | some xx => exact iteF ⟨s3, by rw [List.append_nil]; exact e1⟩
      | none =>
        refine iteT ⟨_, rfl, t, _, 0, .int r.n, rfl, rfl, SqL.of ht, rfl, _, e1, ?_, fun b o eb => (upd_ne (ne_of_none eb hD2)).trans (s3 _ _ eb), ?_⟩
        · have l2 := len_open (R.take i)
          rw [List.length_take] at l2
          rw [List.length_map, List.length_map, sizeLine_eq]
          omega
        · rw [upd_same, List.map_append, List.map_append]
          rfl
    obtain ⟨s2, eD2⟩ := p9
    rw [List.length_map, las, List.take_length] at eD2
    have s02 := s1.trans s2
    have eD12 := s2 _ _ eD1
    have tD12 := tD1.mono fun x b z => s2 _ _ z
    clear s2 eD1 tD1 hD1 hD2
    have hL2 := hL.same s02
    clear s1
    -- told, numbers
    obtain ⟨dx, hp⟩ := hL2.o
    refine ⟨_, rfl, p, dx, _, rfl, hp, rfl, p, tr, j, d1, d2, rs, sy, closedOf R, rfl, hL2, hlr, hA.f.symm, by omega, closed_pw hI, fun r1 ts3 H3 s3 r10 er1 tr1 => ?_⟩
    refine ⟨_, rfl, p, dx, _, rfl, s3 _ _ hp, rfl, p, tr, j, d1, d2, rs, sy, openOf R, rfl, hL2.same s3, hlr, hA.u.symm, by omega, open_pw hI, fun r2 H4 s4 r20 er2 => ?_⟩
    have s24 := s3.trans s4
    change C8.tCut _ _ _ [some (V.ref p), some (V.ref rw), some (V.ref D1), some (V.ref D2), some (V.ref r1), some (V.ref r2), none] H4
    have agree : ∀ {Ha : Hp} {a b : Addr} {t1 t2 : List Addr}, Ha a = some (.lst (t1.map V.ref)) → TsAt Ha t1 ((closedOf R).map Bi.v) → Ha b = some (.lst (t2.map V.ref)) → TsAt Ha t2 ((closedOf R).map Bi.v) → Dp K Ha (.ref a) (rowsD ((closedOf R).map Bi.v)) ∧ Dp K Ha (.ref b) (rowsD ((closedOf R).map Bi.v)) := fun h1 h2 h3 h4 => ⟨rowsD_dp h1 h2 okc, rowsD_dp h3 h4 okc⟩
    refine ⟨fun σ' H' => σ' = [some (.ref p), some (.ref rw), some (.ref D1), some (.ref D2), some (.ref r1), some (.ref r2), none] ∧ H' = H4, ?_, ?_⟩
    · obtain ⟨g1, g2⟩ := agree (s4 _ _ er1) (tr1.mono fun x b z => s4 _ _ z) (s24 _ _ eD12) (tD12.mono fun x b z => s24 _ _ z)
      refine ⟨_, rfl, _, rfl, _, _, g1, g2, (rowsD_ok okc lenc).1, (rowsD_ok okc lenc).1, _, rfl, ?_⟩
      rw [(rowsD_ok okc lenc).2]
      refine iteF ⟨_, rfl, _, rfl, _, _, lstD_dp er2 oko, lstD_dp (s24 _ _ eD2) oko, (lstD_ok oko).1, (lstD_ok oko).1, _, rfl, ?_⟩
      rw [(lstD_ok oko).2]
      exact iteF ⟨rfl, rfl⟩
    rintro σ' H' ⟨rfl, e4⟩
    obtain rfl : H4 = H' := e4.symm
    have er14 := s4 _ _ er1
    refine ⟨_, rfl, .inl ⟨rfl, _, SqL.of er14⟩, by show 6 ≤ sizeLine; decide, fun t ht => ?_⟩
    have r1t : r1 ≠ t := ne_of_none er14 ht
    have lt3 := tr1.len
    rw [List.length_map] at lt3
    refine ⟨r1, _, _, rfl, rfl, (upd_ne r1t).trans er14, by rw [List.length_map, sizeLine_eq]; omega, ?_⟩
    have r12 : r2 ≠ r1 := (ne_of_none er1 r20).symm
    have r2t : r2 ≠ t := ne_of_none er2 ht
    refine ⟨_, rfl, .inl ⟨rfl, _, SqL.of ((upd_ne r12).trans ((upd_ne r2t).trans er2))⟩, r2, _, _, rfl, rfl, (upd_ne r12).trans ((upd_ne r2t).trans er2), by rw [List.length_map, List.length_map, sizeLine_eq]; omega, ?_⟩
    have h30 : H2 r2 = none := by
      cases eq : H2 r2 with
      | none => rfl
      | some o => rw [s3 _ _ eq] at r20; cases r20
    have s25 : ∀ (o1 o2 : HO), Same H2 (upd (upd (upd H4 t (.tup [.int 0, .str "", .str "", .int 0, .int 0, .int 0])) r1 o1) r2 o2) := fun o1 o2 b o eb => (upd_ne (ne_of_none eb h30)).trans ((upd_ne (ne_of_none eb r10)).trans ((same_upd ht) _ _ (s24 _ _ eb)))
    have s25' := s25 (.lst (ts3.map V.ref ++ [.ref t])) (.lst (((openOf R).map (·.n)).map V.int ++ [.int 0]))
    change C8.tCut _ _ _ [some (V.ref p), some (V.ref rw), some (V.ref D1), some (V.ref D2), some (V.ref r1), some (V.ref r2), none] (upd (upd (upd H4 t (.tup [.int 0, .str "", .str "", .int 0, .int 0, .int 0])) r1 (.lst (ts3.map V.ref ++ [.ref t]))) r2 (.lst (((openOf R).map (·.n)).map V.int ++ [.int 0])))
    clear s25
    generalize upd (upd (upd H4 t (.tup [.int 0, .str "", .str "", .int 0, .int 0, .int 0])) r1 (.lst (ts3.map V.ref ++ [.ref t]))) r2 (.lst (((openOf R).map (·.n)).map V.int ++ [.int 0])) = H5 at *
    clear s3 s4 s24 er1 tr1 er2 er14 ht r10 r20 h30 r12 r1t r2t lt3
    refine ⟨fun σ' H' => σ' = [some (.ref p), some (.ref rw), some (.ref D1), some (.ref D2), some (.ref r1), some (.ref r2), none] ∧ Same H2 H', ?_, ?_⟩
    · refine ⟨_, rfl, p, dx, _, rfl, s25' _ _ hp, rfl, p, tr, j, d1, d2, rs, sy, closedOf R, rfl, hL2.same s25', hlr, hA.f.symm, by omega, closed_pw hI, fun q1 ts6 H6 s6 q10 eq1 tq1 => ?_⟩
      have s26 := s25'.trans s6
      obtain ⟨g1, g2⟩ := agree eq1 tq1 (s26 _ _ eD12) (tD12.mono fun x b z => s26 _ _ z)
      refine ⟨_, rfl, _, _, g1, g2, (rowsD_ok okc lenc).1, (rowsD_ok okc lenc).1, _, rfl, ?_⟩
      rw [(rowsD_ok okc lenc).2]
      refine iteF ⟨_, rfl, p, dx, _, rfl, s26 _ _ hp, rfl, p, tr, j, d1, d2, rs, sy, openOf R, rfl, hL2.same s26, hlr, hA.u.symm, by omega, open_pw hI, fun q2 H7 s7 q20 eq2 => ?_⟩
      refine ⟨_, rfl, _, _, lstD_dp eq2 oko, lstD_dp (s7 _ _ (s26 _ _ eD2)) oko, (lstD_ok oko).1, (lstD_ok oko).1, _, rfl, ?_⟩
      rw [(lstD_ok oko).2]
      exact iteF ⟨rfl, s26.trans s7⟩
    rintro σ' H6 ⟨rfl, s6⟩
    have s06 := s02.trans s6
    refine ⟨_, rfl, rw, rfl, ⟨_, SqL.of (s06 _ _ hrw)⟩, for_list (K := K) (a := rw) (xs := as.map V.ref) (fun i σ H' => H' = H6 ∧ ∃ v6, σ = [some (.ref p), some (.ref rw), some (.ref D1), some (.ref D2), some (.ref r1), some (.ref r2), v6])
      ⟨rfl, none, rfl⟩ (fun i σ H' _ q => by rw [q.1]; exact SqL.of (s06 _ _ hrw)) ?_ ?_⟩
    · rintro i y σ H7 hi ⟨rfl, v6, rfl⟩
      obtain ⟨t, r, rfl, hr9, hrm, ht⟩ := row s06 i y hi
      have hL6 := hL2.same s6
      refine ⟨_, rfl, p, dx, _, rfl, s6 _ _ hp, rfl, _, rfl, t, _, 0, .int r.n, rfl, rfl, SqL.of ht, rfl, p, tr, j, d1, d2, rs, sy, r.n, rfl, hL6, _, rfl, t, _, 4, oV (r.e.map (·.1)), rfl, rfl, SqL.of ht, rfl, rfl, rfl, _, rfl, ?_⟩
      have eb : (st rs).opens r.n = decide (oV (r.e.map (·.1)) = V.non) := by
        rw [dn_O, Bool.eq_iff_iff, opens_iff hA]
        constructor
        · rintro ⟨x, hx, e1, e2⟩
          have : x = r := by
            obtain ⟨a, ha, ea⟩ := List.mem_iff_getElem.mp hx
            obtain ⟨b, hb, eb⟩ := List.mem_iff_getElem.mp hrm
            have pw := List.pairwise_iff_getElem.mp hI
            have g : ∀ k (hk : k < R.length), (R.map (·.n))[k]'(by rw [List.length_map]; exact hk) = R[k].n := fun k hk => List.getElem_map ..
            rcases Nat.lt_trichotomy a b with z | z | z
            · have := pw a b (by rw [List.length_map]; exact ha) (by rw [List.length_map]; exact hb) z
              rw [g a ha, g b hb, ea, eb] at this
              omega
            · subst z
              rw [← ea, ← eb]
            · have := pw b a (by rw [List.length_map]; exact hb) (by rw [List.length_map]; exact ha) z
              rw [g a ha, g b hb, ea, eb] at this
              omega
          rw [← this, e2]
          rfl
        · intro z
          refine ⟨r, hrm, rfl, ?_⟩
          cases q : r.e with
          | none => rfl
          | some x => rw [q] at z; cases z
      rw [eb, decide_eq_true rfl]
      exact iteF ⟨rfl, _, rfl⟩
    · rintro σ H7 ⟨rfl, v6, rfl⟩
      have hL6 := hL2.same s6
      obtain ⟨m, m1, m2, m3⟩ := max_of (R.map (·.n))
      have mu : ∀ x ∈ (st rs).un.map (·.n), x ≤ m := fun x hx => by
        obtain ⟨u, hu, rfl⟩ := List.mem_map.mp hx
        obtain ⟨r, hr, rfl, _⟩ := mem_open (hA.u.subset hu)
        exact m3 _ (List.mem_map.mpr ⟨r, hr, rfl⟩)
      have mf : ∀ x ∈ (st rs).fi.map (·.n), x ≤ m := fun x hx => by
        obtain ⟨b, hb, rfl⟩ := List.mem_map.mp hx
        obtain ⟨r, hr, y, _, rfl⟩ := mem_closed (hA.f.subset hb)
        exact m3 _ (List.mem_map.mpr ⟨r, hr, rfl⟩)
      have mm : m = 0 ∨ m ∈ (st rs).un.map (·.n) ∨ m ∈ (st rs).fi.map (·.n) := by
        rcases m1 with z | z
        · exact .inl z
        · obtain ⟨r, hr, e⟩ := List.mem_map.mp z
          cases q : r.e with
          | none => exact .inr (.inl (List.mem_map.mpr ⟨r.un, hA.u.symm.subset (List.mem_filterMap.mpr ⟨r, hr, by rw [q]; rfl⟩), e⟩))
          | some x => exact .inr (.inr (List.mem_map.mpr ⟨unC r x, hA.f.symm.subset (List.mem_filterMap.mpr ⟨r, hr, by rw [q]; rfl⟩), e⟩))
      refine ⟨_, rfl, p, dx, _, rfl, s6 _ _ hp, rfl, p, tr, j, d1, d2, rs, sy, m, rfl, hL6, hlr, mm, m2, mu, mf, fun H8 s8 => ?_⟩
      have s08 := s06.trans s8
      refine ⟨by show 1 ≤ sizeLine; decide, fun q hq => ?_⟩
      have sq := same_upd (o := .lst [.int 0]) hq
      refine ⟨_, rfl, rw, rfl, ⟨_, SqL.of (sq _ _ (s08 _ _ hrw))⟩, fun D hD => ?_⟩
      refine lc_itN walk_list (fun i H' => Same (upd H8 q (.lst [.int 0])) H' ∧ H' D = some (.lst (((R.take i).map (·.n)).map V.int))) ⟨same_upd hD, upd_same⟩ (fun i H' _ z => SqL.of (z.1 _ _ (sq _ _ (s08 _ _ hrw)))) (fun i x H3 H4 hi p9 y => ?_) (fun H9 p9 => ?_)
      · obtain ⟨s3, e1⟩ := p9
        obtain ⟨rfl, hx⟩ := y
        obtain ⟨t, r, rfl, hr9, _, ht⟩ := row (s08.trans (sq.trans s3)) i x hx
        refine ⟨rfl, _, rfl, t, _, 0, .int r.n, rfl, rfl, SqL.of ht, rfl, _, e1, ?_, fun b o eb => (upd_ne (ne_of_none eb hD)).trans (s3 _ _ eb), ?_⟩
        · rw [List.length_map, List.length_map, List.length_take, sizeLine_eq]
          omega
        · rw [upd_same, take_snoc hr9, List.map_append, List.map_append]
          rfl
      · obtain ⟨s9, e9⟩ := p9
        rw [List.length_map, las, List.take_length] at e9
        refine ⟨q, D, _, _, rfl, rfl, s9 _ _ upd_same, e9, by rw [List.length_map, List.length_map, sizeLine_eq]; show 1 + _ ≤ _; omega, fun w hw => ?_⟩
        refine ⟨w, 0 :: R.map (·.n), rfl, SqL.of upd_same, Nat.succ_pos _, fun m' h1 h2 => ?_⟩
        have a1 : m ≤ m' := by
          refine h2 m ?_
          rcases m1 with z | z
          · rw [z]; exact List.mem_cons_self ..
          · exact List.mem_cons_of_mem _ z
        have a2 : m' ≤ m := by
          rcases List.mem_cons.mp h1 with z | z
          · omega
          · exact m3 _ z
        obtain rfl : m = m' := by omega
        have sw := same_upd (o := .lst ([V.int 0] ++ (R.map (·.n)).map V.int)) hw
        have s6w := s8.trans (sq.trans (s9.trans sw))
        refine ⟨rfl, _, rfl, ?_⟩
        rw [decide_eq_true rfl]
        refine iteT ⟨_, rfl, p, dx, _, rfl, s6w _ _ (s6 _ _ hp), rfl, p, tr, j, d1, d2, rs, sy, 999, rfl, hL6.same s6w, _, rfl, ?_⟩
        have e99 : (st rs).opens 999 = false := by
          cases q : (st rs).opens 999 with
          | false => rfl
          | true =>
            obtain ⟨r, hr, e1, _⟩ := (opens_iff hA 999).mp q
            have := (hok r hr).n
            omega
        rw [e99]
        exact k _ (s06.trans s6w)

end K12
set_option maxHeartbeats 2000000
set_option pp.maxSteps 500
namespace K12
open PySem PySem.Spec PyProof.Rows L2 SX TK NdefX K11 LD
open C8 (pe_c)
def rv7 (r : Rw) : List V := rv6 r ++ [.bl r.f]
theorem slice_len (z : Str) {i : Int} (h : 0 ≤ i) : (Txt.slice z none (some i)).length ≤ z.length := by
  rw [slTo _ h, S_len, len_eq]
  exact List.length_take_le' ..
theorem S_len' (rs : List Rc) (h : ∀ r ∈ rs, RcOk r) : ∀ r ∈ rs, (lineS r).length ≤ 60 := fun r hr => (h r hr).len
theorem mxI_ge (a b : Int) : b ≤ mxI a b ∧ a ≤ mxI a b := by
  unfold mxI
  split <;> omega
def spRecv (K : PySem.W.Frag) : Sp := fun vs H Q _ => ∃ (s c p tr rt j d1 d2 rl : Addr) (uu l : Int) (bds : List Bd) (rs : List Rc) (sy now : Int) (as : List Addr) (R : List Rw) (jj : Nat), vs = [.ref s, .ref p, .ref rl, .int now] ∧ StAt H s c ∧ LedAt K H p tr j d1 d2 rs sy ∧ TAt K H tr rt uu bds l ∧ okU uu = true ∧ okB bds = true ∧ okP l = true ∧ rt ≠ s ∧ rt ≠ c ∧ rl ≠ s ∧ rl ≠ c ∧ (∀ x ∈ as, x ≠ s ∧ x ≠ c) ∧
  Good rs ∧ (∀ r ∈ rs, RcOk r) ∧ rs.length ≤ 50 ∧ jj ≤ rs.length ∧ sy = ((catS (rs.take jj)).length : Nat) ∧ (∀ m, jj ≤ m → m ≤ rs.length → Agr (st (rs.take m)) (R.map (cutR m))) ∧ Inc R ∧ (∀ r ∈ R, RwOk r) ∧ R.length ≤ 50 ∧
  (∀ r ∈ R, ∀ x, r.e = some x → x.2.1 = costI uu bds l (x.1 - r.t) ∧ (r.f = true → x.2.2 < jj)) ∧ (∀ r ∈ R, nOk (mxI now r.t) ∧ nOk (costI uu bds l (mxI now r.t - r.t))) ∧ H rl = some (.lst (as.map V.ref)) ∧ LsAt H as (R.map rv7) ∧
  ∀ p' j' d1' d2' rs2 sy' H', LedAt K H' p' tr j' d1' d2' rs2 sy' → (st rs2).un = [] → (∀ n, (st rs2).knows n = true → ∃ r ∈ R, r.n = n) → rs2.length ≤ 100 → (∀ r ∈ rs2, RcOk r) → H j' = none → H d1' = none → H d2' = none → StAt H' s c → Keep H H' s c → Q (.ref p') H'
theorem ok_law_recovered {P : Program} {w : World} {K : PySem.W.Frag} {mg : Str → Option Value} {base : Heap} {f : Addr} {fd : FuncData} (T : Tx K mg) (c_law_draw : C8.Cal P w K mg base 1 "_law_draw" spDraw []) (c_law_pick : C8.Cal P w K mg base 2 "_law_pick" spPick []) (c_Journal_after_crash : C8.Met P w K mg base 1 (He.ga K "Journal") "after_crash" (spJCrash K) []) (c_recover : C8.Cal P w K mg base 7 "recover" (spRecover K) []) (c_Ledger_bills : C8.Met P w K mg base 1 (He.ga K "Ledger") "bills" (spLBills K) []) (c_Ledger_pending : C8.Met P w K mg base 1 (He.ga K "Ledger") "pending" (spLPend K) []) (c_Tariff_cost : C8.Met P w K mg base 2 (He.ga K "Tariff") "cost" (spCost K) [])
    (F : FunD K "_law_recovered" "_law_recovered" (defArgs s_law_recovered) (defBody s_law_recovered) (defScope s_law_recovered) [] [] f fd) : FnOk P w K mg base CX0 8 f fd ["state", "ledger", "rows", "now"] (spRecv K) := by
  refine F.ok sc_law_recovered (fun vs H Q E h => ?_) (fun cdv A outer s0 H vs Q E hr h => ?_)
  · obtain ⟨s, c, p, tr, rt, j, d1, d2, rl, uu, l, bds, rs, sy, now, as, R, jj, rfl, _⟩ := h
    rfl
  · obtain ⟨s, c, p, tr, rt, j, d1, d2, rl, uu, l, bds, rs, sy, now, as, R, jj, rfl, hst, hL, hT, ou, ob, opp, n1, n2, n3, n4, nas, hG, hrc, hrl9, hjj, hsy, hag, hI, hok, hRl, hxe, hcc, hrl, has, k⟩ := h
    refine ⟨_, PSs.nox (pss_cons (ps_set (i := 4) sc_law_recovered.nd rfl (Or.inl rfl) (C8.pe_mt c_Journal_after_crash hr (by decide) (pe_fldC rfl T.cl_Ledger T.na_Ledger_journal (pv 1) rfl) (pa_cons (pe_c c_law_pick hr (by decide) rfl (pa_cons (pv 0) (pa_cons (pe_lst (pa_cons pe_int (pa_cons pe_int (pa_cons pe_int (pa_cons (pe_c c_law_draw hr (by decide) rfl (pa_cons (pv 0) (pa_cons pe_int pa_nil))) pa_nil))))) pa_nil))) pa_nil))) (pss_cons (ps_set (i := 5) sc_law_recovered.nd rfl (Or.inl rfl) (pe_c c_recover hr (by decide) rfl (pa_cons (pe_fldC rfl T.cl_Ledger T.na_Ledger_tariff (pv 1) rfl) (pa_cons (pv 4) (pa_cons (pv 3) pa_nil))))) (pss_cons (ps_set (i := 6) sc_law_recovered.nd rfl (Or.inl rfl) (C8.pe_mt0 c_Ledger_bills hr (by decide) (pv 5))) (C8.pss_cut (ps_if (PW.pt (pw_or (pt_cmpR (op_neD hr.units) (C8.pe_mt0 c_Ledger_pending hr (by decide) (pv 5)) (pe_lst pa_nil) (nomark _)) (pw_or1 (pt_cmpR op_ne (pe_callB call_len_seq rfl T.f_len PySem.boot_len (pa_cons (pv 6) pa_nil)) (pe_callB call_len_seq rfl T.f_len PySem.boot_len (pa_cons (pv 2) pa_nil)) (nomark _))))) (pss_one (ps_ret pe_non)) pss_nil) (pss_cons (ps_for PassesOwn.never rfl (pi_range1 rfl T.f_range (pa_cons (pe_callB call_len_seq rfl T.f_len PySem.boot_len (pa_cons (pv 2) pa_nil)) pa_nil)) (pg_name (i := 7) sc_law_recovered.nd rfl (Or.inl rfl)) (pss_cons (ps_set (i := 8) sc_law_recovered.nd rfl (Or.inl rfl) (pe_ix ix_list (pv 2) (pv 7) (fun _ _ => rfl))) (pss_cons (ps_set (i := 9) sc_law_recovered.nd rfl (Or.inl rfl) (pe_ix ix_list (pv 6) (pv 7) (fun _ _ => rfl))) (C8.pss_cut (ps_if (PW.pt (pw_or (pt_cmpR (op_neD hr.units) (pe_callTy call_list_of rfl T.f_list (by decide +kernel) (pa_cons (pe_slice sl_tupA (pv 9) po_none (po_some pe_int)) pa_nil)) (pe_slice sl_list (pv 8) po_none (po_some pe_int)) (nomark _)) (pw_or1 (pt_cmpR op_ne (pe_ix ix_tup (pv 9) pe_int (fun _ _ => rfl)) (C8.pe_mt c_Tariff_cost hr (by decide) (pe_fldC rfl T.cl_Ledger T.na_Ledger_tariff (pv 1) rfl) (pa_cons (pe_op op_sub (pe_ix ix_tup (pv 9) pe_int (fun _ _ => rfl)) (pe_ix ix_tup (pv 9) pe_int (fun _ _ => rfl))) pa_nil)) (nomark _))))) (pss_one (ps_ret pe_non)) pss_nil) (C8.pss_cut (ps_if (PW.pt (pw_and (pt_cmpR op_ne (pe_ix ix_tup (pv 9) pe_int (fun _ _ => rfl)) (pe_callB (call_max2 rfl) rfl T.f_max (by decide +kernel) (pa_cons (pv 3) (pa_cons (pe_ix ix_list (pv 8) pe_int (fun _ _ => rfl)) pa_nil))) (nomark _)) (pw_and1 (pt_cmpR op_ne (pe_ix ix_tup (pv 9) pe_int (fun _ _ => rfl)) (pe_ix ix_list (pv 8) pe_int (fun _ _ => rfl)) (nomark _))))) (pss_one (ps_ret pe_non)) pss_nil) (pss_one (ps_if (PW.pt (pw_and (pt_cmpR op_notN (pe_ix ix_list (pv 8) pe_int (fun _ _ => rfl)) pe_non (nomark _)) (pw_and (pt_truth (pe_ix ix_list (pv 8) pe_int (fun _ _ => rfl)) (fun _ => rfl)) (pw_and1 (pt_cmpR op_ne (pe_ix ix_tup (pv 9) pe_int (fun _ _ => rfl)) (pe_ix ix_list (pv 8) pe_int (fun _ _ => rfl)) (nomark _)))))) (pss_one (ps_ret pe_non)) pss_nil))))))) (pss_cons (ps_set (i := 10) sc_law_recovered.nd rfl (Or.inl rfl) (pe_c c_recover hr (by decide) rfl (pa_cons (pe_fldC rfl T.cl_Ledger T.na_Ledger_tariff (pv 1) rfl) (pa_cons (C8.pe_mt c_Journal_after_crash hr (by decide) (pe_fldC rfl T.cl_Ledger T.na_Ledger_journal (pv 5) rfl) (pa_cons (pe_c c_law_draw hr (by decide) rfl (pa_cons (pv 0) (pa_cons pe_int pa_nil))) pa_nil)) (pa_cons (pe_op op_add (pv 3) pe_int) pa_nil))))) (C8.pss_cut (ps_if (PW.pt (pw_or (pt_cmpR (op_neD hr.units) (C8.pe_mt0 c_Ledger_bills hr (by decide) (pv 10)) (pv 6) (nomark _)) (pw_or1 (pt_cmpR op_ne (pe_fldC rfl T.cl_Journal T.na_Journal_text (pe_fldC rfl T.cl_Ledger T.na_Ledger_journal (pv 10) rfl) rfl) (pe_fldC rfl T.cl_Journal T.na_Journal_text (pe_fldC rfl T.cl_Ledger T.na_Ledger_journal (pv 5) rfl) rfl) (nomark _))))) (pss_one (ps_ret pe_non)) pss_nil) (pss_one (ps_ret (pv 5)))))))))), ?_⟩
    have las : as.length = R.length := by rw [has.len, List.length_map]
    obtain ⟨dx, hp⟩ := hL.o
    obtain ⟨dj, hj⟩ := hL.jt
    have lens := S_len' rs hrc
    have hcl := catS_len lens
    have insk : ∀ {H' : Hp} {y C d fs}, Keep H H' s c → H y = some (.ins C d fs) → H' y = some (.ins C d fs) := fun kk e => by
      obtain ⟨_, ⟨m, hm⟩, cs, hc, _⟩ := id hst
      exact kk _ _ e (ne_of e hm (by intro z; cases z)) (ne_of e hc (by intro z; cases z))
    have nlk : ∀ {H' : Hp} {y o}, Keep H H' s c → H y = some o → (∀ q, o ≠ .lst q) → H' y = some o := fun kk e nl => by
      obtain ⟨_, ⟨m, hm⟩, cs, hc, _⟩ := id hst
      exact kk _ _ e (ne_of e hm (nl _)) (ne_of e hc (nl _))
    have Lk : ∀ {H' : Hp}, Keep H H' s c → LedAt K H' p tr j d1 d2 rs sy := fun {H'} kk => by
      obtain ⟨⟨dx, o⟩, ⟨dj, jt⟩, ⟨k1, u1, u2⟩, ⟨k2, f1, f2⟩, ne⟩ := hL
      have t : ∀ x b, H x = some (.tup b) → H' x = some (.tup b) := fun x b e => nlk kk e (by intro q z; cases z)
      exact ⟨⟨dx, nlk kk o (by intro q z; cases z)⟩, ⟨dj, nlk kk jt (by intro q z; cases z)⟩, ⟨k1, nlk kk u1 (by intro q z; cases z), u2.mono t⟩, ⟨k2, nlk kk f1 (by intro q z; cases z), f2.mono t⟩, ne⟩
    have Tk : ∀ {H' : Hp}, Keep H H' s c → TAt K H' tr rt uu bds l := fun {H'} kk => by
      obtain ⟨dx, e, ts, e1, q⟩ := hT
      exact ⟨dx, nlk kk e (by intro q z; cases z), ts, kk _ _ e1 n1 n2, q.mono fun x b z => nlk kk z (by intro q z; cases z)⟩
    have Ak : ∀ {H' : Hp}, Keep H H' s c → LsAt H' as (R.map rv7) := fun kk => has.mono fun x hx b e => kk _ _ e (nas x hx).1 (nas x hx).2
    -- the crash
    refine ⟨_, rfl, p, dx, _, _, rfl, hp, rfl, j, dj, _, rfl, hj, rfl, ?_⟩
    refine ⟨_, rfl, _, rfl, s, c, 200, rfl, hst, by decide, by decide, fun d H1 d0 dd1 st1 k1 => ⟨by show 4 ≤ sizeLine; decide, fun q hq => ?_⟩⟩
    obtain ⟨qs, qc⟩ := st1.tracked hq
    refine ⟨s, c, _, rfl, st1.upd qs qc, .inr ⟨q, _, rfl, upd_same, qs, qc, by simp, by simp, fun v hv H2 st2 k2' => ?_⟩⟩
    obtain ⟨m, rfl, m0⟩ : ∃ m : Int, v = .int m ∧ 0 ≤ m := by
      simp only [List.mem_cons, List.not_mem_nil, or_false] at hv
      rcases hv with rfl | rfl | rfl | rfl
      · exact ⟨_, rfl, by decide⟩
      · exact ⟨_, rfl, by decide⟩
      · exact ⟨_, rfl, by decide⟩
      · exact ⟨_, rfl, d0⟩
    have k2 := (k1.trans (Keep.of_same (same_upd hq))).trans k2'
    clear hv k1 k2' hq st1 d0 dd1
    have hL2 := Lk k2
    refine ⟨j, catS rs, sy, m, rfl, hL2.jt, by omega, ?_⟩
    have h0 : 0 ≤ sy + m := by rw [hsy]; omega
    obtain ⟨kk, kk1, kk2, kk3⟩ := crash hrc h0
    have hjk : jj ≤ kk := kk3 jj hjj (by rw [hsy]; omega)
    have hzl := slice_len (catS rs) h0
    generalize Txt.slice (catS rs) none (some (sy + m)) = z at *
    have hA := hag kk hjk kk1
    have hrct : ∀ r ∈ rs.take kk, RcOk r := fun r hr => hrc r (List.mem_of_mem_take hr)
    have hGt := hG.take kk
    have e1 : eats ((readJ z).map recL) = rs.take kk := by rw [kk2, recs_back hrct, eats_good hGt]
    have hIc : Inc (R.map (cutR kk)) := inc_cut hI
    have lrt : (rs.take kk).length ≤ 50 := by rw [List.length_take]; omega
    have lop := len_open (R.map (cutR kk))
    rw [List.length_map] at lop
    have huok : ∀ u ∈ openOf (R.map (cutR kk)), nOk u.n ∧ nOk (gR uu l bds now u).1 ∧ nOk (gR uu l bds now u).2 := fun u hu => by
      obtain ⟨r', hr', rfl, _⟩ := mem_open hu
      obtain ⟨r, hr, rfl⟩ := List.mem_map.mp hr'
      obtain ⟨a, b⟩ := cut_n kk r
      obtain ⟨c1, c2⟩ := hcc r hr
      refine ⟨?_, ?_, ?_⟩
      · show nOk (cutR kk r).n
        rw [a]
        exact (hok r hr).nn
      · show nOk (mxI now (cutR kk r).t)
        rw [b]
        exact c1
      · show nOk (costI uu bds l (mxI now (cutR kk r).t - (cutR kk r).t))
        rw [b]
        exact c2
    have k2T := Tk k2
    obtain ⟨dx2, hp2⟩ := hL2.o
    refine ⟨_, rfl, p, dx2, _, _, rfl, hp2, rfl, _, rfl, _, rfl, tr, rt, uu, l, bds, z, now, openOf (R.map (cutR kk)), rfl, k2T, ou, ob, opp, by omega, by rw [e1]; exact hA.u.symm, by omega, open_pw hIc, by rw [kk2, List.length_map]; omega, by rw [e1]; omega, ?_, fun u hu => ⟨(huok u hu).1, (huok u hu).2.1, (huok u hu).2.2, (cl_ok (huok u hu).1 (huok u hu).2.1 (huok u hu).2.2).len⟩, ?_⟩
    · intro x hx
      rw [kk2] at hx
      obtain ⟨r, hr, rfl⟩ := List.mem_map.mp hx
      refine ⟨by have := (hrct r hr).len; omega, fun r' hr' => ?_⟩
      rw [line_back (hrct r hr)] at hr'
      rw [← Option.some.inj hr']
      exact (hrct r hr).len
    rw [e1]
    intro p2 j2 d12 d22 H3 hp20 hj20 hd120 hd220 hL3 s3
    have fresh : ∀ {b : Addr}, H2 b = none → H b = none := fun {b} e => by
      cases eq : H b with
      | none => rfl
      | some o =>
        by_cases z1 : b = s
        · subst z1
          obtain ⟨_, ⟨m9, hm⟩, _⟩ := id st2
          rw [hm] at e
          cases e
        · by_cases z2 : b = c
          · subst z2
            obtain ⟨_, _, cs, hc, _⟩ := id st2
            rw [hc] at e
            cases e
          · rw [k2 _ _ eq z1 z2] at e
            cases e
    have hpw := open_pw hIc
    have hst2 := st_all (gR uu l bds now) hA.u.symm hpw
    have hB : ((R.map (cutR kk)).map (billOf (gR uu l bds now))).Perm (st (rs.take kk ++ (openOf (R.map (cutR kk))).map (clR (gR uu l bds now)))).fi := by
      rw [hst2]
      exact ((hA.f.append_right _).trans (bills_perm _ _)).symm
    have pwB : (((R.map (cutR kk)).map (billOf (gR uu l bds now))).map (·.n)).Pairwise (· < ·) := by
      have e : ((R.map (cutR kk)).map (billOf (gR uu l bds now))).map (·.n) = R.map (·.n) := by
        rw [List.map_map, List.map_map]
        exact List.map_congr_left fun r _ => (bill_n _ _).trans (cut_n kk r).1
      rw [e]
      exact hI
    have hun2 : (st (rs.take kk ++ (openOf (R.map (cutR kk))).map (clR (gR uu l bds now)))).un = [] := by rw [hst2]
    have hG2 : Good (rs.take kk ++ (openOf (R.map (cutR kk))).map (clR (gR uu l bds now))) := by
      have := (cl_some (gR uu l bds now) hGt hA.u.symm hpw _ (Nat.le_refl _)).1
      rw [List.take_length] at this
      exact this
    have hrc2 : ∀ r ∈ rs.take kk ++ (openOf (R.map (cutR kk))).map (clR (gR uu l bds now)), RcOk r := fun r hr => by
      rcases List.mem_append.mp hr with m | m
      · exact hrct r m
      · obtain ⟨u, hu, rfl⟩ := List.mem_map.mp m
        exact cl_ok (huok u hu).1 (huok u hu).2.1 (huok u hu).2.2
    have hl2 : (rs.take kk ++ (openOf (R.map (cutR kk))).map (clR (gR uu l bds now))).length ≤ 100 := by
      rw [List.length_append, List.length_map]
      omega
    have hkn2 : ∀ n, (st (rs.take kk ++ (openOf (R.map (cutR kk))).map (clR (gR uu l bds now)))).knows n = true → ∃ r ∈ R, r.n = n := fun n hn => by
      unfold Lg.knows Lg.opens at hn
      rw [hun2, List.any_nil, Bool.false_or, List.any_eq_true] at hn
      obtain ⟨b, hb, e⟩ := hn
      obtain ⟨r', hr', rfl⟩ := List.mem_map.mp (hB.symm.subset hb)
      obtain ⟨r, hr, rfl⟩ := List.mem_map.mp hr'
      refine ⟨r, hr, ?_⟩
      have := of_decide_eq_true e
      rw [bill_n, (cut_n kk r).1] at this
      exact this
    have hrow : ∀ i (hi : i < R.length), ∃ e' k' : Int, (billOf (gR uu l bds now) (cutR kk R[i])).v = [.int R[i].n, .str "ann@x", .str (bobS R[i].n), .int R[i].t, .int e', .int k'] ∧ nOk e' ∧ nOk k' ∧ k' = costI uu bds l (e' - R[i].t) ∧ ((∃ x, R[i].e = some x ∧ e' = x.1) ∨ (e' = mxI now R[i].t ∧ ∀ x, R[i].e = some x → R[i].f = false)) := fun i hi => by
      have hm := List.getElem_mem hi
      generalize R[i] = r at *
      obtain ⟨c1, c2⟩ := hcc r hm
      unfold cutR
      cases he : r.e with
      | none =>
        refine ⟨mxI now r.t, costI uu bds l (mxI now r.t - r.t), ?_, c1, c2, rfl, .inr ⟨rfl, fun x hx => by cases hx⟩⟩
        dsimp only
        unfold billOf
        rw [he]
        rfl
      | some x =>
        obtain ⟨e, k, idx⟩ := x
        obtain ⟨x1, x2⟩ := hxe r hm _ he
        obtain ⟨o1, o2⟩ := (hok r hm).e _ he
        dsimp only
        by_cases q : idx < kk
        · rw [if_pos q]
          refine ⟨e, k, ?_, o1, o2, x1, .inl ⟨_, rfl, rfl⟩⟩
          unfold billOf
          rw [he]
          rfl
        · rw [if_neg q]
          refine ⟨mxI now r.t, costI uu bds l (mxI now r.t - r.t), rfl, c1, c2, rfl, .inr ⟨rfl, fun y hy => ?_⟩⟩
          obtain rfl := Option.some.inj hy
          cases hf : r.f with
          | false => rfl
          | true =>
            have := x2 hf
            dsimp only at this
            omega
    have lB : ((R.map (cutR kk)).map (billOf (gR uu l bds now))).length = R.length := by rw [List.length_map, List.length_map]
    have okB : ∀ b ∈ ((R.map (cutR kk)).map (billOf (gR uu l bds now))).map Bi.v, (∀ v ∈ b, okV v) ∧ b.length ≤ 11 := fun b hb => by
      obtain ⟨c', hc', rfl⟩ := List.mem_map.mp hb
      obtain ⟨r', hr', rfl⟩ := List.mem_map.mp hc'
      obtain ⟨r, hr, rfl⟩ := List.mem_map.mp hr'
      obtain ⟨i, hi, rfl⟩ := List.mem_iff_getElem.mp hr
      obtain ⟨e', k', h1, h2, h3, _⟩ := hrow i hi
      rw [h1]
      refine ⟨fun v hv => ?_, by show 6 ≤ 11; decide⟩
      have hR := hok _ hr
      simp only [List.mem_cons, List.not_mem_nil, or_false] at hv
      rcases hv with rfl | rfl | rfl | rfl | rfl | rfl
      · exact hR.nn.big
      · exact ⟨by decide +kernel, by decide +kernel⟩
      · exact bob_ok hR.nn
      · exact hR.t.big
      · exact h2.big
      · exact h3.big
    have okB1 := fun b hb => (okB b hb).1
    have okB2 := fun b hb => (okB b hb).2
    have getB : ∀ i (hi : i < R.length), (((R.map (cutR kk)).map (billOf (gR uu l bds now))).map Bi.v)[i]? = some ((billOf (gR uu l bds now) (cutR kk R[i])).v) := fun i hi => by
      rw [List.getElem?_map, List.getElem?_map, List.getElem?_map, List.getElem?_eq_getElem hi]
      rfl
    generalize (R.map (cutR kk)).map (billOf (gR uu l bds now)) = B at *
    generalize rs.take kk ++ (openOf (R.map (cutR kk))).map (clR (gR uu l bds now)) = rs2 at *
    have hcl2 := catS_len (S_len' rs2 hrc2)
    obtain ⟨dx3, hp3⟩ := hL3.o
    have k3 := k2.trans (Keep.of_same s3)
    have st3 := st2.same s3
    refine ⟨_, rfl, p2, dx3, _, rfl, hp3, rfl, p2, tr, j2, d12, d22, rs2, _, B, rfl, hL3, by omega, hB, by omega, pwB, fun r1 ts H4 s4 r10 er tr1 => ?_⟩
    have k4 := k3.trans (Keep.of_same s4)
    have st4 := st3.same s4
    have hL4 := hL3.same s4
    have lts : ts.length = R.length := by rw [tr1.len, List.length_map, lB]
    have nilok : ∀ v ∈ ([] : List V), okV v := fun _ h => nomatch h
    refine ⟨fun σ' H' => σ' = [some (.ref s), some (.ref p), some (.ref rl), some (.int now), some (.str z), some (.ref p2), some (.ref r1), none, none, none, none] ∧ Same H4 H', ?_, ?_⟩
    · refine ⟨_, rfl, p2, dx3, _, rfl, s4 _ _ hp3, rfl, p2, tr, j2, d12, d22, rs2, _, [], rfl, hL4, by omega, by rw [hun2], by decide, .nil, fun q H5 s5 q0 eq0 => ⟨by show 0 ≤ sizeLine; decide, fun q2 hq2 => ?_⟩⟩
      refine ⟨_, _, lstD_dp ((same_upd hq2) _ _ eq0) nilok, lstD_dp upd_same nilok, (lstD_ok nilok).1, (lstD_ok nilok).1, _, rfl, ?_⟩
      have e0 : PyData.eqv (lstD (([] : List Un).map (·.n) |>.map V.int)) (lstD []) = true := (lstD_ok nilok).2
      have s45 := s5.trans (same_upd (o := .lst []) hq2)
      rw [e0]
      refine iteF ⟨_, rfl, r1, _, rfl, .inl (SqL.of (s45 _ _ er)), _, rfl, rl, _, rfl, .inl (SqL.of (s45 _ _ (k4 _ _ hrl n3 n4))), rfl, _, rfl, ?_⟩
      rw [List.length_map, List.length_map, lts, las, decide_eq_true rfl]
      exact iteF ⟨rfl, s45⟩
    rintro σ' H5 ⟨rfl, s5⟩
    have k5 := k4.trans (Keep.of_same s5)
    have st5 := st4.same s5
    have er5 := s5 _ _ er
    have tr5 := tr1.mono fun x b z => s5 _ _ z
    have hrl5 := k5 _ _ hrl n3 n4
    have has5 := Ak k5
    have hT5 := Tk k5
    have hL5 := hL4.same s5
    have hLo5 := Lk k5
    obtain ⟨dxo, hpo⟩ := hLo5.o
    have f35 : Same H3 H5 := s4.trans s5
    clear s5 s4 er tr1 k4 st4 hL4 hL2 k2T hp2 hT hL hp hj has k2 st2
    refine ⟨_, rfl, rl, _, rfl, .inl (SqL.of hrl5), ?_⟩
    rw [List.length_map, las]
    refine ⟨_, rfl, by omega, by omega, for_range (lo := 0) (fun i σ H' => Same H5 H' ∧ ∃ v7 v8 v9 : Option V, σ = [some (.ref s), some (.ref p), some (.ref rl), some (.int now), some (.str z), some (.ref p2), some (.ref r1), v7, v8, v9, none])
      ⟨fun _ _ e => e, none, none, none, rfl⟩ ?_ ?_⟩
    · rintro i σ H6 hi ⟨s6, v7, v8, v9, rfl⟩
      have ez : (0 + (i : Int)) = (i : Int) := by omega
      rw [ez]
      have hi9 : i < R.length := by omega
      obtain ⟨e', k', hv, o1, o2, hk', hcase⟩ := hrow i hi9
      obtain ⟨tb, gt, htb⟩ := (tr5.mono fun x b z => s6 _ _ z).get i _ (getB i hi9)
      rw [hv] at htb
      obtain ⟨xr, gx, hxr⟩ : ∃ xr, (as.map V.ref)[i]? = some (.ref xr) ∧ H6 xr = some (.lst (rv7 R[i])) := by
        have hia : i < as.length := by omega
        refine ⟨as[i], by rw [List.getElem?_map, List.getElem?_eq_getElem hia]; rfl, ?_⟩
        obtain ⟨t, b, e1, hb, ht⟩ := (has5.same s6).at_ i (.ref as[i]) (by rw [List.getElem?_map, List.getElem?_eq_getElem hia]; rfl)
        rw [List.getElem?_map, List.getElem?_eq_getElem hi9] at hb
        injection e1 with e1
        rw [e1, ht, ← Option.some.inj hb]
      have a1 : atI (as.map V.ref) (i : Int) = some (.ref xr) := by
        rw [atN V.non (by omega) (by rw [List.length_map]; omega), List.getD_eq_getElem?_getD, Int.toNat_natCast, gx]
        rfl
      have a2 : atI (ts.map V.ref) (i : Int) = some (.ref tb) := by
        rw [atN V.non (by omega) (by rw [List.length_map]; omega), List.getD_eq_getElem?_getD, Int.toNat_natCast, gt]
        rfl
      have hRi := hok _ (List.getElem_mem hi9)
      generalize R[i] = r at *
      refine ⟨_, rfl, _, rfl, rl, _, _, .ref xr, rfl, rfl, SqL.of (s6 _ _ hrl5), a1, _, rfl, _, rfl, r1, _, _, .ref tb, rfl, rfl, SqL.of (s6 _ _ er5), a2, ?_⟩
      have ok4 : ∀ v ∈ ([.int r.n, .str "ann@x", .str (bobS r.n), .int r.t] : List V), okV v := fun v hv => by
        simp only [List.mem_cons, List.not_mem_nil, or_false] at hv
        rcases hv with rfl | rfl | rfl | rfl
        · exact hRi.nn.big
        · exact ⟨by decide +kernel, by decide +kernel⟩
        · exact bob_ok hRi.nn
        · exact hRi.t.big
      refine ⟨fun σ' H' => σ' = [some (.ref s), some (.ref p), some (.ref rl), some (.int now), some (.str z), some (.ref p2), some (.ref r1), some (.int i), some (.ref xr), some (.ref tb), none] ∧ Same H6 H', ?_, ?_⟩
      · refine ⟨_, rfl, _, rfl, tb, _, rfl, SqT.of htb, (fun h => absurd h.2 (show ¬ HT.sIx 6 6 (some 4) = 6 by decide)), fun _ q1 hq1 => ⟨_, _, rfl, .inr (SqT.of upd_same), fun q2 hq2 => ?_⟩⟩
        have sA := (same_upd (o := .tup (cutV [.int r.n, .str "ann@x", .str (bobS r.n), .int r.t, .int e', .int k'] none (some 4))) hq1)
        have sB := same_upd (o := .lst (cutV [.int r.n, .str "ann@x", .str (bobS r.n), .int r.t, .int e', .int k'] none (some 4))) hq2
        have sAB := sA.trans sB
        refine ⟨_, rfl, _, rfl, xr, _, rfl, SqL.of (sAB _ _ hxr), fun q3 hq3 => ?_⟩
        have sC := same_upd (o := .lst (cutV (rv7 r) none (some 4))) hq3
        refine ⟨lstD [.int r.n, .str "ann@x", .str (bobS r.n), .int r.t], lstD [.int r.n, .str "ann@x", .str (bobS r.n), .int r.t], lstD_dp (sC _ _ upd_same) ok4, lstD_dp upd_same ok4, (lstD_ok ok4).1, (lstD_ok ok4).1, _, rfl, ?_⟩
        rw [(lstD_ok ok4).2]
        have sD := sAB.trans sC
        have hT6 := hT5.same (s6.trans sD)
        obtain ⟨dt, htr, _⟩ := id hT6
        have htb6 := sD _ _ htb
        refine iteF ⟨_, rfl, tb, _, 5, .int k', rfl, rfl, SqT.of htb6, rfl, _, rfl, p, dxo, _, _, rfl, sD _ _ (s6 _ _ hpo), rfl, tr, dt, _, rfl, htr, rfl, _, rfl, tb, _, 4, .int e', rfl, rfl, SqT.of htb6, rfl, _, rfl, tb, _, 3, .int r.t, rfl, rfl, SqT.of htb6, rfl, _, _, rfl, rfl, tr, rt, uu, l, _, bds, rfl, hT6, ou, ob, opp, rfl, _, rfl, ?_⟩
        rw [← hk', decide_eq_true rfl]
        exact iteF ⟨rfl, sD⟩
      rintro σ' H7 ⟨rfl, s7⟩
      have hxr7 := s7 _ _ hxr
      have htb7 := s7 _ _ htb
      refine ⟨fun σ' H' => σ' = [some (.ref s), some (.ref p), some (.ref rl), some (.int now), some (.str z), some (.ref p2), some (.ref r1), some (.int i), some (.ref xr), some (.ref tb), none] ∧ H' = H7, ?_, ?_⟩
      · refine ⟨_, rfl, tb, _, 4, .int e', rfl, rfl, SqT.of htb7, rfl, _, rfl, _, rfl, xr, _, 3, .int r.t, rfl, rfl, SqL.of hxr7, rfl, _, _, rfl, rfl, _, rfl, ?_⟩
        change if (!decide (V.int e' = V.int (mxI now r.t))) = true then _ else _
        rcases hcase with ⟨x, hx, rfl⟩ | ⟨rfl, _⟩
        · have e4 : oV (r.e.map (·.1)) = .int x.1 := by rw [hx]; rfl
          by_cases q : x.1 = mxI now r.t
          · rw [decide_eq_true (by rw [q])]
            exact iteF ⟨rfl, rfl⟩
          · rw [decide_eq_false (fun h => q (V.int.inj h))]
            refine iteT ⟨_, rfl, tb, _, 4, .int x.1, rfl, rfl, SqT.of htb7, rfl, _, rfl, xr, _, 4, .int x.1, rfl, rfl, SqL.of hxr7, (by rw [← e4]; rfl), rfl, _, rfl, ?_⟩
            rw [decide_eq_true rfl]
            exact iteF ⟨rfl, rfl⟩
        · rw [decide_eq_true rfl]
          exact iteF ⟨rfl, rfl⟩
      rintro σ' H8 ⟨rfl, e8⟩
      obtain rfl : H7 = H8 := e8.symm
      refine ⟨_, rfl, xr, _, 4, oV (r.e.map (·.1)), rfl, rfl, SqL.of hxr7, rfl, rfl, _, rfl, ?_⟩
      rw [dn_O]
      have fin : Same H5 H7 ∧ ∃ v7 v8 v9 : Option V, [some (V.ref s), some (V.ref p), some (V.ref rl), some (V.int now), some (V.str z), some (V.ref p2), some (V.ref r1), some (V.int i), some (V.ref xr), some (V.ref tb), none] = [some (.ref s), some (.ref p), some (.ref rl), some (.int now), some (.str z), some (.ref p2), some (.ref r1), v7, v8, v9, none] := ⟨s6.trans s7, _, _, _, rfl⟩
      cases he : r.e with
      | none => exact iteF fin
      | some x =>
        refine iteT ⟨_, rfl, xr, _, 6, .bl r.f, rfl, rfl, SqL.of hxr7, rfl, r.f, rfl, ?_⟩
        cases hf : r.f with
        | false => exact iteF fin
        | true =>
          have ee : e' = x.1 := by
            rcases hcase with ⟨y, hy, e1⟩ | ⟨_, e2⟩
            · rw [he] at hy
              rw [e1, Option.some.inj hy]
            · have := e2 x he
              rw [hf] at this
              cases this
          have e4 : oV (r.e.map (·.1)) = .int e' := by rw [he, ee]; rfl
          refine iteT ⟨_, rfl, tb, _, 4, .int e', rfl, rfl, SqT.of htb7, rfl, _, rfl, xr, _, 4, .int e', rfl, rfl, SqL.of hxr7, (by rw [← e4]; rfl), rfl, _, rfl, ?_⟩
          rw [decide_eq_true rfl]
          exact iteF fin
    · rintro σ H6 ⟨s6, v7, v8, v9, rfl⟩
      have hL6 := hL5.same s6
      obtain ⟨dx6, hp6⟩ := id hL6.o
      obtain ⟨dj6, hj6⟩ := id hL6.jt
      have k6 := k5.trans (Keep.of_same s6)
      have st6 := st5.same s6
      have hpo6 := s6 _ _ hpo
      refine ⟨_, rfl, p, dxo, _, _, rfl, hpo6, rfl, _, rfl, p2, dx6, _, _, rfl, hp6, rfl, j2, dj6, _, rfl, hj6, rfl, _, rfl, s, c, 3, rfl, st6, by decide, by decide, fun d H7 d0 dd1 st7 k67 => ?_⟩
      have k7 := k6.trans k67
      have nl7 : ∀ {y o}, H6 y = some o → (∀ q, o ≠ .lst q) → H7 y = some o := fun e nl => by
        obtain ⟨_, ⟨m, hm⟩, cs, hc, _⟩ := id st6
        exact k67 _ _ e (ne_of e hm (nl _)) (ne_of e hc (nl _))
      have hL7 : LedAt K H7 p2 tr j2 d12 d22 rs2 ((catS rs2).length : Nat) := by
        obtain ⟨⟨dx, o⟩, ⟨dj, jt⟩, ⟨k1, u1, u2⟩, ⟨k2, f1, f2⟩, ne⟩ := hL6
        have t : ∀ x b, H6 x = some (.tup b) → H7 x = some (.tup b) := fun x b e => nl7 e (by intro q z; cases z)
        exact ⟨⟨dx, nl7 o (by intro q z; cases z)⟩, ⟨dj, nl7 jt (by intro q z; cases z)⟩, ⟨k1, nl7 u1 (by intro q z; cases z), u2.mono t⟩, ⟨k2, nl7 f1 (by intro q z; cases z), f2.mono t⟩, ne⟩
      have e2 : readJ (Txt.slice (catS rs2) none (some (((catS rs2).length : Nat) + d))) = rs2.map lineS := readJ_all hrc2 (by omega)
      have z2 : 0 ≤ ((catS rs2).length : Int) + d := by omega
      have hz2 := slice_len (catS rs2) z2
      have ee2 : eats ((rs2.map lineS).map recL) = rs2 := by rw [recs_back hrc2, eats_good hG2]
      refine ⟨j2, catS rs2, _, d, rfl, hL7.jt, by omega, _, rfl, _, _, rfl, rfl, ?_⟩
      generalize Txt.slice (catS rs2) none (some (((catS rs2).length : Nat) + d)) = zz at *
      refine ⟨tr, rt, uu, l, bds, zz, now + 50, [], rfl, Tk k7, ou, ob, opp, by omega, by rw [e2, ee2, hun2], by decide, .nil, by rw [e2, List.length_map]; omega, by rw [e2, ee2]; show rs2.length + 0 ≤ 110; omega, ?_, (fun _ h => nomatch h), ?_⟩
      · intro x hx
        rw [e2] at hx
        obtain ⟨r, hr, rfl⟩ := List.mem_map.mp hx
        refine ⟨by have := (hrc2 r hr).len; omega, fun r' hr' => ?_⟩
        rw [line_back (hrc2 r hr)] at hr'
        rw [← Option.some.inj hr']
        exact (hrc2 r hr).len
      rw [e2, ee2]
      have ea : ∀ g : Un → Int × Int, rs2 ++ ([] : List Un).map (clR g) = rs2 := fun g => List.append_nil _
      rw [ea]
      intro p3 j3 d13 d23 H8 hp30 _ _ _ hL8 s8
      have hL8o := hL7.same s8
      obtain ⟨dx8, hp8⟩ := id hL8.o
      have kk8 := k67.trans (Keep.of_same s8)
      have r1s : r1 ≠ s ∧ r1 ≠ c := by
        have a := st3.tracked r10
        exact a
      have er8 := kk8 _ _ (s6 _ _ er5) r1s.1 r1s.2
      have tr8 : TsAt H8 ts (B.map Bi.v) := tr5.mono fun x b z => s8 _ _ (nl7 (s6 _ _ z) (by intro q y; cases y))
      refine ⟨fun σ' H' => (∃ v7 v8 v9 v10 : Option V, σ' = [some (.ref s), some (.ref p), some (.ref rl), some (.int now), some (.str z), some (.ref p2), some (.ref r1), v7, v8, v9, v10]) ∧ Same H8 H', ?_, ?_⟩
      · refine ⟨_, rfl, p3, dx8, _, rfl, hp8, rfl, p3, tr, j3, d13, d23, rs2, _, B, rfl, hL8, by omega, hB, by omega, pwB, fun q ts9 H9 s9 q0 eq9 tr9 => ?_⟩
        refine ⟨_, rfl, _, _, rowsD_dp eq9 tr9 okB1, rowsD_dp (s9 _ _ er8) (tr8.mono fun x b z => s9 _ _ z) okB1, (rowsD_ok okB1 okB2).1, (rowsD_ok okB1 okB2).1, _, rfl, ?_⟩
        rw [(rowsD_ok okB1 okB2).2]
        obtain ⟨dj8, hj8⟩ := id hL8.jt
        obtain ⟨dxo8, hpo8⟩ := id hL8o.o
        obtain ⟨djo8, hjo8⟩ := id hL8o.jt
        refine iteF ⟨_, rfl, p3, dx8, _, _, rfl, s9 _ _ hp8, rfl, j3, dj8, _, _, rfl, s9 _ _ hj8, rfl, _, rfl, p2, dxo8, _, _, rfl, s9 _ _ hpo8, rfl, j2, djo8, _, _, rfl, s9 _ _ hjo8, rfl, rfl, _, rfl, ?_⟩
        rw [decide_eq_true rfl]
        exact iteF ⟨⟨_, _, _, _, rfl⟩, s9⟩
      rintro σ' H9 ⟨⟨w7, w8, w9, w10, rfl⟩, s9⟩
      refine ⟨_, rfl, k p2 j2 d12 d22 rs2 _ H9 (hL8o.same s9) hun2 hkn2 hl2 hrc2 ?_ ?_ ?_ ((st7.same s8).same s9) (k7.trans (Keep.of_same (s8.trans s9)))⟩
      · exact fresh hj20
      · exact fresh hd120
      · exact fresh hd220

end K12
set_option maxHeartbeats 2000000
set_option pp.maxSteps 500
namespace K12
open PySem PySem.Spec PyProof.Rows L2 SX TK NdefX K11 LD
open C8 (pe_c)
def setF (r : Rw) : Rw := { r with f := r.e.isSome }
theorem closed_setF (R : List Rw) : closedOf (R.map setF) = closedOf R := by
  unfold closedOf
  rw [List.filterMap_map]
  rfl
theorem open_setF (R : List Rw) : openOf (R.map setF) = openOf R := by
  unfold openOf
  rw [List.filterMap_map]
  rfl
theorem agr_setF {S : Lg} {R : List Rw} (h : Agr S R) : Agr S (R.map setF) := ⟨by rw [closed_setF]; exact h.f, by rw [open_setF]; exact h.u⟩
theorem inc_setF {R : List Rw} (h : Inc R) : Inc (R.map setF) := by
  unfold Inc at *
  rw [List.map_map]
  exact h
structure MI (uu l : Int) (bds : List Bd) (i : Nat) (rs : List Rc) (sy : Int) (jj : Nat) (now number : Int) (R : List Rw) : Prop where
  g : Good rs
  rc : ∀ r ∈ rs, RcOk r
  rl : rs.length ≤ i
  jl : jj ≤ rs.length
  sy : sy = ((catS (rs.take jj)).length : Nat)
  ag : ∀ m, jj ≤ m → m ≤ rs.length → Agr (st (rs.take m)) (R.map (cutR m))
  inc : Inc R
  ok : ∀ r ∈ R, RwOk r
  Rl : R.length ≤ i
  xe : ∀ r ∈ R, ∀ x, r.e = some x → x.2.1 = costI uu bds l (x.1 - r.t) ∧ x.2.2 < rs.length ∧ (r.f = true → x.2.2 < jj)
  fn : ∀ r ∈ R, r.e = none → r.f = false
  nm : ∀ r ∈ R, r.n ≤ number ∧ r.t ≤ now
  n0 : 0 ≤ number ∧ number ≤ 4 * (i : Int)
  t0 : 0 ≤ now ∧ now ≤ 20 + 8 * (i : Int)
theorem cut_id {m : Nat} {R : List Rw} (h : ∀ r ∈ R, ∀ x, r.e = some x → x.2.2 < m) : R.map (cutR m) = R := by
  have : ∀ r ∈ R, cutR m r = r := fun r hr => by
    unfold cutR
    cases e : r.e with
    | none => rfl
    | some x =>
      dsimp only
      rw [if_pos (h r hr x e)]
  rw [List.map_congr_left this, List.map_id']
theorem MI.all {uu l : Int} {bds : List Bd} {i : Nat} {rs : List Rc} {sy : Int} {jj : Nat} {now number : Int} {R : List Rw} (h : MI uu l bds i rs sy jj now number R) : Agr (st rs) R := by
  have := h.ag rs.length h.jl (Nat.le_refl _)
  rw [List.take_length, cut_id fun r hr x e => (h.xe r hr x e).2.1] at this
  exact this
theorem MI.start (uu l : Int) (bds : List Bd) {now : Int} (h0 : 0 ≤ now) (h1 : now ≤ 20) : MI uu l bds 0 [] 0 0 now 0 [] :=
  ⟨Good.nil, (fun _ h => nomatch h), Nat.le_refl _, Nat.le_refl _, rfl, fun m _ hm => by rw [Nat.le_zero.mp hm]; exact ⟨.nil, .nil⟩, .nil, (fun _ h => nomatch h), Nat.le_refl _, (fun _ h => nomatch h), (fun _ h => nomatch h), (fun _ h => nomatch h), ⟨by decide, by decide⟩, ⟨h0, by omega⟩⟩
theorem MI.tick {uu l : Int} {bds : List Bd} {i : Nat} {rs : List Rc} {sy : Int} {jj : Nat} {now number : Int} {R : List Rw} (h : MI uu l bds i rs sy jj now number R) {d : Int} (h0 : 0 ≤ d) (h1 : d < 9) : MI uu l bds (i + 1) rs sy jj (now + d) number R :=
  { h with rl := Nat.le_succ_of_le h.rl, Rl := Nat.le_succ_of_le h.Rl, nm := fun r hr => ⟨(h.nm r hr).1, by have := (h.nm r hr).2; omega⟩, n0 := ⟨h.n0.1, by have := h.n0.2; omega⟩, t0 := ⟨by have := h.t0.1; omega, by have := h.t0.2; omega⟩ }
theorem MI.sync {uu l : Int} {bds : List Bd} {i : Nat} {rs : List Rc} {sy : Int} {jj : Nat} {now number : Int} {R : List Rw} (h : MI uu l bds i rs sy jj now number R) : MI uu l bds i rs ((catS rs).length : Nat) rs.length now number (R.map setF) := by
  have hA := h.all
  refine ⟨h.g, h.rc, h.rl, Nat.le_refl _, by rw [List.take_length], fun m m1 m2 => ?_, inc_setF h.inc, fun r hr => ?_, by rw [List.length_map]; exact h.Rl, fun r hr x e => ?_, fun r hr e => ?_, fun r hr => ?_, h.n0, h.t0⟩
  · obtain rfl : m = rs.length := by omega
    rw [List.take_length, cut_id]
    · exact agr_setF hA
    · intro r hr x e
      obtain ⟨r0, h0, rfl⟩ := List.mem_map.mp hr
      exact (h.xe r0 h0 x e).2.1
  · obtain ⟨r0, h0, rfl⟩ := List.mem_map.mp hr
    have := h.ok r0 h0
    exact ⟨this.n, this.t, this.e⟩
  · obtain ⟨r0, h0, rfl⟩ := List.mem_map.mp hr
    obtain ⟨a, b, c⟩ := h.xe r0 h0 x e
    exact ⟨a, b, fun _ => b⟩
  · obtain ⟨r0, h0, rfl⟩ := List.mem_map.mp hr
    have e' : r0.e = none := e
    show r0.e.isSome = false
    rw [e']
    rfl
  · obtain ⟨r0, h0, rfl⟩ := List.mem_map.mp hr
    exact h.nm r0 h0
theorem MI.begin_ {uu l : Int} {bds : List Bd} {i : Nat} {rs : List Rc} {sy : Int} {jj : Nat} {now number : Int} {R : List Rw} (h : MI uu l bds (i + 1) rs sy jj now number R) (hi : i < 50) (hr : rs.length ≤ i) (hR : R.length ≤ i) (hn : number ≤ 4 * (i : Int)) {d : Int} (h0 : 0 ≤ d) (h1 : d < 3) :
    nOk (number + 1 + d) ∧ nOk now ∧ (st rs).legal (.op (number + 1 + d) "ann@x" (bobS (number + 1 + d)) now) = true ∧ RcOk (.op (number + 1 + d) "ann@x" (bobS (number + 1 + d)) now) ∧
    MI uu l bds (i + 1) (rs ++ [Rc.op (number + 1 + d) "ann@x" (bobS (number + 1 + d)) now]) ((catS (rs ++ [Rc.op (number + 1 + d) "ann@x" (bobS (number + 1 + d)) now])).length : Nat) (rs ++ [Rc.op (number + 1 + d) "ann@x" (bobS (number + 1 + d)) now]).length now (number + 1 + d) ((R ++ [(⟨number + 1 + d, now, none, false⟩ : Rw)]).map setF) := by
  have hA := h.all
  have n0 := h.n0
  have t0 := h.t0
  have o1 : nOk (number + 1 + d) := ⟨by omega, by omega⟩
  have o2 : nOk now := ⟨by omega, by omega⟩
  have leg : (st rs).legal (.op (number + 1 + d) "ann@x" (bobS (number + 1 + d)) now) = true := by
    show (!(st rs).knows (number + 1 + d)) = true
    cases q : (st rs).knows (number + 1 + d) with
    | false => rfl
    | true =>
      obtain ⟨r, hr, e⟩ := (knows_iff hA _).mp q
      have := (h.nm r hr).1
      omega
  have rok := op_ok o1 o2
  have hI : Inc (R ++ [(⟨number + 1 + d, now, none, false⟩ : Rw)]) := by
    have hi := h.inc
    unfold Inc at *
    rw [List.map_append, List.pairwise_append]
    refine ⟨hi, by simp, fun a ha b hb => ?_⟩
    obtain ⟨r, hr, rfl⟩ := List.mem_map.mp ha
    have e : b = number + 1 + d := by simpa using hb
    have := (h.nm r hr).1
    omega
  refine ⟨o1, o2, leg, rok, h.g.snoc leg, fun r hr => ?_, by rw [List.length_append]; show rs.length + 1 ≤ _; omega, Nat.le_refl _, by rw [List.take_length], fun m m1 m2 => ?_, inc_setF hI, fun r hr => ?_, by rw [List.length_map, List.length_append]; show R.length + 1 ≤ _; omega, fun r hr x e => ?_, fun r hr e => ?_, fun r hr => ?_, ⟨by omega, by omega⟩, t0⟩
  · rcases List.mem_append.mp hr with z | z
    · exact h.rc r z
    · rw [List.mem_singleton.mp z]
      exact rok
  · obtain rfl : m = _ := Nat.le_antisymm m2 m1
    rw [List.take_length, cut_id, st_snoc]
    · exact agr_setF (agr_op hA _ _)
    · intro r hr x e
      obtain ⟨r0, hr0, rfl⟩ := List.mem_map.mp hr
      rw [List.length_append]
      rcases List.mem_append.mp hr0 with z | z
      · have := (h.xe r0 z x e).2.1
        show _ < rs.length + 1
        omega
      · rw [List.mem_singleton.mp z] at e
        cases e
  · obtain ⟨r0, hr0, rfl⟩ := List.mem_map.mp hr
    rcases List.mem_append.mp hr0 with z | z
    · have := h.ok r0 z
      exact ⟨this.n, this.t, this.e⟩
    · rw [List.mem_singleton.mp z]
      exact ⟨⟨by show 1 ≤ number + 1 + d; omega, by show number + 1 + d ≤ 900; omega⟩, o2, fun x e => by cases e⟩
  · obtain ⟨r0, hr0, rfl⟩ := List.mem_map.mp hr
    rcases List.mem_append.mp hr0 with z | z
    · obtain ⟨a, b, c⟩ := h.xe r0 z x e
      refine ⟨a, ?_, fun _ => ?_⟩ <;> rw [List.length_append] <;> show _ < rs.length + 1 <;> omega
    · rw [List.mem_singleton.mp z] at e
      cases e
  · obtain ⟨r0, hr0, rfl⟩ := List.mem_map.mp hr
    have e' : r0.e = none := e
    show r0.e.isSome = false
    rw [e']
    rfl
  · obtain ⟨r0, hr0, rfl⟩ := List.mem_map.mp hr
    rcases List.mem_append.mp hr0 with z | z
    · have := h.nm r0 z
      exact ⟨by show r0.n ≤ _; omega, this.2⟩
    · rw [List.mem_singleton.mp z]
      exact ⟨Int.le_refl _, Int.le_refl _⟩
theorem MI.fin_ {uu l : Int} {bds : List Bd} {i : Nat} {rs : List Rc} {sy : Int} {jj : Nat} {now number : Int} {R : List Rw} (h : MI uu l bds (i + 1) rs sy jj now number R) (hi : i < 50) (hr : rs.length ≤ i) {a : Nat} (ha : a < R.length) (he : R[a].e = none) (hc : nOk (costI uu bds l (now - R[a].t))) :
    nOk R[a].n ∧ nOk now ∧ (st rs).un.find? (fun x => decide (x.n = R[a].n)) = some R[a].un ∧ RcOk (.cl R[a].n now (costI uu bds l (now - R[a].t))) ∧
    MI uu l bds (i + 1) (rs ++ [.cl R[a].n now (costI uu bds l (now - R[a].t))]) sy jj now number (R.set a { R[a] with e := some (now, costI uu bds l (now - R[a].t), rs.length) }) := by
  have hA := h.all
  have t0 := h.t0
  have hm := List.getElem_mem ha
  have o1 := (h.ok _ hm).nn
  have o2 : nOk now := ⟨by omega, by omega⟩
  have hf := h.fn _ hm he
  have es : R = R.take a ++ R[a] :: R.drop (a + 1) := by
    rw [← List.drop_eq_getElem_cons ha, List.take_append_drop]
  have eset : ∀ y : Rw, R.set a y = R.take a ++ y :: R.drop (a + 1) := fun y => List.set_eq_take_append_cons_drop .. |>.trans (if_pos ha)
  have hA2 := hA
  have hI2 := h.inc
  rw [es] at hA2 hI2
  obtain ⟨c1, c2⟩ := agr_cl hA2 hI2 he now (costI uu bds l (now - R[a].t)) rs.length false
  have er : ({ R[a] with e := some (now, costI uu bds l (now - R[a].t), rs.length), f := false } : Rw) = { R[a] with e := some (now, costI uu bds l (now - R[a].t), rs.length) } := by
    rw [← hf]
  rw [er] at c2
  rw [← eset] at c2
  have leg : (st rs).legal (.cl R[a].n now (costI uu bds l (now - R[a].t))) = true := by
    show ((st rs).un.any fun x => decide (x.n = R[a].n)) = true
    rw [← any_find, c1]
    rfl
  have rok := cl_ok o1 o2 hc
  have mem : ∀ r ∈ R.set a { R[a] with e := some (now, costI uu bds l (now - R[a].t), rs.length) }, r = { R[a] with e := some (now, costI uu bds l (now - R[a].t), rs.length) } ∨ r ∈ R := fun r hr => (List.mem_or_eq_of_mem_set hr).symm
  generalize hk : costI uu bds l (now - R[a].t) = k at *
  refine ⟨o1, o2, c1, rok, h.g.snoc leg, fun r hr => ?_, by rw [List.length_append]; show rs.length + 1 ≤ _; omega, by rw [List.length_append]; have := h.jl; omega, by rw [List.take_append_of_le_length h.jl]; exact h.sy, fun m m1 m2 => ?_, ?_, fun r hr => ?_, by rw [List.length_set]; exact h.Rl, fun r hr x e => ?_, fun r hr e => ?_, fun r hr => ?_, h.n0, t0⟩
  · rcases List.mem_append.mp hr with z | z
    · exact h.rc r z
    · rw [List.mem_singleton.mp z]
      exact rok
  · by_cases q : m ≤ rs.length
    · rw [List.take_append_of_le_length q]
      have e : (R.set a { R[a] with e := some (now, k, rs.length) }).map (cutR m) = R.map (cutR m) := by
        rw [List.map_set]
        have e1 : cutR m { R[a] with e := some (now, k, rs.length) } = R[a] := by
          show (if rs.length < m then _ else _) = _
          rw [if_neg (by omega)]
          show ({ R[a] with e := none } : Rw) = _
          rw [← he]
        have e2 : cutR m R[a] = R[a] := by
          unfold cutR
          rw [he]
        rw [e1]
        have e3 : (R.map (cutR m))[a]'(by rw [List.length_map]; exact ha) = R[a] := by rw [List.getElem_map, e2]
        rw [← e3, List.set_getElem_self]
      rw [e]
      exact h.ag m m1 q
    · rw [List.length_append] at m2
      have m3 : m = rs.length + 1 := by
        have : [Rc.cl R[a].n now k].length = 1 := rfl
        omega
      subst m3
      rw [List.take_of_length_le (by rw [List.length_append]; exact Nat.le_refl _), st_snoc, cut_id]
      · exact c2
      · intro r hr x e
        rcases mem r hr with z | z
        · rw [z] at e
          rw [← Option.some.inj e]
          show rs.length < rs.length + 1
          omega
        · have := (h.xe r z x e).2.1
          omega
  · unfold Inc
    rw [List.map_set]
    have e3 : (R.map (·.n))[a]'(by rw [List.length_map]; exact ha) = R[a].n := List.getElem_map ..
    show ((R.map (·.n)).set a R[a].n).Pairwise _
    rw [← e3, List.set_getElem_self]
    exact h.inc
  · rcases mem r hr with z | z
    · rw [z]
      have := h.ok _ hm
      refine ⟨this.n, this.t, fun x e => ?_⟩
      rw [← Option.some.inj e]
      exact ⟨o2, hc⟩
    · exact h.ok r z
  · rcases mem r hr with z | z
    · rw [z] at e ⊢
      rw [← Option.some.inj e]
      refine ⟨?_, by rw [List.length_append]; exact Nat.lt_succ_self _, fun q => ?_⟩
      · exact hk.symm
      · have q' : R[a].f = true := q
        rw [hf] at q'
        cases q'
    · obtain ⟨x1, x2, x3⟩ := h.xe r z x e
      exact ⟨x1, by rw [List.length_append]; exact Nat.lt_succ_of_lt x2, x3⟩
  · rcases mem r hr with z | z
    · rw [z] at e
      cases e
    · exact h.fn r z e
  · rcases mem r hr with z | z
    · rw [z]
      show R[a].n ≤ number ∧ R[a].t ≤ now
      exact h.nm _ hm
    · exact h.nm r z

end K12
set_option maxHeartbeats 2000000
set_option pp.maxSteps 500
namespace K12
open PySem PySem.Spec PyProof.Rows L2 SX TK NdefX K11 LD
open C8 (pe_c)
structure LWn (K : PySem.W.Frag) (H : Hp) (s c p tr rt j d1 d2 rl cu : Addr) (X : List V) (uu l : Int) (bds : List Bd) (rs : List Rc) (sy : Int) (as : List Addr) (R : List Rw) : Prop where
  st : StAt H s c
  led : LedAt K H p tr j d1 d2 rs sy
  T : TAt K H tr rt uu bds l
  rl : H rl = some (.lst (as.map V.ref))
  as_ : LsAt H as (R.map rv7)
  cu : H cu = some (.lst X)
def NEn (s c rt rl cu : Addr) : Prop := rt ≠ s ∧ rt ≠ c ∧ rl ≠ s ∧ rl ≠ c ∧ rl ≠ rt ∧ cu ≠ s ∧ cu ≠ c ∧ cu ≠ rl ∧ cu ≠ rt
def NAn (s c rt rl cu : Addr) (as : List Addr) : Prop := as.Nodup ∧ ∀ x ∈ as, x ≠ s ∧ x ≠ c ∧ x ≠ rl ∧ x ≠ rt ∧ x ≠ cu
theorem TAt.via {K : PySem.W.Frag} {H H' : Hp} {p r : Addr} {u l : Int} {bs : List Bd} (h : TAt K H p r u bs l) (hi : ∀ dx fs, H p = some (.ins (He.ga K "Tariff") dx fs) → H' p = some (.ins (He.ga K "Tariff") dx fs)) (ht : ∀ x b, H x = some (.tup b) → H' x = some (.tup b)) (hl : ∀ ys, H r = some (.lst ys) → H' r = some (.lst ys)) : TAt K H' p r u bs l := by
  obtain ⟨dx, e, ts, e1, q⟩ := h
  exact ⟨dx, hi _ _ e, ts, hl _ e1, q.mono fun x b z => ht x _ z⟩
section
variable {K : PySem.W.Frag} {H H' : Hp} {s c p tr rt j d1 d2 rl cu : Addr} {X : List V} {uu l : Int} {bds : List Bd} {rs : List Rc} {sy : Int} {as : List Addr} {R : List Rw}
theorem LWn.same (h : LWn K H s c p tr rt j d1 d2 rl cu X uu l bds rs sy as R) (e : Same H H') : LWn K H' s c p tr rt j d1 d2 rl cu X uu l bds rs sy as R :=
  ⟨h.st.same e, h.led.same e, h.T.same e, e _ _ h.rl, h.as_.same e, e _ _ h.cu⟩
theorem LWn.keep (h : LWn K H s c p tr rt j d1 d2 rl cu X uu l bds rs sy as R) (n : NEn s c rt rl cu) (na : NAn s c rt rl cu as) (st : StAt H' s c) (k : Keep H H' s c) : LWn K H' s c p tr rt j d1 d2 rl cu X uu l bds rs sy as R := by
  obtain ⟨n1, n2, n3, n4, n5, n6, n7, n8, n9⟩ := n
  obtain ⟨_, ⟨m, hm⟩, cs, hc, _⟩ := id h.st
  have nl : ∀ {y o}, H y = some o → (∀ q, o ≠ .lst q) → H' y = some o := fun e nl => k _ _ e (ne_of e hm (nl _)) (ne_of e hc (nl _))
  obtain ⟨⟨dx, o⟩, ⟨dj, jt⟩, ⟨k1, u1, u2⟩, ⟨k2, f1, f2⟩, ne⟩ := h.led
  have t : ∀ x b, H x = some (.tup b) → H' x = some (.tup b) := fun x b e => nl e (by intro q z; cases z)
  exact ⟨st, ⟨⟨dx, nl o (by intro q z; cases z)⟩, ⟨dj, nl jt (by intro q z; cases z)⟩, ⟨k1, nl u1 (by intro q z; cases z), u2.mono t⟩, ⟨k2, nl f1 (by intro q z; cases z), f2.mono t⟩, ne⟩, h.T.via (fun dx fs e => nl e (by intro q z; cases z)) t fun ys e => k _ _ e n1 n2, k _ _ h.rl n3 n4, h.as_.mono fun x hx b e => k _ _ e (na.2 x hx).1 (na.2 x hx).2.1, k _ _ h.cu n6 n7⟩
theorem TAt.ne_j {t : Str} {n : Int} (h : TAt K H tr rt uu bds l) (hj : JAt K H j t n) : tr ≠ j := by
  rintro rfl
  obtain ⟨dx, e, _⟩ := h
  obtain ⟨dj, e2⟩ := hj
  rw [e] at e2
  injection e2 with z
  injection z with _ _ z
  cases z
theorem LWn.frl {rs' : List Rc} {sy' : Int} (h : LWn K H s c p tr rt j d1 d2 rl cu X uu l bds rs sy as R) (hL : LedAt K H' p tr j d1 d2 rs' sy') (f : FrL H H' j d1 d2) : LWn K H' s c p tr rt j d1 d2 rl cu X uu l bds rs' sy' as R := by
  obtain ⟨n0, ⟨m, hm⟩, cs, hc, l63⟩ := id h.st
  obtain ⟨_, ⟨dj, jt⟩, ⟨k1, u1, _⟩, ⟨k2, f1, _⟩, _⟩ := h.led
  have ls : ∀ {y q}, H y = some (.lst q) → H' y = some (.lst q) := fun e => f _ _ e (ne_of e jt (by intro z; cases z)) (ne_of e u1 (by intro z; cases z)) (ne_of e f1 (by intro z; cases z))
  have tp : ∀ {y q}, H y = some (.tup q) → H' y = some (.tup q) := fun e => f _ _ e (ne_of e jt (by intro z; cases z)) (ne_of e u1 (by intro z; cases z)) (ne_of e f1 (by intro z; cases z))
  exact ⟨⟨n0, ⟨m, ls hm⟩, cs, ls hc, l63⟩, hL, h.T.via (fun dx fs e => f _ _ e (h.T.ne_j ⟨dj, jt⟩) (ne_of e u1 (by intro z; cases z)) (ne_of e f1 (by intro z; cases z))) (fun x b e => tp e) fun ys e => ls e, ls h.rl, h.as_.mono fun x _ b e => ls e, ls h.cu⟩
theorem LWn.at_ (h : LWn K H s c p tr rt j d1 d2 rl cu X uu l bds rs sy as R) {a : Nat} (ha : a < R.length) : ∃ h2 : a < as.length, H as[a] = some (.lst (rv7 R[a])) := by
  have e := h.as_.len
  rw [List.length_map] at e
  refine ⟨by omega, ?_⟩
  obtain ⟨t, b, e1, hb, ht⟩ := h.as_.at_ a (.ref (as[a]'(by omega))) (by rw [List.getElem?_map, List.getElem?_eq_getElem (by omega)]; rfl)
  rw [List.getElem?_map, List.getElem?_eq_getElem ha] at hb
  injection e1 with e1
  rw [e1, ht, ← Option.some.inj hb]
theorem LsAt.set_ : ∀ {as : List Addr} {bs : List (List V)} {a : Nat} {b : List V}, as.Nodup → LsAt H as bs → ∀ ha : a < as.length, LsAt (upd H as[a] (.lst b)) as (bs.set a b)
  | t :: ts, b0 :: bs, 0, b, hn, h, ha => by
    rw [List.nodup_cons] at hn
    exact ⟨upd_same, h.2.mono fun x hx y e => (upd_ne (show x ≠ t from fun z => hn.1 (z ▸ hx))).trans e⟩
  | t :: ts, b0 :: bs, a + 1, b, hn, h, ha => by
    rw [List.nodup_cons] at hn
    have ha' : a < ts.length := by
      rw [List.length_cons] at ha
      omega
    have z9 : t ≠ ts[a] := fun z => hn.1 (by rw [z]; exact List.getElem_mem _)
    exact ⟨(upd_ne (show t ≠ (t :: ts)[a + 1] from z9)).trans h.1, LsAt.set_ hn.2 h.2 ha'⟩
  | [], _, _, _, _, _, ha => absurd ha (Nat.not_lt_zero _)
  | _ :: _, [], _, _, _, h, _ => h.elim
theorem LWn.row (h : LWn K H s c p tr rt j d1 d2 rl cu X uu l bds rs sy as R) (na : NAn s c rt rl cu as) {a : Nat} (ha : a < as.length) (r : Rw) : LWn K (upd H as[a] (.lst (rv7 r))) s c p tr rt j d1 d2 rl cu X uu l bds rs sy as (R.set a r) := by
  obtain ⟨m1, m2, m3, m4, m5⟩ := na.2 _ (List.getElem_mem ha)
  obtain ⟨t, b, e1, _, ht⟩ := h.as_.at_ a (.ref as[a]) (by rw [List.getElem?_map, List.getElem?_eq_getElem ha]; rfl)
  injection e1 with e1
  rw [← e1] at ht
  refine ⟨h.st.upd m1 m2, h.led.via fun x o e hx => (upd_ne ?_).trans e, h.T.via (fun dx fs e => (upd_ne (ne_of e ht (by intro z; cases z))).trans e) (fun x b e => (upd_ne (ne_of e ht (by intro z; cases z))).trans e) fun ys e => (upd_ne m4.symm).trans e, (upd_ne m3.symm).trans h.rl, ?_, (upd_ne m5.symm).trans h.cu⟩
  · obtain ⟨⟨dx, o1⟩, ⟨dj, jt⟩, ⟨k1, u1, _⟩, ⟨k2, f1, _⟩, _⟩ := h.led
    rintro rfl
    rcases hx with z | z | z | z | ⟨q, z⟩
    · rw [z, o1] at ht; cases ht
    · rw [z, jt] at ht; cases ht
    · rw [z, u1] at ht; cases ht
    · rw [z, f1] at ht; cases ht
    · rw [z, ht] at e; cases e
  · rw [List.map_set]
    exact LsAt.set_ na.1 h.as_ ha
theorem LWn.push (h : LWn K H s c p tr rt j d1 d2 rl cu X uu l bds rs sy as R) (n : NEn s c rt rl cu) (na : NAn s c rt rl cu as) {x : Addr} (hx : H x = none) (r : Rw) : LWn K (upd (upd H x (.lst (rv7 r))) rl (.lst (as.map V.ref ++ [.ref x]))) s c p tr rt j d1 d2 rl cu X uu l bds rs sy (as ++ [x]) (R ++ [r]) ∧ NAn s c rt rl cu (as ++ [x]) := by
  obtain ⟨n1, n2, n3, n4, n5, n6, n7, n8, n9⟩ := n
  obtain ⟨xs, xc⟩ := h.st.tracked hx
  have sx := same_upd (o := .lst (rv7 r)) hx
  have h1 := h.same sx
  have xrl : x ≠ rl := (ne_of_none h.rl hx).symm
  have xcu : x ≠ cu := (ne_of_none h.cu hx).symm
  have xrt : x ≠ rt := by
    obtain ⟨_, _, ts0, e0, _⟩ := h.T
    exact (ne_of_none e0 hx).symm
  have old : ∀ y ∈ as, y ≠ x := fun y hy => by
    obtain ⟨a, ha, rfl⟩ := List.mem_iff_getElem.mp hy
    obtain ⟨t, b, e1, _, ht⟩ := h.as_.at_ a (.ref as[a]) (by rw [List.getElem?_map, List.getElem?_eq_getElem ha]; rfl)
    injection e1 with e1
    rw [e1]
    exact ne_of_none ht hx
  have nl : ∀ {y o}, (upd H x (.lst (rv7 r))) y = some o → (∀ q, o ≠ .lst q) → (upd (upd H x (.lst (rv7 r))) rl (.lst (as.map V.ref ++ [.ref x]))) y = some o := fun e nl => (upd_ne (ne_of e h1.rl (nl _))).trans e
  obtain ⟨⟨dx, o⟩, ⟨dj, jt⟩, ⟨k1, u1, u2⟩, ⟨k2, f1, f2⟩, ne⟩ := h1.led
  have t : ∀ y b, (upd H x (.lst (rv7 r))) y = some (.tup b) → (upd (upd H x (.lst (rv7 r))) rl (.lst (as.map V.ref ++ [.ref x]))) y = some (.tup b) := fun y b e => nl e (by intro q z; cases z)
  refine ⟨⟨h1.st.upd n3 n4, ⟨⟨dx, nl o (by intro q z; cases z)⟩, ⟨dj, nl jt (by intro q z; cases z)⟩, ⟨k1, nl u1 (by intro q z; cases z), u2.mono t⟩, ⟨k2, nl f1 (by intro q z; cases z), f2.mono t⟩, ne⟩, h1.T.via (fun dx fs e => nl e (by intro q z; cases z)) t (fun ys e => (upd_ne n5.symm).trans e), ?_, ?_, (upd_ne n8).trans h1.cu⟩, ?_, fun y hy => ?_⟩
  · rw [upd_same, List.map_append]
    rfl
  · rw [List.map_append]
    exact LsAt.snoc ((upd_ne xrl).trans upd_same) (h1.as_.mono fun y hy b e => (upd_ne (na.2 y hy).2.2.1).trans e)
  · rw [List.nodup_append]
    refine ⟨na.1, by simp, fun a ha b hb => ?_⟩
    have : b = x := by simpa using hb
    rw [this]
    exact old a ha
  · rcases List.mem_append.mp hy with z | z
    · exact na.2 y z
    · rw [List.mem_singleton.mp z]
      exact ⟨xs, xc, xrl, xrt, xcu⟩
end
def mixF (R : List Rw) (i : Nat) : List Rw := (R.take i).map setF ++ R.drop i
theorem mixF_0 (R : List Rw) : mixF R 0 = R := rfl
theorem mixF_all (R : List Rw) : mixF R R.length = R.map setF := by
  unfold mixF
  rw [List.take_length, List.drop_length, List.append_nil]
theorem mixF_len (R : List Rw) (i : Nat) : (mixF R i).length = R.length := by
  unfold mixF
  rw [List.length_append, List.length_map, List.length_take, List.length_drop]
  omega
theorem mixF_at {R : List Rw} {i : Nat} (h : i < R.length) : (mixF R i)[i]'(by rw [mixF_len]; exact h) = R[i] := by
  unfold mixF
  rw [List.getElem_append_right (by rw [List.length_map, List.length_take]; omega), List.getElem_drop]
  congr 1
  rw [List.length_map, List.length_take]
  omega
theorem mixF_set {R : List Rw} {i : Nat} (h : i < R.length) : (mixF R i).set i (setF R[i]) = mixF R (i + 1) := by
  unfold mixF
  have l : ((R.take i).map setF).length = i := by rw [List.length_map, List.length_take]; omega
  rw [List.set_append_right _ _ (by omega), l, Nat.sub_self, List.drop_eq_getElem_cons h, List.take_add_one, List.getElem?_eq_getElem h]
  show _ ++ setF R[i] :: R.drop (i + 1) = (R.take i ++ [R[i]]).map setF ++ _
  rw [List.map_append, List.append_assoc]
  rfl
theorem rv7_setF (r : Rw) : (rv7 r).set 6 (.bl (!decide (oV (r.e.map (·.1)) = V.non))) = rv7 (setF r) := by
  rw [dn_O]
  unfold rv7 rv6 setF
  cases r.e <;> rfl
theorem cost_ok {uu b pr l sp : Int} (h1 : 1 ≤ uu) (h2 : uu ≤ 9) (h3 : 0 ≤ b) (h4 : 0 ≤ pr) (h5 : pr ≤ 8) (h6 : 0 ≤ l) (h7 : l ≤ 4) (h8 : 0 ≤ sp) (h9 : sp ≤ 100000) : nOk (costI uu [(b, pr)] l sp) := by
  have e : costI uu [(b, pr)] l sp = 0 + minI (unitsI uu sp) b * pr + (unitsI uu sp - minI (unitsI uu sp) b) * l := rfl
  rw [e]
  have u0 : 0 ≤ unitsI uu sp := Int.ediv_nonneg (by omega) (by omega)
  have u1 : unitsI uu sp ≤ 100010 := by
    unfold unitsI
    have := Int.ediv_le_self uu (a := sp + uu - 1) (by omega)
    omega
  have m0 : 0 ≤ minI (unitsI uu sp) b ∧ minI (unitsI uu sp) b ≤ unitsI uu sp := by
    unfold minI
    split <;> omega
  generalize unitsI uu sp = U at *
  generalize minI U b = M at *
  have a1 := Int.mul_nonneg m0.1 h4
  have a2 := Int.mul_le_mul_of_nonneg_left h5 m0.1
  have a3 : 0 ≤ (U - M) * l := Int.mul_nonneg (by omega) h6
  have a4 : (U - M) * l ≤ (U - M) * 4 := Int.mul_le_mul_of_nonneg_left h7 (by omega)
  constructor <;> omega

end K12
set_option maxHeartbeats 4000000
set_option pp.maxSteps 500
namespace K12
open PySem PySem.Spec PyProof.Rows L2 SX TK NdefX K11 LD
open C8 (pe_c)
def spLaw (K : PySem.W.Frag) : Sp := fun vs H Q _ => ∃ (a : Addr) (ns : List Int), vs = [.ref a] ∧ SqL K H a (ns.map V.int) ∧ ns.length ≤ 63 ∧ ∀ H', Q (.bl true) H'
theorem SqL.via {K : PySem.W.Frag} {H H' : Hp} {a : Addr} {xs : List V} (h : SqL K H a xs) (f : ∀ o, H a = some o → H' a = some o) : SqL K H' a xs := by
  rcases h with (h | ⟨o, h⟩) | h
  · exact .inl (.inl (f _ h))
  · exact .inl (.inr ⟨o, f _ h⟩)
  · exact .inr h
theorem ok_law {P : Program} {w : World} {K : PySem.W.Frag} {mg : Str → Option Value} {base : Heap} {f : Addr} {fd : FuncData} (T : Tx K mg) (c_law_state : C8.Cal P w K mg base 1 "_law_state" (spState K) []) (c_law_draw : C8.Cal P w K mg base 1 "_law_draw" spDraw []) (c_law_pick : C8.Cal P w K mg base 2 "_law_pick" spPick []) (c_mkx_Tariff : TKE.MakX P w K mg base 3 "Tariff" (He.ga K "Tariff") (spTrInit K) 3 [] (fun vs _ => vs)) (c_Tariff_cost : C8.Met P w K mg base 2 (He.ga K "Tariff") "cost" (spCost K) []) (c_mk_Ledger : C8.Mak P w K mg base 3 "Ledger" (He.ga K "Ledger") (spLdInit K) []) (c_Ledger_begin : C8.Met P w K mg base 4 (He.ga K "Ledger") "begin" (spLBegin K) []) (c_Ledger_finish : C8.Met P w K mg base 5 (He.ga K "Ledger") "finish" (spLFin K) []) (c_Ledger_pending : C8.Met P w K mg base 1 (He.ga K "Ledger") "pending" (spLPend K) []) (c_Journal_sync : C8.Met P w K mg base 1 (He.ga K "Journal") "sync" (spJSync K) []) (c_law_agrees : C8.Cal P w K mg base 4 "_law_agrees" (spAgrees K) []) (c_law_recovered : C8.Cal P w K mg base 8 "_law_recovered" (spRecv K) [])
    (F : FunD K "law" "law" (defArgs s_law) (defBody s_law) (defScope s_law) [] [] f fd) : FnOk P w K mg base CX0 9 f fd ["script"] (spLaw K) := by
  refine F.ok sc_law (fun vs H Q E h => ?_) (fun cdv A outer s0 H vs Q E hr h => ?_)
  · obtain ⟨a, ns, rfl, _⟩ := h
    rfl
  · obtain ⟨a, ns, rfl, hS, hn, k⟩ := h
    refine ⟨_, PSs.nox (pss_cons (ps_set (i := 1) sc_law.nd rfl (Or.inl rfl) (pe_c c_law_state hr (by decide) rfl (pa_cons (pv 0) pa_nil))) (pss_cons (ps_set (i := 2) sc_law.nd rfl (Or.inl rfl) (TKE.pe_makX c_mkx_Tariff hr (by decide) TKE.none_out rfl (pa_cons (pe_op op_add pe_int (pe_c c_law_draw hr (by decide) rfl (pa_cons (pv 1) (pa_cons pe_int pa_nil)))) (pa_cons (pe_lst (pa_cons (pe_tup (pa_cons (pe_op op_add pe_int (pe_c c_law_draw hr (by decide) rfl (pa_cons (pv 1) (pa_cons pe_int pa_nil)))) (pa_cons (pe_c c_law_draw hr (by decide) rfl (pa_cons (pv 1) (pa_cons pe_int pa_nil))) pa_nil))) pa_nil)) (pa_cons (pe_c c_law_draw hr (by decide) rfl (pa_cons (pv 1) (pa_cons pe_int pa_nil))) pa_nil))))) (pss_cons (ps_set (i := 3) sc_law.nd rfl (Or.inl rfl) (C8.pe_mk c_mk_Ledger hr (by decide) rfl (pa_cons (pv 2) pa_nil))) (pss_cons (ps_set (i := 4) sc_law.nd rfl (Or.inl rfl) (pe_lst pa_nil)) (pss_cons (ps_set (i := 5) sc_law.nd rfl (Or.inl rfl) (pe_c c_law_draw hr (by decide) rfl (pa_cons (pv 1) (pa_cons pe_int pa_nil)))) (pss_cons (ps_set (i := 6) sc_law.nd rfl (Or.inl rfl) pe_int) (pss_cons (ps_for PassesOwn.never rfl (pi_list (pe_slice sl_list (pv 0) po_none (po_some pe_int))) (pg_name (i := 7) sc_law.nd rfl (Or.inl rfl)) (pss_cons (ps_set (i := 5) sc_law.nd rfl (Or.inl rfl) (pe_op op_add (pv 5) (pe_c c_law_draw hr (by decide) rfl (pa_cons (pv 1) (pa_cons pe_int pa_nil))))) (pss_cons (ps_set (i := 8) sc_law.nd rfl (Or.inl rfl) (pe_c c_law_draw hr (by decide) rfl (pa_cons (pv 1) (pa_cons pe_int pa_nil)))) (pss_cons (ps_setLc (i := 9) (own := [("row", 10)]) (g := gName 10) rfl sc_law.nd rfl rfl (sw_true rfl rfl rfl (by decide +kernel)) (pi_list (pv 4)) (blkOk_by (own := [("row", 10)]) (N := ["script", "state", "tariff", "ledger", "rows", "now", "number", "cell", "kind", "open_ones", "row", "again"]) (sc := defScope s_law) (by decide +kernel)) (fun _ _ _ _ _ => pg_name (i := 10) sc_law.nd rfl (Or.inl rfl)) (fun _ _ _ _ _ => pts_one (pt_cmpR op_isN (pe_ix (ixListK K rfl) (pv 10) pe_int (fun _ _ => rfl)) pe_non (nomark _))) (fun _ _ _ _ _ => (pv 10))) (C8.pss_cut (ps_if (pt_cmpR op_lt (pv 8) pe_int (nomark _)) (pss_cons (ps_set (i := 6) sc_law.nd rfl (Or.inl rfl) (pe_op op_add (pe_op op_add (pv 6) pe_int) (pe_c c_law_draw hr (by decide) rfl (pa_cons (pv 1) (pa_cons pe_int pa_nil))))) (pss_cons (ps_expr (C8.pe_mt c_Ledger_begin hr (by decide) (pv 3) (pa_cons (pv 6) (pa_cons pe_str (pa_cons (pe_op op_add_str (pe_op op_add_str pe_str (pe_callTy call_str_int rfl T.f_str (by decide +kernel) (pa_cons (pv 6) pa_nil))) pe_str) (pa_cons (pv 5) pa_nil)))))) (pss_cons (ps_expr (pe_bm PySem.F.plainAttrs_list PySem.F.slot_list_append PySem.F.type_list_append mt_append (pv 4) (pa_cons (pe_lst (pa_cons (pv 6) (pa_cons pe_str (pa_cons (pe_op op_add_str (pe_op op_add_str pe_str (pe_callTy call_str_int rfl T.f_str (by decide +kernel) (pa_cons (pv 6) pa_nil))) pe_str) (pa_cons (pv 5) (pa_cons pe_non (pa_cons pe_non (pa_cons pe_bl pa_nil)))))))) pa_nil))) (pss_one (ps_for PassesOwn.never rfl (pi_list (pv 4)) (pg_name (i := 10) sc_law.nd rfl (Or.inl rfl)) (pss_one (ps_asg (pe_cmpR op_notN (pe_ix ix_list (pv 10) pe_int (fun _ _ => rfl)) pe_non (nomark _)) (pg_sub (pv 10) pe_int set_list)))))))) (pss_one (ps_if (PW.pt (pw_and (pt_cmpR op_lt (pv 8) pe_int (nomark _)) (pw_and1 (pt_cmpR op_gt (pe_callB call_len_seq rfl T.f_len PySem.boot_len (pa_cons (pv 9) pa_nil)) pe_int (nomark _))))) (pss_cons (ps_set (i := 10) sc_law.nd rfl (Or.inl rfl) (pe_c c_law_pick hr (by decide) rfl (pa_cons (pv 1) (pa_cons (pv 9) pa_nil)))) (pss_cons (ps_expr (C8.pe_mt c_Ledger_finish hr (by decide) (pv 3) (pa_cons (pe_ix ix_list (pv 10) pe_int (fun _ _ => rfl)) (pa_cons (pv 5) pa_nil)))) (pss_cons (ps_asg (pv 5) (pg_sub (pv 10) pe_int set_list)) (pss_one (ps_asg (C8.pe_mt c_Tariff_cost hr (by decide) (pv 2) (pa_cons (pe_op op_sub (pv 5) (pe_ix ix_list (pv 10) pe_int (fun _ _ => rfl))) pa_nil)) (pg_sub (pv 10) pe_int set_list)))))) (pss_one (ps_if (pt_cmpR op_eq (pv 8) pe_int (nomark _)) (pss_cons (ps_expr (C8.pe_mt0 c_Journal_sync hr (by decide) (pe_fldC rfl T.cl_Ledger T.na_Ledger_journal (pv 3) rfl))) (pss_one (ps_for PassesOwn.never rfl (pi_list (pv 4)) (pg_name (i := 10) sc_law.nd rfl (Or.inl rfl)) (pss_one (ps_asg (pe_cmpR op_notN (pe_ix ix_list (pv 10) pe_int (fun _ _ => rfl)) pe_non (nomark _)) (pg_sub (pv 10) pe_int set_list)))))) pss_nil))))) (pss_one (ps_if (pt_not (pt_val (pe_c c_law_agrees hr (by decide) rfl (pa_cons (pv 3) (pa_cons (pe_lc (own := [("row", 10)]) (g := gName 10) rfl sc_law.nd (pi_list (pv 4)) (blkOk_by (own := [("row", 10)]) (N := ["script", "state", "tariff", "ledger", "rows", "now", "number", "cell", "kind", "open_ones", "row", "again"]) (sc := defScope s_law) (by decide +kernel)) (fun _ _ _ _ _ => pg_name (i := 10) sc_law.nd rfl (Or.inl rfl)) (fun _ _ _ _ _ => pts_nil) (fun _ _ _ _ _ => (pe_slice (TK.slListK K rfl) (pv 10) po_none (po_some pe_int)))) pa_nil))))) (pss_one (ps_ret pe_bl)) pss_nil))))))) (pss_cons (ps_set (i := 11) sc_law.nd rfl (Or.inl rfl) (pe_c c_law_recovered hr (by decide) rfl (pa_cons (pv 1) (pa_cons (pv 3) (pa_cons (pv 4) (pa_cons (pe_op op_add (pv 5) (pe_c c_law_draw hr (by decide) rfl (pa_cons (pv 1) (pa_cons pe_int pa_nil)))) pa_nil)))))) (C8.pss_cut (ps_if (pt_cmpR op_isN (pv 11) pe_non (nomark _)) (pss_one (ps_ret pe_bl)) pss_nil) (pss_cons (ps_expr (C8.pe_mt c_Ledger_begin hr (by decide) (pv 11) (pa_cons (pe_op op_add (pv 6) pe_int) (pa_cons pe_str (pa_cons pe_str (pa_cons (pe_op op_add (pv 5) pe_int) pa_nil)))))) (pss_one (ps_ret (pe_and (pe_cmpR (op_eqD hr.units) (C8.pe_mt0 c_Ledger_pending hr (by decide) (pv 11)) (pe_lst (pa_cons (pe_op op_add (pv 6) pe_int) pa_nil)) (nomark _)) (pe_one (pe_c c_law_agrees hr (by decide) rfl (pa_cons (pv 3) (pa_cons (pe_lc (own := [("row", 10)]) (g := gName 10) rfl sc_law.nd (pi_list (pv 4)) (blkOk_by (own := [("row", 10)]) (N := ["script", "state", "tariff", "ledger", "rows", "now", "number", "cell", "kind", "open_ones", "row", "again"]) (sc := defScope s_law) (by decide +kernel)) (fun _ _ _ _ _ => pg_name (i := 10) sc_law.nd rfl (Or.inl rfl)) (fun _ _ _ _ _ => pts_nil) (fun _ _ _ _ _ => (pe_slice (TK.slListK K rfl) (pv 10) po_none (po_some pe_int)))) pa_nil))))))))))))))))), ?_⟩
    refine ⟨_, rfl, a, ns, rfl, hS, hn, fun s c H1 s1 hs0 hc0 st1 => ?_⟩
    -- the tariff
    refine ⟨_, rfl, s, c, 9, rfl, st1, by decide, by decide, fun u H2 u0 u1 st2 k2 => ⟨_, _, rfl, rfl, _, rfl, s, c, 4, rfl, st2, by decide, by decide, fun b H3 b0 b1 st3 k3 => ⟨_, _, rfl, rfl, _, rfl, s, c, 9, rfl, st3, by decide, by decide, fun pr H4 p0 p1 st4 k4 => ⟨by show 2 ≤ sizeLine; decide, fun t ht => ⟨by show 1 ≤ sizeLine; decide, fun g hg => ?_⟩⟩⟩⟩⟩
    have k14 := (k2.trans k3).trans k4
    have s45 := same_upd (o := .tup [.int (1 + b), .int pr]) ht
    have s56 := same_upd (o := .lst [.ref t]) hg
    obtain ⟨t1, t2⟩ := st4.tracked ht
    have st5 := st4.upd (o := .tup [.int (1 + b), .int pr]) t1 t2
    obtain ⟨g1, g2⟩ := st5.tracked hg
    have st6 := st5.upd (o := .lst [.ref t]) g1 g2
    have et := s56 _ _ (upd_same (H := H4) (a := t) (o := .tup [.int (1 + b), .int pr]))
    have eg : (upd (upd H4 t (.tup [.int (1 + b), .int pr])) g (.lst [.ref t])) g = some (.lst [.ref t]) := upd_same
    have k16 := k14.trans (Keep.of_same (s45.trans s56))
    clear k14 s45 s56 st5 k2 k3 k4 st2 st3 st4
    generalize upd (upd H4 t (.tup [.int (1 + b), .int pr])) g (.lst [.ref t]) = H6 at *
    clear ht hg
    refine ⟨_, rfl, s, c, 5, rfl, st6, by decide, by decide, fun l H7 l0 l1 st7 k67 => ⟨rfl, rfl, fun tr dx hx hdx ne => ?_⟩⟩
    have k17 := k16.trans k67
    have fa7 : ∀ b o, H b = some o → H7 b = some o := fun b o e => k17 _ _ (s1 _ _ e) (ne_of_none e hs0) (ne_of_none e hc0)
    have eg7 := k67 _ _ eg g1 g2
    have et7 := k67 _ _ et t1 t2
    have s78 := same_own (C := He.ga K "Tariff") (fs := []) hx hdx
    have hBg : BAt (upd (upd H7 dx (.own tr)) tr (.ins (He.ga K "Tariff") dx [])) g [(1 + b, pr)] := ⟨[t], s78 _ _ eg7, ⟨s78 _ _ et7, trivial⟩⟩
    have okU1 : okU (1 + u) = true := by
      unfold okU
      rw [if_pos (by omega)]
      exact decide_eq_true (by omega)
    have okP0 : ∀ i : Int, 0 ≤ i → i ≤ 10 → okP i = true := fun i a b => by
      unfold okP
      rw [if_pos a]
      exact decide_eq_true (by omega)
    have okB1 : okB [(1 + b, pr)] = true := by
      unfold okB
      rw [if_pos (show [(1 + b, pr)].length ≤ 8 from (by show 1 ≤ 8; decide))]
      show (okD (1 + b, pr) && true) = true
      rw [Bool.and_true]
      unfold okD
      rw [if_pos]
      · exact okP0 pr p0 (by omega)
      · show okU (1 + b) = true
        unfold okU
        rw [if_pos (by omega)]
        exact decide_eq_true (by omega)
    have okP1 := okP0 l l0 (by omega)
    have hsn : ∀ b o, H b = some o → b ≠ s ∧ b ≠ c := fun b o e => ⟨ne_of_none e hs0, ne_of_none e hc0⟩
    clear k16 k67 k17 st6 et eg st1 s1 hs0 hc0
    refine ⟨tr, dx, g, 1 + u, l, [(1 + b, pr)], rfl, upd_same, hBg, (show 1 ≤ 40 by decide), fun _ rt H9 f1 f2 f3 f4 => ⟨rfl, ?_⟩, fun ef => absurd (by unfold fltS; rw [if_pos okU1, if_pos okB1, if_pos okP1]) ef⟩
    have x0 : H7 tr = none := by
      cases eq : H7 tr with
      | none => rfl
      | some o => rw [hx] at eq; cases eq
    have r0 : H7 rt = none := by
      cases eq : H7 rt with
      | none => rfl
      | some o => rw [s78 _ _ eq] at f3; cases f3
    have s79 : Same H7 H9 := fun b o e => f4 _ _ (s78 _ _ e) (ne_of_none e x0)
    have hT : TAt K H9 tr rt (1 + u) [(1 + b, pr)] l := ⟨dx, f1, f2⟩
    have st9 := st7.same s79
    obtain ⟨rs1, rc1⟩ := st7.tracked r0
    have fa9 : ∀ b o, H b = some o → H9 b = some o := fun b o e => s79 _ _ (fa7 _ _ e)
    have uu1 : 1 ≤ 1 + u ∧ 1 + u ≤ 9 := by omega
    have bb1 : 0 ≤ 1 + b := by omega
    have hcost : ∀ sp, 0 ≤ sp → sp ≤ 100000 → nOk (costI (1 + u) [(1 + b, pr)] l sp) := fun sp q1 q2 => cost_ok uu1.1 uu1.2 bb1 p0 (by omega) l0 (by omega) q1 q2
    clear okP0 f1 f2 f3 f4 s78 hBg x0 r0 s79 fa7 eg7 et7 hx hdx ne st7 uu1 bb1 p0 p1 b0 b1 l0 l1 u0 u1 g1 g2 t1 t2
    generalize [(1 + b, pr)] = bds at *
    generalize 1 + u = uu at *
    -- the ledger
    refine ⟨_, rfl, fun p dx hp hdx ne => ⟨p, dx, tr, rfl, upd_same, fun j d1 d2 H10 hj hd1 hd2 hL fr => ⟨rfl, ?_⟩⟩⟩
    have so := same_own (C := He.ga K "Ledger") (fs := []) hp hdx
    have s910 : Same H9 H10 := fun b o e => fr b o (so _ _ e) (ne_of_none e hp)
    refine ⟨by show 0 ≤ sizeLine; decide, fun rl hrl => ?_⟩
    have srl := same_upd (o := .lst []) hrl
    have s911 := s910.trans srl
    have st11 := st9.same s911
    obtain ⟨m1, m2⟩ := (st9.same s910).tracked hrl
    have hT11 := hT.same s911
    have hL11 := hL.same srl
    have erl : (upd H10 rl (.lst [])) rl = some (.lst []) := upd_same
    have rlrt : rl ≠ rt := by
      obtain ⟨_, _, ts0, e0, _⟩ := hT.same s910
      exact (ne_of_none e0 hrl).symm
    have fa11 : ∀ b o, H b = some o → (upd H10 rl (.lst [])) b = some o := fun b o e => s911 _ _ (fa9 _ _ e)
    clear so s910 srl s911 fr hj hd1 hd2 hL hT st9 fa9 hrl hp hdx ne
    generalize upd H10 rl (.lst []) = H11 at *
    refine ⟨_, rfl, s, c, 20, rfl, st11, by decide, by decide, fun now H12 w0 w1 st12 k12 => ?_⟩
    have hS12 : SqL K H12 a (ns.map V.int) := K12.SqL.via hS fun o e => k12 _ _ (fa11 _ _ e) (hsn _ _ e).1 (hsn _ _ e).2
    refine ⟨_, rfl, _, rfl, a, _, rfl, hS12, fun cu hcu => ⟨cu, rfl, ⟨_, SqL.of upd_same⟩, ?_⟩⟩
    have lX : (cutV (ns.map V.int) none (some 50)).length ≤ 50 := by
      rw [show (50 : Int) = ((50 : Nat) : Int) from rfl, cutV_to]
      exact List.length_take_le _ _
    generalize cutV (ns.map V.int) none (some 50) = X at *
    have scu := same_upd (o := .lst X) hcu
    obtain ⟨v1, v2⟩ := st12.tracked hcu
    have L12 : LWn K (upd H12 cu (.lst X)) s c p tr rt j d1 d2 rl cu X uu l bds [] 0 [] [] := by
      obtain ⟨_, ⟨m9, hm⟩, cs, hc, _⟩ := id st11
      have nl : ∀ {y o}, H11 y = some o → (∀ q, o ≠ .lst q) → (upd H12 cu (.lst X)) y = some o := fun e nl => scu _ _ (k12 _ _ e (ne_of e hm (nl _)) (ne_of e hc (nl _)))
      obtain ⟨⟨dx, o⟩, ⟨dj, jt⟩, ⟨k1, u1, u2⟩, ⟨k2, f1, f2⟩, ne⟩ := hL11
      have t : ∀ x b, H11 x = some (.tup b) → (upd H12 cu (.lst X)) x = some (.tup b) := fun x b e => nl e (by intro q z; cases z)
      exact ⟨st12.same scu, ⟨⟨dx, nl o (by intro q z; cases z)⟩, ⟨dj, nl jt (by intro q z; cases z)⟩, ⟨k1, nl u1 (by intro q z; cases z), u2.mono t⟩, ⟨k2, nl f1 (by intro q z; cases z), f2.mono t⟩, ne⟩, hT11.via (fun dx fs e => nl e (by intro q z; cases z)) t fun ys e => scu _ _ (k12 _ _ e rs1 rc1), scu _ _ (k12 _ _ erl m1 m2), trivial, upd_same⟩
    have hne : NEn s c rt rl cu := by
      refine ⟨rs1, rc1, m1, m2, rlrt, v1, v2, (ne_of_none (k12 _ _ erl m1 m2) hcu).symm, ?_⟩
      obtain ⟨_, _, ts0, e0, _⟩ := hT11
      exact (ne_of_none (k12 _ _ e0 rs1 rc1) hcu).symm
    have hna : NAn s c rt rl cu [] := ⟨.nil, fun _ h => nomatch h⟩
    clear scu v1 v2 k12 st11 st12 hT11 hL11 erl m1 m2 rlrt fa11 hsn hS hS12 hcu rs1 rc1
    generalize upd H12 cu (.lst X) = H13 at *
    refine for_list (K := K) (a := cu) (xs := X) (fun i σ H' => ∃ (rs : List Rc) (sy : Int) (jj : Nat) (now number : Int) (as : List Addr) (R : List Rw) (v7 v8 v9 v10 : Option V), σ = [some (.ref a), some (.ref s), some (.ref tr), some (.ref p), some (.ref rl), some (.int now), some (.int number), v7, v8, v9, v10, none] ∧ LWn K H' s c p tr rt j d1 d2 rl cu X uu l bds rs sy as R ∧ NAn s c rt rl cu as ∧ MI uu l bds i rs sy jj now number R)
      ⟨[], 0, 0, now, 0, [], [], none, none, none, none, rfl, L12, hna, MI.start uu l bds w0 (by omega)⟩ (fun i σ H' _ q => by
        obtain ⟨_, _, _, _, _, _, _, _, _, _, _, _, q, _⟩ := q
        exact SqL.of q.cu) ?_ ?_
    · clear L12 hna H13 w0 w1 now
      rintro i y σ H1 hi ⟨rs, sy, jj, now, number, as, R, v7, v8, v9, v10, rfl, L1, na, mi⟩
      have hi50 : i < 50 := by
        have := (List.getElem?_eq_some_iff.mp hi).1
        omega
      have las := L1.as_.len
      rw [List.length_map] at las
      refine ⟨_, rfl, _, rfl, s, c, 9, rfl, L1.st, by decide, by decide, fun d H2 d0 d1' st2 k2 => ⟨_, _, rfl, rfl, _, rfl, s, c, 5, rfl, st2, by decide, by decide, fun kd H3 kd0 kd1 st3 k3 => ?_⟩⟩
      have L3 := (L1.keep hne na st2 k2).keep hne na st3 k3
      have mi2 := mi.tick d0 d1'
      have hr0 := mi.rl
      have hR0 := mi.Rl
      have hn0 := mi.n0.2
      clear L1 st2 k2 st3 k3 mi
      refine ⟨_, rfl, rl, rfl, ⟨_, SqL.of L3.rl⟩, fun D hD => ?_⟩
      refine lc_it walk_list (fun q H' => Same H3 H' ∧ ∃ xs : List V, H' D = some (.lst xs) ∧ xs.length ≤ q ∧ ∀ v ∈ xs, ∃ (a : Nat) (ha : a < R.length) (ha2 : a < as.length), v = .ref as[a] ∧ R[a].e = none) ⟨same_upd hD, [], upd_same, Nat.le_refl _, fun _ h => nomatch h⟩ (fun i H' _ q => SqL.of (q.1 _ _ L3.rl)) (fun q x H4 H5 hq p9 y => ?_) (fun H4 p9 => ?_)
      · obtain ⟨s4, xs, e4, l4, p4⟩ := p9
        obtain ⟨rfl, hx⟩ := y
        rw [List.length_map] at hq
        have hq2 : q < R.length := by omega
        obtain ⟨_, ht⟩ := (L3.same s4).at_ hq2
        rw [List.getElem?_map, List.getElem?_eq_getElem hq] at hx
        obtain rfl := Option.some.inj hx
        refine ⟨rfl, _, rfl, as[q], _, 4, oV (R[q].e.map (·.1)), rfl, rfl, SqL.of ht, rfl, rfl, _, rfl, ?_⟩
        rw [dn_O]
        cases he : R[q].e with
        | some x => exact iteF ⟨s4, xs, e4, Nat.le_succ_of_le l4, p4⟩
        | none =>
          refine iteT ⟨_, rfl, _, e4, by rw [sizeLine_eq]; omega, fun b o eb => (upd_ne (ne_of_none eb hD)).trans (s4 _ _ eb), xs ++ [.ref as[q]], upd_same, by rw [List.length_append]; exact Nat.succ_le_succ l4, fun v hv => ?_⟩
          rcases List.mem_append.mp hv with z | z
          · exact p4 v z
          · rw [List.mem_singleton.mp z]
            exact ⟨q, hq2, hq, rfl, he⟩
      obtain ⟨s4, xs, eD, lxs, pxs⟩ := p9
      rw [List.length_map, las] at lxs
      have L4 := L3.same s4
      obtain ⟨Ds, Dc⟩ := L3.st.tracked hD
      clear s4 L3 hD
      have flag : ∀ {Ha : Hp} {rs' : List Rc} {sy' : Int} {as' : List Addr} {R' : List Rw} {i' : Nat}, LWn K Ha s c p tr rt j d1 d2 rl cu X uu l bds rs' sy' as' (mixF R' i') → NAn s c rt rl cu as' → ∀ (h : i' < R'.length), ∃ h2 : i' < as'.length, Ha as'[i'] = some (.lst (rv7 R'[i'])) ∧ LWn K (upd Ha as'[i'] (.lst ((rv7 R'[i']).set 6 (.bl (!decide (oV (R'[i'].e.map (·.1)) = V.non)))))) s c p tr rt j d1 d2 rl cu X uu l bds rs' sy' as' (mixF R' (i' + 1)) := fun {Ha rs' sy' as' R' i'} hLW hNA h => by
        obtain ⟨h2, e2⟩ := hLW.at_ (a := i') (by rw [mixF_len]; exact h)
        rw [mixF_at h] at e2
        refine ⟨h2, e2, ?_⟩
        rw [rv7_setF, ← mixF_set h]
        exact hLW.row hNA h2 _
      refine ⟨fun σ' H' => ∃ (rs' : List Rc) (sy' : Int) (jj' : Nat) (number' : Int) (as' : List Addr) (R' : List Rw) (v10 : Option V), σ' = [some (.ref a), some (.ref s), some (.ref tr), some (.ref p), some (.ref rl), some (.int (now + d)), some (.int number'), some y, some (.int kd), some (.ref D), v10, none] ∧ LWn K H' s c p tr rt j d1 d2 rl cu X uu l bds rs' sy' as' R' ∧ NAn s c rt rl cu as' ∧ MI uu l bds (i + 1) rs' sy' jj' (now + d) number' R', ?_, ?_⟩
      · refine ⟨_, rfl, _, _, rfl, rfl, _, rfl, ?_⟩
        by_cases c1 : kd < 2
        · rw [decide_eq_true c1]
          -- begin
          refine iteT ⟨_, rfl, _, _, rfl, rfl, _, rfl, s, c, 3, rfl, L4.st, by decide, by decide, fun dn H5 dn0 dn1 st5 k45 => ⟨_, _, rfl, rfl, ?_⟩⟩
          have L5 := L4.keep hne na st5 k45
          obtain ⟨o1, o2, leg, rok, mi3⟩ := mi2.begin_ hi50 hr0 hR0 hn0 dn0 dn1
          obtain ⟨dx, hp⟩ := L5.led.o
          have lb := bob_len o1
          have ln := numS_len o1.ab
          unfold bobS at lb
          simp only [cat_len] at lb
          have lens := S_len' rs mi2.rc
          refine ⟨_, rfl, p, dx, _, rfl, hp, rfl, _, rfl, _, rfl, _, rfl, numS_log o1.ab, _, _, rfl, rfl, by unfold numS at lb; rw [sizeLine_eq]; omega, _, _, rfl, rfl, by unfold numS at lb; rw [cat_len, sizeLine_eq]; omega, _, rfl, p, tr, j, d1, d2, rs, sy, number + 1 + dn, now + d, "ann@x", bobS (number + 1 + dn), rfl, L5.led, o1, o2, rok.len, lens, by omega, leg, fun H6 hL6 f6 => ?_⟩
          have L6 := L5.frl hL6 f6
          refine ⟨_, rfl, .inl ⟨rfl, _, SqL.of L6.rl⟩, _, rfl, _, rfl, _, rfl, numS_log o1.ab, _, _, rfl, rfl, by unfold numS at lb; rw [sizeLine_eq]; omega, _, _, rfl, rfl, by unfold numS at lb; rw [cat_len, sizeLine_eq]; omega, _, rfl, by show 7 ≤ sizeLine; decide, fun x hx => ⟨rl, _, _, rfl, rfl, (same_upd hx) _ _ L6.rl, by rw [List.length_map, sizeLine_eq]; omega, ?_⟩⟩
          obtain ⟨L8, na8⟩ := L6.push hne na hx ⟨number + 1 + dn, now + d, none, false⟩
          refine ⟨_, rfl, rl, rfl, ⟨_, SqL.of L8.rl⟩, for_list (K := K) (a := rl) (xs := (as ++ [x]).map V.ref) (fun q σ H' => ∃ v10, σ = [some (.ref a), some (.ref s), some (.ref tr), some (.ref p), some (.ref rl), some (.int (now + d)), some (.int (number + 1 + dn)), some y, some (.int kd), some (.ref D), v10, none] ∧ LWn K H' s c p tr rt j d1 d2 rl cu X uu l bds (rs ++ [Rc.op (number + 1 + dn) "ann@x" (bobS (number + 1 + dn)) (now + d)]) ((catS (rs ++ [Rc.op (number + 1 + dn) "ann@x" (bobS (number + 1 + dn)) (now + d)])).length : Nat) (as ++ [x]) (mixF (R ++ [⟨number + 1 + dn, now + d, none, false⟩]) q))
            ⟨_, rfl, by rw [mixF_0]; exact L8⟩ (fun q σ H' _ z => by obtain ⟨_, _, z⟩ := z; exact SqL.of z.rl) ?_ ?_⟩
          · rintro q y2 σ H9 hq ⟨w10, rfl, L9⟩
            have hq2 : q < (as ++ [x]).length := by
              have := (List.getElem?_eq_some_iff.mp hq).1
              rw [List.length_map] at this
              exact this
            rw [List.getElem?_map, List.getElem?_eq_getElem hq2] at hq
            obtain rfl := Option.some.inj hq
            obtain ⟨h2, e2, L10⟩ := flag L9 na8 (by rw [List.length_append] at hq2 ⊢; exact Nat.lt_of_lt_of_le hq2 (by show as.length + 1 ≤ R.length + 1; omega))
            exact ⟨_, rfl, _, _, 4, oV _, rfl, rfl, SqL.of e2, rfl, rfl, _, rfl, _, _, 6, 6, rfl, rfl, e2, rfl, _, rfl, L10⟩
          · rintro σ H9 ⟨w10, rfl, L9⟩
            have e9 : ((as ++ [x]).map V.ref).length = (R ++ [(⟨number + 1 + dn, now + d, none, false⟩ : Rw)]).length := by
              rw [List.length_map, List.length_append, List.length_append, las]
              rfl
            rw [e9, mixF_all] at L9
            exact ⟨_, _, _, _, _, _, _, rfl, L9, na8, mi3⟩
        · rw [decide_eq_false c1]
          have keep : ∀ v10 : Option V, ∃ (rs' : List Rc) (sy' : Int) (jj' : Nat) (number' : Int) (as' : List Addr) (R' : List Rw) (w10 : Option V), [some (V.ref a), some (V.ref s), some (V.ref tr), some (V.ref p), some (V.ref rl), some (V.int (now + d)), some (V.int number), some y, some (V.int kd), some (V.ref D), v10, none] = [some (.ref a), some (.ref s), some (.ref tr), some (.ref p), some (.ref rl), some (.int (now + d)), some (.int number'), some y, some (.int kd), some (.ref D), w10, none] ∧ LWn K H4 s c p tr rt j d1 d2 rl cu X uu l bds rs' sy' as' R' ∧ NAn s c rt rl cu as' ∧ MI uu l bds (i + 1) rs' sy' jj' (now + d) number' R' := fun v10 => ⟨_, _, _, _, _, _, _, rfl, L4, na, mi2⟩
          have third : ∀ v10 : Option V, kd = 4 ∨ kd ≠ 4 := fun _ => by omega
          have lxl : ((xs.length : Int) > 0) = ((xs.length : Int) > 0) := rfl
          have rest : ∀ Z : Prop, (kd = 4 → Z) → (kd ≠ 4 → Z) → Z := fun Z a b => by
            by_cases q : kd = 4
            · exact a q
            · exact b q
          refine iteF ⟨_, rfl, _, _, rfl, rfl, _, rfl, ?_⟩
          by_cases c2 : kd < 4
          · rw [decide_eq_true c2]
            refine iteT ⟨_, rfl, D, _, rfl, .inl (SqL.of eD), _, _, rfl, rfl, _, rfl, ?_⟩
            by_cases c3 : xs.length = 0
            · rw [decide_eq_false (by omega)]
              refine iteF ⟨_, rfl, rfl, _, rfl, ?_⟩
              rw [dec_int, show (kd == 4) = false by simp only [beq_eq_false_iff_ne]; omega]
              exact iteF (keep _)
            · rw [decide_eq_true (by omega)]
              -- finish
              refine iteT ⟨_, rfl, _, rfl, s, c, _, rfl, L4.st, .inr ⟨D, xs, rfl, eD, Ds, Dc, by omega, by omega, fun v hv H5 st5 k45 => ?_⟩⟩
              have L5 := L4.keep hne na st5 k45
              obtain ⟨a9, ha9, ha2, rfl, he9⟩ := pxs v hv
              obtain ⟨_, hx5⟩ := L5.at_ ha9
              have hnm := mi2.nm _ (List.getElem_mem ha9)
              have ht9 := (mi2.ok _ (List.getElem_mem ha9)).t
              have htt := mi2.t0
              obtain ⟨o1, o2, hfind, rok, mi3⟩ := mi2.fin_ hi50 hr0 ha9 he9 (hcost _ (by omega) (by have := ht9.1; omega))
              have lens := S_len' rs mi2.rc
              obtain ⟨dx, hp⟩ := L5.led.o
              refine ⟨_, rfl, p, dx, _, rfl, hp, rfl, _, rfl, as[a9], _, 0, .int R[a9].n, rfl, rfl, SqL.of hx5, rfl, _, rfl, p, tr, rt, j, d1, d2, uu, l, bds, rs, sy, R[a9].n, now + d, R[a9].un, rfl, L5.led, L5.T, okU1, okB1, okP1, hfind, o1, o2, hcost _ (by show 0 ≤ now + d - R[a9].t; omega) (by show now + d - R[a9].t ≤ 100000; have := ht9.1; omega), rok.len, lens, by omega, mi2.g.disj, fun H6 hL6 f6 => ?_⟩
              have L6 := L5.frl hL6 f6
              obtain ⟨_, hx6⟩ := L6.at_ ha9
              refine ⟨_, rfl, _, rfl, as[a9], _, 4, 4, rfl, rfl, hx6, rfl, ?_⟩
              have T7 : TAt K (upd H6 as[a9] (.lst ((rv7 R[a9]).set 4 (.int (now + d))))) tr rt uu bds l := L6.T.via (fun dx fs e => (upd_ne (ne_of e hx6 (by intro z; cases z))).trans e) (fun x b e => (upd_ne (ne_of e hx6 (by intro z; cases z))).trans e) fun ys e => (upd_ne (na.2 _ (List.getElem_mem ha2)).2.2.2.1.symm).trans e
              obtain ⟨dt, htr, _⟩ := id T7
              refine ⟨_, rfl, tr, dt, _, rfl, htr, rfl, _, rfl, _, rfl, as[a9], _, 3, .int R[a9].t, rfl, rfl, SqL.of upd_same, rfl, _, _, rfl, rfl, tr, rt, uu, l, _, bds, rfl, T7, okU1, okB1, okP1, _, rfl, as[a9], _, 5, 5, rfl, rfl, upd_same, rfl, ?_⟩
              rw [upd_upd]
              exact ⟨_, _, _, _, _, _, _, rfl, L6.row na ha2 { R[a9] with e := some (now + d, costI uu bds l (now + d - R[a9].t), rs.length) }, na, mi3⟩
          · rw [decide_eq_false c2]
            refine iteF (iteF ⟨_, rfl, rfl, _, rfl, ?_⟩)
            rw [dec_int]
            by_cases c4 : kd = 4
            · rw [show (kd == 4) = true by rw [c4]; rfl]
              obtain ⟨⟨dx, hp⟩, ⟨dj, hj⟩, ⟨k1, u1, u2⟩, ⟨k2, f1, f2⟩, ne⟩ := id L4.led
              have hcl := catS_len (S_len' rs mi2.rc)
              refine iteT ⟨_, rfl, p, dx, _, _, rfl, hp, rfl, j, dj, _, rfl, hj, rfl, j, _, sy, rfl, ⟨dj, hj⟩, by omega, fun H6 hj6 f6 => ?_⟩
              have t6 : ∀ y b, H4 y = some (.tup b) → H6 y = some (.tup b) := fun y b z => f6 _ _ z (ne_of z hj (by intro z; cases z))
              have hL6 : LedAt K H6 p tr j d1 d2 rs ((catS rs).length : Nat) := ⟨⟨dx, f6 _ _ hp (jt_ne hp hj)⟩, hj6, ⟨k1, f6 _ _ u1 (ne_of u1 hj (by intro z; cases z)), u2.mono t6⟩, ⟨k2, f6 _ _ f1 (ne_of f1 hj (by intro z; cases z)), f2.mono t6⟩, ne⟩
              have L6 := L4.frl hL6 fun b o e b1 _ _ => f6 _ _ e b1
              have mi3 := mi2.sync
              refine ⟨_, rfl, rl, rfl, ⟨_, SqL.of L6.rl⟩, for_list (K := K) (a := rl) (xs := as.map V.ref) (fun q σ H' => ∃ v10, σ = [some (.ref a), some (.ref s), some (.ref tr), some (.ref p), some (.ref rl), some (.int (now + d)), some (.int number), some y, some (.int kd), some (.ref D), v10, none] ∧ LWn K H' s c p tr rt j d1 d2 rl cu X uu l bds rs ((catS rs).length : Nat) as (mixF R q))
                ⟨_, rfl, by rw [mixF_0]; exact L6⟩ (fun q σ H' _ z => by obtain ⟨_, _, z⟩ := z; exact SqL.of z.rl) ?_ ?_⟩
              · rintro q y2 σ H9 hq ⟨w10, rfl, L9⟩
                have hq2 : q < as.length := by
                  have := (List.getElem?_eq_some_iff.mp hq).1
                  rw [List.length_map] at this
                  exact this
                rw [List.getElem?_map, List.getElem?_eq_getElem hq2] at hq
                obtain rfl := Option.some.inj hq
                obtain ⟨h2, e2, L10⟩ := flag L9 na (by omega)
                exact ⟨_, rfl, _, _, 4, oV _, rfl, rfl, SqL.of e2, rfl, rfl, _, rfl, _, _, 6, 6, rfl, rfl, e2, rfl, _, rfl, L10⟩
              · rintro σ H9 ⟨w10, rfl, L9⟩
                rw [List.length_map, las, mixF_all] at L9
                exact ⟨_, _, _, _, _, _, _, rfl, L9, na, mi3⟩
            · rw [show (kd == 4) = false by simp only [beq_eq_false_iff_ne]; omega]
              exact iteF (keep _)
      · rintro σ' H5 ⟨rs', sy', jj', number', as', R', v10, rfl, L5, na5, mi5⟩
        have las5 := L5.as_.len
        rw [List.length_map] at las5
        refine ⟨_, rfl, _, rfl, rl, rfl, ⟨_, SqL.of L5.rl⟩, fun D6 hD6 => ?_⟩
        -- LOOPEND
        have R99 : R'.length ≤ 51 := by
          have := mi5.Rl
          omega
        refine lc_itN walk_list (fun q H' => Same H5 H' ∧ ∃ bs : List Addr, H' D6 = some (.lst (bs.map V.ref)) ∧ LsAt H' bs ((R'.take q).map rv6) ∧ ∀ y ∈ bs, y ≠ D6) ⟨same_upd hD6, [], upd_same, trivial, fun _ h => nomatch h⟩ (fun q H' _ z => SqL.of (z.1 _ _ L5.rl)) (fun q x H7 H8 hq p9 yy => ?_) (fun H7 p9 => ?_)
        · obtain ⟨s7, bs, e1, e2, e3⟩ := p9
          obtain ⟨rfl, hx⟩ := yy
          rw [List.length_map] at hq
          have hq2 : q < R'.length := by omega
          obtain ⟨_, ht⟩ := (L5.same s7).at_ hq2
          rw [List.getElem?_map, List.getElem?_eq_getElem hq] at hx
          obtain rfl := Option.some.inj hx
          refine ⟨rfl, _, rfl, _, rfl, _, _, rfl, SqL.of ht, fun w hw => ?_⟩
          have wD : w ≠ D6 := (ne_of_none e1 hw).symm
          refine ⟨_, (upd_ne wD.symm).trans e1, ?_, fun b o eb => (upd_ne (ne_of_none eb hD6)).trans ((same_upd hw) _ _ (s7 _ _ eb)), bs ++ [w], ?_, ?_, fun y hy => ?_⟩
          · have l1 := e2.len
            rw [List.length_map, List.length_take] at l1
            rw [List.length_map, sizeLine_eq]
            omega
          · rw [upd_same, List.map_append]
            rfl
          · rw [List.take_add_one, List.getElem?_eq_getElem hq2]
            show LsAt _ _ ((R'.take q ++ [R'[q]]).map rv6)
            rw [List.map_append]
            exact LsAt.snoc ((upd_ne wD).trans upd_same) (e2.mono fun y hy b eb => (upd_ne (e3 y hy)).trans ((same_upd hw) _ _ eb))
          · rcases List.mem_append.mp hy with z | z
            · exact e3 y z
            · rw [List.mem_singleton.mp z]
              exact wD
        · obtain ⟨s7, bs, e1, e2, e3⟩ := p9
          rw [List.length_map, las5, List.take_length] at e2
          have r9 := mi5.rl
          have R9 := mi5.Rl
          exact ⟨p, tr, j, d1, d2, D6, rs', sy', bs, R', rfl, L5.led.same s7, by omega, mi5.all, mi5.inc, mi5.ok, by omega, e1, e2, fun H9 s9 => ⟨_, rfl, iteF ⟨rs', sy', jj', now + d, number', as', R', _, _, _, _, rfl, L5.same (s7.trans s9), na5, mi5⟩⟩⟩
    · clear L12 hna H13 w0 w1 now
      rintro σ H1 ⟨rs, sy, jj, now, number, as, R, v7, v8, v9, v10, rfl, L1, na, mi⟩
      have las := L1.as_.len
      rw [List.length_map] at las
      have r9 := mi.rl
      have R9 := mi.Rl
      have R99 : R.length ≤ 51 := by omega
      have n9 := mi.n0
      have t9 := mi.t0
      obtain ⟨n1, n2, n3, n4, n5, n6, n7, n8, n10⟩ := id hne
      refine ⟨_, rfl, _, rfl, _, rfl, _, rfl, _, rfl, s, c, 40, rfl, L1.st, by decide, by decide, fun d H2 d0 d1' st2 k2 => ⟨_, _, rfl, rfl, ?_⟩⟩
      have L2 := L1.keep hne na st2 k2
      have hxe : ∀ r ∈ R, ∀ x, r.e = some x → x.2.1 = costI uu bds l (x.1 - r.t) ∧ (r.f = true → x.2.2 < jj) := fun r hr x e => ⟨(mi.xe r hr x e).1, (mi.xe r hr x e).2.2⟩
      have hcc : ∀ r ∈ R, nOk (mxI (now + d) r.t) ∧ nOk (costI uu bds l (mxI (now + d) r.t - r.t)) := fun r hr => by
        have a1 := (mi.nm r hr).2
        have a2 := (mi.ok r hr).t
        have e : mxI (now + d) r.t = now + d := by
          unfold mxI
          rw [if_neg (by omega)]
        rw [e]
        exact ⟨⟨by omega, by omega⟩, hcost _ (by omega) (by have := a2.1; omega)⟩
      refine ⟨s, c, p, tr, rt, j, d1, d2, rl, uu, l, bds, rs, sy, now + d, as, R, jj, rfl, st2, L2.led, L2.T, okU1, okB1, okP1, n1, n2, n3, n4, fun x hx => ⟨(na.2 x hx).1, (na.2 x hx).2.1⟩, mi.g, mi.rc, by omega, mi.jl, mi.sy, mi.ag, mi.inc, mi.ok, by omega, hxe, hcc, L2.rl, L2.as_, fun p' j' d1x d2x rs2 sy' H3 hL' hun hkn hl2 hrc2 hj' hd1' hd2' st3 k3 => ?_⟩
      refine ⟨fun σ' H' => σ' = [some (.ref a), some (.ref s), some (.ref tr), some (.ref p), some (.ref rl), some (.int now), some (.int number), v7, v8, v9, v10, some (.ref p')] ∧ H' = H3, ?_, ?_⟩
      · refine ⟨_, rfl, rfl, _, rfl, ?_⟩
        rw [decide_eq_false (show ¬ V.ref p' = V.non from fun z => by cases z)]
        exact iteF ⟨rfl, rfl⟩
      rintro σ' H3' ⟨rfl, e3⟩
      obtain rfl : H3 = H3' := e3.symm
      obtain ⟨dx', hp'⟩ := id hL'.o
      have o1 : nOk (number + 1) := ⟨by omega, by omega⟩
      have o2 : nOk (now + 100) := ⟨by omega, by omega⟩
      have hln : (lineS (.op (number + 1) "a@b" "c@d" (now + 100))).length ≤ 60 := by
        have a := numS_len o1.ab
        have b := numS_len o2.ab
        unfold lineS
        simp only [cat_len, emp0, k_op, k_bl]
        rw [show ("a@b" : Str).length = 3 by decide +kernel, show ("c@d" : Str).length = 3 by decide +kernel]
        omega
      have hleg : (st rs2).legal (.op (number + 1) "a@b" "c@d" (now + 100)) = true := by
        show (!(st rs2).knows (number + 1)) = true
        cases q : (st rs2).knows (number + 1) with
        | false => rfl
        | true =>
          obtain ⟨r, hr, e⟩ := hkn _ q
          have := (mi.nm r hr).1
          omega
      refine ⟨_, rfl, p', dx', _, rfl, hp', rfl, _, rfl, _, _, rfl, rfl, _, rfl, _, _, rfl, rfl, p', tr, j', d1x, d2x, rs2, sy', number + 1, now + 100, "a@b", "c@d", rfl, hL', o1, o2, hln, S_len' rs2 hrc2, by omega, hleg, fun H4 hL4 f4 => ?_⟩
      have keep4 : ∀ b o, H2 b = some o → H3 b = some o → H4 b = some o := fun b o e e3 => f4 _ _ e3 (ne_of_none e hj') (ne_of_none e hd1') (ne_of_none e hd2')
      have k24 : Keep H2 H4 s c := fun b o e q1 q2 => keep4 b o e (k3 b o e q1 q2)
      have st4 : StAt H4 s c := by
        obtain ⟨_, ⟨m2, hm2⟩, cs2, hc2, _⟩ := id st2
        obtain ⟨n0, ⟨m3, hm3⟩, cs3, hc3, l63⟩ := id st3
        exact ⟨n0, ⟨m3, f4 _ _ hm3 (ne_of_none hm2 hj') (ne_of_none hm2 hd1') (ne_of_none hm2 hd2')⟩, cs3, f4 _ _ hc3 (ne_of_none hc2 hj') (ne_of_none hc2 hd1') (ne_of_none hc2 hd2'), l63⟩
      have L4 := L2.keep hne na st4 k24
      obtain ⟨dx4, hp4⟩ := id hL4.o
      have est : (st (rs2 ++ [.op (number + 1) "a@b" "c@d" (now + 100)])).un = [⟨number + 1, "a@b", "c@d", now + 100⟩] := by
        rw [st_snoc]
        show (st rs2).un ++ [_] = _
        rw [hun]
        rfl
      have okN : ∀ v ∈ ([.int (number + 1)] : List V), okV v := fun v hv => by
        rw [List.mem_singleton.mp hv]
        exact o1.big
      refine ⟨_, rfl, p', dx4, _, rfl, hp4, rfl, p', tr, j', d1x, d2x, rs2 ++ [.op (number + 1) "a@b" "c@d" (now + 100)], _, [⟨number + 1, "a@b", "c@d", now + 100⟩], rfl, hL4, by rw [List.length_append]; show rs2.length + 1 ≤ 110; omega, by rw [est], (show 1 < 64 by decide), List.pairwise_singleton _ _, fun q H5 s5 q0 eq5 => ?_⟩
      refine ⟨_, rfl, _, _, rfl, rfl, by show 1 ≤ sizeLine; decide, fun w hw => ?_⟩
      have sw := same_upd (o := .lst [.int (number + 1)]) hw
      refine ⟨lstD [.int (number + 1)], lstD [.int (number + 1)], lstD_dp (sw _ _ eq5) okN, lstD_dp upd_same okN, (lstD_ok okN).1, (lstD_ok okN).1, _, rfl, ?_⟩
      rw [(lstD_ok okN).2]
      have L6 := (L4.same s5).same sw
      refine iteT ⟨_, rfl, _, rfl, rl, rfl, ⟨_, SqL.of L6.rl⟩, fun D6 hD6 => ?_⟩
      refine lc_itN walk_list (fun q H' => Same (upd H5 w (.lst [.int (number + 1)])) H' ∧ ∃ bs : List Addr, H' D6 = some (.lst (bs.map V.ref)) ∧ LsAt H' bs ((R.take q).map rv6) ∧ ∀ y ∈ bs, y ≠ D6) ⟨same_upd hD6, [], upd_same, trivial, fun _ h => nomatch h⟩ (fun q H' _ z => SqL.of (z.1 _ _ L6.rl)) (fun q x H7 H8 hq p9 yy => ?_) (fun H7 p9 => ?_)
      · obtain ⟨s7, bs, e1, e2, e3⟩ := p9
        obtain ⟨rfl, hx⟩ := yy
        rw [List.length_map] at hq
        have hq2 : q < R.length := by omega
        obtain ⟨_, ht⟩ := (L6.same s7).at_ hq2
        rw [List.getElem?_map, List.getElem?_eq_getElem hq] at hx
        obtain rfl := Option.some.inj hx
        refine ⟨rfl, _, rfl, _, rfl, _, _, rfl, SqL.of ht, fun w hw => ?_⟩
        have wD : w ≠ D6 := (ne_of_none e1 hw).symm
        refine ⟨_, (upd_ne wD.symm).trans e1, ?_, fun b o eb => (upd_ne (ne_of_none eb hD6)).trans ((same_upd hw) _ _ (s7 _ _ eb)), bs ++ [w], ?_, ?_, fun y hy => ?_⟩
        · have l1 := e2.len
          rw [List.length_map, List.length_take] at l1
          rw [List.length_map, sizeLine_eq]
          omega
        · rw [upd_same, List.map_append]
          rfl
        · rw [List.take_add_one, List.getElem?_eq_getElem hq2]
          show LsAt _ _ ((R.take q ++ [R[q]]).map rv6)
          rw [List.map_append]
          exact LsAt.snoc ((upd_ne wD).trans upd_same) (e2.mono fun y hy b eb => (upd_ne (e3 y hy)).trans ((same_upd hw) _ _ eb))
        · rcases List.mem_append.mp hy with z | z
          · exact e3 y z
          · rw [List.mem_singleton.mp z]
            exact wD
      · obtain ⟨s7, bs, e1, e2, e3⟩ := p9
        rw [List.length_map, las, List.take_length] at e2
        exact ⟨p, tr, j, d1, d2, D6, rs, sy, bs, R, rfl, L6.led.same s7, by omega, mi.all, mi.inc, mi.ok, by omega, e1, e2, fun H9 s9 => k _⟩

end K12
set_option maxHeartbeats 0
namespace K12
open PySem PySem.Spec PyProof.Rows L2 SX TK NdefX K11 LD
/-! ### the head: facts by names, the run -/
def d_Journal___init : He.DefD := ⟨("Journal", some "__init__"), "__init__", "Journal.__init__", defArgs s_Journal___init, defBody s_Journal___init, defScope s_Journal___init, [], []⟩
def d_Journal_append : He.DefD := ⟨("Journal", some "append"), "append", "Journal.append", defArgs s_Journal_append, defBody s_Journal_append, defScope s_Journal_append, [], []⟩
def d_Journal_sync : He.DefD := ⟨("Journal", some "sync"), "sync", "Journal.sync", defArgs s_Journal_sync, defBody s_Journal_sync, defScope s_Journal_sync, [], []⟩
def d_Journal_after_crash : He.DefD := ⟨("Journal", some "after_crash"), "after_crash", "Journal.after_crash", defArgs s_Journal_after_crash, defBody s_Journal_after_crash, defScope s_Journal_after_crash, [], []⟩
def d_checksum : He.DefD := ⟨("checksum", none), "checksum", "checksum", defArgs s_checksum, defBody s_checksum, defScope s_checksum, [], []⟩
def d_sealed : He.DefD := ⟨("sealed", none), "sealed", "sealed", defArgs s_sealed, defBody s_sealed, defScope s_sealed, [], []⟩
def d_read_journal : He.DefD := ⟨("read_journal", none), "read_journal", "read_journal", defArgs s_read_journal, defBody s_read_journal, defScope s_read_journal, [], []⟩
def d_is_name : He.DefD := ⟨("is_name", none), "is_name", "is_name", defArgs s_is_name, defBody s_is_name, defScope s_is_name, [], []⟩
def d_is_address : He.DefD := ⟨("is_address", none), "is_address", "is_address", defArgs s_is_address, defBody s_is_address, defScope s_is_address, [], []⟩
def d_read_number : He.DefD := ⟨("read_number", none), "read_number", "read_number", defArgs s_read_number, defBody s_read_number, defScope s_read_number, [], []⟩
def d_split_address : He.DefD := ⟨("split_address", none), "split_address", "split_address", defArgs s_split_address, defBody s_split_address, defScope s_split_address, [], []⟩
def d_consists_of : He.DefD := ⟨("_consists_of", none), "_consists_of", "_consists_of", defArgs s_consists_of, defBody s_consists_of, defScope s_consists_of, [], []⟩
def d_Ledger___init : He.DefD := ⟨("Ledger", some "__init__"), "__init__", "Ledger.__init__", defArgs s_Ledger___init, defBody s_Ledger___init, defScope s_Ledger___init, [], []⟩
def d_Ledger_begin : He.DefD := ⟨("Ledger", some "begin"), "begin", "Ledger.begin", defArgs s_Ledger_begin, defBody s_Ledger_begin, defScope s_Ledger_begin, [], []⟩
def d_Ledger_finish : He.DefD := ⟨("Ledger", some "finish"), "finish", "Ledger.finish", defArgs s_Ledger_finish, defBody s_Ledger_finish, defScope s_Ledger_finish, [], []⟩
def d_Ledger_close : He.DefD := ⟨("Ledger", some "close"), "close", "Ledger.close", defArgs s_Ledger_close, defBody s_Ledger_close, defScope s_Ledger_close, [], []⟩
def d_Ledger_is_open : He.DefD := ⟨("Ledger", some "is_open"), "is_open", "Ledger.is_open", defArgs s_Ledger_is_open, defBody s_Ledger_is_open, defScope s_Ledger_is_open, [], []⟩
def d_Ledger_is_known : He.DefD := ⟨("Ledger", some "is_known"), "is_known", "Ledger.is_known", defArgs s_Ledger_is_known, defBody s_Ledger_is_known, defScope s_Ledger_is_known, [], []⟩
def d_Ledger_answer_of : He.DefD := ⟨("Ledger", some "answer_of"), "answer_of", "Ledger.answer_of", defArgs s_Ledger_answer_of, defBody s_Ledger_answer_of, defScope s_Ledger_answer_of, [], []⟩
def d_Ledger_bills : He.DefD := ⟨("Ledger", some "bills"), "bills", "Ledger.bills", defArgs s_Ledger_bills, defBody s_Ledger_bills, defScope s_Ledger_bills, [], []⟩
def d_Ledger_pending : He.DefD := ⟨("Ledger", some "pending"), "pending", "Ledger.pending", defArgs s_Ledger_pending, defBody s_Ledger_pending, defScope s_Ledger_pending, [], []⟩
def d_Ledger_greatest : He.DefD := ⟨("Ledger", some "greatest"), "greatest", "Ledger.greatest", defArgs s_Ledger_greatest, defBody s_Ledger_greatest, defScope s_Ledger_greatest, [], []⟩
def d_recover : He.DefD := ⟨("recover", none), "recover", "recover", defArgs s_recover, defBody s_recover, defScope s_recover, [], []⟩
def d_take_record : He.DefD := ⟨("_take_record", none), "_take_record", "_take_record", defArgs s_take_record, defBody s_take_record, defScope s_take_record, [], []⟩
def d_take_open : He.DefD := ⟨("_take_open", none), "_take_open", "_take_open", defArgs s_take_open, defBody s_take_open, defScope s_take_open, [], []⟩
def d_take_close : He.DefD := ⟨("_take_close", none), "_take_close", "_take_close", defArgs s_take_close, defBody s_take_close, defScope s_take_close, [], []⟩
def d_Tariff___init : He.DefD := ⟨("Tariff", some "__init__"), "__init__", "Tariff.__init__", defArgs s_Tariff___init, defBody s_Tariff___init, defScope s_Tariff___init, [], []⟩
def d_Tariff_units : He.DefD := ⟨("Tariff", some "units"), "units", "Tariff.units", defArgs s_Tariff_units, defBody s_Tariff_units, defScope s_Tariff_units, [], []⟩
def d_Tariff_cost : He.DefD := ⟨("Tariff", some "cost"), "cost", "Tariff.cost", defArgs s_Tariff_cost, defBody s_Tariff_cost, defScope s_Tariff_cost, [], []⟩
def d_is_unit : He.DefD := ⟨("_is_unit", none), "_is_unit", "_is_unit", defArgs s_is_unit, defBody s_is_unit, defScope s_is_unit, [], []⟩
def d_is_price : He.DefD := ⟨("_is_price", none), "_is_price", "_is_price", defArgs s_is_price, defBody s_is_price, defScope s_is_price, [], []⟩
def d_are_bands : He.DefD := ⟨("_are_bands", none), "_are_bands", "_are_bands", defArgs s_are_bands, defBody s_are_bands, defScope s_are_bands, [], []⟩
def d_law_state : He.DefD := ⟨("_law_state", none), "_law_state", "_law_state", defArgs s_law_state, defBody s_law_state, defScope s_law_state, [], []⟩
def d_law_draw : He.DefD := ⟨("_law_draw", none), "_law_draw", "_law_draw", defArgs s_law_draw, defBody s_law_draw, defScope s_law_draw, [], []⟩
def d_law_pick : He.DefD := ⟨("_law_pick", none), "_law_pick", "_law_pick", defArgs s_law_pick, defBody s_law_pick, defScope s_law_pick, [], []⟩
def d_law_agrees : He.DefD := ⟨("_law_agrees", none), "_law_agrees", "_law_agrees", defArgs s_law_agrees, defBody s_law_agrees, defScope s_law_agrees, [], []⟩
def d_law_recovered : He.DefD := ⟨("_law_recovered", none), "_law_recovered", "_law_recovered", defArgs s_law_recovered, defBody s_law_recovered, defScope s_law_recovered, [], []⟩
def d_law : He.DefD := ⟨("law", none), "law", "law", defArgs s_law, defBody s_law, defScope s_law, [], []⟩
def fnL : List He.DefD := [d_Journal___init, d_Journal_append, d_Journal_sync, d_Journal_after_crash, d_checksum, d_sealed, d_read_journal, d_is_name, d_is_address, d_read_number, d_split_address, d_consists_of, d_Ledger___init, d_Ledger_begin, d_Ledger_finish, d_Ledger_close, d_Ledger_is_open, d_Ledger_is_known, d_Ledger_answer_of, d_Ledger_bills, d_Ledger_pending, d_Ledger_greatest, d_recover, d_take_record, d_take_open, d_take_close, d_Tariff___init, d_Tariff_units, d_Tariff_cost, d_is_unit, d_is_price, d_are_bands, d_law_state, d_law_draw, d_law_pick, d_law_agrees, d_law_recovered, d_law]
def faL : List He.Fa := [.str "DIGITS" "0123456789", .int "FACTOR" 31, .int "FIRST_SUM" 7, .int "GREATEST_NUMBER" 999999999, .int "GREATEST_PRICE" 10000, .int "GREATEST_UNIT" 10000, .int "LONGEST_NUMBER" 9, .int "LONGEST_WORD" 16, .int "MODULUS" 9973, .int "MOST_BANDS" 8, .str "NAME_MARKS" "abcdefghijklmnopqrstuvwxyz0123456789", .str "SMALL_LETTERS" "abcdefghijklmnopqrstuvwxyz", .free "abs", .free "all", .free "int", .free "len", .free "list", .free "max", .free "min", .free "ord", .free "range", .free "sorted", .free "str", .free "super", .free "tuple", .cls "Journal", .noat "Journal" "text", .noat "Journal" "synced", .glo "Journal", .mkr "Journal", .cls "Ledger", .noat "Ledger" "tariff", .noat "Ledger" "journal", .noat "Ledger" "_unfinished", .noat "Ledger" "_finished", .glo "Ledger", .mkr "Ledger", .cls "Tariff", .noat "Tariff" "unit", .noat "Tariff" "bands", .noat "Tariff" "last", .glo "Tariff", .mkr "Tariff", .glo "TrunklandError", .glo "ConfigError", .meth "Journal" "append", .meth "Journal" "sync", .meth "Journal" "after_crash", .glo "checksum", .glo "sealed", .glo "read_journal", .glo "is_name", .glo "is_address", .glo "read_number", .glo "split_address", .glo "_consists_of", .meth "Ledger" "begin", .meth "Ledger" "finish", .meth "Ledger" "close", .meth "Ledger" "is_open", .meth "Ledger" "is_known", .meth "Ledger" "answer_of", .meth "Ledger" "bills", .meth "Ledger" "pending", .meth "Ledger" "greatest", .glo "recover", .glo "_take_record", .glo "_take_open", .glo "_take_close", .meth "Tariff" "units", .meth "Tariff" "cost", .glo "_is_unit", .glo "_is_price", .glo "_are_bands", .glo "_law_state", .glo "_law_draw", .glo "_law_pick", .glo "_law_agrees", .glo "_law_recovered", .glo "law"]
def loose0 : List Str := ["FIRST_SUM", "FACTOR", "MODULUS", "SMALL_LETTERS", "DIGITS", "NAME_MARKS", "LONGEST_WORD", "LONGEST_NUMBER", "GREATEST_NUMBER", "GREATEST_UNIT", "GREATEST_PRICE", "MOST_BANDS", "checksum", "sealed", "read_journal", "is_name", "is_address", "read_number", "split_address", "_consists_of", "recover", "_take_record", "_take_open", "_take_close", "_is_unit", "_is_price", "_are_bands", "_law_state", "_law_draw", "_law_pick"]
def loose1 : List Str := ["_law_agrees", "_law_recovered", "Journal", "Ledger", "TrunklandError", "ConfigError", "Tariff"]
abbrev Row0 : PySem.W.OpenRow := PySem.W.OpenLaw.row PySem.Challenge.rw_trunkland_k12_bills
def exL (K : PySem.W.Frag) : List Bool := [TKE.excAll K "ConfigError" "setting" "ConfigError.__init__" PySem.Challenge.pw_trunkland_k12_bills.main.file]
def e_ConfigError : He.DefD := ⟨("ConfigError", some "__init__"), "__init__", "ConfigError.__init__", defArgs si_ConfigError, defBody si_ConfigError, defScope si_ConfigError, [], []⟩
def esL : List He.DefD := [e_ConfigError]
abbrev hk : PySem.W.Hook := TKE.hookE 6 faL fnL exL esL
def ob (s : PySem.W.SharedT) : TKE.AlE := TKE.obsE 6 faL fnL exL esL (HandSHeadRun.getT s)
theorem ob_eq (s : PySem.W.SharedT) : ob s = hk.obs s.abs := TKE.obsE_eq (HandSHeadRun.getT_eq s)
theorem run (w : World) : HandSHeadRun.RunEq Row0 (PySem.W.view Row0.prog [43]) hk ob 4000 (loose0 ++ loose1) w := by
  intro os
  kernel_rfl
theorem facts {P : Program} {w : World} {K : PySem.W.Frag} {h : Heap} {mg : Str → Option Value} {f : Addr} (X : K.In h) (G : h.Ns mainGlobals mg) (hfa : mg ("law" : Str) = some (.ref f)) (c : He.SaysD faL fnL K) (cx : (exL K).all id = true) (ce : esL.map (fun d => TKE.fnC K d.at_) = esL.map He.DefD.val) (hP : P.main.file = PySem.Challenge.pw_trunkland_k12_bills.main.file) (htop : (P.main.scope.names.lookup ("super" : Str)).isSome = false) :
    ∃ fd : FuncData, (∀ (s : Shared) (v : Value), BindsTo s fd ⟨[v], []⟩ [("script", v)]) ∧ ∀ base : Heap, K.In base → base.Ns mainGlobals mg → FnOk P w K mg base CX0 9 f fd ["script"] (spLaw K) := by
  have b_ConfigError := TKE.exTxt_of (P := P) (TK.exAt cx 0 rfl) hP (TKE.fnC_at ce 0 (d := e_ConfigError) rfl)
  have T : Tx K mg := ⟨He.str_ok X G (c.fact 0 (f := .str "DIGITS" "0123456789") rfl), He.int_ok X G (c.fact 1 (f := .int "FACTOR" 31) rfl), He.int_ok X G (c.fact 2 (f := .int "FIRST_SUM" 7) rfl), He.int_ok X G (c.fact 3 (f := .int "GREATEST_NUMBER" 999999999) rfl), He.int_ok X G (c.fact 4 (f := .int "GREATEST_PRICE" 10000) rfl), He.int_ok X G (c.fact 5 (f := .int "GREATEST_UNIT" 10000) rfl), He.int_ok X G (c.fact 6 (f := .int "LONGEST_NUMBER" 9) rfl), He.int_ok X G (c.fact 7 (f := .int "LONGEST_WORD" 16) rfl), He.int_ok X G (c.fact 8 (f := .int "MODULUS" 9973) rfl), He.int_ok X G (c.fact 9 (f := .int "MOST_BANDS" 8) rfl), He.str_ok X G (c.fact 10 (f := .str "NAME_MARKS" "abcdefghijklmnopqrstuvwxyz0123456789") rfl), He.str_ok X G (c.fact 11 (f := .str "SMALL_LETTERS" "abcdefghijklmnopqrstuvwxyz") rfl), He.free_ok X G (c.fact 12 (f := .free "abs") rfl), He.free_ok X G (c.fact 13 (f := .free "all") rfl), He.free_ok X G (c.fact 14 (f := .free "int") rfl), He.free_ok X G (c.fact 15 (f := .free "len") rfl), He.free_ok X G (c.fact 16 (f := .free "list") rfl), He.free_ok X G (c.fact 17 (f := .free "max") rfl), He.free_ok X G (c.fact 18 (f := .free "min") rfl), He.free_ok X G (c.fact 19 (f := .free "ord") rfl), He.free_ok X G (c.fact 20 (f := .free "range") rfl), He.free_ok X G (c.fact 21 (f := .free "sorted") rfl), He.free_ok X G (c.fact 22 (f := .free "str") rfl), He.free_ok X G (c.fact 23 (f := .free "super") rfl), He.free_ok X G (c.fact 24 (f := .free "tuple") rfl), He.cls_ok (c.fact 25 (f := .cls "Journal") rfl), He.noat_ok (c.fact 26 (f := .noat "Journal" "text") rfl), He.noat_ok (c.fact 27 (f := .noat "Journal" "synced") rfl), He.cls_ok (c.fact 30 (f := .cls "Ledger") rfl), He.noat_ok (c.fact 31 (f := .noat "Ledger" "tariff") rfl), He.noat_ok (c.fact 32 (f := .noat "Ledger" "journal") rfl), He.noat_ok (c.fact 33 (f := .noat "Ledger" "_unfinished") rfl), He.noat_ok (c.fact 34 (f := .noat "Ledger" "_finished") rfl), He.cls_ok (c.fact 37 (f := .cls "Tariff") rfl), He.noat_ok (c.fact 38 (f := .noat "Tariff" "unit") rfl), He.noat_ok (c.fact 39 (f := .noat "Tariff" "bands") rfl), He.noat_ok (c.fact 40 (f := .noat "Tariff" "last") rfl), He.glo_ok X G (c.fact 43 (f := .glo "TrunklandError") rfl), He.glo_ok X G (c.fact 44 (f := .glo "ConfigError") rfl), b_ConfigError.xf, b_ConfigError.ec, b_ConfigError.no⟩
  obtain ⟨fd_Journal___init, F_Journal___init⟩ := c.def_ 0 (d := d_Journal___init) rfl
  obtain ⟨fd_Journal_append, F_Journal_append⟩ := c.def_ 1 (d := d_Journal_append) rfl
  obtain ⟨fd_Journal_sync, F_Journal_sync⟩ := c.def_ 2 (d := d_Journal_sync) rfl
  obtain ⟨fd_Journal_after_crash, F_Journal_after_crash⟩ := c.def_ 3 (d := d_Journal_after_crash) rfl
  obtain ⟨fd_checksum, F_checksum⟩ := c.def_ 4 (d := d_checksum) rfl
  obtain ⟨fd_sealed, F_sealed⟩ := c.def_ 5 (d := d_sealed) rfl
  obtain ⟨fd_read_journal, F_read_journal⟩ := c.def_ 6 (d := d_read_journal) rfl
  obtain ⟨fd_is_name, F_is_name⟩ := c.def_ 7 (d := d_is_name) rfl
  obtain ⟨fd_is_address, F_is_address⟩ := c.def_ 8 (d := d_is_address) rfl
  obtain ⟨fd_read_number, F_read_number⟩ := c.def_ 9 (d := d_read_number) rfl
  obtain ⟨fd_split_address, F_split_address⟩ := c.def_ 10 (d := d_split_address) rfl
  obtain ⟨fd_consists_of, F_consists_of⟩ := c.def_ 11 (d := d_consists_of) rfl
  obtain ⟨fd_Ledger___init, F_Ledger___init⟩ := c.def_ 12 (d := d_Ledger___init) rfl
  obtain ⟨fd_Ledger_begin, F_Ledger_begin⟩ := c.def_ 13 (d := d_Ledger_begin) rfl
  obtain ⟨fd_Ledger_finish, F_Ledger_finish⟩ := c.def_ 14 (d := d_Ledger_finish) rfl
  obtain ⟨fd_Ledger_close, F_Ledger_close⟩ := c.def_ 15 (d := d_Ledger_close) rfl
  obtain ⟨fd_Ledger_is_open, F_Ledger_is_open⟩ := c.def_ 16 (d := d_Ledger_is_open) rfl
  obtain ⟨fd_Ledger_is_known, F_Ledger_is_known⟩ := c.def_ 17 (d := d_Ledger_is_known) rfl
  obtain ⟨fd_Ledger_answer_of, F_Ledger_answer_of⟩ := c.def_ 18 (d := d_Ledger_answer_of) rfl
  obtain ⟨fd_Ledger_bills, F_Ledger_bills⟩ := c.def_ 19 (d := d_Ledger_bills) rfl
  obtain ⟨fd_Ledger_pending, F_Ledger_pending⟩ := c.def_ 20 (d := d_Ledger_pending) rfl
  obtain ⟨fd_Ledger_greatest, F_Ledger_greatest⟩ := c.def_ 21 (d := d_Ledger_greatest) rfl
  obtain ⟨fd_recover, F_recover⟩ := c.def_ 22 (d := d_recover) rfl
  obtain ⟨fd_take_record, F_take_record⟩ := c.def_ 23 (d := d_take_record) rfl
  obtain ⟨fd_take_open, F_take_open⟩ := c.def_ 24 (d := d_take_open) rfl
  obtain ⟨fd_take_close, F_take_close⟩ := c.def_ 25 (d := d_take_close) rfl
  obtain ⟨fd_Tariff___init, F_Tariff___init⟩ := c.def_ 26 (d := d_Tariff___init) rfl
  obtain ⟨fd_Tariff_units, F_Tariff_units⟩ := c.def_ 27 (d := d_Tariff_units) rfl
  obtain ⟨fd_Tariff_cost, F_Tariff_cost⟩ := c.def_ 28 (d := d_Tariff_cost) rfl
  obtain ⟨fd_is_unit, F_is_unit⟩ := c.def_ 29 (d := d_is_unit) rfl
  obtain ⟨fd_is_price, F_is_price⟩ := c.def_ 30 (d := d_is_price) rfl
  obtain ⟨fd_are_bands, F_are_bands⟩ := c.def_ 31 (d := d_are_bands) rfl
  obtain ⟨fd_law_state, F_law_state⟩ := c.def_ 32 (d := d_law_state) rfl
  obtain ⟨fd_law_draw, F_law_draw⟩ := c.def_ 33 (d := d_law_draw) rfl
  obtain ⟨fd_law_pick, F_law_pick⟩ := c.def_ 34 (d := d_law_pick) rfl
  obtain ⟨fd_law_agrees, F_law_agrees⟩ := c.def_ 35 (d := d_law_agrees) rfl
  obtain ⟨fd_law_recovered, F_law_recovered⟩ := c.def_ 36 (d := d_law_recovered) rfl
  obtain ⟨fd_law, F_law⟩ := c.def_ 37 (d := d_law) rfl
  have e := hfa.symm.trans (He.glo_ok X G (c.fact 79 (f := .glo "law") rfl))
  cases e
  have b := FunD.bindsA (ps := ["script"]) F_law fun _ _ _ _ _ _ us hl => match us, hl with | [_], _ => rfl
  refine ⟨fd_law, fun s v => b s [v] rfl, fun base _ _ => ?_⟩
  have x_ConfigError := ok_exc_ConfigError (w := w) (base := base) T.f_super htop T.g_ConfigError b_ConfigError
  have c_law_state := cal_of (P := P) (w := w) (base := base) F_law_state (ok_law_state T  F_law_state) (He.glo_ok X G (c.fact 74 (f := .glo "_law_state") rfl)) fun _ _ _ _ _ _ us hl => match us, hl with | [_], _ => rfl
  have c_law_draw := cal_of (P := P) (w := w) (base := base) F_law_draw (ok_law_draw T  F_law_draw) (He.glo_ok X G (c.fact 75 (f := .glo "_law_draw") rfl)) fun _ _ _ _ _ _ us hl => match us, hl with | [_, _], _ => rfl
  have c_law_pick := cal_of (P := P) (w := w) (base := base) F_law_pick (ok_law_pick T c_law_draw F_law_pick) (He.glo_ok X G (c.fact 76 (f := .glo "_law_pick") rfl)) fun _ _ _ _ _ _ us hl => match us, hl with | [_, _], _ => rfl
  have c_consists_of := cal_of (P := P) (w := w) (base := base) F_consists_of (ok_consists_of T  F_consists_of) (He.glo_ok X G (c.fact 55 (f := .glo "_consists_of") rfl)) fun _ _ _ _ _ _ us hl => match us, hl with | [_, _, _], _ => rfl
  have c_is_name := cal_of (P := P) (w := w) (base := base) F_is_name (ok_is_name T c_consists_of F_is_name) (He.glo_ok X G (c.fact 51 (f := .glo "is_name") rfl)) fun _ _ _ _ _ _ us hl => match us, hl with | [_], _ => rfl
  have c_read_number := cal_of (P := P) (w := w) (base := base) F_read_number (ok_read_number T c_consists_of F_read_number) (He.glo_ok X G (c.fact 53 (f := .glo "read_number") rfl)) fun _ _ _ _ _ _ us hl => match us, hl with | [_, _], _ => rfl
  have c_split_address := cal_of (P := P) (w := w) (base := base) F_split_address (ok_split_address T c_is_name F_split_address) (He.glo_ok X G (c.fact 54 (f := .glo "split_address") rfl)) fun _ _ _ _ _ _ us hl => match us, hl with | [_], _ => rfl
  have c_is_address := cal_of (P := P) (w := w) (base := base) F_is_address (ok_is_address T c_split_address F_is_address) (He.glo_ok X G (c.fact 52 (f := .glo "is_address") rfl)) fun _ _ _ _ _ _ us hl => match us, hl with | [_], _ => rfl
  have c_mk_Journal := mak_of (P := P) (w := w) (base := base) (He.mkr_ok (c.fact 29 (f := .mkr "Journal") rfl)) (He.glo_ok X G (c.fact 28 (f := .glo "Journal") rfl)) F_Journal___init (ok_Journal___init T  F_Journal___init) fun _ _ _ _ _ _ us hl => match us, hl with | [_], _ => rfl
  have c_checksum := cal_of (P := P) (w := w) (base := base) F_checksum (ok_checksum T  F_checksum) (He.glo_ok X G (c.fact 48 (f := .glo "checksum") rfl)) fun _ _ _ _ _ _ us hl => match us, hl with | [_], _ => rfl
  have c_sealed := cal_of (P := P) (w := w) (base := base) F_sealed (ok_sealed T c_checksum F_sealed) (He.glo_ok X G (c.fact 49 (f := .glo "sealed") rfl)) fun _ _ _ _ _ _ us hl => match us, hl with | [_], _ => rfl
  have c_Journal_append := met_of (P := P) (w := w) (base := base) T.cl_Journal (He.meth_ok (c.fact 45 (f := .meth "Journal" "append") rfl)) F_Journal_append (ok_Journal_append T c_sealed F_Journal_append) fun _ _ _ _ _ _ us hl => match us, hl with | [_, _], _ => rfl
  have c_Journal_sync := met_of (P := P) (w := w) (base := base) T.cl_Journal (He.meth_ok (c.fact 46 (f := .meth "Journal" "sync") rfl)) F_Journal_sync (ok_Journal_sync T  F_Journal_sync) fun _ _ _ _ _ _ us hl => match us, hl with | [_], _ => rfl
  have c_Journal_after_crash := met_of (P := P) (w := w) (base := base) T.cl_Journal (He.meth_ok (c.fact 47 (f := .meth "Journal" "after_crash") rfl)) F_Journal_after_crash (ok_Journal_after_crash T  F_Journal_after_crash) fun _ _ _ _ _ _ us hl => match us, hl with | [_, _], _ => rfl
  have c_read_journal := cal_of (P := P) (w := w) (base := base) F_read_journal (ok_read_journal T c_sealed F_read_journal) (He.glo_ok X G (c.fact 50 (f := .glo "read_journal") rfl)) fun _ _ _ _ _ _ us hl => match us, hl with | [_], _ => rfl
  have c_is_unit := cal_of (P := P) (w := w) (base := base) F_is_unit (ok_is_unit T  F_is_unit) (He.glo_ok X G (c.fact 71 (f := .glo "_is_unit") rfl)) fun _ _ _ _ _ _ us hl => match us, hl with | [_], _ => rfl
  have c_is_price := cal_of (P := P) (w := w) (base := base) F_is_price (ok_is_price T  F_is_price) (He.glo_ok X G (c.fact 72 (f := .glo "_is_price") rfl)) fun _ _ _ _ _ _ us hl => match us, hl with | [_], _ => rfl
  have c_are_bands := cal_of (P := P) (w := w) (base := base) F_are_bands (ok_are_bands T c_is_unit c_is_price F_are_bands) (He.glo_ok X G (c.fact 73 (f := .glo "_are_bands") rfl)) fun _ _ _ _ _ _ us hl => match us, hl with | [_], _ => rfl
  have c_Tariff_units := met_of (P := P) (w := w) (base := base) T.cl_Tariff (He.meth_ok (c.fact 69 (f := .meth "Tariff" "units") rfl)) F_Tariff_units (ok_Tariff_units T  F_Tariff_units) fun _ _ _ _ _ _ us hl => match us, hl with | [_, _], _ => rfl
  have c_Tariff_cost := met_of (P := P) (w := w) (base := base) T.cl_Tariff (He.meth_ok (c.fact 70 (f := .meth "Tariff" "cost") rfl)) F_Tariff_cost (ok_Tariff_cost T c_Tariff_units F_Tariff_cost) fun _ _ _ _ _ _ us hl => match us, hl with | [_, _], _ => rfl
  have c_mkx_Tariff := TKE.makX_of (P := P) (w := w) (base := base) (n := 3) (He.mkr_ok (c.fact 42 (f := .mkr "Tariff") rfl)) (He.glo_ok X G (c.fact 41 (f := .glo "Tariff") rfl)) F_Tariff___init (ok_Tariff___init T x_ConfigError c_is_unit c_is_price c_are_bands F_Tariff___init) rfl fun _ _ _ _ _ _ us hl => match us, hl with | [_, _, _, _], _ => rfl
  have c_mk_Ledger := mak_of (P := P) (w := w) (base := base) (He.mkr_ok (c.fact 36 (f := .mkr "Ledger") rfl)) (He.glo_ok X G (c.fact 35 (f := .glo "Ledger") rfl)) F_Ledger___init (ok_Ledger___init T c_mk_Journal F_Ledger___init) fun _ _ _ _ _ _ us hl => match us, hl with | [_, _], _ => rfl
  have c_Ledger_begin := met_of (P := P) (w := w) (base := base) T.cl_Ledger (He.meth_ok (c.fact 56 (f := .meth "Ledger" "begin") rfl)) F_Ledger_begin (ok_Ledger_begin T c_Journal_append c_Journal_sync F_Ledger_begin) fun _ _ _ _ _ _ us hl => match us, hl with | [_, _, _, _, _], _ => rfl
  have c_Ledger_close := met_of (P := P) (w := w) (base := base) T.cl_Ledger (He.meth_ok (c.fact 58 (f := .meth "Ledger" "close") rfl)) F_Ledger_close (ok_Ledger_close T c_Journal_append F_Ledger_close) fun _ _ _ _ _ _ us hl => match us, hl with | [_, _, _, _], _ => rfl
  have c_Ledger_is_open := met_of (P := P) (w := w) (base := base) T.cl_Ledger (He.meth_ok (c.fact 59 (f := .meth "Ledger" "is_open") rfl)) F_Ledger_is_open (ok_Ledger_is_open T  F_Ledger_is_open) fun _ _ _ _ _ _ us hl => match us, hl with | [_, _], _ => rfl
  have c_Ledger_is_known := met_of (P := P) (w := w) (base := base) T.cl_Ledger (He.meth_ok (c.fact 60 (f := .meth "Ledger" "is_known") rfl)) F_Ledger_is_known (ok_Ledger_is_known T  F_Ledger_is_known) fun _ _ _ _ _ _ us hl => match us, hl with | [_, _], _ => rfl
  have c_Ledger_answer_of := met_of (P := P) (w := w) (base := base) T.cl_Ledger (He.meth_ok (c.fact 61 (f := .meth "Ledger" "answer_of") rfl)) F_Ledger_answer_of (ok_Ledger_answer_of T  F_Ledger_answer_of) fun _ _ _ _ _ _ us hl => match us, hl with | [_, _], _ => rfl
  have c_Ledger_pending := met_of (P := P) (w := w) (base := base) T.cl_Ledger (He.meth_ok (c.fact 63 (f := .meth "Ledger" "pending") rfl)) F_Ledger_pending (ok_Ledger_pending T  F_Ledger_pending) fun _ _ _ _ _ _ us hl => match us, hl with | [_], _ => rfl
  have c_Ledger_bills := met_of (P := P) (w := w) (base := base) T.cl_Ledger (He.meth_ok (c.fact 62 (f := .meth "Ledger" "bills") rfl)) F_Ledger_bills (ok_Ledger_bills T  F_Ledger_bills) fun _ _ _ _ _ _ us hl => match us, hl with | [_], _ => rfl
  have c_Ledger_greatest := met_of (P := P) (w := w) (base := base) T.cl_Ledger (He.meth_ok (c.fact 64 (f := .meth "Ledger" "greatest") rfl)) F_Ledger_greatest (ok_Ledger_greatest T  F_Ledger_greatest) fun _ _ _ _ _ _ us hl => match us, hl with | [_], _ => rfl
  have c_take_open := cal_of (P := P) (w := w) (base := base) F_take_open (ok_take_open T c_read_number c_is_address c_Ledger_is_known c_Ledger_begin F_take_open) (He.glo_ok X G (c.fact 67 (f := .glo "_take_open") rfl)) fun _ _ _ _ _ _ us hl => match us, hl with | [_, _], _ => rfl
  have c_take_close := cal_of (P := P) (w := w) (base := base) F_take_close (ok_take_close T c_read_number c_Ledger_is_open c_Ledger_close F_take_close) (He.glo_ok X G (c.fact 68 (f := .glo "_take_close") rfl)) fun _ _ _ _ _ _ us hl => match us, hl with | [_, _], _ => rfl
  have c_take_record := cal_of (P := P) (w := w) (base := base) F_take_record (ok_take_record T c_take_open c_take_close F_take_record) (He.glo_ok X G (c.fact 66 (f := .glo "_take_record") rfl)) fun _ _ _ _ _ _ us hl => match us, hl with | [_, _], _ => rfl
  have c_Ledger_finish := met_of (P := P) (w := w) (base := base) T.cl_Ledger (He.meth_ok (c.fact 57 (f := .meth "Ledger" "finish") rfl)) F_Ledger_finish (ok_Ledger_finish T c_Ledger_close c_Ledger_answer_of c_Tariff_cost F_Ledger_finish) fun _ _ _ _ _ _ us hl => match us, hl with | [_, _, _], _ => rfl
  have c_recover := cal_of (P := P) (w := w) (base := base) F_recover (ok_recover T c_mk_Ledger c_read_journal c_take_record c_Ledger_pending c_Ledger_finish c_Ledger_answer_of c_Journal_sync F_recover) (He.glo_ok X G (c.fact 65 (f := .glo "recover") rfl)) fun _ _ _ _ _ _ us hl => match us, hl with | [_, _, _], _ => rfl
  have c_law_agrees := cal_of (P := P) (w := w) (base := base) F_law_agrees (ok_law_agrees T c_Ledger_bills c_Ledger_pending c_Ledger_is_open c_Ledger_greatest F_law_agrees) (He.glo_ok X G (c.fact 77 (f := .glo "_law_agrees") rfl)) fun _ _ _ _ _ _ us hl => match us, hl with | [_, _], _ => rfl
  have c_law_recovered := cal_of (P := P) (w := w) (base := base) F_law_recovered (ok_law_recovered T c_law_draw c_law_pick c_Journal_after_crash c_recover c_Ledger_bills c_Ledger_pending c_Tariff_cost F_law_recovered) (He.glo_ok X G (c.fact 78 (f := .glo "_law_recovered") rfl)) fun _ _ _ _ _ _ us hl => match us, hl with | [_, _, _, _], _ => rfl
  exact ok_law T c_law_state c_law_draw c_law_pick c_mkx_Tariff c_Tariff_cost c_mk_Ledger c_Ledger_begin c_Ledger_finish c_Ledger_pending c_Journal_sync c_law_agrees c_law_recovered F_law
end K12
open PySem PySem.W PySem.Calls PyProof.Rows
theorem PySem.Challenge.cw_trunkland_k12_bills_holds : PySem.Challenge.rw_trunkland_k12_bills.Holds := by
  w_on; o_law
  refine HandSHeadRun.head_any (r := OpenLaw.row PySem.Challenge.rw_trunkland_k12_bills) (q := view (OpenLaw.row PySem.Challenge.rw_trunkland_k12_bills).prog [43]) (H := K12.hk) (ob := K12.ob) (M := 4000) (loose := K12.loose0 ++ K12.loose1) (d := HandSHeadRun.topDef (OpenLaw.row PySem.Challenge.rw_trunkland_k12_bills).prog 43) (kwd := []) K12.ob_eq
    (by kernel_rfl) (fun s => by kernel_rfl) K12.run (by kernel_rfl) (by kernel_rfl) (by kernel_rfl) (by rfl) (by first | assumption | decide +kernel) (by decide +kernel) ⟨rfl, rfl, rfl, rfl, rfl, by decide +kernel⟩ ?hw ?hc
  case hw => w_witness2
  case hc =>
    refine L2.walk_ofE (l := PySem.Challenge.rw_trunkland_k12_bills) (n := 63) (k := 9) (x := "script") (CX := L2.CX0) rfl (by decide) (by kernel_rfl) ⟨rfl, by decide, by decide⟩ ?F (fun _ _ _ _ z => z)
    intro w mg fa h Y G hmg0
    obtain ⟨K, KX, c, cx, ce⟩ := Y
    have hmg : mg ("law" : PySem.Str) = some (.ref fa) := by
      have e : (HandSHeadRun.topDef (OpenLaw.row PySem.Challenge.rw_trunkland_k12_bills).prog 43).name = ("law" : PySem.Str) := by kernel_rfl
      rw [← e]
      exact hmg0
    obtain ⟨fd, hb, hF⟩ := K12.facts (P := (PySem.Challenge.rw_trunkland_k12_bills).prog) (w := w) KX G hmg c cx ce rfl (by kernel_rfl)
    exact ⟨K, fd, K12.spLaw K, KX, hb, fun H a ns hl _ hS => ⟨a, ns, rfl, hS, hl, fun _ => rfl⟩, hF⟩
