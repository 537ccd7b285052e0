import PyProof.Rows.All
import Wide.All
import OpenK.AllK
import Wide.FinOn
import HandS.ForMost
import HandS.Defaults
import HandS.Codes
import HandS.IsInst
import HandS.NoneIn
import HandS.Replace
import HandS.Walk
import HandS.Head0
import HandS.Head1
import HandS.Head2
import HandS.HeadEnd
import HandS.HeadHook1
import HandS.HeadHook2
import HandS.MakeKw
import HandS.MakeKwOnly
import HandS.FStr
import HandS.Deep
import HandS.Ends
import PyProof.ReprRoads
import PyProof.Rows.RegFStrParts
import HandS.Iter
import HandS.ExcInit
import HandS.ExcIs
import HandS.ExcField
import HandS.ExcCtx
import HandS.ClsMeth
import HandS.Nested
import KE.KExcSuper
import KE.KExcIs
import KE.KIsAll
import HandS.WordsExc
import HandS.StrMore
import HandS.Steps
import PyProof.MeetsStr3
import PyProof.Rows.StrNews2
import PyProof.Rows.StrLast
import PyProof.Rows.StrCountLaw
import HandS.DictTup
import HandS.DictSub
import PySem.Challenge.RW_trunkland_k16_judge
set_option Elab.async false
set_option linter.all false
set_option maxRecDepth 100000
set_option maxHeartbeats 4000000
/-! Helpers of mine over the hand layer, the same for every law of this program. -/
namespace TK
open PySem PySem.Spec PyProof.Rows L2 C8 SX
section
variable {X : Cx} {x : Str} {pos p : Pos} {k j : Nat} {sp : Sp} {dvs : List V}
theorem pgI {i : Int} (h : ∃ t, X.mg x = some (.int i t)) (hg : Gl X x := by rfl) (hd : (x == ("__debug__" : Str)) = false := by decide) : PE X (.Name x pos) (tC (.int i)) := by
  obtain ⟨t, e⟩ := h
  exact pe_glob hg e ⟨t, rfl⟩ hd
theorem pgS {z : Str} (h : ∃ t, X.mg x = some (.str z t)) (hg : Gl X x := by rfl) (hd : (x == ("__debug__" : Str)) = false := by decide) : PE X (.Name x pos) (tC (.str z)) := by
  obtain ⟨t, e⟩ := h
  exact pe_glob hg e ⟨t, rfl⟩ hd
theorem pgR {a : Addr} (h : X.mg x = some (.ref a)) (hg : Gl X x := by rfl) (hd : (x == ("__debug__" : Str)) = false := by decide) : PE X (.Name x pos) (tC (.ref a)) := pe_glob hg h rfl hd
theorem pe_c0 (c : Cal X.prog X.w X.K X.mg X.base k x sp dvs) (hr : Room j X.A) (hk : k ≤ j) (hg : Gl X x) (hdb : (x == ("__debug__" : Str)) = false := by decide) :
    PE X (.Call (.Name x p) [] [] pos) (tCall sp dvs L2.E0 tNil) := by
  obtain ⟨f, fd, ps, ds, F, hm, kp, b, d⟩ := c.ex
  exact pe_call0 F (hr.mono hk) hg hm kp b d L2.pass0 hdb
end
section
variable {P : Program} {w : World} {K : PySem.W.Frag} {mg : Str → Option Value} {base : Heap}
/-- a def without defaults, as callers want it -/
theorem cal_of {x qual : Str} {params : Arguments} {body : List Stmt} {scope : Scope} {f : Addr} {fd : FuncData} {ps : List Str} {k : Nat} {sp : Sp} (F : FunD K x qual params body scope [] [] f fd) (G : FnOk P w K mg base L2.CX0 k f fd ps sp) (hm : mg x = some (.ref f))
    (h : ∀ (kV doc pm : Value) (an : Option Addr) (cdv ct : Value) (us : List Value), us.length = ps.length → bindArgs (PySem.W.fnOf x qual params body scope .none kV doc pm an cdv ct) ⟨us, []⟩ = pure (ps.zip us)) : Cal P w K mg base k x sp [] :=
  ⟨f, fd, ps, [], G, hm, F.kp, F.bindsN h, .nil⟩
end
/-! ### heaps -/
/-- all that was tracked is as it was, but what stands at two places -/
def Keep (H H' : Hp) (a c : Addr) : Prop := ∀ b o, H b = some o → b ≠ a → b ≠ c → H' b = some o
theorem Keep.refl (H : Hp) (a c : Addr) : Keep H H a c := fun _ _ h _ _ => h
theorem Keep.trans {H H1 H2 : Hp} {a c : Addr} (h : Keep H H1 a c) (k : Keep H1 H2 a c) : Keep H H2 a c := fun b o e h1 h2 => k b o (h b o e h1 h2) h1 h2
theorem Keep.of_same {H H' : Hp} {a c : Addr} (h : Same H H') : Keep H H' a c := fun b o e _ _ => h b o e
theorem same_upd {H : Hp} {p : Addr} {o : HO} (h : H p = none) : Same H (upd H p o) := fun b u e => by
  rw [upd_ne (ne_of_none e h)]
  exact e
/-- the law's source of draws: a list of a list of cells and a seed -/
structure StAt (H : Hp) (s c : Addr) : Prop where
  ne : s ≠ c
  at_ : ∃ n : Int, H s = some (.lst [.ref c, .int n])
  cells : ∃ ns : List Int, H c = some (.lst (ns.map V.int)) ∧ ns.length ≤ 63
theorem StAt.same {H H' : Hp} {s c : Addr} (h : StAt H s c) (e : Same H H') : StAt H' s c := by
  obtain ⟨ne, ⟨n, h1⟩, ns, h2, h3⟩ := h
  exact ⟨ne, ⟨n, e _ _ h1⟩, ns, e _ _ h2, h3⟩
end TK
namespace TK
open PySem PySem.Spec PyProof.Rows L2 C8 SX
/-! ### comprehensions whose elements leave the heap alone -/
theorem lc_pure {J : It} {n : Nat} {G : Hp → Prop} {Y : Nat → Hp → V → Hp → Prop} (w : Walk J n G Y) (f : Nat → V) {g : TG} {tt : TT} {te : TE} {vs : List Nat} {σ : L2.St} {H1 : Hp} {D : Addr} {Qd : Hp → Prop} (hn : n ≤ sizeLine)
    (hG : ∀ i, i ≤ n → G (upd H1 D (.lst ((List.range i).map f))))
    (hs : ∀ (i : Nat) (x : V) (H' : Hp) (k : V → Hp → Prop), i < n → Y i (upd H1 D (.lst ((List.range i).map f))) x H' → k (f i) (upd H1 D (.lst ((List.range i).map f))) →
      g x (wipe σ vs) H' fun σ2 H2 => wipe σ2 vs = wipe σ vs ∧ tt σ2 H2 fun b H3 => b = true ∧ te σ2 H3 k)
    (ht : ∀ σ H Q Q', (∀ b H', Q b H' → Q' b H') → tt σ H Q → tt σ H Q') (hg : ∀ x σ H Q Q', (∀ σ' H', Q σ' H' → Q' σ' H') → g x σ H Q → g x σ H Q')
    (hd : Qd (upd H1 D (.lst ((List.range n).map f)))) :
    ∃ W : Nat → Nat → Hp → Prop, (∃ m, W 0 m (upd H1 D (.lst []))) ∧ ∀ i m H, W i m H →
      (J.stop i H ∧ Qd H) ∨ (J.go i H ∧ ∃ Nx : Hp → Prop, (∀ H', Nx H' → ∃ m', m' < m ∧ W (i + 1) m' H') ∧ ∀ x H', J.yld i H x H' → g x (wipe σ vs) H' fun σ2 H2 => wipe σ2 vs = wipe σ vs ∧ tt σ2 H2 fun b H3 =>
        if b = true then te σ2 H3 fun y H4 => ∃ acc, H4 D = some (.lst acc) ∧ acc.length < sizeLine ∧ Nx (upd H4 D (.lst (acc ++ [y]))) else Nx H3) := by
  refine lc_it w (fun i H => H = upd H1 D (.lst ((List.range i).map f))) rfl (fun i H hi e => e ▸ hG i hi) (fun i x H H' hi e y => ?_) (fun H e => e ▸ hd)
  subst e
  refine hg _ _ _ _ _ (fun σ2 H2 q => ⟨q.1, ht _ _ _ _ (fun b H3 r => ?_) q.2⟩) (hs i x H' (fun y H4 => ∃ acc, H4 D = some (.lst acc) ∧ acc.length < sizeLine ∧ upd H4 D (.lst (acc ++ [y])) = upd H1 D (.lst ((List.range (i + 1)).map f))) hi y ⟨_, upd_same, ?_, ?_⟩)
  · rw [if_pos r.1]
    exact r.2
  · rw [List.length_map, List.length_range]
    omega
  · rw [upd_upd, List.range_succ, List.map_append]
    rfl
/-- the usual target and no test -/
theorem lc_pureN {J : It} {n : Nat} {G : Hp → Prop} {Y : Nat → Hp → V → Hp → Prop} (w : Walk J n G Y) (f : Nat → V) {j : Nat} {te : TE} {vs : List Nat} {σ : L2.St} {H1 : Hp} {D : Addr} {Qd : Hp → Prop} (hn : n ≤ sizeLine)
    (hG : ∀ i, i ≤ n → G (upd H1 D (.lst ((List.range i).map f))))
    (hs : ∀ (i : Nat) (x : V) (H' : Hp) (k : V → Hp → Prop), i < n → Y i (upd H1 D (.lst ((List.range i).map f))) x H' → k (f i) (upd H1 D (.lst ((List.range i).map f))) →
      wipe ((wipe σ vs).set j (some x)) vs = wipe σ vs ∧ te ((wipe σ vs).set j (some x)) H' k)
    (hd : Qd (upd H1 D (.lst ((List.range n).map f)))) :
    ∃ W : Nat → Nat → Hp → Prop, (∃ m, W 0 m (upd H1 D (.lst []))) ∧ ∀ i m H, W i m H →
      (J.stop i H ∧ Qd H) ∨ (J.go i H ∧ ∃ Nx : Hp → Prop, (∀ H', Nx H' → ∃ m', m' < m ∧ W (i + 1) m' H') ∧ ∀ x H', J.yld i H x H' → gName j x (wipe σ vs) H' fun σ2 H2 => wipe σ2 vs = wipe σ vs ∧ tYes σ2 H2 fun b H3 =>
        if b = true then te σ2 H3 fun y H4 => ∃ acc, H4 D = some (.lst acc) ∧ acc.length < sizeLine ∧ Nx (upd H4 D (.lst (acc ++ [y]))) else Nx H3) :=
  lc_pure w f hn hG (fun i x H' k hi y q => ⟨(hs i x H' k hi y q).1, rfl, (hs i x H' k hi y q).2⟩) (fun _ _ _ _ h q => h _ _ q) (fun _ _ _ _ _ h q => h _ _ q) hd
theorem size_tl (z : Str) : z.cps.size = (TL.tl z).length := by simp [TL.tl]
theorem len_eq (z : Str) : z.length = (TL.tl z).length := TL.len_tl z
theorem range_map_getD {α β : Type} (l : List α) (d : α) (f : α → β) : (List.range l.length).map (fun i => f (l.getD i d)) = l.map f := by
  apply List.ext_getElem
  · simp
  · intro i h1 h2
    simp at h1
    simp [h1]
end TK
namespace TK
open PySem PySem.Spec PyProof.Rows L2 SX
theorem ef {b : Bool} (h : ¬ b = true) : b = false := Bool.eq_false_iff.mpr h
/-! ### places in texts -/
theorem at0 {α : Type} {l : List α} (d : α) (h : 0 < l.length) : atI l 0 = some (l.getD 0 d) := by
  cases l with
  | nil => exact absurd h (Nat.lt_irrefl 0)
  | cons a r =>
    show ((if (0 : Int) ≤ 0 then (if (0 : Int) < ((a :: r).length : Nat) then some (0 : Int).toNat else none) else _) : Option Nat).bind _ = _
    rw [if_pos (Int.le_refl 0), if_pos (by rw [List.length_cons]; omega)]
    rfl
theorem atN {α : Type} {l : List α} {i : Int} (d : α) (h0 : 0 ≤ i) (h : i < l.length) : atI l i = some (l.getD i.toNat d) := by
  show ((if (0 : Int) ≤ i then (if i < (l.length : Nat) then some i.toNat else none) else _) : Option Nat).bind _ = _
  rw [if_pos h0, if_pos h]
  show l[i.toNat]? = _
  rw [List.getD_eq_getElem?_getD, List.getElem?_eq_getElem (by omega)]
  rfl
theorem atC {α : Type} (a : α) (r : List α) : atI (a :: r) 0 = some a := at0 a (by simp)
theorem ixP {n : Nat} {i : Int} (h0 : 0 ≤ i) (h : i < n) : ixN n i = some i.toNat := by
  unfold ixN
  rw [if_pos h0, if_pos h]
theorem sqP {n : Nat} {i : Int} (h0 : 0 ≤ i) (h : i < n) : seqIndex? i n = some i.toNat := (ixN_seq (ixP h0 h)).1
theorem ixC {α : Type} (a : α) (r : List α) : ixN (a :: r).length 0 = some 0 := ixP (by decide) (by rw [List.length_cons]; omega)
theorem sqC {α : Type} (a : α) (r : List α) : seqIndex? 0 (a :: r).length = some 0 := sqP (by decide) (by rw [List.length_cons]; omega)
/-- the first place of a sign -/
theorem occ_first1 {l : List Nat} {c : Nat} (h : c ∈ l) : ∃ rest, Builtin.Str.occurrences (S l) (S [c]) 0 (S l).length 1 = l.idxOf c :: rest := by
  have at_iff : ∀ i, StrLaws.At (S l) (S [c]) (S l).length i ↔ l[i]? = some c := by
    intro i
    have e := TL.at_iff (x := S l) (y := S [c]) (by show [c] ≠ []; simp) i
    refine e.trans ?_
    show (((l.drop i).take 1 == [c]) = true) ↔ _
    rw [beq_iff_eq]
    constructor
    · intro q
      cases e2 : l.drop i with
      | nil =>
        rw [e2] at q
        cases q
      | cons a r =>
        rw [e2] at q
        have e3 : a = c := by
          simpa using q
        rw [← e3]
        have e4 : (l.drop i)[0]? = some a := by rw [e2]; rfl
        rw [List.getElem?_drop] at e4
        exact e4
    · intro q
      have hi : i < l.length := (List.getElem?_eq_some_iff.mp q).1
      rw [List.drop_eq_getElem_cons hi]
      have e3 : l[i] = c := (List.getElem?_eq_some_iff.mp q).2
      rw [e3]
      rfl
  rcases StrLaws.occ_head (S l) (S [c]) 1 (Nat.le_refl 1) with ⟨_, hn⟩ | ⟨i, r, e, ha, hn⟩
  · obtain ⟨i, hi, e⟩ := List.mem_iff_getElem.mp h
    exact absurd ((at_iff i).mpr (by rw [List.getElem?_eq_getElem hi, e])) (hn i)
  · refine ⟨r, ?_⟩
    rw [e]
    congr 1
    have h1 := (at_iff i).mp ha
    have hi : i < l.length := (List.getElem?_eq_some_iff.mp h1).1
    have e1 : l[i] = c := (List.getElem?_eq_some_iff.mp h1).2
    have hj : l.idxOf c < l.length := List.idxOf_lt_length_iff.mpr h
    have e2 : l[l.idxOf c] = c := List.getElem_idxOf hj
    rcases Nat.lt_trichotomy i (l.idxOf c) with z | z | z
    · exfalso
      have := List.not_of_lt_findIdx (p := (· == c)) (xs := l) (i := i) z
      simp [e1] at this
    · exact z
    · exfalso
      exact hn _ z ((at_iff _).mpr (by rw [List.getElem?_eq_getElem hj, e2]))
/-- a list cut at the first sign c -/
theorem cut_first {l : List Nat} {c : Nat} (h : c ∈ l) : l = l.take (l.idxOf c) ++ c :: l.drop (l.idxOf c + 1) ∧ c ∉ l.take (l.idxOf c) := by
  have hj : l.idxOf c < l.length := List.idxOf_lt_length_iff.mpr h
  refine ⟨?_, ?_⟩
  · have e2 : l[l.idxOf c] = c := List.getElem_idxOf hj
    have e3 := List.drop_eq_getElem_cons hj
    rw [e2] at e3
    rw [← e3, List.take_append_drop]
  · intro hm
    obtain ⟨i, hi, e⟩ := List.mem_iff_getElem.mp hm
    rw [List.length_take] at hi
    have hi1 : i < l.idxOf c := by omega
    have := List.not_of_lt_findIdx (p := (· == c)) (xs := l) (i := i) hi1
    rw [List.getElem_take] at e
    simp [e] at this
theorem cut_unique {a b a' b' : List Nat} {c : Nat} (h : a ++ c :: b = a' ++ c :: b') (ha : c ∉ a) (ha' : c ∉ a') : a = a' ∧ b = b' := by
  induction a generalizing a' with
  | nil =>
    cases a' with
    | nil => exact ⟨rfl, by simpa using h⟩
    | cons d r =>
      have e : c = d := by simpa using (List.cons.inj h).1
      exact absurd (List.mem_cons.mpr (.inl e)) ha'
  | cons d r ih =>
    cases a' with
    | nil =>
      have e : d = c := by simpa using (List.cons.inj h).1
      exact absurd (List.mem_cons.mpr (.inl e.symm)) ha
    | cons d' r' =>
      obtain ⟨e1, e2⟩ := List.cons.inj h
      obtain ⟨e3, e4⟩ := ih e2 (fun z => ha (List.mem_cons_of_mem _ z)) (fun z => ha' (List.mem_cons_of_mem _ z))
      exact ⟨by rw [e1, e3], e4⟩
end TK
namespace TK
open PySem PySem.Spec PyProof.Rows L2 SX
theorem Keep.upd {H H' : Hp} {s c D : Addr} {o : HO} (k : Keep H H' s c) (hD : H D = none) : Keep H (upd H' D o) s c := fun b u e h1 h2 => by
  rw [upd_ne (ne_of_none e hD)]
  exact k b u e h1 h2
theorem StAt.upd {H : Hp} {s c D : Addr} {o : HO} (h : StAt H s c) (h1 : D ≠ s) (h2 : D ≠ c) : StAt (upd H D o) s c := by
  obtain ⟨ne, ⟨n, a⟩, ns, b, l⟩ := h
  exact ⟨ne, ⟨n, by rw [upd_ne h1.symm]; exact a⟩, ns, by rw [upd_ne h2.symm]; exact b, l⟩
theorem StAt.tracked {H : Hp} {s c D : Addr} (h : StAt H s c) (hD : H D = none) : D ≠ s ∧ D ≠ c := by
  obtain ⟨ne, ⟨n, a⟩, ns, b, l⟩ := h
  exact ⟨fun e => (by rw [e, a] at hD; cases hD), fun e => (by rw [e, b] at hD; cases hD)⟩
theorem Keep.none {H H' : Hp} {s c b : Addr} (k : Keep H H' s c) (h : H' b = Option.none) (h1 : b ≠ s) (h2 : b ≠ c) : H b = Option.none := by
  cases e : H b with
  | none => rfl
  | some o =>
    rw [k b o e h1 h2] at h
    cases h
theorem joinL_nil : ∀ l : List (List Nat), TL.joinL [] l = l.flatten
  | [] => rfl
  | [p] => by simp [TL.joinL]
  | p :: q :: r => by
    show p ++ ([] ++ TL.joinL [] (q :: r)) = _
    rw [joinL_nil (q :: r)]
    rfl
/-- texts of one sign, joined -/
theorem join_ones {ys : List Str} (h : ∀ z ∈ ys, z.length = 1) : (Txt.join "" ys).length = ys.length := by
  have e : (Txt.join ("" : Str) ys) = Str.join "" ys := TL.join_eq "" ys
  rw [e, len_eq, TL.tl_join, show TL.tl ("" : Str) = [] by decide +kernel, joinL_nil]
  induction ys with
  | nil => rfl
  | cons a r ih =>
    have h1 := h a (List.mem_cons_self ..)
    rw [len_eq] at h1
    rw [List.map_cons, List.flatten_cons, List.length_append, ih (fun z hz => h z (List.mem_cons_of_mem _ hz)) (TL.join_eq "" r), List.length_cons, h1]
    omega
theorem sum_ones {ys : List Str} (h : ∀ z ∈ ys, z.length = 1) : (ys.map (·.length)).sum = ys.length := by
  induction ys with
  | nil => rfl
  | cons a r ih =>
    rw [List.map_cons, List.sum_cons, ih (fun z hz => h z (List.mem_cons_of_mem _ hz)), h a (List.mem_cons_self ..), List.length_cons]
    omega
theorem cat_len (a b : Str) : (a ++ b).length = a.length + b.length := by
  rw [len_eq, TL.tl_append, List.length_append, ← len_eq, ← len_eq]
end TK
namespace TK
open PySem PySem.Spec PyProof.Rows L2 SX
/-- lc_it with a plain name as target and no test -/
theorem lc_itN {J : It} {n : Nat} {G : Hp → Prop} {Y : Nat → Hp → V → Hp → Prop} (w : Walk J n G Y) {j : Nat} {te : TE} {vs : List Nat} {σ : L2.St} {H1 : Hp} {D : Addr} {Qd : Hp → Prop} (Pv : Nat → Hp → Prop) (h0 : Pv 0 (upd H1 D (.lst []))) (hG : ∀ i H, i ≤ n → Pv i H → G H)
    (hs : ∀ i x H H', i < n → Pv i H → Y i H x H' → wipe ((wipe σ vs).set j (some x)) vs = wipe σ vs ∧ te ((wipe σ vs).set j (some x)) H' fun y H4 => ∃ acc, H4 D = some (.lst acc) ∧ acc.length < sizeLine ∧ Pv (i + 1) (upd H4 D (.lst (acc ++ [y])))) (hd : ∀ H, Pv n H → Qd H) :
    ∃ W : Nat → Nat → Hp → Prop, (∃ m, W 0 m (upd H1 D (.lst []))) ∧ ∀ i m H, W i m H →
      (J.stop i H ∧ Qd H) ∨ (J.go i H ∧ ∃ Nx : Hp → Prop, (∀ H', Nx H' → ∃ m', m' < m ∧ W (i + 1) m' H') ∧ ∀ x H', J.yld i H x H' → gName j x (wipe σ vs) H' fun σ2 H2 => wipe σ2 vs = wipe σ vs ∧ tYes σ2 H2 fun b H3 =>
        if b = true then te σ2 H3 fun y H4 => ∃ acc, H4 D = some (.lst acc) ∧ acc.length < sizeLine ∧ Nx (upd H4 D (.lst (acc ++ [y]))) else Nx H3) :=
  lc_it w Pv h0 hG (fun i x H H' hi p y => ⟨(hs i x H H' hi p y).1, (hs i x H H' hi p y).2⟩) hd
end TK
namespace TK
open PySem PySem.Spec PyProof.Rows L2 SX
theorem slTo (z : Str) {i : Int} (h : 0 ≤ i) : Txt.slice z none (some i) = S ((TL.tl z).take i.toNat) := slice_to (a := TL.tl z) h
theorem slFrom (z : Str) {i : Int} (h : 0 ≤ i) : Txt.slice z (some i) none = S ((TL.tl z).drop i.toNat) := slice_from (a := TL.tl z) h
theorem log_small {i : Int} (h : i.natAbs < 2 ^ 1900) : i.natAbs.log2 < 1920 := by
  by_cases h0 : i.natAbs = 0
  · rw [h0]
    decide
  · exact (Nat.log2_lt h0).mpr (Nat.lt_of_lt_of_le h (Nat.pow_le_pow_right (by decide) (by decide)))
end TK
namespace TK
open PySem PySem.Spec PyProof.Rows L2 SX
/-! ### comprehensions with a test, the heap left alone -/
theorem lc_filt {J : It} {n : Nat} {G : Hp → Prop} {Y : Nat → Hp → V → Hp → Prop} (w : Walk J n G Y) (f : Nat → V) (b : Nat → Bool) {j : Nat} {tt : TT} {te : TE} {vs : List Nat} {σ : L2.St} {H1 : Hp} {D : Addr} {Qd : Hp → Prop} (hn : n ≤ sizeLine)
    (hG : ∀ i, i ≤ n → G (upd H1 D (.lst (((List.range i).filter b).map f))))
    (ht : ∀ (i : Nat) (x : V) (H' : Hp) (k : Bool → Hp → Prop), i < n → Y i (upd H1 D (.lst (((List.range i).filter b).map f))) x H' → k (b i) (upd H1 D (.lst (((List.range i).filter b).map f))) →
      wipe ((wipe σ vs).set j (some x)) vs = wipe σ vs ∧ tt ((wipe σ vs).set j (some x)) H' k)
    (he : ∀ (i : Nat) (x : V) (H' : Hp) (k : V → Hp → Prop), i < n → b i = true → Y i (upd H1 D (.lst (((List.range i).filter b).map f))) x H' → k (f i) (upd H1 D (.lst (((List.range i).filter b).map f))) →
      te ((wipe σ vs).set j (some x)) (upd H1 D (.lst (((List.range i).filter b).map f))) k)
    (hd : Qd (upd H1 D (.lst (((List.range n).filter b).map f)))) :
    ∃ W : Nat → Nat → Hp → Prop, (∃ m, W 0 m (upd H1 D (.lst []))) ∧ ∀ i m H, W i m H →
      (J.stop i H ∧ Qd H) ∨ (J.go i H ∧ ∃ Nx : Hp → Prop, (∀ H', Nx H' → ∃ m', m' < m ∧ W (i + 1) m' H') ∧ ∀ x H', J.yld i H x H' → gName j x (wipe σ vs) H' fun σ2 H2 => wipe σ2 vs = wipe σ vs ∧ tt σ2 H2 fun b H3 =>
        if b = true then te σ2 H3 fun y H4 => ∃ acc, H4 D = some (.lst acc) ∧ acc.length < sizeLine ∧ Nx (upd H4 D (.lst (acc ++ [y]))) else Nx H3) := by
  refine lc_it w (fun i H => H = upd H1 D (.lst (((List.range i).filter b).map f))) rfl (fun i H hi e => e ▸ hG i hi) (fun i x H H' hi e y => ?_) (fun H e => e ▸ hd)
  subst e
  refine ht i x H' _ hi y ?_
  cases hb : b i with
  | true =>
    refine iteT (he i x H' _ hi hb y ⟨_, upd_same, ?_, ?_⟩)
    · rw [List.length_map]
      exact Nat.lt_of_le_of_lt (List.length_filter_le _ _) (by rw [List.length_range]; omega)
    · rw [upd_upd, List.range_succ, List.filter_append, List.map_append, List.filter_cons_of_pos hb]
      rfl
  | false =>
    refine iteF ?_
    rw [List.range_succ, List.filter_append, List.filter_cons_of_neg (by rw [hb]; exact Bool.false_ne_true), List.filter_nil, List.append_nil]
theorem range_filter_getD {α β : Type} (l : List α) (d : α) (p : α → Bool) (f : α → β) : ((List.range l.length).filter (fun i => p (l.getD i d))).map (fun i => f (l.getD i d)) = (l.filter p).map f := by
  have e := range_map_getD l d (fun x => x)
  rw [List.map_id'] at e
  have h : (l.filter p).map f = (((List.range l.length).map (fun i => l.getD i d)).filter p).map f := by rw [e]
  rw [h, List.filter_map, List.map_map]
  rfl
theorem getD_at {α : Type} {l : List α} {i : Nat} {x : α} (d : α) (h : l[i]? = some x) : l.getD i d = x := by
  rw [List.getD_eq_getElem?_getD, h]
  rfl
/-! ### heads with tables -/
def obsX (n : Nat) (fa : List He.Fa) (fn : List He.DefD) (ex : PySem.W.Frag → List Bool) (g : Addr → Option Obj) : He.AlD :=
  ((He.obsD fa fn (He.frG g (He.asD g n))).1 && (ex (He.frG g (He.asD g n))).all id, (He.obsD fa fn (He.frG g (He.asD g n))).2)
def hookX (n : Nat) (fa : List He.Fa) (fn : List He.DefD) (ex : PySem.W.Frag → List Bool) : PySem.W.Hook where
  α := He.AlD
  obs s := obsX n fa fn ex s.heap.get?
  val _ := He.valD fn
  says _ h := ∃ K : PySem.W.Frag, K.In h ∧ He.SaysD fa fn K ∧ (ex K).all id = true
  of _ _ e := by
    have e1 := congrArg (fun z : He.AlD => z.1) e
    have e2 := congrArg (fun z : He.AlD => z.2) e
    obtain ⟨a, b⟩ := Bool.and_eq_true_iff.mp e1
    exact ⟨_, He.frG_in, Prod.ext a e2, b⟩
  keeps _ _ _ c k := let ⟨K, hK, c1, c2⟩ := c; ⟨K, PySem.W.Frag.In.keeps hK k, c1, c2⟩
theorem obsX_eq {n : Nat} {fa : List He.Fa} {fn : List He.DefD} {ex : PySem.W.Frag → List Bool} {g : Addr → Option Obj} {s : Shared} (h : ∀ a, g a = s.heap.get? a) : obsX n fa fn ex g = (hookX n fa fn ex).obs s := by
  obtain rfl : g = s.heap.get? := funext h
  rfl
theorem exAt {l : List Bool} (h : l.all id = true) (i : Nat) {b : Bool} (e : l[i]? = some b) : b = true := List.all_eq_true.mp h b (List.mem_of_getElem? e)
end TK
namespace TK
open PySem PySem.Spec PyProof.Rows L2 SX
/-! ### rules that name the written part, for use within a comprehension -/
section
variable {X : Cx}
theorem inSeqK (K : PySem.W.Frag) (e : X.K = K) : OpR X (compareOp .In) (rIn K false) := by
  subst e
  exact op_in_seq
theorem notInSeqK (K : PySem.W.Frag) (e : X.K = K) : OpR X (compareOp .NotIn) (rIn K true) := by
  subst e
  exact op_notIn_seq
theorem ixListK (K : PySem.W.Frag) (e : X.K = K) : IxR X (rIxL K) := by
  subst e
  exact ix_list
theorem ixTupK (K : PySem.W.Frag) (e : X.K = K) : IxR X (rIxT K) := by
  subst e
  exact ix_tup
theorem isiK (K : PySem.W.Frag) (e : X.K = K) : CallR X (.builtin "isinstance") (rIsi K) := by
  subst e
  exact call_isi
end
end TK
set_option maxHeartbeats 4000000
namespace TK
open PySem PySem.Spec PyProof.Rows L2 SX
theorem same_upd2 {H H' : Hp} {D : Addr} {o : HO} (s : Same H H') (hD : H D = none) : Same H (upd H' D o) := fun b u e => by
  rw [upd_ne (ne_of_none e hD)]
  exact s b u e
theorem joinL_len (y : List Nat) : ∀ l : List (List Nat), (TL.joinL y l).length ≤ (l.map (·.length)).sum + l.length * y.length
  | [] => by simp [TL.joinL]
  | [p] => by simp [TL.joinL]
  | p :: q :: r => by
    have ih := joinL_len y (q :: r)
    show (p ++ (y ++ TL.joinL y (q :: r))).length ≤ _
    rw [List.length_append, List.length_append, List.map_cons, List.sum_cons, List.length_cons (a := p), Nat.succ_mul]
    omega
theorem join_len (y : Str) (ys : List Str) : (Txt.join y ys).length ≤ (ys.map (·.length)).sum + ys.length * y.length := by
  rw [show Txt.join y ys = Str.join y ys from TL.join_eq y ys, len_eq, TL.tl_join]
  have q := joinL_len (TL.tl y) (ys.map TL.tl)
  rw [List.length_map, List.map_map] at q
  have e : (ys.map (fun x : Str => x.length)) = ys.map ((fun x : List Nat => x.length) ∘ TL.tl) := List.map_congr_left fun x _ => len_eq x
  rw [e, len_eq y]
  exact q
theorem sum_le {m : Nat} : ∀ {ys : List Str}, (∀ z ∈ ys, z.length ≤ m) → (ys.map (·.length)).sum ≤ ys.length * m
  | [], _ => Nat.zero_le _
  | a :: r, h => by
    have ih := sum_le (ys := r) fun z hz => h z (List.mem_cons_of_mem _ hz)
    have h1 := h a (List.mem_cons_self ..)
    rw [List.map_cons, List.sum_cons, List.length_cons, Nat.succ_mul]
    omega
theorem nodup_inr : ∀ ys : List Str, (ys.map (Sum.inr : Str → Key)).Nodup ↔ ys.Nodup
  | [] => by simp
  | a :: r => by
    rw [List.map_cons, List.nodup_cons, List.nodup_cons, nodup_inr r, List.mem_map]
    constructor
    · intro q
      exact ⟨fun m => q.1 ⟨a, m, rfl⟩, q.2⟩
    · intro q
      exact ⟨fun ⟨b, m, e⟩ => q.1 (Sum.inr.inj e ▸ m), q.2⟩
theorem key_strs (ys : List Str) : (ys.map (Sum.inr : Str → Key)).map kV = ys.map V.str := by
  rw [List.map_map]
  rfl
/-- the parts of a text are no longer than the text -/
theorem part_len {z y p : Str} (h : p ∈ Txt.split z y) : p.length ≤ z.length := by
  have j := StrLaws.join_split z y
  have sub : ∀ (l : List (List Nat)) (s : List Nat), ∀ x ∈ l, x.length ≤ (TL.joinL s l).length := by
    intro l s
    induction l with
    | nil => exact fun x hx => nomatch hx
    | cons a r ih =>
      intro x hx
      cases r with
      | nil =>
        rw [List.mem_singleton.mp hx]
        exact Nat.le_refl _
      | cons b r =>
        show x.length ≤ (a ++ (s ++ TL.joinL s (b :: r))).length
        rw [List.length_append, List.length_append]
        rcases List.mem_cons.mp hx with q | q
        · rw [q]
          omega
        · have := ih x q
          omega
  have q := sub ((Txt.split z y).map TL.tl) (TL.tl y) (TL.tl p) (List.mem_map.mpr ⟨p, h, rfl⟩)
  rw [← TL.tl_join, j] at q
  rw [len_eq, len_eq]
  exact q
end TK
namespace TK
open PySem PySem.Spec PyProof.Rows L2 SX
/-! ### a word between an expression and what follows -/
def tCutE (t : TE) : TE := fun σ H Q => ∃ Mid : VK, t σ H Mid ∧ ∀ v H', Mid v H' → Q v H'
def tCutT (t : TT) : TT := fun σ H Q => ∃ Mid : Bool → Hp → Prop, t σ H Mid ∧ ∀ b H', Mid b H' → Q b H'
section
variable {X : Cx} {e : Expr}
theorem pe_cut {t : TE} (h : PE X e t) : PE X e (tCutE t) := ⟨fun pins s σ H _ I ⟨Mid, hm, hq⟩ => thn (h.run pins s σ H Mid I hm) fun _ _ ⟨v, H', I', r, q⟩ => ⟨v, H', I', r, hq v H' q⟩⟩
theorem pt_cut {t : TT} (h : PT X e t) : PT X e (tCutT t) := ⟨fun pins s σ H _ I ⟨Mid, hm, hq⟩ => thn (h.run pins s σ H Mid I hm) fun b _ ⟨H', I', q⟩ => ⟨H', I', hq b H' q⟩⟩
end
end TK
set_option maxHeartbeats 4000000
/-! Own classes: rules that name the class, makers and methods by their promises. -/
namespace TK
open PySem PySem.Spec PyProof.Rows L2 SX
def tFldC (C : Addr) (ta : TE) (f : Str) : TE := fun σ H Q => ta σ H fun x H1 => ∃ a dx fs v, x = .ref a ∧ H1 a = some (.ins C dx fs) ∧ fs.lookup f = some v ∧ Q v H1
def sFldC (C : Addr) (ta tv : TE) (f : Str) : TS := fun D σ H => tv σ H fun y H1 => ta σ H1 fun x H2 => ∃ a dx fs, x = .ref a ∧ H2 a = some (.ins C dx fs) ∧ fs.length < 1000 ∧ D.nx σ (upd H2 a (.ins C dx (putF f y fs)))
section
variable {X : Cx} {K : PySem.W.Frag} {C : Addr} {e o value : Expr} {f : Str} {pos pos' : Pos} {ta tv : TE}
theorem pe_fldC (eK : X.K = K) (c : Cls K C) (n : NoAttr K C f) (he : PE X e ta) (hb : attributeBase e f X.env (eval e X.env) = eval e X.env) : PE X (.Attribute e f pos) (tFldC C ta f) := by
  subst eK
  exact ⟨fun pins s σ H Q I h => (pe_fld (pe_cut he) hb).run pins s σ H Q I ⟨_, h, fun v H' ⟨a, dx, fs, w, e1, e2, e3, q⟩ => ⟨a, C, dx, fs, w, e1, e2, c, n, e3, q⟩⟩⟩
theorem ps_fldC (eK : X.K = K) (c : Cls K C) (n : NoAttr K C f) (ha : PE X o ta) (hv : PE X value tv) (hs : swapsWith value (some (.Attribute o f pos')) pos.line X.env = pure false) : PS X (.Assign [.Attribute o f pos'] value pos) (sFldC C ta tv f) := by
  subst eK
  exact ⟨fun pins s σ H D I h => (ps_fld (pe_cut ha) (pe_cut hv) hs).run pins s σ H D I ⟨_, h, fun v H' h2 => ⟨_, h2, fun x H2 ⟨a, dx, fs, e1, e2, e3, q⟩ => ⟨a, C, dx, fs, e1, e2, c, n, e3, q⟩⟩⟩⟩
end
/-! ### few attributes -/
class SmallF (fs : List (Str × V)) (n : outParam Nat) : Prop where
  le : fs.length ≤ n
instance : SmallF [] 0 := ⟨Nat.le_refl _⟩
instance {x : Str × V} {l : List (Str × V)} {n : Nat} [h : SmallF l n] : SmallF (x :: l) (n + 1) := ⟨Nat.succ_le_succ h.le⟩
theorem putF_len {f : Str} {v : V} : ∀ fs : List (Str × V), (putF f v fs).length ≤ fs.length + 1
  | [] => Nat.le_refl _
  | (g, x) :: r => by
    show (if g = f then (g, v) :: r else (g, x) :: putF f v r).length ≤ _
    by_cases h : g = f
    · rw [if_pos h]
      exact Nat.le_succ _
    · rw [if_neg h]
      exact Nat.succ_le_succ (putF_len r)
instance {f : Str} {v : V} {l : List (Str × V)} {n : Nat} [h : SmallF l n] : SmallF (putF f v l) (n + 1) := ⟨Nat.le_trans (putF_len l) (Nat.succ_le_succ h.le)⟩
theorem sm {fs : List (Str × V)} {n : Nat} [h : SmallF fs n] (hn : n < 1000 := by decide) : fs.length < 1000 := Nat.lt_of_le_of_lt h.le hn
/-! ### makers -/
section
variable {P : Program} {w : World} {K : PySem.W.Frag} {mg : Str → Option Value} {base : Heap}
structure MakK (P : Program) (w : World) (K : PySem.W.Frag) (mg : Str → Option Value) (base : Heap) (k : Nat) (x : Str) (C : Addr) (sp : Sp) (n : Nat) (ks : List Str) (gV : List V → List V → List V) : Prop where
  ex : ∃ (f : Addr) (fd : FuncData) (ps : List Str) (g : List Value → List Value → List Value), Mk K C f ∧ FnOk P w K mg base L2.CX0 k f fd ps sp ∧ mg x = some (.ref C) ∧ KBn K fd ps (n + 1) ks g gV
theorem mak_of {C : Addr} {x n qual : Str} {params : Arguments} {body : List Stmt} {scope : Scope} {f : Addr} {fd : FuncData} {ps : List Str} {k : Nat} {sp : Sp} (M : Mk K C f) (hm : mg x = some (.ref C)) (F : FunD K n qual params body scope [] [] f fd) (G : FnOk P w K mg base L2.CX0 k f fd ps sp)
    (h : ∀ (kV doc pm : Value) (an : Option Addr) (cdv ct : Value) (us : List Value), us.length = ps.length → bindArgs (PySem.W.fnOf n qual params body scope .none kV doc pm an cdv ct) ⟨us, []⟩ = pure (ps.zip us)) : C8.Mak P w K mg base k x C sp [] :=
  ⟨f, fd, ps, [], M, G, hm, F.bindsN h, .nil⟩
theorem met_of {C : Addr} {n qual : Str} {params : Arguments} {body : List Stmt} {scope : Scope} {f : Addr} {fd : FuncData} {ps : List Str} {k : Nat} {sp : Sp} (c : Cls K C) (m : Meth K C n f) (F : FunD K n qual params body scope [] [] f fd) (G : FnOk P w K mg base L2.CX0 k f fd ps sp)
    (h : ∀ (kV doc pm : Value) (an : Option Addr) (cdv ct : Value) (us : List Value), us.length = ps.length → bindArgs (PySem.W.fnOf n qual params body scope .none kV doc pm an cdv ct) ⟨us, []⟩ = pure (ps.zip us)) : C8.Met P w K mg base k C n sp [] :=
  ⟨f, fd, ps, [], c, m, G, F.bindsN h, .nil⟩
theorem metD_of {C : Addr} {n qual : Str} {params : Arguments} {body : List Stmt} {scope : Scope} {dvs : List V} {f : Addr} {fd : FuncData} {ps : List Str} {k : Nat} {sp : Sp} (c : Cls K C) (m : Meth K C n f) (F : FunD K n qual params body scope dvs [] f fd) (G : FnOk P w K mg base L2.CX0 k f fd ps sp) (hd : dvs ≠ []) (hn : dvs.length ≤ ps.length)
    (h : ∀ (T : Addr) (kV doc pm : Value) (an : Option Addr) (cdv ct : Value) (us its : List Value), us.length = ps.length - dvs.length → its.length = dvs.length →
      ∃ k, bindArgs (PySem.W.fnOf n qual params body scope (.ref T) kV doc pm an cdv ct) ⟨us, []⟩ = seqItems? (.ref T) >>= k ∧ k (some its.toArray) = pure (ps.zip (us ++ its.drop 0))) : C8.Met P w K mg base k C n sp dvs := by
  obtain ⟨ds, h1, h2⟩ := F.binds1 (ps := ps) (ps.length - dvs.length) 0 hd (by omega) h
  exact ⟨f, fd, ps, ds, c, m, G, h2, by simpa using h1⟩
end
section
variable {X : Cx} {k j n : Nat} {C : Addr} {x : Str} {sp : Sp} {p pos : Pos} {e : Expr} {es : List Expr} {kws : List Keyword} {ks : List Str} {t tk : TA} {gV : List V → List V → List V}
theorem pe_mk0 {dvs : List V} (c : C8.Mak X.prog X.w X.K X.mg X.base k x C sp dvs) (hr : Room j X.A) (hk : k + 1 ≤ j) (hg : Gl X x) (hdb : (x == ("__debug__" : Str)) = false := by decide) : PE X (.Call (.Name x p) [] [] pos) (tMake C sp dvs L2.E0 tNil) := by
  obtain ⟨f, fd, ps, ds, M, F, hm, b, d⟩ := c.ex
  exact pe_make0 M F (hr.mono hk) hg hm b d L2.pass0 hdb
theorem pe_mkK0 (c : MakK X.prog X.w X.K X.mg X.base k x C sp 0 ks gV) (hr : Room j X.A) (hk : k + 1 ≤ j) (hg : Gl X x) (hkw : PK X kws tk)
    (hall : (backToKw pos (keywordEach kws X.env)).all (·.1.isSome) = true := by rfl) (hks : (backToKw pos (keywordEach kws X.env)).filterMap (·.1) = ks := by rfl) (hdb : (x == ("__debug__" : Str)) = false := by decide)
    (hpl : ((backTo pos (starEach [] X.env)).any (·.1) || (backToKw pos (keywordEach kws X.env)).any (·.1.isNone)) = false := by rfl) :
    PE X (.Call (.Name x p) [] kws pos) (tMakeK C 0 ks.length sp gV L2.E0 tNil tk) := by
  obtain ⟨f, fd, ps, g, M, F, hm, b⟩ := c.ex
  exact pe_makeK0 M F (hr.mono hk) hg hm b L2.pass0 hkw hall hks hdb hpl
end
/-! ### new objects -/
theorem same_own {H : Hp} {x dx C : Addr} {fs : List (Str × V)} (hx : H x = none) (hd : H dx = none) : Same H (upd (upd H dx (.own x)) x (.ins C dx fs)) := fun b o e => by
  rw [upd_ne (ne_of_none e hx), upd_ne (ne_of_none e hd)]
  exact e
theorem Same.upd_of {H H' : Hp} {a : Addr} {o : HO} (s : Same H H') (h : H a = none) : Same H (upd H' a o) := fun b u e => by
  rw [upd_ne (ne_of_none e h)]
  exact s b u e
/-! ### texts that can be laid -/
theorem ok_iff {z : Str} : PyData.strOk z = true ↔ ∀ c ∈ TL.tl z, c < 0x110000 := by
  unfold PyData.strOk TL.tl
  rw [Array.all_eq_true']
  constructor
  · intro h c hc
    simpa using h c (by simpa using hc)
  · intro h c hc
    simpa using h c (by simpa using hc)
theorem ok_cat {a b : Str} (ha : PyData.strOk a = true) (hb : PyData.strOk b = true) : PyData.strOk (a ++ b) = true := by
  rw [ok_iff] at *
  intro c hc
  rw [TL.tl_append, List.mem_append] at hc
  exact hc.elim (ha c) (hb c)
theorem joinL_mem {s : List Nat} {c : Nat} : ∀ l : List (List Nat), c ∈ TL.joinL s l → c ∈ s ∨ ∃ p ∈ l, c ∈ p
  | [], h => by simp [TL.joinL] at h
  | [p], h => .inr ⟨p, List.mem_singleton.mpr rfl, by simpa [TL.joinL] using h⟩
  | p :: q :: r, h => by
    have h2 : c ∈ p ++ (s ++ TL.joinL s (q :: r)) := h
    rw [List.mem_append, List.mem_append] at h2
    rcases h2 with h2 | h2 | h2
    · exact .inr ⟨p, List.mem_cons_self .., h2⟩
    · exact .inl h2
    · rcases joinL_mem (q :: r) h2 with h3 | ⟨x, h3, h4⟩
      · exact .inl h3
      · exact .inr ⟨x, List.mem_cons_of_mem _ h3, h4⟩
theorem ok_join {y : Str} {l : List Str} (hy : PyData.strOk y = true) (hl : ∀ z ∈ l, PyData.strOk z = true) : PyData.strOk (Txt.join y l) = true := by
  rw [TL.join_eq, ok_iff]
  intro c hc
  rw [TL.tl_join] at hc
  rcases joinL_mem _ hc with h | ⟨p, hp, h⟩
  · exact ok_iff.mp hy c h
  · obtain ⟨z, hz, rfl⟩ := List.mem_map.mp hp
    exact ok_iff.mp (hl z hz) c h
def numS (i : Int) : Str := Str.ofString (toString i)
theorem numS_tl {i : Int} (h : 0 ≤ i) : TL.tl (numS i) = TL.numL i.toNat := by
  have e : i = ((i.toNat : Nat) : Int) := (Int.toNat_of_nonneg h).symm
  rw [e]
  exact TL.tl_num _
theorem ok_num {i : Int} (h : 0 ≤ i) : PyData.strOk (numS i) = true := by
  rw [ok_iff, numS_tl h]
  intro c hc
  exact Nat.lt_of_not_le fun q => TL.numL_free (n := i.toNat) (s := c) (.inr (by omega)) hc
theorem numS_len {i : Int} (h : i.natAbs < 1000000000) : (numS i).length ≤ 10 := by
  have e := int_text_length_le10 (a := i) (k := 9) (by decide) (by omega)
  show (Str.ofString (toString i)).length ≤ 10
  rw [PySem.ofString_length]
  omega
theorem numS_log {i : Int} (h : i.natAbs < 1000000000) : i.natAbs.log2 < 1920 := log_small (Nat.lt_of_lt_of_le h (by decide))
theorem szl {z : Str} (h : z.length ≤ 100000) : z.length ≤ sizeLine := Nat.le_trans h (by decide)
theorem ne_ins {H : Hp} {a b C C' dx dx' : Addr} {fs fs' : List (Str × V)} (h : H a = some (.ins C dx fs)) (h' : H b = some (.ins C' dx' fs')) (n : fs.length ≠ fs'.length) : a ≠ b :=
  ne_of h h' fun e => by
    injection e with _ _ e2
    exact n (congrArg List.length e2)
/-- only what stands at A has changed -/
def Fr (A : List Addr) (H H' : Hp) : Prop := ∀ b o, H b = some o → b ∉ A → H' b = some o
theorem Fr.of_same {A : List Addr} {H H' : Hp} (s : Same H H') : Fr A H H' := fun b o e _ => s b o e
theorem Fr.refl (A : List Addr) (H : Hp) : Fr A H H := fun _ _ e _ => e
theorem Fr.trans {A : List Addr} {H H1 H2 : Hp} (s : Fr A H H1) (t : Fr A H1 H2) : Fr A H H2 := fun b o e n => t b o (s b o e n) n
theorem Fr.trans_new {A A' : List Addr} {H H1 H2 : Hp} (s : Fr A H H1) (t : Fr A' H1 H2) (n : ∀ b ∈ A', b ∈ A ∨ H b = none) : Fr A H H2 := fun b o e hn => t b o (s b o e hn) fun m => (n b m).elim hn fun z => by rw [e] at z; cases z
end TK
set_option maxHeartbeats 1000000
/-! The law's own def at its caller alone, where it is known that no repr is under way; repr of lists and tuples there. -/
namespace TKR
open PySem PySem.Spec PyProof.Rows L2
section
variable {P : Program} {w : World} {K : PySem.W.Frag} {mg : Str → Option Value} {base : Heap}
/-- what FnOk says, but of the law's caller only -/
structure FnC (P : Program) (w : World) (K : PySem.W.Frag) (mg : Str → Option Value) (base : Heap) (f : Addr) (fd : FuncData) (ps : List Str) (sp : Sp) : Prop where
  go : ∀ (s : Shared) (H : Hp) (args : Args) (us : List Value) (vs : List V) (Q : VK), Env0 P w K mg base callerA [] s H → BindsTo s fd args (ps.zip us) → Vals vs us → sp vs H Q (fun _ _ _ => False) → codeAny (model P w) callerA (.call (.ref f) args) (CR CX0 [] P w H s Q fun _ _ _ => False) s
theorem fnC_of {x qual : Str} {params : Arguments} {body : List Stmt} {scope : Scope} {dvs : List V} {kws : List (Str × V)} {f : Addr} {fd : FuncData} {N ps : List Str} {k : Nat} {sp : Sp} (F : FunD K x qual params body scope dvs kws f fd) (S : FnScope N ps scope) (hr : Room (k + 1) callerA)
    (len : ∀ vs H Q E, sp vs H Q E → vs.length = ps.length)
    (hb : ∀ (cdv : Value) (s : Shared) (H : Hp) (vs : List V) (Q : VK) (E : XK), Room k (callerA.deeper (envOfC qual scope s.heap.objs.size f cdv)) → sp vs H Q E →
      ∃ t, PSs (cxOf CX0 P w K mg base N qual scope f cdv callerA [] s H E) body t ∧ t { nx := fun _ H' => Q .non H', rt := Q } (start N vs) H) : FnC P w K mg base f fd ps sp := by
  obtain ⟨oc, od, dV, kV, doc, pm, an, cdv, ct, osl, rfl, lk, hcd, _, _⟩ := F.ex
  constructor
  intro s H args us vs Q ee hbi rv hsp
  have kin : K.In s.heap := ee.mod.kin.keeps fun b o e => (ee.bs b o e).1
  have lim : s.heap.NoLimit := ee.mod.nolimit.keeps fun b o e => (ee.bs b o e).1
  have kinds : ∀ y ∈ ps.zip us, scope.names.lookup y.1 = some .local ∨ (scope.names.lookup y.1 = some .cell ∧ ((cellsFrom (s.heap.objs.size + 1) scope.names []).lookup y.1).isSome = true) := by
    rintro ⟨n, v⟩ hy
    have hn := (List.of_mem_zip hy).1
    exact (S.par n hn).imp (fun q => q) fun q => ⟨q, PySem.W.cellsFrom_some _ _ _ (.inl q)⟩
  refine codeAny_call_function hr.depth (kin _ _ lk) rfl S.co S.gen rfl (PySem.W.codeRec_of kin hcd) (hbi _ _ _ _ (wpAny_newFunctionEnv_cells S.kind kinds fun env he s1 x => ?_))
  subst he
  refine ⟨lim.keeps x.toInCall.keep, codeAny_func ?_⟩
  obtain ⟨t, ht, hq⟩ := hb cdv s H vs Q _ (hr.deeper _) hsp
  have I := inv_start (CX := CX0) (E := fun _ _ _ => False) S hr.hd ee (len _ _ _ _ hsp) rv x
  refine wpAny_mono (ht.run [] s1 _ H _ I hq) (fun fl s' hs => ?_) fun _ _ z => z
  match fl, hs with
  | .ret u, hs =>
    obtain ⟨v, σ', H', J, r, q⟩ := hs
    exact ⟨v, H', J.os, J.bare, J.base, J.hok, r, q⟩
  | .next, hs =>
    obtain ⟨σ', H', J, q⟩ := hs
    exact ⟨V.non, H', J.os, J.bare, J.base, J.hok, rfl, q⟩
  | .brk, hs =>
    obtain ⟨_, _, _, z⟩ := hs
    cases z
  | .cont, hs =>
    obtain ⟨_, _, _, z⟩ := hs
    cases z
theorem call_ofC {mb : Str → Option Value} {fa a : Addr} {fd : FuncData} {x : Str} {sp : Sp} {st : Shared} {us : List Value} {ns : List Int}
    (kx : K.In st.heap) (gm : st.heap.Ns mainGlobals mg) (gb : st.heap.Ns builtinsNs mb) (bb : ∀ y : Str, y ≠ "__name__" → mb y = bootBuiltins y) (nl : st.heap.NoLimit) (ng : st.gens = #[])
    (obj : st.heap.get? a = some { cls := .type "list", data := .seq us.toArray }) (iri : IntsAre us ns) (few : ns.length ≤ sizeLine)
    (F : ∀ base : Heap, K.In base → base.Ns mainGlobals mg → FnC P w K mg base fa fd [x] sp) (bind : ∀ (s : Shared) (u : Value), BindsTo s fd ⟨[u], []⟩ [(x, u)])
    (told : ∀ H : Hp, Only H → SqL K H a (ns.map V.int) → sp [.ref a] H (fun v _ => v = .bl true) fun _ _ _ => False) :
    codeAny (model P w) callerA (.call (.ref fa) ⟨[.ref a], []⟩) (fun r s' => r = .ok (.ret (.bool true)) ∧ OldK st.heap s'.heap ∧ s'.os = st.os ∧ AllBare s'.gens) st := by
  have rel := vals_ints iri
  have size := iri.length
  have main : ∀ H : Hp, Only H → SqL K H a (ns.map V.int) → HOk P w H st.heap → (∀ c, H c ≠ none → c = a) → (H a ≠ none → K.lookup a = none) →
      codeAny (model P w) callerA (.call (.ref fa) ⟨[.ref a], []⟩) (fun r s' => r = .ok (.ret (.bool true)) ∧ OldK st.heap s'.heap ∧ s'.os = st.os ∧ AllBare s'.gens) st := by
    intro H only sq hok one free
    have back : ∀ {c : Addr} {o : Obj}, st.heap.get? c = some o → H c = none → (hidT st.heap H).get? c = some o := fun e n => hidT_get e n
    have dicts : ∀ {c : Addr} {o : Obj} {es : Array DictEntry} {ep : Nat}, st.heap.get? c = some o → o.data = .dict es ep → H c = none := by
      intro c o es ep e d
      by_cases q : H c = none
      · exact q
      · have ec := one c q
        subst ec
        rw [obj] at e
        cases e
        exact Data.noConfusion d
    have names : ∀ {c : Addr} {m : Str → Option Value}, st.heap.Ns c m → (hidT st.heap H).Ns c m := by
      rintro c m ⟨o, es, ep, e, d, r⟩
      exact ⟨o, es, ep, back e (dicts e d), d, r⟩
    have inb : K.In (hidT st.heap H) := by
      intro c o e
      refine back (kx c o e) ?_
      by_cases q : H c = none
      · exact q
      · have ec := one c q
        subst ec
        rw [free q] at e
        cases e
    have md : Mod K mg (hidT st.heap H) := ⟨inb, names gm, ⟨mb, names gb, bb⟩, nl.elim fun mc z => ⟨mc, names z.1, z.2⟩⟩
    have ee : Env0 P w K mg (hidT st.heap H) callerA [] st H := ⟨rfl, md, fun _ _ e => of_hidT e, Nat.le_of_eq (hidT_size _ _), trivial, (fun c hc => nomatch hc), hok, .of_eq ng⟩
    refine codeAny_mono ((F _ inb (names gm)).go st H ⟨[.ref a], []⟩ [.ref a] [.ref a] _ ee (bind st (.ref a)) (.cons rfl .nil) (told H only sq)) (fun r s' h => ?_)
    match r, h with
    | .error e, h => exact False.elim h
    | .ok .next, h => exact False.elim h
    | .ok .brk, h => exact False.elim h
    | .ok .cont, h => exact False.elim h
    | .ok (.ret u), h =>
      obtain ⟨v, H', eo, bare, un, ok2, rv, ev⟩ := h
      have ev' : v = .bl true := ev
      subst ev'
      obtain rfl : u = Value.bool true := rv
      refine ⟨rfl, OldK.of_keep (fun c o e => ?_), eo, bare⟩
      rcases only c with z | ⟨oc, xs, z⟩
      · exact un.keep c o e z (fun q => nomatch q) (fun q => nomatch q)
      · have e1 := (hok c _ z).1
        have e2 := (ok2 c _ (un.frzs c oc _ z)).1
        rw [e] at e1
        cases e1
        exact e2
  by_cases hk : K.lookup a = none
  · refine main (fun c => if c = a then some (.frz { cls := .type "list", data := .seq us.toArray } (.lst (ns.map V.int))) else none) (fun c => ?_) (.inl (.inr ⟨_, if_pos rfl⟩)) (fun c u z => ?_) (fun c z => ?_) (fun _ => hk)
    · by_cases h : c = a
      · exact .inr ⟨_, _, if_pos h⟩
      · exact .inl (if_neg h)
    · by_cases h : c = a
      · subst h
        dsimp only at z
        rw [if_pos rfl] at z
        cases z
        exact ⟨obj, by rw [List.length_map]; exact few, us, _, rel, obj⟩
      · dsimp only at z
        rw [if_neg h] at z
        cases z
    · by_cases h : c = a
      · exact h
      · rw [if_neg h] at z
        exact absurd rfl z
  · obtain ⟨o, ho⟩ := Option.ne_none_iff_exists'.mp hk
    have e := kx a o ho
    rw [obj] at e
    cases e
    exact main (fun _ => none) (fun _ => .inl rfl) (.inr ⟨_, us.toArray, _, ho, rfl, rfl, rfl, by rw [List.size_toArray, size]; exact few, by simpa using rel⟩) (fun _ _ z => nomatch z) (fun _ z => absurd rfl z) (fun z => absurd rfl z)
end
theorem walk_ofC {l : PySem.W.OpenLaw} {n : Nat} {q : Program} {loose : List Str} {XP : (Str → Option Value) → Heap → Prop} {YP : World → Heap → Prop} {d : DefRec} {x : Str} (hn : l.most = some n) (hz : n ≤ sizeLine) (hdf : d.params.defaults = [])
    (F : ∀ (w : World) (mg : Str → Option Value) (fa : Addr) (h : Heap), YP w h → h.Ns mainGlobals mg → mg d.name = some (.ref fa) →
      ∃ (K : PySem.W.Frag) (fd : FuncData) (sp : Sp), K.In h ∧ (∀ (s : Shared) (u : Value), BindsTo s fd ⟨[u], []⟩ [(x, u)]) ∧
        (∀ (H : Hp) (a : Addr) (ns : List Int), ns.length ≤ n → Only H → SqL K H a (ns.map V.int) → sp [.ref a] H (fun v _ => v = .bl true) fun _ _ _ => False) ∧ ∀ base : Heap, K.In base → base.Ns mainGlobals mg → FnC l.prog w K mg base fa fd [x] sp) :
    PySem.W.WalkO q loose XP YP l.row.toRowW d [] (fun f vs => PySem.call f vs) := by
  refine Att.attach_call hn hdf (fun w _ st mg mb fa o pm cd doc a us ns G Y _ _ _ hm obj iri hl hg => ?_)
  obtain ⟨K, fd, sp, kx, hb, hs, hF⟩ := F w mg fa _ Y G.T.g hm
  exact call_ofC kx G.T.g G.T.b G.T.builtins G.T.nolimit hg obj iri (Nat.le_trans hl hz) hF hb (fun H ho hq => hs H a ns hl ho hq)
/-! ### repr -/
def rRep (K : PySem.W.Frag) : List V → Hp → VK → Prop := fun xs H Q => ∃ (a : Addr) (d : PyData), xs = [.ref a] ∧ Dp K H (.ref a) d ∧ d.showable = true ∧ d.hasDict = false ∧ d.depth ≤ 8 ∧ d.shown.length ≤ sizeLine ∧ Q (.str d.shown) H
theorem call_repr {X : Cx} (hg : X.A.guards = some []) (hu : X.A.units + 64 < cLine) : CallR X (.builtin "repr") (rRep X.K) := by
  intro pins s σ H xs us Q I r h
  obtain ⟨a, d, rfl, hd, hs, hn, hp, hz, q⟩ := h
  obtain ⟨u, rfl, ru⟩ := r.one
  obtain rfl : u = Value.ref a := ru
  obtain ⟨as, rd⟩ := Dp.reads I d _ _ hd rfl
  exact PySem.repr_of_reads' rd hs (fun z => by rw [hn] at z; cases z) hg (by omega) (fun _ _ e => e) (fun h' u tk kk => ⟨.str d.shown, H, I.kept kk, ⟨u, rfl⟩, q⟩) hz
end TKR
set_option maxHeartbeats 1000000
/-! for i, x in enumerate(xs) with an invariant. -/
namespace TK
open PySem PySem.Spec PyProof.Rows L2 SX
theorem for_enum {K : PySem.W.Frag} {a : Addr} {xs : List V} {g : TG} {tb : TS} {D : Ends} {σ : L2.St} {H : Hp} (Pv : Nat → L2.St → Hp → Prop) (h0 : Pv 0 σ H) (hl : ∀ i σ H, i ≤ xs.length → Pv i σ H → SqL K H a xs)
    (hs : ∀ i x T σ H, xs[i]? = some x → Pv i σ H → H T = none → g (.ref T) σ (upd H T (.tup [.int (i : Nat), x])) fun σ2 H2 => tb { D with nx := Pv (i + 1), ct := Pv (i + 1), bk := D.nx } σ2 H2) (hd : ∀ σ H, Pv xs.length σ H → D.nx σ H) :
    ∃ W : Nat → Nat → L2.St → Hp → Prop, (∃ m, W 0 m σ H) ∧ ∀ i m σ H, W i m σ H →
      ((Ite K a).stop i H ∧ D.nx σ H) ∨ ((Ite K a).go i H ∧ ∃ N : L2.St → Hp → Prop, (∀ σ' H', N σ' H' → ∃ m', m' < m ∧ W (i + 1) m' σ' H') ∧ ∀ x H', (Ite K a).yld i H x H' → g x σ H' fun σ2 H2 => tb { D with nx := N, ct := N, bk := D.nx } σ2 H2) := by
  refine ⟨fun i m σ H => m + i = xs.length ∧ Pv i σ H, ⟨xs.length, rfl, h0⟩, fun i m σ H q => ?_⟩
  obtain ⟨e, p⟩ := q
  have sq := hl i σ H (by omega) p
  by_cases lt : i < xs.length
  · refine .inr ⟨⟨xs, xs[i], sq, List.getElem?_eq_getElem lt⟩, Pv (i + 1), fun σ' H' z => ⟨m - 1, by omega, by omega, z⟩, fun x H' y => ?_⟩
    obtain ⟨T, v, rfl, hT, rfl, hx⟩ := y
    exact hs i v T σ H (hx xs sq) p hT
  · obtain rfl : i = xs.length := by omega
    exact .inl ⟨⟨xs, sq, Nat.le_refl _⟩, hd σ H p⟩
end TK
set_option maxHeartbeats 2000000
/-! Own exceptions over own classes over ValueError, whose __init__ says super().__init__(text) and keeps one field. -/
namespace TKE
open PySem PySem.Spec PyProof.Rows L2
structure SupTxt (K : PySem.W.Frag) (P : Program) (C fI cda cc : Addr) : Prop where
  oex : OexC K C
  iC : PySem.W.findIn K (.ref C) "__init__" = some (some (.ref fI))
  tI : PySem.W.typeIn K (.ref fI) = some (.type "function")
  sup : PySem.W.ks_superIn K C C "__init__" = some (some (.builtin "ValueError.__init__"))
  subVE : PySem.W.subIn K (.ref C) (.type "ValueError") = some true
  mroC : PySem.W.mroIn K C (.ref C) = some true
  hop : PySem.W.nsIn K cStatics "thirdparty.any" = some none
  code : ∃ ccl cdd vs ccs file tf, K.lookup cda = some ⟨ccl, cdd, .fields vs, ccs⟩ ∧ vs[2]? = some (.str file tf) ∧ ((P.main.file : Str) == file) = true
  cell : ∃ cl cld csl, K.lookup cc = some ⟨cl, cld, .cell (some (.ref C)), csl⟩
section
variable {prog : Program} {w : World} {A : Around} {E : Value → Shared → Prop} {h : Heap} {g : Array GenState} {d : Drawn} {t : Nat} {os : OsState}
/-- the bound ValueError.__init__, called -/
theorem mw_call {nm q : Str} {C N u a t0 : Addr} {bs bm : List Value} {hdct : Bool} {sn : List Str} {sub : List Value} {ab : Bool} {col : Option Bool} {dd : Option Addr} {k0 k1 k2 k3 k5 : Option Value} {rest : List Value} {Q : Value → Shared → Prop}
    (hC : h.get? C = some (excClassObj nm q C N bs bm hdct sn sub ab col dd k0 k1 k2 k3 k5 "ValueError.__new__"))
    (he : h.get? a = some ({ cls := .ref C, dict := none, data := .fields #[.ref t0, .none, .none, .none, .bool false, .none] } : Obj)) (hu : h.get? u = some (PySem.W.kxs_mw "ValueError.__init__" a)) (hz : rest.length ≤ sizeLine)
    (hq : ∀ h' t', (∀ b o, b ≠ a → h.get? b = some o → h'.get? b = some o) → h'.get? a = some ({ cls := .ref C, dict := none, data := .fields #[.ref t', .none, .none, .none, .bool false, .none] } : Obj) → Q .none ⟨h', g, d, t, os⟩) :
    wpAny (model prog w) A (call (.ref u) rest) Q E ⟨h, g, d, t, os⟩ := by
  have FB := F.excBase_ValueError
  refine wpAny_call (codeAny_of_tree ?_)
  change wpAny _ A.in1 (callAny (.ref u) ⟨rest, []⟩) _ _ _
  simp only [callAny]
  refine wpAny_bind (wpAny_load hu ?_)
  have em : (Value.type "method-wrapper" == Value.type "method" || Value.type "method-wrapper" == Value.type "builtin_function_or_method" || Value.type "method-wrapper" == Value.type "method-wrapper") = true := by decide
  simp only [PySem.W.kxs_mw, em, if_true]
  refine PySem.W.KFB.if_so (by decide) ?_
  refine wpAny_bind (PySem.W.check_bound_init FB.toExcCallFacts hC he rfl (wpAny_bind (wpAny_pure (wpAny_pure ?_))))
  refine ⟨plainId_quiet FB.init.plain _, codeAny_builtin FB.initEntry (PySem.W.exc_init_tree (t0 := t0) (cls := .ref C) (dv := none) (c2 := .none) (c3 := .none) (b4 := .bool false) he hz fun h' k e' _ => hq h' _ k e')⟩
end
theorem boot_super : bootBuiltins "super" = some (.type "super") := by first | boot_by_name | rfl | kernel_rfl
section
variable {X : Cx} {pins : List (Addr × Obj)} {σ : L2.St} {H : Hp} {s : Shared} {C fI cda cc a : Addr} {body : List Stmt} {p0 p1 apos pos pos' : Pos} {e : Expr} {te : TE} {pl : Sem Bool} {fd : FuncData} {ar : Arg} {Q' : Hp → Prop} {oc : Value} {od : Option Addr} {osl : Array (Option Value)}
theorem sup_stmt (T : SupTxt X.K X.prog C fI cda cc) (hfu : X.env.func = some fI) (hf : X.K.lookup fI = some ⟨oc, od, .func fd, osl⟩) (hp : (fd.params.posonlyargs ++ fd.params.args).head? = some ar) (hco : X.env.code = .ref cda)
    (hks : X.env.kindOf "super" = some .globalImplicit) (hkc : X.env.kindOf "__class__" = some .free) (hcl : X.env.cells.lookup ("__class__" : Str) = some cc) (hka : X.env.kindOf ar.arg = some .local) (hN : X.N[0]? = some ar.arg)
    (hm : X.mg "super" = none) (htop : (X.prog.main.scope.names.lookup ("super" : Str)).isSome = false)
    (I : Inv X pins σ H s) (hσ : σ[0]? = some (some (.ref a))) (ha : H a = some (exo a C none)) (he : PE X e te) (h : te σ H fun v H1 => H1 a = some (exo a C none) ∧ Q' H1 ∧ [v].length = 1)
    (hev : eval (.Call (.Attribute (.Call (.Name "super" p0) [] [] p1) "__init__" apos) [e] [] pos) X.env = (do
      let ov ← attributeBase (.Call (.Name "super" p0) [] [] p1) "__init__" X.env (eval (.Call (.Name "super" p0) [] [] p1) X.env)
      standAt apos.atName
      let (f, first) ← holding [ov] (getMethod ov "__init__" pl)
      callWith pos f first (backTo pos (starEach [e] X.env)) []))
    (hi : interactive X.env = false) (hsw : swapsWith (.Call (.Attribute (.Call (.Name "super" p0) [] [] p1) "__init__" apos) [e] [] pos) none pos'.line X.env = pure false)
    (hst : starEach [e] X.env = (false, eval e X.env) :: starEach [] X.env) :
    _root_.PySem.wpAt (model X.prog X.w) X.A (.func body X.env) (exec (.Expr (.Call (.Attribute (.Call (.Name "super" p0) [] [] p1) "__init__" apos) [e] [] pos) pos') X.env) (fun fl s' => fl = .next ∧ ∃ H1, Inv X pins σ H1 s' ∧ Q' H1) X.xe s := by
  have KX := I.kIn
  refine ks_wpAt_Expr_any (ks_wpAt_MethodCall (pl := pl) ?_ hev) hi hsw
  obtain ⟨ccl, cdd, vs, ccs, file, tf, hcd, hvs, hfile⟩ := T.code
  obtain ⟨cl, cld, csl, hcc⟩ := T.cell
  refine ks_wpAt_super_base hks hkc (by decide) hfu (KX _ _ hf) rfl hp hco (KX _ _ hcd) rfl hvs hfile htop ?_
  obtain ⟨mb, hb1, hb2⟩ := I.mod.blt
  refine PySem.W.ks_loadName_global I.ok.kind hks (Calls.loadGlobal_builtin (by rw [I.ok.glob]; exact I.mod.glob.keeps I.bk) hm (by rw [I.ok.blt]; exact hb1.keeps I.bk) ((hb2 _ (by decide)).trans boot_super) ⟨rfl, ?_⟩)
  refine wpAny_loadName_free I.ok.kind hkc hcl ⟨_, KX _ _ hcc, rfl⟩ ?_
  obtain ⟨m, hns, hloc⟩ := I.loc
  obtain ⟨u, ru, hlk⟩ := hloc 0 ar.arg (.ref a) hN hσ (.inl hka)
  obtain rfl : u = Value.ref a := ru
  have hv : m ar.arg = some (.ref a) := by
    rcases hlk with ⟨_, z⟩ | ⟨z, _⟩
    · exact z
    · rw [hka] at z
      rcases z with z | z <;> cases z
  refine wpAny_loadName_local I.ok.kind hka hns hv ?_
  obtain ⟨nm, q, N, bs, bm, sn, sub, ab, col, dd, k0, k1, k2, k3, k5, hC, hbm⟩ := T.oex.cls
  obtain ⟨t1, ho⟩ := exo_at I.hok ha
  have hkC := KX _ _ hC
  obtain ⟨hp0, g, d, t, os⟩ := s
  refine ks_wpAny_isType_cls hkC rfl ⟨rfl, ?_⟩
  refine ks_wpAny_call_super hkC rfl ho rfl (fun c z => nomatch z) (PySem.W.looks_mroIn KX T.mroC) (fun h1 e1 kk => ?_)
  have I1 : Inv X pins σ H ⟨h1, g, d, t, os⟩ := I.kept (t' := t) kk
  have ho1 := kk _ _ ho
  have aC : a ≠ C := fun z => by
    rw [z] at ho
    have := ho.symm.trans hkC
    cases this
  have hcls : PySem.W.clsIn X.K C = some { name := nm, bases := bs, mro := .ref C :: bm, ns := N, qualname := q, hasDict := true, slotNames := sn, subclasses := sub, abstract := ab, collection := col, hasDel := false } := by unfold PySem.W.clsIn; rw [hC] <;> rfl
  have hsup := T.sup
  unfold PySem.W.ks_superIn at hsup
  rw [hcls] at hsup
  have II : PySem.W.InstAt h1 a ({ cls := .ref C, dict := none, data := .fields #[.ref t1, .none, .none, .none, .bool false, .none] } : Obj) C none := ⟨ho1, rfl, rfl, trivial⟩
  refine PySem.W.kxs_getMethod PySem.W.kxs_ValueError e1 (PySem.W.looks_opaque I1.kIn T.hop) (fun A Q E s k q => wpAny_bind ((PySem.W.looks_clsIn I1.kIn hcls) A _ E s k (wpAny_pure q))) rfl I1.kIn hsup (II.type.andThen (PySem.W.looks_subIn I1.kIn T.subVE)) aC (by decide) ?_
  have I2 : Inv X ((h1.objs.size, PySem.W.kxs_mw "ValueError.__init__" a) :: pins) σ H ⟨h1.push (PySem.W.kxs_mw "ValueError.__init__" a), g, d, t + 1, os⟩ :=
    ClX.pin_new I1 (fun b o z => Heap.get?_push_of_some _ z) (Nat.le_refl _) (Heap.get?_push_at rfl rfl) (fun v z => nomatch z)
  refine PySem.W.kxs_callWith (i := "ValueError.__init__") (x := a) (by rw [hst]; rfl) ?_
  rw [hst]
  refine Calls.evalArgs_plain ?_
  have hpa := (pa_cons he pa_nil hst).run pos _ _ σ H (fun vs H1 => H1 a = some (exo a C none) ∧ Q' H1 ∧ vs.length = 1) I2 h
  rw [hst] at hpa
  refine thn hpa fun us s2 ⟨vs2, H2, I3, r, q1, q2, q3⟩ => ?_
  obtain ⟨t2, ho2⟩ := exo_at I3.hok q1
  refine ⟨ClX.pin_at I3, ?_⟩
  obtain ⟨hp2, g2, d2, t2', os2⟩ := s2
  refine mw_call (I3.kIn _ _ hC) ho2 (ClX.pin_at I3) (by show us.length ≤ sizeLine; rw [← r.length, q3]; decide) fun h' t' k' e' => ⟨rfl, H2, ?_, q2⟩
  have J := (ClX.unpin I3).write (t' := t2') (x := a) (e := a) (o := exo a C none) (by rw [q1]; exact True.intro) (.inl rfl) k' ⟨_, e'⟩ (exo_ok e')
  have eu : upd H2 a (exo a C none) = H2 := by
    funext b
    by_cases hb : b = a
    · rw [hb, upd_same, q1]
    · rw [upd_ne hb]
  rw [eu] at J
  exact J
end
end TKE
set_option maxHeartbeats 2000000
set_option pp.maxSteps 300
/-! The __init__ of such an exception as a def; raising it; makers that may raise; isinstance of a caught one. -/
namespace TKE
open PySem PySem.Spec PyProof.Rows L2 NdefX
section
variable {P : Program} {w : World} {K : PySem.W.Frag} {mg : Str → Option Value} {base : Heap}
abbrev supN (x : Str) : List Str := ["self", x, "__class__"]
abbrev supF (qual : Str) (params : Arguments) (body : List Stmt) (scope : Scope) (cda cc : Addr) : NF := ⟨"__init__", qual, params, body, scope, [("__class__", cc)], cda⟩
theorem fnok_sup {C fI cda cc : Addr} {qual x : Str} {params : Arguments} {body : List Stmt} {scope : Scope} {doc pm ct : Value} {an : Option Addr} {oc : Value} {od : Option Addr} {osl : Array (Option Value)} {sp : Sp}
    {p0 p1 apos pos pos' : Pos} {e : Expr} {rest : List Stmt} {ar : Arg} {pl : Sem Bool}
    (T : SupTxt K P C fI cda cc)
    (hK : K.lookup fI = some ⟨oc, od, .func (PySem.W.fnX "__init__" qual params body scope [("__class__", cc)] .none .none doc pm an (.ref cda) ct), osl⟩) (hcd : PySem.W.codeIn K (.ref cda) qual = true)
    (S : NScope (supN x) ["self", x] ["__class__"] scope) (hsup : scope.names.lookup ("super" : Str) = some .globalImplicit) (hcls : scope.names.lookup ("__class__" : Str) = some .free)
    (hp : (params.posonlyargs ++ params.args).head? = some ar) (har : ar.arg = "self")
    (hbody : body = .Expr (.Call (.Attribute (.Call (.Name "super" p0) [] [] p1) "__init__" apos) [e] [] pos) pos' :: rest)
    (hm : mg "super" = none) (htop : (P.main.scope.names.lookup ("super" : Str)).isSome = false)
    (len : ∀ vs H Q E, sp vs H Q E → vs.length = 2)
    (hb : ∀ (A : Around) (outer : List Env) (s : Shared) (H : Hp) (vs : List V) (Q : VK) (E : XK), sp vs H Q E → ∃ (a : Addr) (y : V) (te : TE) (t2 : TS), vs = [.ref a, y] ∧ H a = some (exo a C none) ∧
      PE (ncx CX0 P w K mg base (supN x) (supF qual params body scope cda cc) fI A outer s H E) e te ∧ PSs (ncx CX0 P w K mg base (supN x) (supF qual params body scope cda cc) fI A outer s H E) rest t2 ∧
      te (startF (supN x) vs [none]) H fun v H1 => H1 a = some (exo a C none) ∧ t2 { nx := fun _ H' => Q .non H', rt := Q } (startF (supN x) vs [none]) H1 ∧ [v].length = 1)
    (hev : ∀ (A : Around) (outer : List Env) (s : Shared) (H : Hp) (E : XK), eval (.Call (.Attribute (.Call (.Name "super" p0) [] [] p1) "__init__" apos) [e] [] pos) (ncx CX0 P w K mg base (supN x) (supF qual params body scope cda cc) fI A outer s H E).env = (do
      let ov ← attributeBase (.Call (.Name "super" p0) [] [] p1) "__init__" (ncx CX0 P w K mg base (supN x) (supF qual params body scope cda cc) fI A outer s H E).env (eval (.Call (.Name "super" p0) [] [] p1) (ncx CX0 P w K mg base (supN x) (supF qual params body scope cda cc) fI A outer s H E).env)
      standAt apos.atName
      let (f, first) ← holding [ov] (getMethod ov "__init__" pl)
      callWith pos f first (backTo pos (starEach [e] (ncx CX0 P w K mg base (supN x) (supF qual params body scope cda cc) fI A outer s H E).env)) []))
    (hi : ∀ (A : Around) (outer : List Env) (s : Shared) (H : Hp) (E : XK), interactive (ncx CX0 P w K mg base (supN x) (supF qual params body scope cda cc) fI A outer s H E).env = false)
    (hsw : ∀ (A : Around) (outer : List Env) (s : Shared) (H : Hp) (E : XK), swapsWith (.Call (.Attribute (.Call (.Name "super" p0) [] [] p1) "__init__" apos) [e] [] pos) none pos'.line (ncx CX0 P w K mg base (supN x) (supF qual params body scope cda cc) fI A outer s H E).env = pure false)
    (hst : ∀ (A : Around) (outer : List Env) (s : Shared) (H : Hp) (E : XK), starEach [e] (ncx CX0 P w K mg base (supN x) (supF qual params body scope cda cc) fI A outer s H E).env = (false, eval e (ncx CX0 P w K mg base (supN x) (supF qual params body scope cda cc) fI A outer s H E).env) :: starEach [] (ncx CX0 P w K mg base (supN x) (supF qual params body scope cda cc) fI A outer s H E).env) :
    FnOk P w K mg base CX0 1 fI (PySem.W.fnX "__init__" qual params body scope [("__class__", cc)] .none .none doc pm an (.ref cda) ct) ["self", x] sp := by
  refine ⟨len, fun A outer s H args us vs Q E hr e0 hbi r hsp => ?_⟩
  have KX : K.In s.heap := e0.mod.kin.keeps fun b o z => (e0.bs b o z).1
  have lim : s.heap.NoLimit := e0.mod.nolimit.keeps fun b o z => (e0.bs b o z).1
  have hl : vs.length = (["self", x] : List Str).length := len _ _ _ _ hsp
  obtain ⟨cl, cld, csl, hcc⟩ := T.cell
  have cat : CellsAt [("__class__", cc)] ["__class__"] [none] s.heap H := by
    have hcell : s.heap.IsCell cc (some (.ref C)) := ⟨_, KX _ _ hcc, rfl⟩
    have hnone : H cc = none := (e0.bs cc _ (e0.mod.kin _ _ hcc)).2
    have key : ∀ (y : Str) (c : Addr), List.lookup y [(("__class__" : Str), cc)] = some c → c = cc ∧ y = "__class__" := by
      intro y c hy
      rw [List.lookup_cons] at hy
      by_cases q : (y == ("__class__" : Str)) = true
      · rw [q] at hy
        exact ⟨(Option.some.inj hy).symm, beq_iff_eq.mp q⟩
      · rw [show (y == ("__class__" : Str)) = false by simpa using q] at hy
        cases hy
    refine ⟨rfl, fun y c hy => ?_, fun y z c h1 h2 => ?_, fun i y hy => ?_⟩
    · obtain ⟨rfl, _⟩ := key y c hy
      exact ⟨hnone, _, hcell⟩
    · rw [(key y c h1).2, (key z c h2).2]
    · refine ⟨cc, ?_, fun v hv => ?_⟩
      · match i, hy with
        | 0, hy =>
          cases hy
          rfl
      · match i, hv with
        | 0, hv => cases hv
  obtain ⟨a, y, te, t2, ev, ha, he, h2, hq⟩ := hb A outer s H vs Q E hsp
  refine ks_codeAny_call_defAt (fd := PySem.W.fnX "__init__" qual params body scope [("__class__", cc)] .none .none doc pm an (.ref cda) ct) (body := body) (binds := (["self", x] : List Str).zip us) hr.depth (KX _ _ hK) rfl lim (PySem.W.codeRec_of KX hcd) rfl hbi S.nocell
    (fun ⟨n, _⟩ hy => S.par n (List.of_mem_zip hy).1) (fun h₁ hns kp => ?_) S.co S.gen S.kind
  have I : Inv (ncx CX0 P w K mg base (supN x) (supF qual params body scope cda cc) fI A outer s H E) [] (startF (supN x) vs [none]) H { s with heap := h₁, toks := s.toks + ((["self", x] : List Str).zip us).length } := inv_startN S hr.hd e0 hl r cat hns kp
  have hT : SupTxt (ncx CX0 P w K mg base (supN x) (supF qual params body scope cda cc) fI A outer s H E).K (ncx CX0 P w K mg base (supN x) (supF qual params body scope cda cc) fI A outer s H E).prog C fI cda cc := T
  have q1 := sup_stmt (body := body) (pl := pl) (ar := ar) hT rfl hK hp rfl hsup hcls rfl (by rw [har]; exact S.par _ (List.mem_cons_self ..)) (by rw [har]; rfl) hm htop I (by rw [ev]; rfl) ha he hq (hev A outer s H E) (hi A outer s H E) (hsw A outer s H E) (hst A outer s H E)
  have fin : ∀ {σ' : L2.St} {H' : Hp} {v : V} {u : Value} {s' : Shared}, Inv (ncx CX0 P w K mg base (supN x) (supF qual params body scope cda cc) fI A outer s H E) [] σ' H' s' → RelV v u → Q v H' → CE outer P w H s Q u s' := fun {σ' H' v u s'} J rv q => ⟨v, H', J.os, J.bare, J.base, J.hok, rv, q⟩
  rw [hbody] at q1 ⊢
  refine ks_wpAt_execs_cons (ks_wpAt_mono q1 (fun fl s' hfl => ?_) fun e s' z => z)
  obtain ⟨rfl, H1, I1, q⟩ := hfl
  refine wpAt_of_wpAny (wpAny_mono (h2.run [] _ _ H1 _ I1 q) (fun fl s' hs => ?_) fun e s' z => z)
  cases fl with
  | ret u =>
    obtain ⟨v, σ', H', J, rv, q⟩ := hs
    exact fin J rv q
  | next =>
    obtain ⟨σ', H', J, q⟩ := hs
    exact fin (v := V.non) (u := Value.none) J rfl q
  | brk =>
    obtain ⟨_, _, _, z⟩ := hs
    exact False.elim z
  | cont =>
    obtain ⟨_, _, _, z⟩ := hs
    exact False.elim z
end
end TKE
set_option maxHeartbeats 2000000
set_option pp.maxSteps 300
/-! Raising such an exception; makers that may raise; isinstance of a caught one. -/
namespace TKE
open PySem PySem.Spec PyProof.Rows L2 NdefX TK
/-- the promise of its __init__ -/
def spExc (C : Addr) (fld : Str) (ok : V → Prop) : Sp := fun vs H Q _ => ∃ (a : Addr) (y : V), vs = [.ref a, y] ∧ ok y ∧ H a = some (exo a C none) ∧ ∀ dx, H dx = none → dx ≠ a → Q .non (upd (upd H dx (exd dx [(fld, y)])) a (exo a C (some dx)))
section
variable {P : Program} {w : World} {K : PySem.W.Frag} {mg : Str → Option Value} {base : Heap}
structure ExcMk (P : Program) (w : World) (K : PySem.W.Frag) (mg : Str → Option Value) (base : Heap) (x : Str) (C : Addr) (fld : Str) (ok : V → Prop) : Prop where
  ex : ∃ (fI : Addr) (fd : FuncData) (ps : List Str), OexC K C ∧ PySem.W.findIn K (.ref C) "__init__" = some (some (.ref fI)) ∧ PySem.W.typeIn K (.ref fI) = some (.type "function") ∧ FnOk P w K mg base CX0 1 fI fd ps (spExc C fld ok) ∧ Binds K fd ps [] ∧ mg x = some (.ref C)
end
section
variable {X : Cx} {W : WX} {C : Addr} {x fld : Str} {ok : V → Prop} {p pos pos' : Pos} {e : Expr} {es : List Expr} {te : TE} {j : Nat}
theorem ps_raiseE (c : ExcMk X.prog X.w X.K X.mg X.base x C fld ok) (hc : X.calm = true) (tk : Takes X W) (hr : Room j X.A) (hk : 2 ≤ j) (hg : Gl X x) (he : PE X e te)
    (hdb : (x == ("__debug__" : Str)) = false := by decide) (hs : starEach (e :: es) X.env = (false, eval e X.env) :: starEach es X.env := by rfl) (hes : es = [] := by rfl) (hpl : (backTo pos (starEach es X.env)).any (·.1) = false := by rfl) :
    PS X (.Raise (some (.Call (.Name x p) (e :: es) [] pos)) none pos') (fun _ σ H => te σ H fun y H1 => ok y ∧ ∀ d, H1 d = none → W (.ref C) (some d) σ (upd H1 d (.xd [(fld, y)]))) := by
  subst hes
  obtain ⟨fI, fd, ps, T, iC, tI, F1, hb, hm⟩ := c.ex
  refine ⟨fun pins s σ H D I h => ?_⟩
  refine (ps_raise hc tk (pmk_oex T iC tI F1 (hr.mono hk) hb .nil (fun _ _ _ _ _ _ _ z => z.elim) hg hm (pa_cons (pe_cut he) pa_nil hs) hdb hs hpl)).run pins s σ H D I ?_
  refine ⟨_, h, fun y H1 hy => ⟨by show 1 ≤ 1000; decide, fun a ha => ⟨a, y, rfl, hy.1, upd_same, fun dx hdx hne => ⟨rfl, dx, [(fld, y)], upd_same, ?_, ?_, ?_⟩⟩⟩⟩
  · rw [upd_ne hne, upd_same]
  · rw [upd_ne hne] at hdx
    exact hdx
  · have hd1 : H1 dx = none := by
      rw [upd_ne hne] at hdx
      exact hdx
    have q := hy.2 dx hd1
    have eh : upd (L2.del (upd (upd (upd H1 a (exo a C none)) dx (exd dx [(fld, y)])) a (exo a C (some dx))) a) dx (.xd [(fld, y)]) = upd H1 dx (.xd [(fld, y)]) := by
      funext b
      by_cases h1 : b = dx
      · rw [h1, upd_same, upd_same]
      · rw [upd_ne h1, upd_ne h1]
        by_cases h2 : b = a
        · rw [h2, L2.del_same, ha]
        · rw [L2.del_ne h2, upd_ne h2, upd_ne h1, upd_ne h2]
    rw [eh]
    exact q
end
/-! ### makers that may raise -/
section
variable {P : Program} {w : World} {K : PySem.W.Frag} {mg : Str → Option Value} {base : Heap}
structure MakX (P : Program) (w : World) (K : PySem.W.Frag) (mg : Str → Option Value) (base : Heap) (k : Nat) (x : Str) (C : Addr) (sp : Sp) (n : Nat) (ks : List Str) (gV : List V → List V → List V) : Prop where
  ex : ∃ (f : Addr) (fd : FuncData) (ps : List Str) (g : List Value → List Value → List Value), Mk K C f ∧ FnOk P w K mg base (L2.CX P w) k f fd ps sp ∧ mg x = some (.ref C) ∧ KBn K fd ps (n + 1) ks g gV
/-- C(e, ..) as an expression: at σ, what it lets out is WE W σ -/
def tMakX (C : Addr) (n m : Nat) (sp : Sp) (gV : List V → List V → List V) (E : L2.St → XK) (t tk : TA) : TE := fun σ H Q => t σ H fun vs H1 => tk σ H1 fun zs H2 => vs.length = n ∧ zs.length = m ∧ ∀ x dx, H2 x = none → H2 dx = none → dx ≠ x →
  sp (gV (.ref x :: vs) zs) (upd (upd H2 dx (.own x)) x (.ins C dx [])) (fun v H3 => v = .non ∧ Q (.ref x) H3) (E σ)
end
section
variable {X : Cx} {W : WX} {k j n : Nat} {f C : Addr} {fd : FuncData} {ps ks : List Str} {sp : Sp} {x : Str} {p pos : Pos} {e : Expr} {es : List Expr} {kws : List Keyword} {t tk : TA} {g : List Value → List Value → List Value} {gV : List V → List V → List V}
theorem run_makX {pins : List (Addr × Obj)} {σ : L2.St} {H : Hp} {s : Shared} {Q : VK} {us ws : List Value} {vs zs : List V} {E : XK} (M : Mk X.K C f) (F : FnOk X.prog X.w X.K X.mg X.base (L2.CX X.prog X.w) k f fd ps sp) (hr : Room (k + 1) X.A) (hb : KBn X.K fd ps (n + 1) ks g gV) (hx : PassesAt (L2.CX X.prog X.w) X σ E)
    (I : Inv X pins σ H s) (r : Vals vs us) (rz : Vals zs ws) (l1 : vs.length = n) (l2 : zs.length = ks.length)
    (h : ∀ x dx, H x = none → H dx = none → dx ≠ x → sp (gV (.ref x :: vs) zs) (upd (upd H dx (.own x)) x (.ins C dx [])) (fun v H2 => v = .non ∧ Q (.ref x) H2) E) :
    wpAny (model X.prog X.w) X.A (call (.ref C) us (ks.zip ws)) (EP X pins σ Q) X.xe s := by
  let q := s.heap.objs.size
  have fr1 : H (q + 1) = none := I.hok.fresh (Nat.le_succ q)
  have fr2 : H q = none := I.hok.fresh (Nat.le_refl q)
  have told := h (q + 1) q fr1 fr2 (Nat.ne_of_lt (Nat.lt_succ_self q))
  have J := Inv.made (C := C) I
  have ra : Vals (V.ref (q + 1) :: vs) (Value.ref (q + 1) :: us) := .cons rfl r
  have na : (Value.ref (q + 1) :: us).length = n + 1 := by
    have := ra.length
    rw [← this, List.length_cons, l1]
  have run := F.run _ X.stack _ _ ⟨Value.ref (q + 1) :: us, ks.zip ws⟩ (g (Value.ref (q + 1) :: us) ws) _ _ E (hr.make C us (ks.zip ws)) (J.env0.make C us (ks.zip ws)) (hb.to _ (Value.ref (q + 1) :: us) ws J.kIn na (rz.length.symm.trans l2)) (hb.rel ra rz) told
  refine wpAny_call (make_map (f := f) I.kIn M.makes M.init (beq_iff_eq.mp M.fn) (codeAny_mono run fun o s' ho => ?_))
  match o, ho with
  | .error e, ho => exact hx pins _ _ e s' J ho
  | .ok (.ret u), ho =>
    obtain ⟨v, H', I3, rv, ev, q3⟩ := J.after ho
    subst ev
    exact ⟨rv, ⟨V.ref (q + 1), H', I3, rfl, q3⟩⟩
  | .ok .next, ho => exact False.elim ho
  | .ok .brk, ho => exact False.elim ho
  | .ok .cont, ho => exact False.elim ho
theorem pe_makX {E : L2.St → XK} (c : MakX X.prog X.w X.K X.mg X.base k x C sp n [] gV) (hr : Room j X.A) (hk : k + 1 ≤ j) (hx : ∀ σ, PassesAt (L2.CX X.prog X.w) X σ (E σ)) (hg : Gl X x) (ha : PA X (e :: es) t)
    (hdb : (x == ("__debug__" : Str)) = false := by decide) (he : starEach (e :: es) X.env = (false, eval e X.env) :: starEach es X.env := by rfl) (hpl : (backTo pos (starEach es X.env)).any (·.1) = false := by rfl) :
    PE X (.Call (.Name x p) (e :: es) [] pos) (tMakX C n 0 sp gV E t tNil) := by
  obtain ⟨f, fd, ps, g, M, F, hm, b⟩ := c.ex
  refine ⟨fun pins s σ H Q I h => ?_⟩
  refine wpAny_Call_Name_kw (ld_glob I hg hm ?_ hdb)
  refine PySem.W.callWith_K (h₀ := X.base) I.ok.mod.kin M.kp (thn (ha.run pos pins s σ H _ I h) fun us s1 ⟨vs, H1, I1, r, l1, l2, q⟩ => ⟨I1.kIn, ?_⟩) he hpl
  exact run_makX (zs := []) (ws := []) M F (hr.mono hk) b (hx σ) I1 r .nil l1 rfl q
theorem pe_makXK {E : L2.St → XK} (c : MakX X.prog X.w X.K X.mg X.base k x C sp 0 ks gV) (hr : Room j X.A) (hk : k + 1 ≤ j) (hx : ∀ σ, PassesAt (L2.CX X.prog X.w) X σ (E σ)) (hg : Gl X x) (hkw : PK X kws tk)
    (hall : (backToKw pos (keywordEach kws X.env)).all (·.1.isSome) = true := by rfl) (hks : (backToKw pos (keywordEach kws X.env)).filterMap (·.1) = ks := by rfl) (hdb : (x == ("__debug__" : Str)) = false := by decide)
    (hpl : ((backTo pos (starEach [] X.env)).any (·.1) || (backToKw pos (keywordEach kws X.env)).any (·.1.isNone)) = false := by rfl) :
    PE X (.Call (.Name x p) [] kws pos) (tMakX C 0 ks.length sp gV E tNil tk) := by
  obtain ⟨f, fd, ps, g, M, F, hm, b⟩ := c.ex
  refine ⟨fun pins s σ H Q I h => ?_⟩
  refine wpAny_Call_Name_kw (ld_glob I hg hm ?_ hdb)
  refine PySem.W.callWith_KW0 (h₀ := X.base) I.ok.mod.kin M.kp hall ?_ hpl
  refine thn (hkw.run pos pins s σ H _ I h) fun ws s2 ⟨zs, H2, I2, rz, l1, l2, q2⟩ => ⟨I2.kIn, ?_⟩
  rw [hks]
  exact run_makX (us := []) (vs := []) M F (hr.mono hk) b (hx σ) I2 .nil rz rfl l2 q2
/-- nothing is let out here -/
theorem none_out {X : Cx} : ∀ σ : L2.St, PassesAt (L2.CX X.prog X.w) X σ E0 := fun _ _ _ _ _ _ _ z => by
  obtain ⟨_, _, _, _, _, _, _, _, _, _, _, _, y⟩ := z
  exact y.elim
end
end TKE
set_option maxHeartbeats 2000000
set_option pp.maxSteps 300
/-! isinstance of a caught exception that has its dict; what is to be looked up of such a class; a hook with such defs. -/
namespace TKE
open PySem PySem.Spec PyProof.Rows L2 NdefX TK
def rIsD (K : PySem.W.Frag) (D a : Addr) (cls : Value) (d : Option Addr) : List V → Hp → VK → Prop := fun xs H Q => ∃ (c : V) (cv : Value) (b : Bool) (dd : Addr) (fs : List (Str × V)), xs = [.ref a, c] ∧ (∀ u, RelV c u → u = cv) ∧ PySem.W.kitOne K (.ref D) cv = some b ∧ cls = .ref D ∧ d = some dd ∧ H dd = some (.xd fs) ∧ Q (.bl b) H
theorem call_isD {X : Cx} {a D : Addr} {oe : Obj} {cls : Value} {d : Option Addr} {pn : List (Addr × Obj)} (C : ExcC X.K D) (hz : Zc cls d oe) (hf : ∃ vs, oe.data = .fields vs) : CallR (X.suite a ((a, oe) :: pn)) (.builtin "isinstance") (rIsD X.K D a cls d) := by
  intro pins s σ H xs us Q I r h
  obtain ⟨c, cv, b, dd, fs, rfl, hcv, e, rfl, rfl, ed, q⟩ := h
  obtain ⟨u1, u2, rfl, rx, rt⟩ : ∃ u1 u2, us = [u1, u2] ∧ RelV (.ref a) u1 ∧ RelV c u2 := by
    cases r with
    | cons h1 t1 =>
      cases t1 with
      | cons h2 t2 =>
        cases t2
        exact ⟨_, _, rfl, h1, h2⟩
  obtain rfl : u1 = Value.ref a := rx
  obtain rfl := hcv _ rt
  obtain ⟨hget, _⟩ := I.pin (a, oe) (List.mem_append.mpr (.inl List.mem_cons_self))
  obtain ⟨vs, hv⟩ := hf
  have ob : ObjOk X.prog X.w H s.heap dd (.xd fs) := I.hok dd _ ed
  obtain ⟨mA, ⟨od, es, ep, ho, hr2⟩, hr⟩ := ob
  have J : PySem.W.InstAt s.heap a oe D (some od) := ⟨hget, hz.1, by unfold PySem.W.notCls; rw [hv] <;> rfl, by rw [hz.2]; exact ho⟩
  have hcl : (PySem.W.clsIn X.K D).isSome = true := by
    obtain ⟨cd, hc, _⟩ := PySem.W.any_some C.hd
    rw [hc]
    rfl
  exact PySem.W.kia_one (PySem.W.kitx_exc hcl C.hg C.hk C.hs C.ha C.hn C.ht C.hm) I.kIn J e (fun z => nomatch z) fun tk => ⟨.bl b, H, I.kept (t' := tk) fun _ _ z => z, rfl, q⟩
end TKE
set_option maxHeartbeats 2000000
set_option pp.maxSteps 300
/-! What the heap behind the top says of such classes: a check, what it gives, a hook with their __init__. -/
namespace TKE
open PySem PySem.Spec PyProof.Rows L2 NdefX TK
open He (ga ma)
def clsB (K : PySem.W.Frag) (C : Addr) : Bool := match K.lookup C with
  | some ⟨.type "type", _, .cls cd, sl⟩ => (match cd.mro, sl.toList with
    | .ref C' :: bm, [_, _, _, _, some (.builtin n), _] => C' == C && (n == "ValueError.__new__" && (!cd.hasDel && (cd.hasDict && PySem.HandSPX.refsVE bm)))
    | _, _ => false)
  | _ => false
theorem clsB_ok {K : PySem.W.Frag} {C : Addr} (q : clsB K C = true) : ∃ nm q N bs bm sn sub ab col dd k0 k1 k2 k3 k5, K.lookup C = some (excClassObj nm q C N bs bm true sn sub ab col dd k0 k1 k2 k3 k5 "ValueError.__new__") ∧ PySem.HandSPX.refsVE bm = true := by
  unfold clsB at q
  split at q
  · rename_i dd cd sl ho
    split at q
    · rename_i C' bm k0 k1 k2 k3 n k5 hm hs
      simp only [Bool.and_eq_true, beq_iff_eq, Bool.not_eq_true'] at q
      obtain ⟨rfl, rfl, hdel, hd, ht⟩ := q
      obtain ⟨nm, bs, mro, ns, qn, hd', sn, sub, ab, col, del⟩ := cd
      dsimp only at hm hdel hd
      subst hm hdel hd
      have hsl : sl = #[k0, k1, k2, k3, some (.builtin "ValueError.__new__"), k5] := by
        obtain ⟨l⟩ := sl
        simp only at hs
        rw [hs]
      subst hsl
      exact ⟨nm, qn, ns, bs, bm, sn, sub, ab, col, dd, k0, k1, k2, k3, k5, ho, ht⟩
    · cases q
  · cases q
def cellB (K : PySem.W.Frag) (cc C : Addr) : Bool := match K.lookup cc with
  | some ⟨_, _, .cell (some (.ref C')), _⟩ => C' == C
  | _ => false
theorem cellB_ok {K : PySem.W.Frag} {cc C : Addr} (q : cellB K cc C = true) : ∃ cl cld csl, K.lookup cc = some ⟨cl, cld, .cell (some (.ref C)), csl⟩ := by
  unfold cellB at q
  split at q
  · rename_i cl cld C' csl ho
    obtain rfl := beq_iff_eq.mp q
    exact ⟨_, _, _, ho⟩
  · cases q
def fileB (K : PySem.W.Frag) (cda : Addr) (file : Str) : Bool := match K.lookup cda with
  | some ⟨_, _, .fields vs, _⟩ => (match (vs[2]? : Option Value) with
    | some (Value.str f _) => file == f
    | _ => false)
  | _ => false
theorem fileB_ok {K : PySem.W.Frag} {cda : Addr} {file : Str} (q : fileB K cda file = true) : ∃ ccl cdd vs ccs f tf, K.lookup cda = some ⟨ccl, cdd, .fields vs, ccs⟩ ∧ vs[2]? = some (.str f tf) ∧ (file == f) = true := by
  unfold fileB at q
  split at q
  · rename_i cl cld vs csl ho
    split at q
    · rename_i f tf hv
      exact ⟨_, _, _, _, _, _, ho, hv, q⟩
    · cases q
  · cases q
def fnB (K : PySem.W.Frag) (f C : Addr) (qual file : Str) : Bool := match K.lookup f with
  | some ⟨_, _, .func fd, _⟩ => (match fd.closure, fd.code, fd.defaults, fd.kwdefaults with
    | [(n, cc)], .ref cda, .none, .none => n == "__class__" && (PySem.W.codeIn K (.ref cda) qual && (cellB K cc C && fileB K cda file))
    | _, _, _, _ => false)
  | _ => false
def fnC (K : PySem.W.Frag) (p : Str × Option Str) : He.FnW := match K.lookup (He.fAd K p) with
  | some ⟨_, _, .func fd, _⟩ => some (fd.name, fd.qualname, fd.params, fd.body, fd.scope, fd.globals, [], fd.builtins)
  | _ => none
theorem fnB_ok {K : PySem.W.Frag} {p : Str × Option Str} {C : Addr} {nm qual file : Str} {params : Arguments} {body : List Stmt} {scope : Scope} (e : fnC K p = He.DefD.val ⟨p, nm, qual, params, body, scope, [], []⟩) (q : fnB K (He.fAd K p) C qual file = true) :
    ∃ cda cc oc od doc pm an ct osl, K.lookup (He.fAd K p) = some ⟨oc, od, .func (PySem.W.fnX nm qual params body scope [("__class__", cc)] .none .none doc pm an (.ref cda) ct), osl⟩ ∧ PySem.W.codeIn K (.ref cda) qual = true ∧ cellB K cc C = true ∧ fileB K cda file = true := by
  unfold fnB at q
  unfold fnC at e
  split at q
  · rename_i oc od fd osl ho
    rw [ho] at e
    split at q
    · rename_i n cc cda h1 h2 h3 h4
      simp only [Bool.and_eq_true, beq_iff_eq] at q
      obtain ⟨rfl, q1, q2, q3⟩ := q
      obtain ⟨n1, n2, n3, n4, n5, n6, n7, n8, n9, n10, n11, n12, n13, n14, n15⟩ := fd
      dsimp only at h1 h2 h3 h4
      subst h1 h2 h3 h4
      have e2 : (some (n1, n2, n3, n4, n5, n6, [], n15) : He.FnW) = some (nm, qual, params, .stmts body, scope, mainGlobals, [], builtinsNs) := e
      simp only [Option.some.injEq, Prod.mk.injEq] at e2
      obtain ⟨h1, h2, h3, h4, h5, h6, h7, h8⟩ := e2
      subst h1 h2 h3 h4 h5 h6 h8
      exact ⟨cda, cc, oc, od, _, _, _, _, osl, ho, q1, q2, q3⟩
    · cases q
  · cases q
/-- the class named x, its field fld, its __init__'s qualified name, the text's file -/
def excB (K : PySem.W.Frag) (x fld qual file : Str) : List Bool := [clsB K (ga K x),
  decide (PySem.W.findIn K (.ref (ga K x)) "__setattr__" = some (some (.builtin "object.__setattr__"))), decide (PySem.W.subIn K (.ref (ga K x)) (.type "BaseException") = some true), decide (PySem.W.typeIn K (.ref (ga K x)) = some (.type "type")), PySem.W.keepIn K (.ref (ga K x)),
  decide (PySem.W.findIn K (.ref (ga K x)) "__init__" = some (some (.ref (ma K (ga K x) "__init__")))), decide (PySem.W.typeIn K (.ref (ma K (ga K x) "__init__")) = some (.type "function")), decide (PySem.W.ks_superIn K (ga K x) (ga K x) "__init__" = some (some (.builtin "ValueError.__init__"))),
  decide (PySem.W.subIn K (.ref (ga K x)) (.type "ValueError") = some true), decide (PySem.W.mroIn K (ga K x) (.ref (ga K x)) = some true), decide (PySem.W.nsIn K cStatics "thirdparty.any" = some none),
  fnB K (ma K (ga K x) "__init__") (ga K x) qual file, decide (PySem.W.findIn K (.ref (ga K x)) fld = some none),
  decide (PySem.W.findIn K (.ref (ga K x)) "__getattribute__" = some (some (.builtin "BaseException.__getattribute__"))), decide (PySem.W.findIn K (.ref (ga K x)) "__getattr__" = some none), PySem.W.hasDictIn K (ga K x),
  decide (PySem.W.findIn K (.ref (ga K x)) "__class__" = some (some (.builtin "object.__class__"))), decide (PySem.W.specialIn K (.builtin "object.__class__") "__get__" = some (some (.builtin "getset_descriptor.__get__"))),
  decide (PySem.W.takesIn K (.builtin "object.__class__") = some true), decide (PySem.W.mroIn K (ga K x) (.type "object") = some true)]
def excAll (K : PySem.W.Frag) (x fld qual file : Str) : Bool := (excB K x fld qual file).all id
structure ExTxt (K : PySem.W.Frag) (P : Program) (x fld qual : Str) (params : Arguments) (body : List Stmt) (scope : Scope) : Prop where
  ex : ∃ cda cc oc od doc pm an ct osl, SupTxt K P (ga K x) (ma K (ga K x) "__init__") cda cc ∧ K.lookup (ma K (ga K x) "__init__") = some ⟨oc, od, .func (PySem.W.fnX "__init__" qual params body scope [("__class__", cc)] .none .none doc pm an (.ref cda) ct), osl⟩ ∧ PySem.W.codeIn K (.ref cda) qual = true
  no : PySem.W.findIn K (.ref (ga K x)) fld = some none
  ec : ExcC K (ga K x)
  xf : XfC K (ga K x)
theorem exTxt_of {K : PySem.W.Frag} {P : Program} {x fld qual file : Str} {params : Arguments} {body : List Stmt} {scope : Scope} (h : excAll K x fld qual file = true) (hP : P.main.file = file)
    (e : fnC K (x, some "__init__") = He.DefD.val ⟨(x, some "__init__"), "__init__", qual, params, body, scope, [], []⟩) : ExTxt K P x fld qual params body scope := by
  have a : ∀ (i : Nat) (b : Bool), (excB K x fld qual file)[i]? = some b → b = true := fun i b hi => exAt h i hi
  obtain ⟨cda, cc, oc, od, doc, pm, an, ct, osl, hl, hcd, hcell, hfile⟩ := fnB_ok (C := ga K x) (file := file) e (a 11 _ rfl)
  have h2 := of_decide_eq_true (a 2 _ rfl)
  have h13 := of_decide_eq_true (a 13 _ rfl)
  have h14 := of_decide_eq_true (a 14 _ rfl)
  have oex : OexC K (ga K x) := ⟨clsB_ok (a 0 _ rfl), of_decide_eq_true (a 1 _ rfl), h2, of_decide_eq_true (a 3 _ rfl), a 4 _ rfl⟩
  refine ⟨⟨cda, cc, oc, od, doc, pm, an, ct, osl, ⟨oex, of_decide_eq_true (a 5 _ rfl), of_decide_eq_true (a 6 _ rfl), of_decide_eq_true (a 7 _ rfl), of_decide_eq_true (a 8 _ rfl), of_decide_eq_true (a 9 _ rfl), of_decide_eq_true (a 10 _ rfl), ?_, cellB_ok hcell⟩, hl, hcd⟩, of_decide_eq_true (a 12 _ rfl),
    ⟨h13, h14, h2, a 15 _ rfl, of_decide_eq_true (a 16 _ rfl), of_decide_eq_true (a 17 _ rfl), of_decide_eq_true (a 18 _ rfl), of_decide_eq_true (a 19 _ rfl)⟩, ⟨h13, h14, h2, a 15 _ rfl⟩⟩
  rw [hP]
  obtain ⟨ccl, cdd, vs, ccs, f, tf, z⟩ := fileB_ok hfile
  exact ⟨ccl, cdd, vs, ccs, f, tf, z⟩
/-! ### the hook -/
def asE (g : Addr → Option Obj) (n : Nat) (es : List He.DefD) : List Addr :=
  He.asD g n ++ (cStatics :: es.flatMap fun d => match (He.frG g (He.asD g n)).lookup (He.fAd (He.frG g (He.asD g n)) d.at_) with
    | some ⟨_, _, .func fd, _⟩ => fd.closure.map (·.2)
    | _ => [])
abbrev AlE : Type := He.AlD × List He.FnW
def obsE (n : Nat) (fa : List He.Fa) (fn : List He.DefD) (ex : PySem.W.Frag → List Bool) (es : List He.DefD) (g : Addr → Option Obj) : AlE :=
  let K := He.frG g (asE g n es)
  (((He.obsD fa fn K).1 && (ex K).all id, (He.obsD fa fn K).2), es.map fun d => fnC K d.at_)
def hookE (n : Nat) (fa : List He.Fa) (fn : List He.DefD) (ex : PySem.W.Frag → List Bool) (es : List He.DefD) : PySem.W.Hook where
  α := AlE
  obs s := obsE n fa fn ex es s.heap.get?
  val _ := (He.valD fn, es.map He.DefD.val)
  says _ h := ∃ K : PySem.W.Frag, K.In h ∧ He.SaysD fa fn K ∧ (ex K).all id = true ∧ es.map (fun d => fnC K d.at_) = es.map He.DefD.val
  of _ _ e := by
    have e0 := congrArg (fun z : AlE => z.1) e
    have e1 := congrArg (fun z : He.AlD => z.1) e0
    have e2 := congrArg (fun z : He.AlD => z.2) e0
    have e3 := congrArg (fun z : AlE => z.2) e
    obtain ⟨a, b⟩ := Bool.and_eq_true_iff.mp e1
    exact ⟨_, He.frG_in, Prod.ext a e2, b, e3⟩
  keeps _ _ _ c k := let ⟨K, hK, c⟩ := c; ⟨K, PySem.W.Frag.In.keeps hK k, c⟩
theorem obsE_eq {n : Nat} {fa : List He.Fa} {fn : List He.DefD} {ex : PySem.W.Frag → List Bool} {es : List He.DefD} {g : Addr → Option Obj} {s : Shared} (h : ∀ a, g a = s.heap.get? a) : obsE n fa fn ex es g = (hookE n fa fn ex es).obs s := by
  obtain rfl : g = s.heap.get? := funext h
  rfl
theorem fnC_at {K : PySem.W.Frag} {es : List He.DefD} (h : es.map (fun d => fnC K d.at_) = es.map He.DefD.val) (i : Nat) {d : He.DefD} (hd : es[i]? = some d) : fnC K d.at_ = d.val := by
  have e2 : (es.map fun d => fnC K d.at_)[i]? = (es.map He.DefD.val)[i]? := by rw [h]
  rw [List.getElem?_map, List.getElem?_map, hd] at e2
  exact Option.some.inj e2
end TKE
set_option maxHeartbeats 2000000
set_option pp.maxSteps 300
/-! Texts with such classes: the pieces that the generated terms name. -/
namespace TKE
open PySem PySem.Spec PyProof.Rows L2 NdefX TK
def isS : V → Prop := fun y => ∃ z : Str, y = .str z ∧ z.length ≤ 1000
def isI : V → Prop := fun y => ∃ z : Int, y = .int z ∧ z.natAbs.log2 < 1920 ∧ (toString z : Str).length ≤ 1000
theorem ex_l1 {z : Str} (hz : z.length ≤ 1000) : z.length ≤ sizeLine := Nat.le_trans hz (by decide)
theorem ex_l2 {p z : Str} (hp : p.length ≤ 200) (hz : z.length ≤ 1000) : (p ++ z).length ≤ sizeLine := by
  rw [cat_len, sizeLine_eq]
  omega
theorem ex_l3 {p z q : Str} (hp : p.length ≤ 200) (hq : q.length ≤ 200) (hz : z.length ≤ 1000) : (p ++ z ++ q).length ≤ sizeLine := by
  rw [cat_len, cat_len, sizeLine_eq]
  omega
theorem pg_tupK {X : Cx} (K : PySem.W.Frag) (e : X.K = K) {es : List Expr} {k : Nat} {t : TGs} {n : Nat} {pos : Pos} (hc : X.calm = true) (h : PGs X es t)
    (hn : (assignEach es X.env).length = n := by rfl) (hst : (assignEach es X.env).findIdx? (·.1) = none := by rfl) : PG X (.Tuple es k pos) (gTup K n t) := by
  subst e
  exact pg_tup hc h hn hst
def rTupOf (K : PySem.W.Frag) : List V → Hp → VK → Prop := fun xs H Q => ∃ p ys, xs = [.ref p] ∧ ((SqL K H p ys ∧ ∀ l, H l = none → Q (.ref l) (upd H l (.tup ys))) ∨ (SqT K H p ys ∧ Q (.ref p) H))
theorem tupOfK {X : Cx} (K : PySem.W.Frag) (e : X.K = K) : CallR X (.type "tuple") (rTupOf K) := by
  subst e
  exact call_tuple_of
section
variable {P : Program} {w : World} {K : PySem.W.Frag} {mg : Str → Option Value} {base : Heap}
theorem makX_of {x qual : Str} {C f : Addr} {params : Arguments} {body : List Stmt} {scope : Scope} {fd : FuncData} {ps : List Str} {k n : Nat} {sp : Sp} (M : Mk K C f) (hm : mg x = some (.ref C)) (F : FunD K "__init__" qual params body scope [] [] f fd) (G : FnOk P w K mg base (L2.CX P w) k f fd ps sp) (hn : ps.length = n + 1)
    (h : ∀ (kV doc pm : Value) (an : Option Addr) (cdv ct : Value) (us : List Value), us.length = ps.length → bindArgs (PySem.W.fnOf "__init__" qual params body scope .none kV doc pm an cdv ct) ⟨us, []⟩ = pure (ps.zip us)) : MakX P w K mg base k x C sp n [] (fun vs _ => vs) :=
  ⟨f, fd, ps, fun us _ => us, M, G, hm, ⟨fun s us ws _ h1 _ => F.bindsA h s us (h1.trans hn.symm), fun r _ => r⟩⟩
end
end TKE
set_option maxHeartbeats 1000000
namespace TK
open PySem PySem.Spec PyProof.Rows L2 SX
def rRpart : V → List V → Hp → VK → Prop := fun x xs H Q => ∃ z y, x = .str z ∧ xs = [.str y] ∧ (y.length == 0) = false ∧ z.length ≤ sizeLine ∧ ∀ p, H p = none → Q (.ref p) (upd H p (.tup [.str (Txt.rpartition z y).1, .str (Txt.rpartition z y).2.1, .str (Txt.rpartition z y).2.2]))
section
variable {X : Cx} {e o : Expr} {te to : TE}
theorem mt_rpart : MtR X "str.rpartition" rRpart := by
  intro pins s σ H x xs v us Q I rx rs ⟨z, y, ex, exs, hy, hz, h⟩
  subst ex exs
  obtain ⟨tz, rfl⟩ := rx
  match us, rs with
  | [w], .cons r1 .nil =>
    obtain ⟨ty, rfl⟩ := r1
    refine call_meets PySem.F.slot_str_rpartition (typeIs_str _ _ _) PySem.F.entry_str_rpartition (PySem.F.args_str_rpartition_2 _ _) (meets_str_rpartition z y tz ty hy hz) ?_
    have h2 := h
    unfold Txt.rpartition at h2
    revert h2
    cases Builtin.Str.lastOccurrence z y 0 z.length with
    | none => exact fun h2 => laid_parts I h2
    | some i => exact fun h2 => laid_parts I h2
theorem pe_rpartition {apos pos : Pos} (ho : PE X o to) (he : PE X e te) (hs : starEach [e] X.env = [(false, eval e X.env)] := by rfl) (hb : attributeBase o "rpartition" X.env (eval o X.env) = eval o X.env := by rfl) (hl : (apos.endLine == pos.line) = true := by rfl) :
    PE X (.Call (.Attribute o "rpartition" apos) [e] [] pos) (tM1 rRpart to te) := pe_m1 PySem.F.slot_str_rpartition PySem.F.type_str_rpartition mt_rpart ho he hs hb hl
end
/-- what a new object at t, then one at l leaves -/
theorem new2 {H : Hp} {t l : Addr} {o u : HO} (ht : H t = none) (hl : upd H t o l = none) : t ≠ l ∧ H l = none ∧ Same H (upd (upd H t o) l u) ∧ (upd (upd H t o) l u) t = some o ∧ (upd (upd H t o) l u) l = some u := by
  have n : t ≠ l := fun e => by rw [← e, upd_same] at hl; cases hl
  exact ⟨n, by rw [upd_ne n.symm] at hl; exact hl, (same_upd ht).trans (same_upd hl), (upd_ne n).trans upd_same, upd_same⟩
theorem cutV_to (xs : List V) (k : Nat) : cutV xs none (some (k : Int)) = xs.take k := by
  unfold cutV
  have a : HT.sIx xs.length 0 none = 0 := by rfl
  have b : HT.sIx xs.length xs.length (some (k : Int)) = min k xs.length := by
    unfold HT.sIx
    simp
    try omega
  rw [a, b, List.drop_zero, Nat.sub_zero]
  by_cases h : k ≤ xs.length
  · rw [Nat.min_eq_left h]
  · rw [Nat.min_eq_right (by omega), List.take_length, List.take_of_length_le (by omega)]
theorem pi_listK {X : Cx} {tg l : Expr} {tl : TE} (K : PySem.W.Frag) (e : X.K = K) (hl : PE X l tl) : PI X tg l (iList K tl) := by
  subst e
  exact pi_list hl
end TK
set_option maxHeartbeats 1000000
namespace K16
open PySem PySem.Spec PyProof.Rows L2 SX TK NdefX
open C8 (pe_c)
def top (i : Nat) : Stmt := PySem.Challenge.pw_trunkland_k16_judge.main.body.getD i (.Pass ⟨0, 0, 0, 0⟩)
abbrev s_Told___init : Stmt := inClass (top 1) 0
abbrev s_Told_parts : Stmt := inClass (top 1) 1
abbrev s_Told_allows : Stmt := inClass (top 1) 2
abbrev s_Told_take : Stmt := inClass (top 1) 3
abbrev s_tell : Stmt := top 2
abbrev s_stands : Stmt := top 3
abbrev s_take : Stmt := top 4
abbrev s_judge : Stmt := top 6
abbrev s_judge_call : Stmt := top 7
abbrev s_Tariff___init : Stmt := inClass (top 15) 0
abbrev s_Tariff_units : Stmt := inClass (top 15) 1
abbrev s_Tariff_cost : Stmt := inClass (top 15) 2
abbrev s_is_unit : Stmt := top 16
abbrev s_is_price : Stmt := top 17
abbrev s_are_bands : Stmt := top 18
abbrev s_law_state : Stmt := top 20
abbrev s_law_draw : Stmt := top 21
abbrev s_law_pick : Stmt := top 22
abbrev s_law_event : Stmt := top 23
abbrev s_law_stands : Stmt := top 24
abbrev s_law_apply : Stmt := top 25
abbrev s_law_changed_bill : Stmt := top 26
abbrev s_law_bills : Stmt := top 27
abbrev s_law_pending : Stmt := top 28
abbrev s_law_findings : Stmt := top 29
abbrev s_law : Stmt := top 30
abbrev si_ConfigError : Stmt := inClass (top 10) 0
theorem sc_Told___init : FnScope ["self", "begun", "number", "caller", "callee"] ["self", "begun", "number", "caller", "callee"] (defScope s_Told___init) := ⟨rfl, rfl, rfl, by decide +kernel, rfl, by decide +kernel, by decide +kernel⟩
theorem sc_Told_parts : FnScope ["self"] ["self"] (defScope s_Told_parts) := ⟨rfl, rfl, rfl, by decide +kernel, rfl, by decide +kernel, by decide +kernel⟩
theorem sc_Told_allows : FnScope ["self", "event", "name"] ["self", "event"] (defScope s_Told_allows) := ⟨rfl, rfl, rfl, by decide +kernel, rfl, by decide +kernel, by decide +kernel⟩
theorem sc_Told_take : FnScope ["self", "event", "name", "now"] ["self", "event"] (defScope s_Told_take) := ⟨rfl, rfl, rfl, by decide +kernel, rfl, by decide +kernel, by decide +kernel⟩
theorem sc_tell : FnScope ["events", "calls", "wrong", "latest", "index", "event", "call"] ["events"] (defScope s_tell) := ⟨rfl, rfl, rfl, by decide +kernel, rfl, by decide +kernel, by decide +kernel⟩
theorem sc_stands : FnScope ["calls", "event", "number"] ["calls", "event"] (defScope s_stands) := ⟨rfl, rfl, rfl, by decide +kernel, rfl, by decide +kernel, by decide +kernel⟩
theorem sc_take : FnScope ["calls", "event", "_", "now", "number", "caller", "callee"] ["calls", "event"] (defScope s_take) := ⟨rfl, rfl, rfl, by decide +kernel, rfl, by decide +kernel, by decide +kernel⟩
theorem sc_judge : FnScope ["events", "tariff", "bills", "pending", "calls", "wrong", "findings", "counting", "bill", "number", "call", "index"] ["events", "tariff", "bills", "pending"] (defScope s_judge) := ⟨rfl, rfl, rfl, by decide +kernel, rfl, by decide +kernel, by decide +kernel⟩
theorem sc_judge_call : FnScope ["call", "tariff", "bill", "is_pending", "number", "caller", "callee", "_", "answered", "ended", "is_wrong", "findings", "right"] ["call", "tariff", "bill", "is_pending"] (defScope s_judge_call) := ⟨rfl, rfl, rfl, by decide +kernel, rfl, by decide +kernel, by decide +kernel⟩
theorem sc_Tariff___init : FnScope ["self", "unit", "bands", "last", "band"] ["self", "unit", "bands", "last"] (defScope s_Tariff___init) := ⟨rfl, rfl, rfl, by decide +kernel, rfl, by decide +kernel, by decide +kernel⟩
theorem sc_Tariff_units : FnScope ["self", "span"] ["self", "span"] (defScope s_Tariff_units) := ⟨rfl, rfl, rfl, by decide +kernel, rfl, by decide +kernel, by decide +kernel⟩
theorem sc_Tariff_cost : FnScope ["self", "span", "left", "total", "many", "price", "taken"] ["self", "span"] (defScope s_Tariff_cost) := ⟨rfl, rfl, rfl, by decide +kernel, rfl, by decide +kernel, by decide +kernel⟩
theorem sc_is_unit : FnScope ["number"] ["number"] (defScope s_is_unit) := ⟨rfl, rfl, rfl, by decide +kernel, rfl, by decide +kernel, by decide +kernel⟩
theorem sc_is_price : FnScope ["number"] ["number"] (defScope s_is_price) := ⟨rfl, rfl, rfl, by decide +kernel, rfl, by decide +kernel, by decide +kernel⟩
theorem sc_are_bands : FnScope ["bands", "many", "price"] ["bands"] (defScope s_are_bands) := ⟨rfl, rfl, rfl, by decide +kernel, rfl, by decide +kernel, by decide +kernel⟩
theorem sc_law_state : FnScope ["script", "seed", "cell"] ["script"] (defScope s_law_state) := ⟨rfl, rfl, rfl, by decide +kernel, rfl, by decide +kernel, by decide +kernel⟩
theorem sc_law_draw : FnScope ["state", "many", "cells", "value", "mixed"] ["state", "many"] (defScope s_law_draw) := ⟨rfl, rfl, rfl, by decide +kernel, rfl, by decide +kernel, by decide +kernel⟩
theorem sc_law_pick : FnScope ["state", "row"] ["state", "row"] (defScope s_law_pick) := ⟨rfl, rfl, rfl, by decide +kernel, rfl, by decide +kernel, by decide +kernel⟩
theorem sc_law_event : FnScope ["state", "now", "numbers", "number", "kind", "next_one", "side"] ["state", "now", "numbers"] (defScope s_law_event) := ⟨rfl, rfl, rfl, by decide +kernel, rfl, by decide +kernel, by decide +kernel⟩
theorem sc_law_stands : FnScope ["event", "calls", "now", "call"] ["event", "calls", "now"] (defScope s_law_stands) := ⟨rfl, rfl, rfl, by decide +kernel, rfl, by decide +kernel, by decide +kernel⟩
theorem sc_law_apply : FnScope ["event", "calls", "now", "call"] ["event", "calls", "now"] (defScope s_law_apply) := ⟨rfl, rfl, rfl, by decide +kernel, rfl, by decide +kernel, by decide +kernel⟩
theorem sc_law_changed_bill : FnScope ["state", "bill", "row", "k"] ["state", "bill"] (defScope s_law_changed_bill) := ⟨rfl, rfl, rfl, by decide +kernel, rfl, by decide +kernel, by decide +kernel⟩
theorem sc_law_bills : FnScope ["state", "calls", "tariff", "bills", "call", "bill", "kind"] ["state", "calls", "tariff"] (defScope s_law_bills) := ⟨rfl, rfl, rfl, by decide +kernel, rfl, by decide +kernel, by decide +kernel⟩
theorem sc_law_pending : FnScope ["state", "calls", "numbers", "call"] ["state", "calls"] (defScope s_law_pending) := ⟨rfl, rfl, rfl, by decide +kernel, rfl, by decide +kernel, by decide +kernel⟩
theorem sc_law_findings : FnScope ["call", "bills", "pending", "tariff", "mine", "found", "due", "bill"] ["call", "bills", "pending", "tariff"] (defScope s_law_findings) := ⟨rfl, rfl, rfl, by decide +kernel, rfl, by decide +kernel, by decide +kernel⟩
theorem sc_law : FnScope ["script", "state", "tariff", "events", "calls", "due", "now", "tick", "k", "event", "bills", "pending", "call", "before", "told", "bill"] ["script"] (defScope s_law) := ⟨rfl, rfl, rfl, by decide +kernel, rfl, by decide +kernel, by decide +kernel⟩
structure Tx (K : PySem.W.Frag) (mg : Str → Option Value) : Prop where
  g_GREATEST_PRICE : ∃ t, mg "GREATEST_PRICE" = some (.int 10000 t)
  g_GREATEST_UNIT : ∃ t, mg "GREATEST_UNIT" = some (.int 10000 t)
  g_MOST_BANDS : ∃ t, mg "MOST_BANDS" = some (.int 8 t)
  f_abs : mg "abs" = none
  f_all : mg "all" = none
  f_enumerate : mg "enumerate" = none
  f_int : mg "int" = none
  f_isinstance : mg "isinstance" = none
  f_len : mg "len" = none
  f_list : mg "list" = none
  f_max : mg "max" = none
  f_min : mg "min" = none
  f_range : mg "range" = none
  f_repr : mg "repr" = none
  f_super : mg "super" = none
  f_tuple : mg "tuple" = none
  cl_Told : Cls K (He.ga K "Told")
  na_Told_number : NoAttr K (He.ga K "Told") "number"
  na_Told_caller : NoAttr K (He.ga K "Told") "caller"
  na_Told_callee : NoAttr K (He.ga K "Told") "callee"
  na_Told_begun : NoAttr K (He.ga K "Told") "begun"
  na_Told_rang : NoAttr K (He.ga K "Told") "rang"
  na_Told_answered : NoAttr K (He.ga K "Told") "answered"
  na_Told_ended : NoAttr K (He.ga K "Told") "ended"
  na_Told_why : NoAttr K (He.ga K "Told") "why"
  na_Told_modes : NoAttr K (He.ga K "Told") "modes"
  na_Told_moves : NoAttr K (He.ga K "Told") "moves"
  cl_Tariff : Cls K (He.ga K "Tariff")
  na_Tariff_unit : NoAttr K (He.ga K "Tariff") "unit"
  na_Tariff_bands : NoAttr K (He.ga K "Tariff") "bands"
  na_Tariff_last : NoAttr K (He.ga K "Tariff") "last"
  g_TrunklandError : mg "TrunklandError" = some (.ref (He.ga K "TrunklandError"))
  g_ConfigError : mg "ConfigError" = some (.ref (He.ga K "ConfigError"))
  xf_ConfigError : XfC K (He.ga K "ConfigError")
  ec_ConfigError : ExcC K (He.ga K "ConfigError")
  no_ConfigError : PySem.W.findIn K (.ref (He.ga K "ConfigError")) "setting" = some none
theorem ok_exc_ConfigError {P : Program} {w : World} {K : PySem.W.Frag} {mg : Str → Option Value} {base : Heap} (hm : mg "super" = none) (htop : (P.main.scope.names.lookup ("super" : Str)).isSome = false) (hg : mg "ConfigError" = some (.ref (He.ga K "ConfigError")))
    (T : TKE.ExTxt K P "ConfigError" "setting" "ConfigError.__init__" (defArgs si_ConfigError) (defBody si_ConfigError) (defScope si_ConfigError)) : TKE.ExcMk P w K mg base "ConfigError" (He.ga K "ConfigError") "setting" TKE.isS := by
  obtain ⟨cda, cc, oc, od, doc, pm, an, ct, osl, S, hl, hcd⟩ := T.ex
  refine ⟨_, _, ["self", "setting"], S.oex, S.iC, S.tI, TKE.fnok_sup S hl hcd (nscope_by (by decide +kernel)) rfl rfl rfl rfl rfl hm htop (fun vs H Q E h => ?_) (fun A outer s H vs Q E h => ?_) (fun _ _ _ _ _ => rfl) (fun _ _ _ _ _ => rfl) (fun _ _ _ _ _ => rfl) (fun _ _ _ _ _ => rfl), .all (fun us hl => match us, hl with | [_, _], _ => rfl), hg⟩
  · obtain ⟨a, y, rfl, _⟩ := h
    rfl
  · obtain ⟨a, y, rfl, ⟨z, rfl, hz⟩, ha, k⟩ := h
    refine ⟨a, _, _, _, rfl, ha, pe_joined (PJ.cons pe_str (PJ.cons (pe_fmt (pv 1)) (PJ.cons pe_str PJ.nil))), pss_one (ps_ost (pv 0) (pv 1)), _, rfl, by decide +kernel, _, rfl, ?_⟩
    refine .inl ⟨z, rfl, TKE.ex_l1 hz, _, rfl, TKE.ex_l2 (by decide +kernel) hz, _, rfl, TKE.ex_l3 (by decide +kernel) (by decide +kernel) hz, ?_⟩
    exact ⟨ha, ⟨_, rfl, _, rfl, a, _, rfl, S.oex, T.no, .inl ⟨ha, k⟩⟩, rfl⟩
/-! ### the law's source of draws -/
def spState (K : PySem.W.Frag) : Sp := fun vs H Q _ => ∃ (a : Addr) (ns : List Int), vs = [.ref a] ∧ SqL K H a (ns.map V.int) ∧ ns.length ≤ 63 ∧ ∀ s c H', Same H H' → H s = none → H c = none → StAt H' s c → Q (.ref s) H'
theorem ok_law_state {P : Program} {w : World} {K : PySem.W.Frag} {mg : Str → Option Value} {base : Heap} {f : Addr} {fd : FuncData} (T : Tx K mg) 
    (F : FunD K "_law_state" "_law_state" (defArgs s_law_state) (defBody s_law_state) (defScope s_law_state) [] [] f fd) : FnOk P w K mg base CX0 1 f fd ["script"] (spState K) := by
  refine F.ok sc_law_state (fun vs H Q E h => ?_) (fun cdv A outer s H vs Q E hr h => ?_)
  · obtain ⟨a, ns, rfl, _⟩ := h
    rfl
  · obtain ⟨a, ns, rfl, hS, hn, k⟩ := h
    refine ⟨_, PSs.nox (pss_cons (ps_set (i := 1) sc_law_state.nd rfl (Or.inl rfl) pe_int) (pss_cons (ps_for PassesOwn.never rfl (pi_list (pv 0)) (pg_name (i := 2) sc_law_state.nd rfl (Or.inl rfl)) (pss_one (ps_set (i := 1) sc_law_state.nd rfl (Or.inl rfl) (pe_op op_mod (pe_callTy call_int1 rfl T.f_int (by decide +kernel) (pa_cons (pe_op op_add (pe_op op_mul (pv 1) pe_int) (pv 2)) pa_nil)) pe_int)))) (pss_one (ps_ret (pe_lst (pa_cons (pe_lc (own := [("cell", 2)]) (g := gName 2) rfl sc_law_state.nd (pi_list (pv 0)) (blkOk_by (own := [("cell", 2)]) (N := ["script", "seed", "cell"]) (sc := defScope s_law_state) (by decide +kernel)) (fun _ _ _ _ _ => pg_name (i := 2) sc_law_state.nd rfl (Or.inl rfl)) (fun _ _ _ _ _ => pts_nil) (fun _ _ _ _ _ => (pe_callB call_abs rfl T.f_abs (by decide +kernel) (pa_cons (pv 2) pa_nil)))) (pa_cons (pe_op op_add (pv 1) pe_int) pa_nil))))))), ?_⟩
    refine ⟨_, rfl, a, rfl, ⟨_, hS⟩, for_list (K := K) (a := a) (xs := ns.map V.int) (fun i σ H' => H' = H ∧ ∃ (n : Int) (v : Option V), σ = [some (.ref a), some (.int n), v]) ⟨rfl, 7, none, rfl⟩ (fun i σ H' _ q => q.1 ▸ hS) ?_ ?_⟩
    · rintro i y σ H' hi ⟨rfl, n, v, rfl⟩
      obtain ⟨z, rfl⟩ : ∃ z, y = V.int z := by
        obtain ⟨z, _, e⟩ := List.mem_map.mp (List.mem_of_getElem? hi)
        exact ⟨z, e.symm⟩
      refine ⟨_, rfl, _, _, rfl, rfl, .inr ⟨by decide, by decide⟩, _, rfl, _, _, rfl, rfl, .inl ⟨_, rfl, _, _, rfl, rfl, (by show (0 : Int) < 1000003; decide), rfl, _, _, rfl⟩⟩
    · rintro σ H' ⟨rfl, n, v, rfl⟩
      refine ⟨_, rfl, a, rfl, ⟨_, hS⟩, fun D hD => ?_⟩
      have hS2 : ∀ o, SqL K (upd H' D o) a (ns.map V.int) := fun o => (same_upd hD).seq hS
      refine lc_pureN walk_list (fun i => V.int (if ns.getD i 0 < 0 then -(ns.getD i 0) else ns.getD i 0)) (by rw [List.length_map]; exact Nat.le_trans hn (by decide)) (fun _ _ => hS2 _) (fun i x H1 kk hi y q => ?_) ?_
      · obtain ⟨rfl, hx⟩ := y
        refine ⟨rfl, _, rfl, ns.getD i 0, ?_, q⟩
        rw [List.getElem?_map] at hx
        rw [List.length_map] at hi
        rw [List.getElem?_eq_getElem hi] at hx
        rw [List.getD_eq_getElem?_getD, List.getElem?_eq_getElem hi]
        exact congrArg (fun v => [v]) (Option.some.inj hx).symm
      · refine ⟨_, rfl, _, _, rfl, rfl, by show 2 ≤ sizeLine; decide, fun p hp => ?_⟩
        have npD : p ≠ D := fun e => by
          rw [e, upd_same] at hp
          cases hp
        have hp0 : H' p = none := by
          rw [upd_ne npD] at hp
          exact hp
        refine k p D _ ((same_upd hD).trans (same_upd hp)) hp0 hD ⟨npD, ⟨_, upd_same⟩, ns.map (fun i => if i < 0 then -i else i), ?_, ?_⟩
        · rw [upd_ne npD.symm, upd_same, List.length_map, List.map_map]
          exact congrArg (fun l => some (HO.lst l)) (range_map_getD ns 0 fun i => V.int (if i < 0 then -i else i))
        · rw [List.length_map]
          exact hn
def spDraw : Sp := fun vs H Q _ => ∃ (s c : Addr) (m : Int), vs = [.ref s, .int m] ∧ StAt H s c ∧ 0 < m ∧ m < 1073741824 ∧ ∀ r H', 0 ≤ r → r < m → StAt H' s c → Keep H H' s c → Q (.int r) H'
theorem ok_law_draw {P : Program} {w : World} {K : PySem.W.Frag} {mg : Str → Option Value} {base : Heap} {f : Addr} {fd : FuncData} (T : Tx K mg) 
    (F : FunD K "_law_draw" "_law_draw" (defArgs s_law_draw) (defBody s_law_draw) (defScope s_law_draw) [] [] f fd) : FnOk P w K mg base CX0 1 f fd ["state", "many"] spDraw := by
  refine F.ok sc_law_draw (fun vs H Q E h => ?_) (fun cdv A outer s0 H vs Q E hr h => ?_)
  · obtain ⟨s, c, m, rfl, _⟩ := h
    rfl
  · obtain ⟨s, c, m, rfl, ⟨ne, ⟨n, h1⟩, ns, h2, h3⟩, hm0, hm1, k⟩ := h
    refine ⟨_, PSs.nox (pss_cons (ps_set (i := 2) sc_law_draw.nd rfl (Or.inl rfl) (pe_ix ix_list (pv 0) pe_int (fun _ _ => rfl))) (C8.pss_cut (ps_while PassesOwn.never (PW.pt (pw_and (pt_cmpR op_gt (pe_callB call_len_seq rfl T.f_len PySem.boot_len (pa_cons (pv 2) pa_nil)) pe_int (nomark _)) (pw_and1 (pt_cmpR op_eq (pe_ix ix_list (pv 2) pe_int (fun _ _ => rfl)) pe_int (nomark _))))) (pss_one (ps_expr (pe_bm PySem.F.plainAttrs_list PySem.F.slot_list_pop PySem.F.type_list_pop mt_popAt (pv 2) (pa_cons pe_int pa_nil))))) (C8.pss_cut (ps_if (pt_cmpR op_gt (pe_callB call_len_seq rfl T.f_len PySem.boot_len (pa_cons (pv 2) pa_nil)) pe_int (nomark _)) (pss_cons (ps_set (i := 3) sc_law_draw.nd rfl (Or.inl rfl) (pe_ix ix_list (pv 2) pe_int (fun _ _ => rfl))) (pss_cons (ps_asg (pe_op op_fdiv (pv 3) (pv 1)) (pg_sub (pv 2) pe_int set_list)) (pss_one (ps_ret (pe_op op_mod (pe_callTy call_int1 rfl T.f_int (by decide +kernel) (pa_cons (pv 3) pa_nil)) (pv 1)))))) pss_nil) (pss_cons (ps_set (i := 4) sc_law_draw.nd rfl (Or.inl rfl) (pe_op op_mod (pe_callTy call_int1 rfl T.f_int (by decide +kernel) (pa_cons (pe_op op_add (pe_op op_mul (pe_ix ix_list (pv 0) pe_int (fun _ _ => rfl)) pe_int) pe_int) pa_nil)) pe_int)) (pss_cons (ps_asg (pv 4) (pg_sub (pv 0) pe_int set_list)) (pss_one (ps_ret (pe_op op_mod (pe_callTy call_int1 rfl T.f_int (by decide +kernel) (pa_cons (pe_op op_fdiv (pv 4) pe_int) pa_nil)) (pv 1))))))))), ?_⟩
    refine ⟨_, rfl, s, _, 0, _, rfl, rfl, SqL.of h1, rfl, ?_⟩
    let I : L2.St → Hp → List Int → Prop := fun σ H' ns' => σ = [some (.ref s), some (.int m), some (.ref c), none, none] ∧ H' s = some (.lst [.ref c, .int n]) ∧ Keep H H' s c ∧ H' c = some (.lst (ns'.map V.int)) ∧ ns'.length ≤ 63
    refine ⟨fun σ H' => ∃ ns', I σ H' ns', ?_, ?_⟩
    · refine ⟨fun l σ H' => ∃ ns', l = ns'.length ∧ I σ H' ns', ⟨ns.length, ns, rfl, rfl, h1, Keep.refl _ _ _, h2, h3⟩, ?_⟩
      rintro l σ H' ⟨ns', rfl, rfl, g1, kp, g2, g3⟩
      refine ⟨_, rfl, c, _, rfl, .inl (SqL.of g2), _, _, rfl, rfl, _, rfl, ?_⟩
      cases ns' with
      | nil => exact iteF (iteF ⟨[], rfl, g1, kp, g2, g3⟩)
      | cons v r =>
        rw [List.length_map, decide_eq_true (by rw [List.length_cons]; omega)]
        refine iteT ?_
        refine ⟨_, rfl, c, _, 0, V.int v, rfl, rfl, SqL.of g2, atC _ _, rfl, _, rfl, ?_⟩
        refine ite2 (fun h5 => ?_) (fun h5 => ⟨v :: r, rfl, g1, kp, g2, g3⟩)
        refine ⟨fun σ' H2 => ∃ l, l < (v :: r).length ∧ ∃ ns', l = ns'.length ∧ I σ' H2 ns', fun _ _ q => q, ?_⟩
        refine ⟨_, rfl, .inl ⟨rfl, _, SqL.of g2⟩, c, _, 0, 0, V.int v, rfl, rfl, g2, by decide, by decide, sqC _ _, rfl, ?_⟩
        refine ⟨r.length, Nat.lt_succ_self _, r, rfl, rfl, ?_, fun b o e q1 q2 => ?_, upd_same, Nat.le_of_succ_le g3⟩
        · rw [upd_ne ne]
          exact g1
        · rw [upd_ne q2]
          exact kp b o e q1 q2
    · rintro σ H' ⟨ns', rfl, g1, kp, g2, g3⟩
      refine ⟨fun σ' H2 => σ' = [some (.ref s), some (.int m), some (.ref c), none, none] ∧ H2 = H', ?_, ?_⟩
      · refine ⟨_, rfl, c, _, rfl, .inl (SqL.of g2), _, _, rfl, rfl, _, rfl, ?_⟩
        cases ns' with
        | nil => exact iteF ⟨rfl, rfl⟩
        | cons v r =>
          rw [List.length_map, decide_eq_true (by rw [List.length_cons]; omega)]
          refine iteT ?_
          refine ⟨_, rfl, c, _, 0, V.int v, rfl, rfl, SqL.of g2, atC _ _, ?_⟩
          refine ⟨_, rfl, _, rfl, _, _, rfl, rfl, ⟨hm0, hm1⟩, _, rfl, c, _, 0, 0, rfl, rfl, g2, ixC _ _, ?_⟩
          refine ⟨_, rfl, .inl ⟨_, rfl, _, rfl, _, _, rfl, rfl, hm0, ?_⟩⟩
          refine k _ _ (Int.emod_nonneg _ (by omega)) (Int.emod_lt_of_pos _ hm0) ⟨ne, ⟨n, ?_⟩, (v / m) :: r, upd_same, g3⟩ (fun b o e q1 q2 => ?_)
          · rw [upd_ne ne]
            exact g1
          · rw [upd_ne q2]
            exact kp b o e q1 q2
      · rintro σ' H2 ⟨rfl, rfl⟩
        refine ⟨_, rfl, s, _, 1, _, rfl, rfl, SqL.of g1, rfl, _, _, rfl, rfl, .inr ⟨by decide, by decide⟩, _, _, rfl, rfl, .inl ⟨_, rfl, _, _, rfl, rfl, (by show (0 : Int) < 2147483647; decide), ?_⟩⟩
        refine ⟨_, rfl, _, rfl, s, _, 1, 1, rfl, rfl, g1, rfl, ?_⟩
        refine ⟨_, rfl, _, _, rfl, rfl, ⟨by decide, by decide⟩, .inl ⟨_, rfl, _, rfl, _, _, rfl, rfl, hm0, ?_⟩⟩
        refine k _ _ (Int.emod_nonneg _ (by omega)) (Int.emod_lt_of_pos _ hm0) ⟨ne, ⟨_, upd_same⟩, ns', ?_, g3⟩ (fun b o e q1 q2 => ?_)
        · rw [upd_ne ne.symm]
          exact g2
        · rw [upd_ne q1]
          exact kp b o e q1 q2
/-- of a text: one of its signs; of a list: one of its items -/
def spPick : Sp := fun vs H Q _ => ∃ (s c : Addr) (x : V), vs = [.ref s, x] ∧ StAt H s c ∧
  ((∃ z : Str, x = .str z ∧ 0 < z.length ∧ z.length ≤ 1000 ∧ ∀ ch H', ch ∈ TL.tl z → StAt H' s c → Keep H H' s c → Q (.str (S [ch])) H') ∨
   (∃ a xs, x = .ref a ∧ H a = some (.lst xs) ∧ a ≠ s ∧ a ≠ c ∧ 0 < xs.length ∧ xs.length ≤ 1000 ∧ ∀ v ∈ xs, ∀ H', StAt H' s c → Keep H H' s c → Q v H'))
theorem ok_law_pick {P : Program} {w : World} {K : PySem.W.Frag} {mg : Str → Option Value} {base : Heap} {f : Addr} {fd : FuncData} (T : Tx K mg) (c_law_draw : C8.Cal P w K mg base 1 "_law_draw" spDraw [])
    (F : FunD K "_law_pick" "_law_pick" (defArgs s_law_pick) (defBody s_law_pick) (defScope s_law_pick) [] [] f fd) : FnOk P w K mg base CX0 2 f fd ["state", "row"] spPick := by
  refine F.ok sc_law_pick (fun vs H Q E h => ?_) (fun cdv A outer s0 H vs Q E hr h => ?_)
  · obtain ⟨s, c, x, rfl, _⟩ := h
    rfl
  · obtain ⟨s, c, x, rfl, hst, h⟩ := h
    refine ⟨_, PSs.nox (pss_one (ps_ret (pe_ix ix_seq (pv 1) (pe_c c_law_draw hr (by decide) rfl (pa_cons (pv 0) (pa_cons (pe_callB call_len rfl T.f_len PySem.boot_len (pa_cons (pv 1) pa_nil)) pa_nil))) (fun _ _ => rfl)))), ?_⟩
    rcases h with ⟨z, rfl, z0, z1, k⟩ | ⟨a, xs, rfl, ha, as, ac, x0, x1, k⟩
    · have hz2 : z.length ≤ sizeLine := Nat.le_trans z1 (by decide)
      refine ⟨_, rfl, _, rfl, _, rfl, _, z.length, rfl, ⟨hz2, rfl⟩, s, c, _, rfl, hst, by omega, by omega, fun r H' r0 r1 st' kp' => ?_⟩
      have hl : r < ((TL.tl z).length : Nat) := by rw [← len_eq]; exact r1
      refine .inr (.inr ⟨z, r, _, rfl, rfl, hz2, atN 0 r0 hl, ?_⟩)
      refine k _ H' ?_ st' kp'
      have hl2 : r.toNat < (TL.tl z).length := by omega
      rw [List.getD_eq_getElem?_getD, List.getElem?_eq_getElem hl2]
      exact List.getElem_mem _
    · have hx2 : xs.length ≤ sizeLine := Nat.le_trans x1 (by decide)
      refine ⟨_, rfl, _, rfl, _, rfl, _, xs.length, rfl, .inl ⟨xs, SqL.of ha, rfl⟩, s, c, _, rfl, hst, by omega, by omega, fun r H' r0 r1 st' kp' => ?_⟩
      refine .inl ⟨a, xs, r, _, rfl, rfl, SqL.of (kp' a _ ha as ac), atN .non r0 r1, ?_⟩
      refine k _ ?_ H' st' kp'
      rw [List.getD_eq_getElem?_getD, List.getElem?_eq_getElem (by omega)]
      exact List.getElem_mem _

end K16
set_option maxHeartbeats 1000000
namespace K16
open PySem PySem.Spec PyProof.Rows L2 SX TK NdefX
open C8 (pe_c)
inductive Ev where
  | bgn (now n : Int) (who : Str)
  | ring (now n : Int)
  | ans (now n : Int) (p : Str)
  | turn (now n side : Int) (m : Str)
  | move (now n side : Int)
  | moved (now n side : Int)
  | fin (now n : Int) (why : Str)
def Ev.nm : Ev → Str
  | .bgn .. => "begin"
  | .ring .. => "ring"
  | .ans .. => "answer"
  | .turn .. => "turn"
  | .move .. => "move"
  | .moved .. => "moved"
  | .fin .. => "end"
def Ev.now : Ev → Int
  | .bgn t .. => t
  | .ring t .. => t
  | .ans t .. => t
  | .turn t .. => t
  | .move t .. => t
  | .moved t .. => t
  | .fin t .. => t
def Ev.n : Ev → Int
  | .bgn _ n _ => n
  | .ring _ n => n
  | .ans _ n _ => n
  | .turn _ n .. => n
  | .move _ n _ => n
  | .moved _ n _ => n
  | .fin _ n _ => n
def Ev.r : Ev → List V
  | .bgn _ _ w => [.str "ann@x", .str w]
  | .ring .. => []
  | .ans _ _ p => [.str p]
  | .turn _ _ s m => [.int s, .str m]
  | .move _ _ s => [.int s, .str "joe@x"]
  | .moved _ _ s => [.int s]
  | .fin _ _ w => [.str w]
def Ev.v (e : Ev) : List V := .str e.nm :: .int e.now :: .int e.n :: e.r
structure Cl where
  n : Int
  who : Str
  begun : Int
  rang : Option Int
  ans : Option Int
  ended : Option Int
  why : Option Str
  m0 : Str
  m1 : Str
  mv : Int
def oI : Option Int → V
  | none => .non
  | some i => .int i
def oS : Option Str → V
  | none => .non
  | some z => .str z
def Cl.v (c : Cl) : List V := [.int c.n, .str "ann@x", .str c.who, .int c.begun, oI c.rang, oI c.ans, oI c.ended, oS c.why, .str c.m0, .str c.m1, .int c.mv]
def mkC (now n : Int) (who : Str) : Cl := ⟨n, who, now, none, none, none, none, "both", "both", 0⟩
def alw2 (c : Cl) : Ev → Bool
  | .bgn .. => false
  | .ring .. => c.rang.isNone && c.ans.isNone
  | .ans .. => c.ans.isNone
  | .turn _ _ s _ => c.ans.isSome && (s == 0 || s == 1)
  | .move _ _ s => c.ans.isSome && (s == 0 || s == 1)
  | .moved _ _ s => c.ans.isSome && (s == 0 || s == 1)
  | .fin .. => true
def alw (c : Cl) (e : Ev) : Bool := if c.ended.isSome = true then false else alw2 c e
def takeC (c : Cl) : Ev → Cl
  | .bgn .. => c
  | .ring t _ => { c with rang := some t }
  | .ans t _ _ => { c with ans := some t }
  | .turn _ _ s m => if s = 0 then { c with m0 := m } else { c with m1 := m }
  | .move .. => c
  | .moved .. => { c with m0 := "both", m1 := "both", mv := c.mv + 1 }
  | .fin t _ w => { c with ended := some t, why := some w }
def tdl (c : Cl) (q : Addr) : List (Str × V) := [("number", .int c.n), ("caller", .str "ann@x"), ("callee", .str c.who), ("begun", .int c.begun), ("rang", oI c.rang), ("answered", oI c.ans), ("ended", oI c.ended), ("why", oS c.why), ("modes", .ref q), ("moves", .int c.mv)]
instance {c : Cl} {q : Addr} : SmallF (tdl c q) 10 := ⟨Nat.le_refl _⟩
def TdAt (K : PySem.W.Frag) (H : Hp) (p q : Addr) (c : Cl) : Prop := (∃ dx, H p = some (.ins (He.ga K "Told") dx (tdl c q))) ∧ H q = some (.lst [.str c.m0, .str c.m1])
theorem TdAt.same {K : PySem.W.Frag} {H H' : Hp} {p q : Addr} {c : Cl} (h : TdAt K H p q c) (s : Same H H') : TdAt K H' p q c := ⟨h.1.elim fun dx e => ⟨dx, s _ _ e⟩, s _ _ h.2⟩
def spTInit (K : PySem.W.Frag) : Sp := fun vs H Q _ => ∃ (p dx : Addr) (now n : Int) (who : Str), vs = [.ref p, .int now, .int n, .str "ann@x", .str who] ∧ H p = some (.ins (He.ga K "Told") dx []) ∧ ∀ q H', H q = none → TdAt K H' p q (mkC now n who) → (∀ b o, H b = some o → b ≠ p → H' b = some o) → Q .non H'
theorem ok_Told___init {P : Program} {w : World} {K : PySem.W.Frag} {mg : Str → Option Value} {base : Heap} {f : Addr} {fd : FuncData} (T : Tx K mg) 
    (F : FunD K "__init__" "Told.__init__" (defArgs s_Told___init) (defBody s_Told___init) (defScope s_Told___init) [] [] f fd) : FnOk P w K mg base CX0 1 f fd ["self", "begun", "number", "caller", "callee"] (spTInit K) := by
  refine F.ok sc_Told___init (fun vs H Q E h => ?_) (fun cdv A outer s0 H vs Q E hr h => ?_)
  · obtain ⟨p, dx, now, n, who, rfl, _⟩ := h
    rfl
  · obtain ⟨p, dx, now, n, who, rfl, hp, k⟩ := h
    refine ⟨_, PSs.nox (pss_cons (ps_fldC rfl T.cl_Told T.na_Told_number (pv 0) (pv 2) rfl) (pss_cons (ps_fldC rfl T.cl_Told T.na_Told_caller (pv 0) (pv 3) rfl) (pss_cons (ps_fldC rfl T.cl_Told T.na_Told_callee (pv 0) (pv 4) rfl) (pss_cons (ps_fldC rfl T.cl_Told T.na_Told_begun (pv 0) (pv 1) rfl) (pss_cons (ps_fldC rfl T.cl_Told T.na_Told_rang (pv 0) pe_non rfl) (pss_cons (ps_fldC rfl T.cl_Told T.na_Told_answered (pv 0) pe_non rfl) (pss_cons (ps_fldC rfl T.cl_Told T.na_Told_ended (pv 0) pe_non rfl) (pss_cons (ps_fldC rfl T.cl_Told T.na_Told_why (pv 0) pe_non rfl) (pss_cons (ps_fldC rfl T.cl_Told T.na_Told_modes (pv 0) (pe_lst (pa_cons pe_str (pa_cons pe_str pa_nil))) rfl) (pss_one (ps_fldC rfl T.cl_Told T.na_Told_moves (pv 0) pe_int rfl))))))))))), ?_⟩
    refine ⟨_, rfl, _, rfl, p, dx, _, rfl, hp, sm, ?_⟩
    refine ⟨_, rfl, _, rfl, p, dx, _, rfl, upd_same, sm, ?_⟩
    rw [upd_upd]
    refine ⟨_, rfl, _, rfl, p, dx, _, rfl, upd_same, sm, ?_⟩
    rw [upd_upd]
    refine ⟨_, rfl, _, rfl, p, dx, _, rfl, upd_same, sm, ?_⟩
    rw [upd_upd]
    refine ⟨_, rfl, p, dx, _, rfl, upd_same, sm, ?_⟩
    rw [upd_upd]
    refine ⟨_, rfl, p, dx, _, rfl, upd_same, sm, ?_⟩
    rw [upd_upd]
    refine ⟨_, rfl, p, dx, _, rfl, upd_same, sm, ?_⟩
    rw [upd_upd]
    refine ⟨_, rfl, p, dx, _, rfl, upd_same, sm, ?_⟩
    rw [upd_upd]
    refine ⟨by show 2 ≤ sizeLine; decide, fun q hq => ?_⟩
    have pq : q ≠ p := fun z => by rw [z, upd_same] at hq; cases hq
    have hq0 : H q = none := by rw [upd_ne pq] at hq; exact hq
    refine ⟨_, rfl, p, dx, _, rfl, (upd_ne pq.symm).trans upd_same, sm, ?_⟩
    refine ⟨_, rfl, p, dx, _, rfl, upd_same, sm, ?_⟩
    rw [upd_upd]
    refine k q _ hq0 ⟨⟨dx, upd_same⟩, (upd_ne pq).trans upd_same⟩ fun b o e hb => ?_
    exact (upd_ne hb).trans ((upd_ne (ne_of_none e hq0)).trans ((upd_ne hb).trans e))
def spParts (K : PySem.W.Frag) : Sp := fun vs H Q _ => ∃ (p q : Addr) (c : Cl), vs = [.ref p] ∧ TdAt K H p q c ∧ ∀ t, H t = none → Q (.ref t) (upd H t (.tup c.v))
theorem ok_Told_parts {P : Program} {w : World} {K : PySem.W.Frag} {mg : Str → Option Value} {base : Heap} {f : Addr} {fd : FuncData} (T : Tx K mg) 
    (F : FunD K "parts" "Told.parts" (defArgs s_Told_parts) (defBody s_Told_parts) (defScope s_Told_parts) [] [] f fd) : FnOk P w K mg base CX0 1 f fd ["self"] (spParts K) := by
  refine F.ok sc_Told_parts (fun vs H Q E h => ?_) (fun cdv A outer s0 H vs Q E hr h => ?_)
  · obtain ⟨p, q, c, rfl, _⟩ := h
    rfl
  · obtain ⟨p, q, c, rfl, ⟨⟨dx, hp⟩, hq⟩, k⟩ := h
    refine ⟨_, PSs.nox (pss_one (ps_ret (pe_tup (pa_cons (pe_fldC rfl T.cl_Told T.na_Told_number (pv 0) rfl) (pa_cons (pe_fldC rfl T.cl_Told T.na_Told_caller (pv 0) rfl) (pa_cons (pe_fldC rfl T.cl_Told T.na_Told_callee (pv 0) rfl) (pa_cons (pe_fldC rfl T.cl_Told T.na_Told_begun (pv 0) rfl) (pa_cons (pe_fldC rfl T.cl_Told T.na_Told_rang (pv 0) rfl) (pa_cons (pe_fldC rfl T.cl_Told T.na_Told_answered (pv 0) rfl) (pa_cons (pe_fldC rfl T.cl_Told T.na_Told_ended (pv 0) rfl) (pa_cons (pe_fldC rfl T.cl_Told T.na_Told_why (pv 0) rfl) (pa_cons (pe_ix ix_list (pe_fldC rfl T.cl_Told T.na_Told_modes (pv 0) rfl) pe_int (fun _ _ => rfl)) (pa_cons (pe_ix ix_list (pe_fldC rfl T.cl_Told T.na_Told_modes (pv 0) rfl) pe_int (fun _ _ => rfl)) (pa_cons (pe_fldC rfl T.cl_Told T.na_Told_moves (pv 0) rfl) pa_nil)))))))))))))), ?_⟩
    refine ⟨_, rfl, p, dx, _, _, rfl, hp, rfl, _, rfl, p, dx, _, _, rfl, hp, rfl, _, rfl, p, dx, _, _, rfl, hp, rfl, _, rfl, p, dx, _, _, rfl, hp, rfl, _, rfl, p, dx, _, _, rfl, hp, rfl, _, rfl, p, dx, _, _, rfl, hp, rfl, ?_⟩
    refine ⟨_, rfl, p, dx, _, _, rfl, hp, rfl, _, rfl, p, dx, _, _, rfl, hp, rfl, _, rfl, p, dx, _, _, rfl, hp, rfl, q, _, 0, _, rfl, rfl, SqL.of hq, rfl, _, rfl, p, dx, _, _, rfl, hp, rfl, q, _, 1, _, rfl, rfl, SqL.of hq, rfl, _, rfl, p, dx, _, _, rfl, hp, rfl, ?_⟩
    exact ⟨by show 11 ≤ sizeLine; decide, fun t ht => k t ht⟩

end K16
set_option maxHeartbeats 1000000
namespace K16
open PySem PySem.Spec PyProof.Rows L2 SX TK NdefX
open C8 (pe_c)
theorem str_ne {a b : Str} (h : a ≠ b) : decide (V.str a = V.str b) = false := decide_eq_false fun z => h (by injection z)
theorem str_eq {a b : Str} (h : a = b) : decide (V.str a = V.str b) = true := decide_eq_true (by rw [h])
theorem nm_ring {e : Ev} (h : e.nm = "ring") : ∃ t n, e = .ring t n := by
  cases e <;> first | exact ⟨_, _, rfl⟩ | exact absurd h (by dsimp only [Ev.nm]; decide +kernel)
theorem nm_ans {e : Ev} (h : e.nm = "answer") : ∃ t n p, e = .ans t n p := by
  cases e <;> first | exact ⟨_, _, _, rfl⟩ | exact absurd h (by dsimp only [Ev.nm]; decide +kernel)
theorem nm_fin {e : Ev} (h : e.nm = "end") : ∃ t n w, e = .fin t n w := by
  cases e <;> first | exact ⟨_, _, _, rfl⟩ | exact absurd h (by dsimp only [Ev.nm]; decide +kernel)
theorem nm_bgn {e : Ev} (h : e.nm = "begin") : ∃ t n w, e = .bgn t n w := by
  cases e <;> first | exact ⟨_, _, _, rfl⟩ | exact absurd h (by dsimp only [Ev.nm]; decide +kernel)
abbrev tn : List V := [.str "turn", .str "move", .str "moved"]
theorem in_tn (e : Ev) : inV (.str e.nm) tn = (match e with | .turn .. => true | .move .. => true | .moved .. => true | _ => false) := by
  cases e <;> (dsimp only [Ev.nm]; decide +kernel)
theorem in_01 (s : Int) : inV (.int s) [.int 0, .int 1] = (s == 0 || s == 1) := by
  show ((0 : Int) == s || ((1 : Int) == s || false)) = _
  rw [Bool.or_false, Bool.eq_iff_iff]
  simp only [Bool.or_eq_true, beq_iff_eq]
  omega
theorem dn_I (o : Option Int) : decide (oI o = V.non) = o.isNone := by
  cases o with
  | none => exact decide_eq_true rfl
  | some i => exact decide_eq_false (fun z => by cases z)
theorem at_0 (e : Ev) : atI e.v 0 = some (.str e.nm) := by cases e <;> rfl
theorem at_1 (e : Ev) : atI e.v 1 = some (.int e.now) := by cases e <;> rfl
theorem at_2 (e : Ev) : atI e.v 2 = some (.int e.n) := by cases e <;> rfl
def spAllows (K : PySem.W.Frag) : Sp := fun vs H Q _ => ∃ (p q t : Addr) (c : Cl) (e : Ev), vs = [.ref p, .ref t] ∧ TdAt K H p q c ∧ H t = some (.tup e.v) ∧ ∀ H', Same H H' → Q (.bl (alw c e)) H'
theorem ok_Told_allows {P : Program} {w : World} {K : PySem.W.Frag} {mg : Str → Option Value} {base : Heap} {f : Addr} {fd : FuncData} (T : Tx K mg) 
    (F : FunD K "allows" "Told.allows" (defArgs s_Told_allows) (defBody s_Told_allows) (defScope s_Told_allows) [] [] f fd) : FnOk P w K mg base CX0 1 f fd ["self", "event"] (spAllows K) := by
  refine F.ok sc_Told_allows (fun vs H Q E h => ?_) (fun cdv A outer s0 H vs Q E hr h => ?_)
  · obtain ⟨p, q, t, c, e, rfl, _⟩ := h
    rfl
  · obtain ⟨p, q, t, c, e, rfl, ⟨⟨dx, hp⟩, hq⟩, ht, k⟩ := h
    refine ⟨_, PSs.nox (pss_cons (ps_set (i := 2) sc_Told_allows.nd rfl (Or.inl rfl) (pe_ix ix_tup (pv 1) pe_int (fun _ _ => rfl))) (C8.pss_cut (ps_if (pt_cmpR op_notN (pe_fldC rfl T.cl_Told T.na_Told_ended (pv 0) rfl) pe_non (nomark _)) (pss_one (ps_ret pe_bl)) pss_nil) (C8.pss_cut (ps_if (pt_cmpR op_eq (pv 2) pe_str (nomark _)) (pss_one (ps_ret (pe_and (pe_cmpR op_isN (pe_fldC rfl T.cl_Told T.na_Told_rang (pv 0) rfl) pe_non (nomark _)) (pe_one (pe_cmpR op_isN (pe_fldC rfl T.cl_Told T.na_Told_answered (pv 0) rfl) pe_non (nomark _)))))) pss_nil) (C8.pss_cut (ps_if (pt_cmpR op_eq (pv 2) pe_str (nomark _)) (pss_one (ps_ret (pe_cmpR op_isN (pe_fldC rfl T.cl_Told T.na_Told_answered (pv 0) rfl) pe_non (nomark _)))) pss_nil) (C8.pss_cut (ps_if (pt_cmpR op_in_seq (pv 2) (pe_tup (pa_cons pe_str (pa_cons pe_str (pa_cons pe_str pa_nil)))) (by with_unfolding_all rfl)) (pss_one (ps_ret (pe_and (pe_cmpR op_notN (pe_fldC rfl T.cl_Told T.na_Told_answered (pv 0) rfl) pe_non (nomark _)) (pe_one (pe_cmpR op_in_seq (pe_ix ix_tup (pv 1) pe_int (fun _ _ => rfl)) (pe_tup (pa_cons pe_int (pa_cons pe_int pa_nil))) (by with_unfolding_all rfl)))))) pss_nil) (pss_one (ps_ret (pe_cmpR op_eq (pv 2) pe_str (nomark _))))))))), ?_⟩
    refine ⟨_, rfl, t, _, 0, _, rfl, rfl, SqT.of ht, at_0 e, ?_⟩
    refine ⟨fun σ' H' => c.ended = none ∧ σ' = [some (.ref p), some (.ref t), some (.str e.nm)] ∧ H' = H, ?_, ?_⟩
    · refine ⟨_, rfl, p, dx, _, _, rfl, hp, rfl, ?_⟩
      have kF : c.ended.isSome = true → Q (.bl false) H := fun z => by
        have q := k H fun _ _ e => e
        unfold alw at q
        rw [if_pos z] at q
        exact q
      refine ⟨rfl, _, rfl, ?_⟩
      rw [dn_I]
      cases ce : c.ended with
      | none => exact iteF ⟨rfl, rfl, rfl⟩
      | some i => exact iteT (kF (by rw [ce]; rfl))
    · rintro σ' H' ⟨ce, rfl, rfl⟩
      have k9 : ∀ H2, Same H' H2 → ∀ b, alw c e = b → Q (.bl b) H2 := fun H2 s b z => by rw [← z]; exact k H2 s
      have e9 : alw c e = alw2 c e := by
        unfold alw
        rw [if_neg (by rw [ce]; decide)]
      refine ⟨fun σ' H2 => e.nm ≠ "ring" ∧ σ' = [some (.ref p), some (.ref t), some (.str e.nm)] ∧ H2 = H', ?_, ?_⟩
      · refine ⟨_, rfl, rfl, _, rfl, ?_⟩
        by_cases h : e.nm = "ring"
        · rw [str_eq h]
          obtain ⟨tt, n, rfl⟩ := nm_ring h
          refine iteT ⟨_, rfl, p, dx, _, _, rfl, hp, rfl, rfl, _, rfl, ?_⟩
          rw [dn_I]
          cases cr : c.rang.isNone with
          | true =>
            refine iteT ⟨_, rfl, p, dx, _, _, rfl, hp, rfl, rfl, ?_⟩
            rw [dn_I]
            exact k9 _ (fun _ _ e => e) _ (by rw [e9]; show (c.rang.isNone && c.ans.isNone) = _; rw [cr]; rfl)
          | false => exact iteF (k9 _ (fun _ _ e => e) _ (by rw [e9]; show (c.rang.isNone && c.ans.isNone) = _; rw [cr]; rfl))
        · rw [str_ne h]
          exact iteF ⟨h, rfl, rfl⟩
      · rintro σ' H2 ⟨h1, rfl, rfl⟩
        refine ⟨fun σ' H3 => e.nm ≠ "answer" ∧ σ' = [some (.ref p), some (.ref t), some (.str e.nm)] ∧ H3 = H2, ?_, ?_⟩
        · refine ⟨_, rfl, rfl, _, rfl, ?_⟩
          by_cases h : e.nm = "answer"
          · rw [str_eq h]
            obtain ⟨tt, n, pp, rfl⟩ := nm_ans h
            refine iteT ⟨_, rfl, p, dx, _, _, rfl, hp, rfl, rfl, ?_⟩
            rw [dn_I]
            exact k9 _ (fun _ _ e => e) _ e9
          · rw [str_ne h]
            exact iteF ⟨h, rfl, rfl⟩
        · rintro σ' H3 ⟨h2, rfl, rfl⟩
          refine ⟨fun σ' H4 => inV (.str e.nm) tn = false ∧ σ' = [some (.ref p), some (.ref t), some (.str e.nm)] ∧ Same H3 H4, ?_, ?_⟩
          · refine ⟨_, rfl, by show 3 ≤ sizeLine; decide, fun a ha => ⟨a, tn, rfl, .inr (SqT.of upd_same), rfl, by decide +kernel, _, rfl, ?_⟩⟩
            have sa := same_upd (o := .tup tn) ha
            show if inV (.str e.nm) tn = true then _ else _
            cases h : inV (.str e.nm) tn with
            | false => exact iteF ⟨rfl, rfl, sa⟩
            | true =>
              have hside : ∃ s : Int, atI e.v 3 = some (.int s) ∧ alw c e = (c.ans.isSome && (s == 0 || s == 1)) := by
                rw [in_tn] at h
                rw [e9]
                cases e with
                | bgn => cases h
                | ring => cases h
                | ans => cases h
                | fin => cases h
                | turn t n s m => exact ⟨s, rfl, rfl⟩
                | move t n s => exact ⟨s, rfl, rfl⟩
                | moved t n s => exact ⟨s, rfl, rfl⟩
              obtain ⟨s, hs, ea⟩ := hside
              refine iteT ⟨_, rfl, p, dx, _, _, rfl, sa _ _ hp, rfl, rfl, _, rfl, ?_⟩
              rw [dn_I]
              cases cr : c.ans with
              | none => exact iteF (k9 _ sa _ (by rw [ea, cr]; rfl))
              | some i =>
                refine iteT ⟨_, rfl, t, _, 3, _, rfl, rfl, SqT.of (sa _ _ ht), hs, by show 2 ≤ sizeLine; decide, fun b hb => ⟨b, [.int 0, .int 1], rfl, .inr (SqT.of upd_same), rfl, by decide +kernel, ?_⟩⟩
                show Q (.bl (inV (.int s) [.int 0, .int 1])) _
                rw [in_01]
                exact k9 _ (sa.trans (same_upd hb)) _ (by rw [ea, cr]; rfl)
          · rintro σ' H4 ⟨h3, rfl, s4⟩
            refine ⟨_, rfl, rfl, ?_⟩
            by_cases h : e.nm = "end"
            · rw [str_eq h]
              obtain ⟨tt, n, w1, rfl⟩ := nm_fin h
              exact k9 _ s4 _ e9
            · rw [str_ne h]
              refine k9 _ s4 _ ?_
              rw [e9]
              rw [in_tn] at h3
              cases e with
              | bgn => rfl
              | ring => exact absurd rfl h1
              | ans => exact absurd rfl h2
              | fin => exact absurd rfl h
              | turn t n s m => cases h3
              | move t n s => cases h3
              | moved t n s => cases h3

end K16
set_option maxHeartbeats 1000000
namespace K16
open PySem PySem.Spec PyProof.Rows L2 SX TK NdefX
open C8 (pe_c)
def spTake (K : PySem.W.Frag) : Sp := fun vs H Q _ => ∃ (p q t : Addr) (c : Cl) (e : Ev), vs = [.ref p, .ref t] ∧ TdAt K H p q c ∧ H t = some (.tup e.v) ∧ alw c e = true ∧ ∀ q' H', TdAt K H' p q' (takeC c e) → (q' = q ∨ H q' = none) → (∀ b o, H b = some o → b ≠ p → b ≠ q → H' b = some o) → Q .non H'
theorem ok_Told_take {P : Program} {w : World} {K : PySem.W.Frag} {mg : Str → Option Value} {base : Heap} {f : Addr} {fd : FuncData} (T : Tx K mg) 
    (F : FunD K "take" "Told.take" (defArgs s_Told_take) (defBody s_Told_take) (defScope s_Told_take) [] [] f fd) : FnOk P w K mg base CX0 1 f fd ["self", "event"] (spTake K) := by
  refine F.ok sc_Told_take (fun vs H Q E h => ?_) (fun cdv A outer s0 H vs Q E hr h => ?_)
  · obtain ⟨p, q, t, c, e, rfl, _⟩ := h
    rfl
  · obtain ⟨p, q, t, c, e, rfl, ⟨⟨dx, hp⟩, hq⟩, ht, ha, k⟩ := h
    refine ⟨_, PSs.nox (pss_cons (ps_par (i := 2) (j := 3) (by rfl) sc_Told_take.nd rfl rfl (by decide) rfl rfl (pa_cons (pe_ix ix_tup (pv 1) pe_int (fun _ _ => rfl)) (pa_cons (pe_ix ix_tup (pv 1) pe_int (fun _ _ => rfl)) pa_nil)) (by rfl)) (pss_one (ps_if (pt_cmpR op_eq (pv 2) pe_str (nomark _)) (pss_one (ps_fldC rfl T.cl_Told T.na_Told_rang (pv 0) (pv 3) rfl)) (pss_one (ps_if (pt_cmpR op_eq (pv 2) pe_str (nomark _)) (pss_one (ps_fldC rfl T.cl_Told T.na_Told_answered (pv 0) (pv 3) rfl)) (pss_one (ps_if (pt_cmpR op_eq (pv 2) pe_str (nomark _)) (pss_one (ps_asg (pe_ix ix_tup (pv 1) pe_int (fun _ _ => rfl)) (pg_sub (pe_fldC rfl T.cl_Told T.na_Told_modes (pv 0) rfl) (pe_ix ix_tup (pv 1) pe_int (fun _ _ => rfl)) set_list))) (pss_one (ps_if (pt_cmpR op_eq (pv 2) pe_str (nomark _)) (pss_cons (ps_fldC rfl T.cl_Told T.na_Told_modes (pv 0) (pe_lst (pa_cons pe_str (pa_cons pe_str pa_nil))) rfl) (pss_one (ps_fldaug (pv 0) pe_int in_add))) (pss_one (ps_if (pt_cmpR op_eq (pv 2) pe_str (nomark _)) (pss_cons (ps_fldC rfl T.cl_Told T.na_Told_ended (pv 0) (pv 3) rfl) (pss_one (ps_fldC rfl T.cl_Told T.na_Told_why (pv 0) (pe_ix ix_tup (pv 1) pe_int (fun _ _ => rfl)) rfl))) pss_nil))))))))))), ?_⟩
    have pq : q ≠ p := ne_of hq hp (by intro z; cases z)
    refine ⟨_, rfl, t, _, 0, _, rfl, rfl, SqT.of ht, at_0 e, _, rfl, t, _, 1, _, rfl, rfl, SqT.of ht, at_1 e, _, _, rfl, ?_⟩
    have one : ∀ c' : Cl, takeC c e = c' → c'.m0 = c.m0 → c'.m1 = c.m1 → ∀ fs, fs = tdl c' q → Q .non (upd H p (.ins (He.ga K "Told") dx fs)) := by
      rintro c' rfl h0 h1 fs rfl
      refine k q _ ⟨⟨dx, upd_same⟩, ?_⟩ (.inl rfl) fun b o eb n1 _ => (upd_ne n1).trans eb
      rw [h0, h1]
      exact (upd_ne pq).trans hq
    cases e with
    | bgn now n w =>
      exfalso
      unfold alw alw2 at ha
      split at ha <;> cases ha
    | ring now n =>
      refine ⟨_, rfl, rfl, _, rfl, ?_⟩
      rw [str_eq (a := (Ev.ring now n).nm) (b := "ring") rfl]
      exact iteT ⟨_, rfl, _, rfl, p, dx, _, rfl, hp, sm, one _ rfl rfl rfl _ rfl⟩
    | ans now n w =>
      refine ⟨_, rfl, rfl, _, rfl, ?_⟩
      rw [str_ne (a := (Ev.ans now n w).nm) (b := "ring") (by dsimp only [Ev.nm]; decide +kernel)]
      refine iteF ⟨_, rfl, rfl, _, rfl, ?_⟩
      rw [str_eq (a := (Ev.ans now n w).nm) (b := "answer") rfl]
      exact iteT ⟨_, rfl, _, rfl, p, dx, _, rfl, hp, sm, one _ rfl rfl rfl _ rfl⟩
    | turn now n s m =>
      refine ⟨_, rfl, rfl, _, rfl, ?_⟩
      rw [str_ne (a := (Ev.turn now n s m).nm) (b := "ring") (by dsimp only [Ev.nm]; decide +kernel)]
      refine iteF ⟨_, rfl, rfl, _, rfl, ?_⟩
      rw [str_ne (a := (Ev.turn now n s m).nm) (b := "answer") (by dsimp only [Ev.nm]; decide +kernel)]
      refine iteF ⟨_, rfl, rfl, _, rfl, ?_⟩
      rw [str_eq (a := (Ev.turn now n s m).nm) (b := "turn") rfl]
      have hs : s = 0 ∨ s = 1 := by
        unfold alw alw2 at ha
        split at ha
        · cases ha
        · simp only [Bool.and_eq_true, Bool.or_eq_true, beq_iff_eq] at ha
          exact ha.2
      refine iteT ⟨_, rfl, t, _, 4, .str m, rfl, rfl, SqT.of ht, rfl, _, rfl, p, dx, _, _, rfl, hp, rfl, _, rfl, t, _, 3, .int s, rfl, rfl, SqT.of ht, rfl, ?_⟩
      rcases hs with rfl | rfl
      · refine ⟨q, _, 0, 0, rfl, rfl, hq, rfl, ?_⟩
        refine k q _ ⟨⟨dx, (upd_ne pq.symm).trans hp⟩, upd_same⟩ (.inl rfl) fun b o eb _ n2 => (upd_ne n2).trans eb
      · refine ⟨q, _, 1, 1, rfl, rfl, hq, rfl, ?_⟩
        refine k q _ ⟨⟨dx, (upd_ne pq.symm).trans hp⟩, upd_same⟩ (.inl rfl) fun b o eb _ n2 => (upd_ne n2).trans eb
    | move now n s =>
      refine ⟨_, rfl, rfl, _, rfl, ?_⟩
      rw [str_ne (a := (Ev.move now n s).nm) (b := "ring") (by dsimp only [Ev.nm]; decide +kernel)]
      refine iteF ⟨_, rfl, rfl, _, rfl, ?_⟩
      rw [str_ne (a := (Ev.move now n s).nm) (b := "answer") (by dsimp only [Ev.nm]; decide +kernel)]
      refine iteF ⟨_, rfl, rfl, _, rfl, ?_⟩
      rw [str_ne (a := (Ev.move now n s).nm) (b := "turn") (by dsimp only [Ev.nm]; decide +kernel)]
      refine iteF ⟨_, rfl, rfl, _, rfl, ?_⟩
      rw [str_ne (a := (Ev.move now n s).nm) (b := "moved") (by dsimp only [Ev.nm]; decide +kernel)]
      refine iteF ⟨_, rfl, rfl, _, rfl, ?_⟩
      rw [str_ne (a := (Ev.move now n s).nm) (b := "end") (by dsimp only [Ev.nm]; decide +kernel)]
      exact iteF (k q _ ⟨⟨dx, hp⟩, hq⟩ (.inl rfl) fun b o eb _ _ => eb)
    | moved now n s =>
      refine ⟨_, rfl, rfl, _, rfl, ?_⟩
      rw [str_ne (a := (Ev.moved now n s).nm) (b := "ring") (by dsimp only [Ev.nm]; decide +kernel)]
      refine iteF ⟨_, rfl, rfl, _, rfl, ?_⟩
      rw [str_ne (a := (Ev.moved now n s).nm) (b := "answer") (by dsimp only [Ev.nm]; decide +kernel)]
      refine iteF ⟨_, rfl, rfl, _, rfl, ?_⟩
      rw [str_ne (a := (Ev.moved now n s).nm) (b := "turn") (by dsimp only [Ev.nm]; decide +kernel)]
      refine iteF ⟨_, rfl, rfl, _, rfl, ?_⟩
      rw [str_eq (a := (Ev.moved now n s).nm) (b := "moved") rfl]
      refine iteT ⟨by show 2 ≤ sizeLine; decide, fun q2 hq2 => ?_⟩
      have p2 : p ≠ q2 := ne_of_none hp hq2
      refine ⟨_, rfl, p, dx, _, rfl, (upd_ne p2).trans hp, sm, ?_⟩
      refine ⟨_, rfl, p, He.ga K "Told", dx, _, _, rfl, upd_same, T.cl_Told, T.na_Told_moves, rfl, _, _, rfl, rfl, dx, _, upd_same, sm, ?_⟩
      rw [upd_upd]
      refine k q2 _ ⟨⟨dx, upd_same⟩, (upd_ne p2.symm).trans upd_same⟩ (.inr hq2) fun b o eb n1 _ => (upd_ne n1).trans ((upd_ne (ne_of_none eb hq2)).trans eb)
    | fin now n w =>
      refine ⟨_, rfl, rfl, _, rfl, ?_⟩
      rw [str_ne (a := (Ev.fin now n w).nm) (b := "ring") (by dsimp only [Ev.nm]; decide +kernel)]
      refine iteF ⟨_, rfl, rfl, _, rfl, ?_⟩
      rw [str_ne (a := (Ev.fin now n w).nm) (b := "answer") (by dsimp only [Ev.nm]; decide +kernel)]
      refine iteF ⟨_, rfl, rfl, _, rfl, ?_⟩
      rw [str_ne (a := (Ev.fin now n w).nm) (b := "turn") (by dsimp only [Ev.nm]; decide +kernel)]
      refine iteF ⟨_, rfl, rfl, _, rfl, ?_⟩
      rw [str_ne (a := (Ev.fin now n w).nm) (b := "moved") (by dsimp only [Ev.nm]; decide +kernel)]
      refine iteF ⟨_, rfl, rfl, _, rfl, ?_⟩
      rw [str_eq (a := (Ev.fin now n w).nm) (b := "end") rfl]
      refine iteT ⟨_, rfl, _, rfl, p, dx, _, rfl, hp, sm, _, rfl, t, _, 3, .str w, rfl, rfl, SqT.of ((upd_ne (ne_of ht hp (by intro z; cases z))).trans ht), rfl, _, rfl, p, dx, _, rfl, upd_same, sm, ?_⟩
      rw [upd_upd]
      exact one _ rfl rfl rfl _ rfl

end K16
set_option maxHeartbeats 1000000
namespace K16
open PySem PySem.Spec PyProof.Rows L2 SX TK NdefX
open C8 (pe_c)
abbrev Tr : Type := Addr × Addr × Cl
def c0 : Cl := mkC 0 0 ""
def cls (L : List Tr) : List Cl := L.map (·.2.2)
structure CsAt (K : PySem.W.Frag) (H : Hp) (cl : Addr) (L : List Tr) : Prop where
  l : H cl = some (.lst (L.map fun x => V.ref x.1))
  td : ∀ x ∈ L, TdAt K H x.1 x.2.1 x.2.2
  n1 : (L.map (·.1)).Nodup
  n2 : (L.map (·.2.1)).Nodup
  n3 : ∀ x ∈ L, x.2.1 ≠ cl
theorem CsAt.same {K : PySem.W.Frag} {H H' : Hp} {cl : Addr} {L : List Tr} (h : CsAt K H cl L) (s : Same H H') : CsAt K H' cl L := ⟨s _ _ h.l, fun x hx => (h.td x hx).same s, h.n1, h.n2, h.n3⟩
def stdN (cs : List Cl) (e : Ev) : Bool := if 1 ≤ e.n ∧ e.n ≤ cs.length then alw (cs.getD (e.n - 1).toNat c0) e else false
def std (cs : List Cl) (e : Ev) : Bool := if e.nm = "begin" then e.n == (cs.length : Int) + 1 else stdN cs e
theorem getD_cls {L : List Tr} {i : Nat} (h : i < L.length) : (cls L).getD i c0 = L[i].2.2 := by
  unfold cls
  rw [List.getD_eq_getElem?_getD, List.getElem?_map, List.getElem?_eq_getElem h]
  rfl
theorem at_L {L : List Tr} {i : Int} (h0 : 1 ≤ i) (h1 : i ≤ L.length) : ∃ h : (i - 1).toNat < L.length, atI (L.map fun x => V.ref x.1) (i - 1) = some (.ref L[(i - 1).toNat].1) := by
  refine ⟨by omega, ?_⟩
  rw [atN V.non (by omega) (by rw [List.length_map]; omega), List.getD_eq_getElem?_getD, List.getElem?_map, List.getElem?_eq_getElem (by omega)]
  rfl
def spStands (K : PySem.W.Frag) : Sp := fun vs H Q _ => ∃ (cl t : Addr) (L : List Tr) (e : Ev), vs = [.ref cl, .ref t] ∧ CsAt K H cl L ∧ H t = some (.tup e.v) ∧ ∀ H', Same H H' → Q (.bl (std (cls L) e)) H'
theorem ok_stands {P : Program} {w : World} {K : PySem.W.Frag} {mg : Str → Option Value} {base : Heap} {f : Addr} {fd : FuncData} (T : Tx K mg) (c_Told_allows : C8.Met P w K mg base 1 (He.ga K "Told") "allows" (spAllows K) [])
    (F : FunD K "_stands" "_stands" (defArgs s_stands) (defBody s_stands) (defScope s_stands) [] [] f fd) : FnOk P w K mg base CX0 2 f fd ["calls", "event"] (spStands K) := by
  refine F.ok sc_stands (fun vs H Q E h => ?_) (fun cdv A outer s0 H vs Q E hr h => ?_)
  · obtain ⟨cl, t, L, e, rfl, _⟩ := h
    rfl
  · obtain ⟨cl, t, L, e, rfl, hL, ht, k⟩ := h
    refine ⟨_, PSs.nox (pss_cons (ps_set (i := 2) sc_stands.nd rfl (Or.inl rfl) (pe_ix ix_tup (pv 1) pe_int (fun _ _ => rfl))) (C8.pss_cut (ps_if (pt_cmpR op_eq (pe_ix ix_tup (pv 1) pe_int (fun _ _ => rfl)) pe_str (nomark _)) (pss_one (ps_ret (pe_cmpR op_eq (pv 2) (pe_op op_add (pe_callB call_len_seq rfl T.f_len PySem.boot_len (pa_cons (pv 0) pa_nil)) pe_int) (nomark _)))) pss_nil) (pss_one (ps_ret (pe_and (pe_chain op_le op_le pe_int (pv 2) (pe_callB call_len_seq rfl T.f_len PySem.boot_len (pa_cons (pv 0) pa_nil))) (pe_one (C8.pe_mt c_Told_allows hr (by decide) (pe_ix ix_list (pv 0) (pe_op op_sub (pv 2) pe_int) (fun _ _ => rfl)) (pa_cons (pv 1) pa_nil)))))))), ?_⟩
    have ll : (cls L).length = L.length := List.length_map ..
    refine ⟨_, rfl, t, _, 2, _, rfl, rfl, SqT.of ht, at_2 e, ?_⟩
    refine ⟨fun σ' H' => e.nm ≠ "begin" ∧ σ' = [some (.ref cl), some (.ref t), some (.int e.n)] ∧ H' = H, ?_, ?_⟩
    · refine ⟨_, rfl, t, _, 0, _, rfl, rfl, SqT.of ht, at_0 e, rfl, _, rfl, ?_⟩
      by_cases h : e.nm = "begin"
      · rw [str_eq h]
        refine iteT ⟨_, rfl, _, rfl, cl, _, rfl, .inl (SqL.of hL.l), _, _, rfl, rfl, rfl, ?_⟩
        have q := k H fun _ _ e => e
        unfold std at q
        rw [if_pos h, ll] at q
        rw [dec_int, List.length_map]
        exact q
      · rw [str_ne h]
        exact iteF ⟨h, rfl, rfl⟩
    · rintro σ' H' ⟨h, rfl, rfl⟩
      have kN : ∀ H2, Same H' H2 → ∀ b, stdN (cls L) e = b → Q (.bl b) H2 := fun H2 s b z => by
        have q := k H2 s
        unfold std at q
        rw [if_neg h, z] at q
        exact q
      refine ⟨_, rfl, _, _, rfl, rfl, _, rfl, ?_⟩
      by_cases c1 : 1 ≤ e.n
      · rw [decide_eq_true c1]
        refine iteT ⟨_, rfl, cl, _, rfl, .inl (SqL.of hL.l), _, _, rfl, rfl, _, rfl, ?_⟩
        rw [List.length_map]
        by_cases c2 : e.n ≤ L.length
        · rw [decide_eq_true c2]
          obtain ⟨hi, ea⟩ := at_L c1 c2
          obtain ⟨⟨dx, hp⟩, hq⟩ := hL.td _ (List.getElem_mem hi)
          refine iteT ⟨_, rfl, _, rfl, _, _, rfl, rfl, cl, _, _, _, rfl, rfl, SqL.of hL.l, ea, _, dx, _, rfl, hp, rfl, _, rfl, _, _, t, _, e, rfl, ⟨⟨dx, hp⟩, hq⟩, ht, fun H2 s2 => kN H2 s2 _ ?_⟩
          unfold stdN
          rw [if_pos ⟨c1, by rw [ll]; exact c2⟩, getD_cls hi]
        · rw [decide_eq_false c2]
          refine iteF (kN _ (fun _ _ e => e) _ ?_)
          unfold stdN
          rw [if_neg (by rw [ll]; omega)]
      · rw [decide_eq_false c1]
        refine iteF ⟨_, rfl, iteF (kN _ (fun _ _ e => e) _ ?_)⟩
        unfold stdN
        rw [if_neg (by omega)]
theorem nodup_set {l : List Addr} {i : Nat} {a : Addr} (h : l.Nodup) (ha : ∀ (j : Nat) (hj : j < l.length), j ≠ i → l[j] ≠ a) : (l.set i a).Nodup := by
  refine List.pairwise_iff_getElem.mpr fun j k hj hk hjk => ?_
  rw [List.length_set] at hj hk
  have hp := List.pairwise_iff_getElem.mp h j k hj hk hjk
  rw [List.getElem_set, List.getElem_set]
  by_cases e1 : i = j
  · rw [if_pos e1, if_neg (by omega)]
    exact (ha k hk (by omega)).symm
  · rw [if_neg e1]
    by_cases e2 : i = k
    · rw [if_pos e2]
      exact ha j hj (by omega)
    · rw [if_neg e2]
      exact hp
theorem map_set_same {α β : Type} (f : α → β) {l : List α} {i : Nat} {x : α} (h : i < l.length) (e : f x = f l[i]) : (l.set i x).map f = l.map f := by
  rw [List.map_set, e]
  have hi : i < (l.map f).length := by rw [List.length_map]; exact h
  have : f l[i] = (l.map f)[i] := by rw [List.getElem_map]
  rw [this, List.set_getElem_self]
def app (cs : List Cl) : Ev → List Cl
  | .bgn t n w => cs ++ [mkC t n w]
  | e => cs.set (e.n - 1).toNat (takeC (cs.getD (e.n - 1).toNat c0) e)
theorem app_ne {cs : List Cl} {e : Ev} (h : e.nm ≠ "begin") : app cs e = cs.set (e.n - 1).toNat (takeC (cs.getD (e.n - 1).toNat c0) e) := by
  cases e <;> first | rfl | exact absurd rfl h
def spTk (K : PySem.W.Frag) : Sp := fun vs H Q _ => ∃ (cl t : Addr) (L : List Tr) (e : Ev), vs = [.ref cl, .ref t] ∧ CsAt K H cl L ∧ H t = some (.tup e.v) ∧ std (cls L) e = true ∧ L.length ≤ 1000 ∧
  ∀ L' H', CsAt K H' cl L' → cls L' = app (cls L) e → (∀ b o, H b = some o → b ≠ cl → (∀ x ∈ L, b ≠ x.1 ∧ b ≠ x.2.1) → H' b = some o) → (∀ x ∈ L', (x.1 ∈ L.map (·.1) ∨ H x.1 = none) ∧ (x.2.1 ∈ L.map (·.2.1) ∨ H x.2.1 = none)) → Q .non H'
theorem ok_take {P : Program} {w : World} {K : PySem.W.Frag} {mg : Str → Option Value} {base : Heap} {f : Addr} {fd : FuncData} (T : Tx K mg) (c_Told_take : C8.Met P w K mg base 1 (He.ga K "Told") "take" (spTake K) []) (c_mk_Told : C8.Mak P w K mg base 1 "Told" (He.ga K "Told") (spTInit K) [])
    (F : FunD K "_take" "_take" (defArgs s_take) (defBody s_take) (defScope s_take) [] [] f fd) : FnOk P w K mg base CX0 3 f fd ["calls", "event"] (spTk K) := by
  refine F.ok sc_take (fun vs H Q E h => ?_) (fun cdv A outer s0 H vs Q E hr h => ?_)
  · obtain ⟨cl, t, L, e, rfl, _⟩ := h
    rfl
  · obtain ⟨cl, t, L, e, rfl, hL, ht, hs, hz, k⟩ := h
    refine ⟨_, PSs.nox (pss_one (ps_if (pt_cmpR op_eq (pe_ix ix_tup (pv 1) pe_int (fun _ _ => rfl)) pe_str (nomark _)) (pss_cons (ps_asg (pv 1) (pg_tup rfl (pgs_cons (pg_name (i := 2) sc_take.nd rfl (Or.inl rfl)) (pgs_cons (pg_name (i := 3) sc_take.nd rfl (Or.inl rfl)) (pgs_cons (pg_name (i := 4) sc_take.nd rfl (Or.inl rfl)) (pgs_cons (pg_name (i := 5) sc_take.nd rfl (Or.inl rfl)) (pgs_cons (pg_name (i := 6) sc_take.nd rfl (Or.inl rfl)) pgs_nil))))))) (pss_one (ps_expr (pe_bm PySem.F.plainAttrs_list PySem.F.slot_list_append PySem.F.type_list_append mt_append (pv 0) (pa_cons (C8.pe_mk c_mk_Told hr (by decide) rfl (pa_cons (pv 3) (pa_cons (pv 4) (pa_cons (pv 5) (pa_cons (pv 6) pa_nil))))) pa_nil))))) (pss_one (ps_expr (C8.pe_mt c_Told_take hr (by decide) (pe_ix ix_list (pv 0) (pe_op op_sub (pe_ix ix_tup (pv 1) pe_int (fun _ _ => rfl)) pe_int) (fun _ _ => rfl)) (pa_cons (pv 1) pa_nil)))))), ?_⟩
    refine ⟨_, rfl, t, _, 0, _, rfl, rfl, SqT.of ht, at_0 e, rfl, _, rfl, ?_⟩
    by_cases h : e.nm = "begin"
    · rw [str_eq h]
      obtain ⟨now, n, w, rfl⟩ := nm_bgn h
      refine iteT ⟨_, rfl, t, _, rfl, SqT.of ht, rfl, _, _, rfl, _, _, rfl, _, _, rfl, _, _, rfl, _, _, rfl, rfl, ?_⟩
      refine ⟨_, rfl, .inl ⟨rfl, _, SqL.of hL.l⟩, _, rfl, _, rfl, _, rfl, _, rfl, fun x dx hx hdx ne => ?_⟩
      have so := same_own (C := He.ga K "Told") (fs := []) hx hdx
      refine ⟨x, dx, now, n, w, rfl, upd_same, fun q H1 hq td fr => ⟨rfl, cl, _, _, rfl, rfl, fr _ _ (so _ _ hL.l) (ne_of_none hL.l hx), ?_, ?_⟩⟩
      · rw [List.length_map, sizeLine_eq]
        omega
      have fr1 : Same H H1 := fun b o e => fr b o (so _ _ e) (ne_of_none e hx)
      have hq0 : ∀ {b o}, H b = some o → q ≠ b := fun {b o} e z => by rw [z, so _ _ e] at hq; cases hq
      have l1 := fr1 _ _ hL.l
      obtain ⟨⟨dx1, tp⟩, tq⟩ := td
      refine k (L ++ [(x, q, mkC now n w)]) _ ⟨?_, fun y hy => ?_, ?_, ?_, fun y hy => ?_⟩ ?_ (fun b o eb nb _ => (upd_ne nb).trans (fr1 _ _ eb)) fun y hy => ?_
      · rw [upd_same, List.map_append]
        rfl
      · rcases List.mem_append.mp hy with z | z
        · obtain ⟨⟨d, e1⟩, e2⟩ := (hL.td y z).same fr1
          exact ⟨⟨d, (upd_ne (ne_of e1 l1 (by intro z; cases z))).trans e1⟩, (upd_ne (hL.n3 y z)).trans e2⟩
        · rw [List.mem_singleton.mp z]
          exact ⟨⟨dx1, (upd_ne (ne_of tp l1 (by intro z; cases z))).trans tp⟩, (upd_ne (hq0 hL.l)).trans tq⟩
      · rw [List.map_append, List.nodup_append]
        refine ⟨hL.n1, by simp, fun a ha b hb => ?_⟩
        obtain ⟨y, hy, rfl⟩ := List.mem_map.mp ha
        obtain ⟨⟨d, e1⟩, _⟩ := hL.td y hy
        have : b = x := by simpa using hb
        rw [this]
        exact ne_of_none e1 hx
      · rw [List.map_append, List.nodup_append]
        refine ⟨hL.n2, by simp, fun a ha b hb => ?_⟩
        obtain ⟨y, hy, rfl⟩ := List.mem_map.mp ha
        have : b = q := by simpa using hb
        rw [this]
        exact (hq0 (hL.td y hy).2).symm
      · rcases List.mem_append.mp hy with z | z
        · exact hL.n3 y z
        · rw [List.mem_singleton.mp z]
          exact hq0 hL.l
      · show List.map _ _ = _
        rw [List.map_append]
        rfl
      · rcases List.mem_append.mp hy with z | z
        · exact ⟨.inl (List.mem_map.mpr ⟨y, z, rfl⟩), .inl (List.mem_map.mpr ⟨y, z, rfl⟩)⟩
        · rw [List.mem_singleton.mp z]
          refine ⟨.inr hx, .inr ?_⟩
          cases eq : H q with
          | none => rfl
          | some o => exact absurd rfl (hq0 eq)
    · rw [str_ne h]
      have hs' : stdN (cls L) e = true := by
        unfold std at hs
        rw [if_neg h] at hs
        exact hs
      have ll : (cls L).length = L.length := List.length_map ..
      unfold stdN at hs'
      by_cases cc : 1 ≤ e.n ∧ e.n ≤ (cls L).length
      · rw [if_pos cc] at hs'
        rw [ll] at cc
        obtain ⟨hi, ea⟩ := at_L cc.1 cc.2
        have ae := app_ne (cs := cls L) h
        rw [getD_cls hi] at hs' ae
        generalize hii : (e.n - 1).toNat = i at *
        have htd := hL.td _ (List.getElem_mem hi)
        obtain ⟨dx, hp⟩ := htd.1
        refine iteF ⟨_, rfl, _, rfl, t, _, 2, _, rfl, rfl, SqT.of ht, at_2 e, _, _, rfl, rfl, cl, _, _, _, rfl, rfl, SqL.of hL.l, ea, _, dx, _, rfl, hp, rfl, _, rfl, _, _, t, _, e, rfl, htd, ht, hs', fun q' H1 td1 hq fr => ?_⟩
        have hcl := fr _ _ hL.l (ne_of hL.l hp (by intro z; cases z)) (hL.n3 _ (List.getElem_mem hi)).symm
        have qcl : q' ≠ cl := by
          rcases hq with z | z
          · rw [z]
            exact hL.n3 _ (List.getElem_mem hi)
          · exact (ne_of_none hL.l z).symm
        have oth : ∀ (j : Nat) (hj : j < L.length), j ≠ i → L[j].1 ≠ L[i].1 ∧ L[j].2.1 ≠ L[i].2.1 := fun j hj hne => by
          have a1 := List.pairwise_iff_getElem.mp hL.n1
          have a2 := List.pairwise_iff_getElem.mp hL.n2
          have b1 : ∀ k (hk : k < L.length), (L.map (·.1))[k]'(by rw [List.length_map]; exact hk) = L[k].1 := fun k hk => List.getElem_map ..
          have b2 : ∀ k (hk : k < L.length), (L.map (·.2.1))[k]'(by rw [List.length_map]; exact hk) = L[k].2.1 := fun k hk => List.getElem_map ..
          rcases Nat.lt_or_gt_of_ne hne with z | z
          · have c1 := a1 j i (by rw [List.length_map]; exact hj) (by rw [List.length_map]; exact hi) z
            have c2 := a2 j i (by rw [List.length_map]; exact hj) (by rw [List.length_map]; exact hi) z
            rw [b1 j hj, b1 i hi] at c1
            rw [b2 j hj, b2 i hi] at c2
            exact ⟨c1, c2⟩
          · have c1 := a1 i j (by rw [List.length_map]; exact hi) (by rw [List.length_map]; exact hj) z
            have c2 := a2 i j (by rw [List.length_map]; exact hi) (by rw [List.length_map]; exact hj) z
            rw [b1 j hj, b1 i hi] at c1
            rw [b2 j hj, b2 i hi] at c2
            exact ⟨c1.symm, c2.symm⟩
        have el : ∀ y ∈ L.set i (L[i].1, q', takeC L[i].2.2 e), y = (L[i].1, q', takeC L[i].2.2 e) ∨ ∃ (j : Nat) (hj : j < L.length), j ≠ i ∧ y = L[j] := fun y hy => by
          obtain ⟨j, hj, rfl⟩ := List.mem_iff_getElem.mp hy
          rw [List.length_set] at hj
          rw [List.getElem_set]
          by_cases e1 : i = j
          · rw [if_pos e1]
            exact .inl rfl
          · rw [if_neg e1]
            exact .inr ⟨j, hj, fun z => e1 z.symm, rfl⟩
        have m1 : (L.set i (L[i].1, q', takeC L[i].2.2 e)).map (·.1) = L.map (·.1) := map_set_same (fun x : Tr => x.1) (x := (L[i].1, q', takeC L[i].2.2 e)) hi rfl
        refine k (L.set i (L[i].1, q', takeC L[i].2.2 e)) H1 ⟨?_, fun y hy => ?_, by rw [m1]; exact hL.n1, ?_, fun y hy => ?_⟩ ?_ (fun b o eb _ nx => ?_) fun y hy => ?_
        · rw [hcl]
          congr 2
          exact (map_set_same (fun x : Tr => V.ref x.1) (x := (L[i].1, q', takeC L[i].2.2 e)) hi rfl).symm
        · rcases el y hy with rfl | ⟨j, hj, hne, rfl⟩
          · exact td1
          · obtain ⟨⟨d, g1⟩, g2⟩ := hL.td _ (List.getElem_mem hj)
            obtain ⟨o1, o2⟩ := oth j hj hne
            exact ⟨⟨d, fr _ _ g1 o1 (ne_of g1 htd.2 (by intro z; cases z))⟩, fr _ _ g2 (ne_of g2 hp (by intro z; cases z)) o2⟩
        · rw [List.map_set]
          refine nodup_set hL.n2 fun j hj hne => ?_
          have hj2 : j < L.length := by rw [List.length_map] at hj; exact hj
          rw [List.getElem_map]
          rcases hq with z | z
          · rw [z]
            exact (oth j hj2 hne).2
          · exact ne_of_none (hL.td _ (List.getElem_mem hj2)).2 z
        · rcases el y hy with rfl | ⟨j, hj, hne, rfl⟩
          · exact qcl
          · exact hL.n3 _ (List.getElem_mem hj)
        · rw [ae]
          unfold cls
          rw [List.map_set]
        · have := nx _ (List.getElem_mem hi)
          exact fr b o eb this.1 this.2
        · rcases el y hy with rfl | ⟨j, hj, hne, rfl⟩
          · refine ⟨.inl (List.mem_map.mpr ⟨_, List.getElem_mem hi, rfl⟩), ?_⟩
            rcases hq with z | z
            · exact .inl (List.mem_map.mpr ⟨_, List.getElem_mem hi, z.symm⟩)
            · exact .inr z
          · exact ⟨.inl (List.mem_map.mpr ⟨_, List.getElem_mem hj, rfl⟩), .inl (List.mem_map.mpr ⟨_, List.getElem_mem hj, rfl⟩)⟩
      · rw [if_neg cc] at hs'
        cases hs'

end K16
set_option maxHeartbeats 1000000
namespace K16
open PySem PySem.Spec PyProof.Rows L2 SX TK NdefX
open C8 (pe_c)
def TsAt (H : Hp) : List Addr → List (List V) → Prop
  | [], [] => True
  | t :: ts, b :: bs => H t = some (.tup b) ∧ TsAt H ts bs
  | _, _ => False
theorem TsAt.mono {H H' : Hp} (s : ∀ x b, H x = some (.tup b) → H' x = some (.tup b)) : ∀ {ts : List Addr} {bs : List (List V)}, TsAt H ts bs → TsAt H' ts bs
  | [], [], _ => trivial
  | t :: ts, b :: bs, h => ⟨s _ _ h.1, TsAt.mono s h.2⟩
  | [], _ :: _, h => h
  | _ :: _, [], h => h
theorem TsAt.snoc {H : Hp} {t : Addr} {b : List V} (ht : H t = some (.tup b)) : ∀ {ts : List Addr} {bs : List (List V)}, TsAt H ts bs → TsAt H (ts ++ [t]) (bs ++ [b])
  | [], [], _ => ⟨ht, trivial⟩
  | _ :: _, _ :: _, h => ⟨h.1, TsAt.snoc ht h.2⟩
  | [], _ :: _, h => h.elim
  | _ :: _, [], h => h.elim
theorem TsAt.len {H : Hp} : ∀ {ts : List Addr} {bs : List (List V)}, TsAt H ts bs → ts.length = bs.length
  | [], [], _ => rfl
  | _ :: _, _ :: _, h => congrArg Nat.succ (TsAt.len h.2)
  | [], _ :: _, h => h.elim
  | _ :: _, [], h => h.elim
theorem TsAt.at_ {H : Hp} : ∀ {ts : List Addr} {bs : List (List V)}, TsAt H ts bs → ∀ (i : Nat) (x : V), (ts.map V.ref)[i]? = some x → ∃ t b, x = .ref t ∧ bs[i]? = some b ∧ H t = some (.tup b)
  | [], [], _, i, x, h => by cases h
  | t :: _, b :: _, h, 0, x, e => ⟨t, b, (Option.some.inj e).symm, rfl, h.1⟩
  | _ :: ts, _ :: bs, h, i + 1, x, e => TsAt.at_ h.2 i x e
  | [], _ :: _, h, _, _, _ => h.elim
  | _ :: _, [], h, _, _, _ => h.elim
structure Rs where
  cs : List Cl
  ws : List Int
  lat : Int
def stepR (r : Rs) (i : Nat) (e : Ev) : Rs := if r.lat ≤ e.now ∧ std r.cs e = true then ⟨app r.cs e, r.ws, e.now⟩ else ⟨r.cs, r.ws ++ [(i : Int)], r.lat⟩
def runN (es : List Ev) : Nat → Rs
  | 0 => ⟨[], [], 0⟩
  | i + 1 => match es[i]? with
    | some e => stepR (runN es i) i e
    | none => runN es i
theorem app_len (cs : List Cl) (e : Ev) : (app cs e).length ≤ cs.length + 1 := by
  cases e <;> simp [app]
theorem run_len (es : List Ev) : ∀ i, (runN es i).cs.length ≤ i ∧ (runN es i).ws.length ≤ i
  | 0 => ⟨Nat.le_refl _, Nat.le_refl _⟩
  | i + 1 => by
    have ih := run_len es i
    unfold runN
    cases es[i]? with
    | none =>
      show (runN es i).cs.length ≤ _ ∧ (runN es i).ws.length ≤ _
      exact ⟨by omega, by omega⟩
    | some e =>
      show (stepR (runN es i) i e).cs.length ≤ _ ∧ (stepR (runN es i) i e).ws.length ≤ _
      unfold stepR
      split
      · have := app_len (runN es i).cs e
        exact ⟨by show (app _ _).length ≤ _; omega, by show (runN es i).ws.length ≤ _; omega⟩
      · exact ⟨by show (runN es i).cs.length ≤ _; omega, by show ((runN es i).ws ++ _).length ≤ _; rw [List.length_append]; show _ + 1 ≤ _; omega⟩
def spTell (K : PySem.W.Frag) : Sp := fun vs H Q _ => ∃ (ev : Addr) (ts : List Addr) (es : List Ev), vs = [.ref ev] ∧ H ev = some (.lst (ts.map V.ref)) ∧ TsAt H ts (es.map Ev.v) ∧ es.length ≤ 100 ∧
  ∀ r pa wr us H', Same H H' → H' r = some (.tup [.ref pa, .ref wr]) → H' pa = some (.lst (us.map V.ref)) → TsAt H' us ((runN es es.length).cs.map Cl.v) → H' wr = some (.lst ((runN es es.length).ws.map V.int)) → Q (.ref r) H'
theorem ok_tell {P : Program} {w : World} {K : PySem.W.Frag} {mg : Str → Option Value} {base : Heap} {f : Addr} {fd : FuncData} (T : Tx K mg) (c_stands : C8.Cal P w K mg base 2 "_stands" (spStands K) []) (c_take : C8.Cal P w K mg base 3 "_take" (spTk K) []) (c_Told_parts : C8.Met P w K mg base 1 (He.ga K "Told") "parts" (spParts K) [])
    (F : FunD K "tell" "tell" (defArgs s_tell) (defBody s_tell) (defScope s_tell) [] [] f fd) : FnOk P w K mg base CX0 4 f fd ["events"] (spTell K) := by
  refine F.ok sc_tell (fun vs H Q E h => ?_) (fun cdv A outer s0 H vs Q E hr h => ?_)
  · obtain ⟨ev, ts, es, rfl, _⟩ := h
    rfl
  · obtain ⟨ev, ts, es, rfl, hev, hts, hn, k⟩ := h
    refine ⟨_, PSs.nox (pss_cons (ps_set (i := 1) sc_tell.nd rfl (Or.inl rfl) (pe_lst pa_nil)) (pss_cons (ps_set (i := 2) sc_tell.nd rfl (Or.inl rfl) (pe_lst pa_nil)) (pss_cons (ps_set (i := 3) sc_tell.nd rfl (Or.inl rfl) pe_int) (pss_cons (ps_for PassesOwn.never rfl (pi_enum (by rfl) T.f_enumerate (pa_cons (pv 0) pa_nil)) (pg_tup rfl (pgs_cons (pg_name (i := 4) sc_tell.nd rfl (Or.inl rfl)) (pgs_cons (pg_name (i := 5) sc_tell.nd rfl (Or.inl rfl)) pgs_nil))) (pss_one (ps_if (PW.pt (pw_and (pt_cmpR op_ge (pe_ix ix_tup (pv 5) pe_int (fun _ _ => rfl)) (pv 3) (nomark _)) (pw_and1 (pt_val (pe_c c_stands hr (by decide) rfl (pa_cons (pv 1) (pa_cons (pv 5) pa_nil))))))) (pss_cons (ps_set (i := 3) sc_tell.nd rfl (Or.inl rfl) (pe_ix ix_tup (pv 5) pe_int (fun _ _ => rfl))) (pss_one (ps_expr (pe_c c_take hr (by decide) rfl (pa_cons (pv 1) (pa_cons (pv 5) pa_nil)))))) (pss_one (ps_expr (pe_bm PySem.F.plainAttrs_list PySem.F.slot_list_append PySem.F.type_list_append mt_append (pv 2) (pa_cons (pv 4) pa_nil))))))) (pss_one (ps_ret (pe_tup (pa_cons (pe_lc (own := [("call", 6)]) (g := gName 6) rfl sc_tell.nd (pi_list (pv 1)) (blkOk_by (own := [("call", 6)]) (N := ["events", "calls", "wrong", "latest", "index", "event", "call"]) (sc := defScope s_tell) (by decide +kernel)) (fun _ _ _ _ _ => pg_name (i := 6) sc_tell.nd rfl (Or.inl rfl)) (fun _ _ _ _ _ => pts_nil) (fun _ _ _ _ _ => (C8.pe_mt0 c_Told_parts hr (by decide) (pv 6)))) (pa_cons (pv 2) pa_nil))))))))), ?_⟩
    have lts : ts.length = es.length := by rw [hts.len, List.length_map]
    refine ⟨by show 0 ≤ sizeLine; decide, fun cl hcl => ⟨by show 0 ≤ sizeLine; decide, fun wr hwr => ?_⟩⟩
    have s1 := same_upd (o := .lst []) hcl
    have s2 := same_upd (o := .lst []) hwr
    have ncw : wr ≠ cl := fun z => by rw [z, upd_same] at hwr; cases hwr
    have hwr0 : H wr = none := by rw [upd_ne ncw] at hwr; exact hwr
    have ecl : (upd (upd H cl (.lst [])) wr (.lst [])) cl = some (.lst []) := (upd_ne ncw.symm).trans upd_same
    have ewr : (upd (upd H cl (.lst [])) wr (.lst [])) wr = some (.lst []) := upd_same
    have s12 := s1.trans s2
    clear s1 s2 hwr
    generalize upd (upd H cl (.lst [])) wr (.lst []) = H1 at *
    refine ⟨_, rfl, ev, _, rfl, SqL.of (s12 _ _ hev), for_enum (K := K) (a := ev) (xs := ts.map V.ref) (fun i σ H' => Same H H' ∧ ∃ (L : List Tr) (v4 v5 : Option V), σ = [some (.ref ev), some (.ref cl), some (.ref wr), some (.int (runN es i).lat), v4, v5, none] ∧ CsAt K H' cl L ∧ cls L = (runN es i).cs ∧ H' wr = some (.lst ((runN es i).ws.map V.int)) ∧
        (∀ x ∈ L, x.2.1 ≠ wr) ∧ ∀ x ∈ L, H x.1 = none ∧ H x.2.1 = none)
      ⟨s12, [], none, none, rfl, ⟨ecl, (fun _ h => nomatch h), by simp, by simp, fun _ h => nomatch h⟩, rfl, ewr, (fun _ h => nomatch h), fun _ h => nomatch h⟩ (fun i σ H' _ q => SqL.of (q.1 _ _ hev)) ?_ ?_⟩
    · rintro i y TT σ H2 hi ⟨sH, L, v4, v5, rfl, hL, ec, ew, hw, hf⟩ hT
      obtain ⟨t, b, rfl, hb, ht⟩ := (hts.mono fun x b ex => sH _ _ ex).at_ i y hi
      rw [List.getElem?_map] at hb
      obtain ⟨e, he, rfl⟩ := Option.map_eq_some_iff.mp hb
      have er : runN es (i + 1) = stepR (runN es i) i e := by
        show (match es[i]? with
          | some e => stepR (runN es i) i e
          | none => runN es i) = _
        rw [he]
      have rl := run_len es i
      have hi9 : i < es.length := (List.getElem?_eq_some_iff.mp he).1
      rw [er]
      generalize runN es i = r at *
      have sT := same_upd (o := .tup [.int (i : Nat), .ref t]) hT
      have hLt := hL.same sT
      have ht2 := sT _ _ ht
      have ew2 := sT _ _ ew
      have sH2 := sH.trans sT
      have eT : (upd H2 TT (.tup [.int (i : Nat), .ref t])) TT = some (.tup [.int (i : Nat), .ref t]) := upd_same
      clear sH hL ht ew sT hT
      generalize upd H2 TT (.tup [.int (i : Nat), .ref t]) = H3 at *
      have lL : L.length ≤ 200 := by
        have : (cls L).length = L.length := List.length_map ..
        rw [ec] at this
        omega
      refine ⟨TT, _, rfl, SqT.of eT, rfl, _, _, rfl, _, _, rfl, rfl, ?_⟩
      have bad : ¬ (r.lat ≤ e.now ∧ std r.cs e = true) → ∀ H4, Same H3 H4 → Same H (upd H4 wr (.lst (r.ws.map V.int ++ [.int (i : Nat)]))) ∧ ∃ (L : List Tr) (w4 w5 : Option V), [some (.ref ev), some (.ref cl), some (.ref wr), some (.int r.lat), some (.int (i : Nat)), some (.ref t), none] = [some (.ref ev), some (.ref cl), some (.ref wr), some (.int (stepR r i e).lat), w4, w5, none] ∧ CsAt K (upd H4 wr (.lst (r.ws.map V.int ++ [.int (i : Nat)]))) cl L ∧ cls L = (stepR r i e).cs ∧ (upd H4 wr (.lst (r.ws.map V.int ++ [.int (i : Nat)]))) wr = some (.lst ((stepR r i e).ws.map V.int)) ∧
          (∀ x ∈ L, x.2.1 ≠ wr) ∧ ∀ x ∈ L, H x.1 = none ∧ H x.2.1 = none := fun nb H4 s4 => by
        have es' : stepR r i e = ⟨r.cs, r.ws ++ [(i : Int)], r.lat⟩ := by unfold stepR; rw [if_neg nb]
        rw [es']
        have hL4 := hLt.same s4
        have ew4 := s4 _ _ ew2
        refine ⟨fun b o eb => (upd_ne (ne_of_none eb hwr0)).trans (s4 _ _ (sH2 _ _ eb)), L, _, _, rfl, ⟨(upd_ne ncw.symm).trans hL4.l, fun x hx => ?_, hL4.n1, hL4.n2, hL4.n3⟩, ec, ?_, hw, hf⟩
        · obtain ⟨⟨d, g1⟩, g2⟩ := hL4.td x hx
          exact ⟨⟨d, (upd_ne (ne_of g1 ew4 (by intro z; cases z))).trans g1⟩, (upd_ne (hw x hx)).trans g2⟩
        · rw [upd_same, List.map_append]
          rfl
      have lw : (r.ws.map V.int).length < sizeLine := by
        rw [List.length_map, sizeLine_eq]
        omega
      refine ⟨_, rfl, t, _, 1, _, rfl, rfl, SqT.of ht2, at_1 e, _, rfl, _, _, rfl, rfl, _, rfl, ?_⟩
      by_cases c1 : r.lat ≤ e.now
      · rw [decide_eq_true c1]
        refine iteT ⟨_, rfl, _, rfl, cl, t, L, e, rfl, hLt, ht2, fun H4 s4 => ⟨_, rfl, ?_⟩⟩
        rw [ec]
        by_cases c2 : std r.cs e = true
        · rw [c2]
          refine iteT ⟨_, rfl, t, _, 1, _, rfl, rfl, SqT.of (s4 _ _ ht2), at_1 e, _, rfl, _, rfl, cl, t, L, e, rfl, hLt.same s4, s4 _ _ ht2, by rw [ec]; exact c2, by omega, fun L' H5 hL5 ec5 fr el => ?_⟩
          have es' : stepR r i e = ⟨app r.cs e, r.ws, e.now⟩ := by unfold stepR; rw [if_pos ⟨c1, c2⟩]
          rw [es']
          have nw : ∀ {b o}, H b = some o → H5 b = some o := fun {b o} eb => fr b o (s4 _ _ (sH2 _ _ eb)) (ne_of_none eb hcl) fun x hx => ⟨ne_of_none eb (hf x hx).1, ne_of_none eb (hf x hx).2⟩
          have back : ∀ {x : Addr}, H4 x = none → H x = none := fun {x} z => by
            cases eq : H x with
            | none => rfl
            | some o => rw [s4 _ _ (sH2 _ _ eq)] at z; cases z
          refine ⟨fun b o eb => nw eb, L', _, _, rfl, hL5, by rw [ec5, ec], ?_, fun x hx => ?_, fun x hx => ?_⟩
          · refine fr _ _ (s4 _ _ ew2) ncw fun x hx => ⟨?_, (hw x hx).symm⟩
            obtain ⟨⟨d, g1⟩, _⟩ := hLt.td x hx
            exact (ne_of g1 ew2 (by intro z; cases z)).symm
          · rcases (el x hx).2 with z | z
            · obtain ⟨y, hy, e1⟩ := List.mem_map.mp z
              have e1' : y.2.1 = x.2.1 := e1
              rw [← e1']
              exact hw y hy
            · exact (ne_of_none (s4 _ _ ew2) z).symm
          · refine ⟨?_, ?_⟩
            · rcases (el x hx).1 with z | z
              · obtain ⟨y, hy, e1⟩ := List.mem_map.mp z
                have e1' : y.1 = x.1 := e1
                rw [← e1']
                exact (hf y hy).1
              · exact back z
            · rcases (el x hx).2 with z | z
              · obtain ⟨y, hy, e1⟩ := List.mem_map.mp z
                have e1' : y.2.1 = x.2.1 := e1
                rw [← e1']
                exact (hf y hy).2
              · exact back z
        · rw [ef c2]
          exact iteF ⟨_, rfl, .inl ⟨rfl, _, SqL.of (s4 _ _ ew2)⟩, _, rfl, wr, _, _, rfl, rfl, s4 _ _ ew2, lw, bad (fun z => c2 z.2) H4 s4⟩
      · rw [decide_eq_false c1]
        exact iteF (iteF ⟨_, rfl, .inl ⟨rfl, _, SqL.of ew2⟩, _, rfl, wr, _, _, rfl, rfl, ew2, lw, bad (fun z => c1 z.1) H3 fun _ _ e => e⟩)
    · rintro σ H2 ⟨sH, L, v4, v5, rfl, hL, ec, ew, hw, hf⟩
      rw [List.length_map, lts] at ec ew
      have ll : (cls L).length = L.length := List.length_map ..
      have rl := run_len es es.length
      refine ⟨_, rfl, cl, rfl, ⟨_, SqL.of hL.l⟩, fun D hD => ?_⟩
      refine lc_itN walk_list (fun i H' => Same H2 H' ∧ ∃ us : List Addr, H' D = some (.lst (us.map V.ref)) ∧ TsAt H' us (((cls L).take i).map Cl.v)) ⟨same_upd hD, [], upd_same, trivial⟩ (fun i H' _ q => SqL.of (q.1 _ _ hL.l)) (fun i x H3 H4 hi p y => ?_) (fun H3 p => ?_)
      · obtain ⟨s3, us, e1, e2⟩ := p
        obtain ⟨rfl, hx⟩ := y
        rw [List.length_map] at hi
        rw [List.getElem?_map, List.getElem?_eq_getElem hi] at hx
        obtain rfl := Option.some.inj hx
        have td := (hL.td _ (List.getElem_mem hi)).same s3
        obtain ⟨dx, hp⟩ := td.1
        refine ⟨rfl, _, rfl, _, dx, _, rfl, hp, rfl, _, _, _, rfl, td, fun t ht => ?_⟩
        have tD : t ≠ D := fun z => by rw [z, e1] at ht; cases ht
        refine ⟨_, (upd_ne tD.symm).trans e1, ?_, fun b o eb => ?_, us ++ [t], ?_, ?_⟩
        · have := e2.len
          have l9 : (cls L).length ≤ 100 := by rw [ec]; omega
          rw [List.length_map, List.length_take] at this
          rw [List.length_map, sizeLine_eq]
          omega
        · exact (upd_ne (ne_of_none eb hD)).trans ((same_upd ht) _ _ (s3 _ _ eb))
        · rw [upd_same, List.map_append]
          rfl
        · have tk : (cls L).take (i + 1) = (cls L).take i ++ [L[i].2.2] := by
            rw [List.take_add_one, List.getElem?_eq_getElem (by rw [ll]; exact hi)]
            unfold cls
            rw [List.getElem_map]
            rfl
          rw [tk, List.map_append]
          refine TsAt.snoc ((upd_ne tD).trans upd_same) (e2.mono fun x b ex => ?_)
          exact (upd_ne (ne_of ex e1 (by intro z; cases z))).trans ((same_upd ht) _ _ ex)
      · obtain ⟨s3, us, e1, e2⟩ := p
        rw [List.length_map, ← ll, List.take_length, ec] at e2
        refine ⟨_, rfl, by show 2 ≤ sizeLine; decide, fun r hr0 => ?_⟩
        have s4 := same_upd (o := .tup [.ref D, .ref wr]) hr0
        exact k r D wr us _ (sH.trans (s3.trans s4)) upd_same (s4 _ _ e1) (e2.mono fun x b ex => s4 _ _ ex) (s4 _ _ (s3 _ _ ew))

end K16
set_option maxHeartbeats 1000000
namespace K16
open PySem PySem.Spec PyProof.Rows L2 SX TK NdefX
open C8 (pe_c)
def wdS (z : Str) : Prop := z = "bob@x" ∨ z = "eve@x" ∨ z = "p" ∨ z = "q" ∨ z = "both" ∨ z = "send" ∨ z = "none" ∨ z = "caller" ∨ z = "lost" ∨ z = "refused"
def small (i : Int) : Prop := -1000000 < i ∧ i < 1000000
def EvOk : Ev → Prop
  | .bgn t n w => small t ∧ small n ∧ wdS w
  | .ring t n => small t ∧ small n
  | .ans t n p => small t ∧ small n ∧ wdS p
  | .turn t n s m => small t ∧ small n ∧ small s ∧ wdS m
  | .move t n s => small t ∧ small n ∧ small s
  | .moved t n s => small t ∧ small n ∧ small s
  | .fin t n w => small t ∧ small n ∧ wdS w
def spEvent : Sp := fun vs H Q _ => ∃ (s c nb : Addr) (now m : Int), vs = [.ref s, .int now, .ref nb] ∧ StAt H s c ∧ H nb = some (.lst [.int m]) ∧ nb ≠ s ∧ nb ≠ c ∧ 0 ≤ m ∧ m ≤ 1000 ∧ 0 ≤ now ∧ now ≤ 100000 ∧
  ∀ t (e : Ev) H', H' t = some (.tup e.v) → EvOk e → StAt H' s c → Keep H H' s c → Q (.ref t) H'
theorem ok_law_event {P : Program} {w : World} {K : PySem.W.Frag} {mg : Str → Option Value} {base : Heap} {f : Addr} {fd : FuncData} (T : Tx K mg) (c_law_draw : C8.Cal P w K mg base 1 "_law_draw" spDraw []) (c_law_pick : C8.Cal P w K mg base 2 "_law_pick" spPick [])
    (F : FunD K "_law_event" "_law_event" (defArgs s_law_event) (defBody s_law_event) (defScope s_law_event) [] [] f fd) : FnOk P w K mg base CX0 3 f fd ["state", "now", "numbers"] spEvent := by
  refine F.ok sc_law_event (fun vs H Q E h => ?_) (fun cdv A outer s0 H vs Q E hr h => ?_)
  · obtain ⟨s, c, nb, now, m, rfl, _⟩ := h
    rfl
  · obtain ⟨s, c, nb, now, m, rfl, hst, hnb, n1, n2, m0, m1, t0, t1, k⟩ := h
    refine ⟨_, PSs.nox (pss_cons (ps_set (i := 3) sc_law_event.nd rfl (Or.inl rfl) (pe_c c_law_pick hr (by decide) rfl (pa_cons (pv 0) (pa_cons (pe_lst (pa_cons (pe_ix ix_list (pv 2) pe_int (fun _ _ => rfl)) (pa_cons (pe_ix ix_list (pv 2) pe_int (fun _ _ => rfl)) (pa_cons (pe_c c_law_draw hr (by decide) rfl (pa_cons (pv 0) (pa_cons (pe_op op_add (pe_ix ix_list (pv 2) pe_int (fun _ _ => rfl)) pe_int) pa_nil))) pa_nil)))) pa_nil)))) (pss_cons (ps_set (i := 4) sc_law_event.nd rfl (Or.inl rfl) (pe_c c_law_draw hr (by decide) rfl (pa_cons (pv 0) (pa_cons pe_int pa_nil)))) (C8.pss_cut (ps_if (pt_cmpR op_lt (pv 4) pe_int (nomark _)) (pss_cons (ps_set (i := 5) sc_law_event.nd rfl (Or.inl rfl) (pe_c c_law_pick hr (by decide) rfl (pa_cons (pv 0) (pa_cons (pe_lst (pa_cons (pe_op op_add (pe_ix ix_list (pv 2) pe_int (fun _ _ => rfl)) pe_int) (pa_cons (pe_op op_add (pe_ix ix_list (pv 2) pe_int (fun _ _ => rfl)) pe_int) (pa_cons (pe_op op_add (pe_ix ix_list (pv 2) pe_int (fun _ _ => rfl)) pe_int) (pa_cons (pv 3) pa_nil))))) pa_nil)))) (pss_one (ps_ret (pe_tup (pa_cons pe_str (pa_cons (pv 1) (pa_cons (pv 5) (pa_cons pe_str (pa_cons (pe_c c_law_pick hr (by decide) rfl (pa_cons (pv 0) (pa_cons (pe_lst (pa_cons pe_str (pa_cons pe_str pa_nil))) pa_nil))) pa_nil))))))))) pss_nil) (C8.pss_cut (ps_if (pt_cmpR op_lt (pv 4) pe_int (nomark _)) (pss_one (ps_ret (pe_tup (pa_cons pe_str (pa_cons (pv 1) (pa_cons (pv 3) pa_nil)))))) pss_nil) (C8.pss_cut (ps_if (pt_cmpR op_lt (pv 4) pe_int (nomark _)) (pss_one (ps_ret (pe_tup (pa_cons pe_str (pa_cons (pv 1) (pa_cons (pv 3) (pa_cons (pe_c c_law_pick hr (by decide) rfl (pa_cons (pv 0) (pa_cons (pe_lst (pa_cons pe_str (pa_cons pe_str pa_nil))) pa_nil))) pa_nil))))))) pss_nil) (pss_cons (ps_set (i := 6) sc_law_event.nd rfl (Or.inl rfl) (pe_c c_law_pick hr (by decide) rfl (pa_cons (pv 0) (pa_cons (pe_lst (pa_cons pe_int (pa_cons pe_int (pa_cons pe_int (pa_cons pe_int (pa_cons pe_int pa_nil)))))) pa_nil)))) (C8.pss_cut (ps_if (pt_cmpR op_eq (pv 4) pe_int (nomark _)) (pss_one (ps_ret (pe_tup (pa_cons pe_str (pa_cons (pv 1) (pa_cons (pv 3) (pa_cons (pv 6) (pa_cons (pe_c c_law_pick hr (by decide) rfl (pa_cons (pv 0) (pa_cons (pe_lst (pa_cons pe_str (pa_cons pe_str (pa_cons pe_str pa_nil)))) pa_nil))) pa_nil)))))))) pss_nil) (C8.pss_cut (ps_if (pt_cmpR op_eq (pv 4) pe_int (nomark _)) (pss_one (ps_ret (pe_tup (pa_cons pe_str (pa_cons (pv 1) (pa_cons (pv 3) (pa_cons (pv 6) (pa_cons pe_str pa_nil)))))))) pss_nil) (C8.pss_cut (ps_if (pt_cmpR op_eq (pv 4) pe_int (nomark _)) (pss_one (ps_ret (pe_tup (pa_cons pe_str (pa_cons (pv 1) (pa_cons (pv 3) (pa_cons (pv 6) pa_nil))))))) pss_nil) (pss_one (ps_ret (pe_tup (pa_cons pe_str (pa_cons (pv 1) (pa_cons (pv 3) (pa_cons (pe_c c_law_pick hr (by decide) rfl (pa_cons (pv 0) (pa_cons (pe_lst (pa_cons pe_str (pa_cons pe_str (pa_cons pe_str pa_nil)))) pa_nil))) pa_nil)))))))))))))))), ?_⟩
    have st : small now := ⟨by omega, by omega⟩
    refine ⟨_, rfl, _, rfl, nb, _, 0, _, rfl, rfl, SqL.of hnb, rfl, _, rfl, nb, _, 0, _, rfl, rfl, SqL.of hnb, rfl, _, rfl, _, rfl, nb, _, 0, _, rfl, rfl, SqL.of hnb, rfl, _, _, rfl, rfl, s, c, _, rfl, hst, by omega, by omega, fun d H1 d0 d1 st1 kp1 => ⟨by show 3 ≤ sizeLine; decide, fun p hp => ?_⟩⟩
    obtain ⟨ps, pc⟩ := st1.tracked hp
    refine ⟨s, c, _, rfl, st1.upd ps pc, .inr ⟨p, _, rfl, upd_same, ps, pc, by simp, by simp, fun v hv H2 st2 kp2 => ?_⟩⟩
    obtain ⟨n, rfl, hn⟩ : ∃ n : Int, v = .int n ∧ small n := by
      simp only [List.mem_cons, List.not_mem_nil, or_false] at hv
      rcases hv with rfl | rfl | rfl
      · exact ⟨_, rfl, by omega, by omega⟩
      · exact ⟨_, rfl, by omega, by omega⟩
      · exact ⟨_, rfl, by omega, by omega⟩
    have k2 := (kp1.trans (Keep.of_same (same_upd hp))).trans kp2
    have hnb2 := k2 _ _ hnb n1 n2
    clear hv kp1 kp2 hp st1 hst hnb
    refine ⟨_, rfl, s, c, 12, rfl, st2, by decide, by decide, fun kd H3 _ _ st3 kp3 => ?_⟩
    have k3 := k2.trans kp3
    have hnb3 := kp3 _ _ hnb2 n1 n2
    clear k2 kp3 hnb2 st2
    have tupQ : ∀ (e : Ev) (H4 : Hp) (q : Addr), EvOk e → StAt H4 s c → Keep H H4 s c → H4 q = none → Q (.ref q) (upd H4 q (.tup e.v)) := fun e H4 q he st4 k4 hq => by
      obtain ⟨qs, qc⟩ := st4.tracked hq
      exact k q e _ upd_same he (st4.upd qs qc) (k4.trans (Keep.of_same (same_upd hq)))
    refine ⟨fun σ' H4 => σ' = [some (.ref s), some (.int now), some (.ref nb), some (.int n), some (.int kd), none, none] ∧ H4 = H3, ?_, ?_⟩
    · refine ⟨_, rfl, _, _, rfl, rfl, _, rfl, ?_⟩
      by_cases c1 : kd < 3
      · rw [decide_eq_true c1]
        refine iteT ⟨_, rfl, _, rfl, nb, _, 0, _, rfl, rfl, SqL.of hnb3, rfl, _, _, rfl, rfl, _, rfl, nb, _, 0, _, rfl, rfl, SqL.of hnb3, rfl, _, _, rfl, rfl, _, rfl, nb, _, 0, _, rfl, rfl, SqL.of hnb3, rfl, _, _, rfl, rfl, _, rfl, by show 4 ≤ sizeLine; decide, fun q hq => ?_⟩
        obtain ⟨qs, qc⟩ := st3.tracked hq
        refine ⟨s, c, _, rfl, st3.upd qs qc, .inr ⟨q, _, rfl, upd_same, qs, qc, by simp, by simp, fun v hv H4 st4 kp4 => ?_⟩⟩
        obtain ⟨n5, rfl, hn5⟩ : ∃ n : Int, v = .int n ∧ small n := by
          simp only [List.mem_cons, List.not_mem_nil, or_false] at hv
          rcases hv with rfl | rfl | rfl | rfl
          · exact ⟨_, rfl, by omega, by omega⟩
          · exact ⟨_, rfl, by omega, by omega⟩
          · exact ⟨_, rfl, by omega, by omega⟩
          · exact ⟨_, rfl, hn⟩
        have k4 := (k3.trans (Keep.of_same (same_upd hq))).trans kp4
        refine ⟨_, rfl, _, rfl, _, rfl, by show 2 ≤ sizeLine; decide, fun q2 hq2 => ?_⟩
        obtain ⟨qs2, qc2⟩ := st4.tracked hq2
        refine ⟨s, c, _, rfl, st4.upd qs2 qc2, .inr ⟨q2, _, rfl, upd_same, qs2, qc2, by simp, by simp, fun v hv H5 st5 kpn => ?_⟩⟩
        obtain ⟨z, rfl, hz⟩ : ∃ z : Str, v = .str z ∧ wdS z := by
          simp only [List.mem_cons, List.not_mem_nil, or_false] at hv
          rcases hv with rfl | rfl <;> exact ⟨_, rfl, by simp [wdS]⟩
        have k5 := (k4.trans (Keep.of_same (same_upd hq2))).trans kpn
        exact ⟨by show 5 ≤ sizeLine; decide, fun t ht => tupQ (.bgn now n5 z) H5 t ⟨st, hn5, hz⟩ st5 k5 ht⟩
      · rw [decide_eq_false c1]
        exact iteF ⟨rfl, rfl⟩
    · rintro σ' H4 ⟨rfl, rfl⟩
      refine ⟨fun σ' H5 => σ' = [some (.ref s), some (.int now), some (.ref nb), some (.int n), some (.int kd), none, none] ∧ H5 = H4, ?_, ?_⟩
      · refine ⟨_, rfl, _, _, rfl, rfl, _, rfl, ?_⟩
        by_cases c1 : kd < 5
        · rw [decide_eq_true c1]
          exact iteT ⟨_, rfl, _, rfl, by show 3 ≤ sizeLine; decide, fun t ht => tupQ (.ring now n) H4 t ⟨st, hn⟩ st3 k3 ht⟩
        · rw [decide_eq_false c1]
          exact iteF ⟨rfl, rfl⟩
      · rintro σ' H5 ⟨rfl, rfl⟩
        refine ⟨fun σ' H6 => σ' = [some (.ref s), some (.int now), some (.ref nb), some (.int n), some (.int kd), none, none] ∧ H6 = H5, ?_, ?_⟩
        · refine ⟨_, rfl, _, _, rfl, rfl, _, rfl, ?_⟩
          by_cases c1 : kd < 7
          · rw [decide_eq_true c1]
            refine iteT ⟨_, rfl, _, rfl, _, rfl, by show 2 ≤ sizeLine; decide, fun q2 hq2 => ?_⟩
            obtain ⟨qs2, qc2⟩ := st3.tracked hq2
            refine ⟨s, c, _, rfl, st3.upd qs2 qc2, .inr ⟨q2, _, rfl, upd_same, qs2, qc2, by simp, by simp, fun v hv H6 st6 kpn => ?_⟩⟩
            obtain ⟨z, rfl, hz⟩ : ∃ z : Str, v = .str z ∧ wdS z := by
              simp only [List.mem_cons, List.not_mem_nil, or_false] at hv
              rcases hv with rfl | rfl <;> exact ⟨_, rfl, by simp [wdS]⟩
            have k6 := (k3.trans (Keep.of_same (same_upd hq2))).trans kpn
            exact ⟨by show 4 ≤ sizeLine; decide, fun t ht => tupQ (.ans now n z) H6 t ⟨st, hn, hz⟩ st6 k6 ht⟩
          · rw [decide_eq_false c1]
            exact iteF ⟨rfl, rfl⟩
        · rintro σ' H6 ⟨rfl, rfl⟩
          refine ⟨_, rfl, by show 5 ≤ sizeLine; decide, fun q hq => ?_⟩
          obtain ⟨qs, qc⟩ := st3.tracked hq
          refine ⟨s, c, _, rfl, st3.upd qs qc, .inr ⟨q, _, rfl, upd_same, qs, qc, by simp, by simp, fun v hv H7 st7 kp7 => ?_⟩⟩
          obtain ⟨sd, rfl, hsd⟩ : ∃ n : Int, v = .int n ∧ small n := by
            simp only [List.mem_cons, List.not_mem_nil, or_false] at hv
            rcases hv with rfl | rfl | rfl | rfl | rfl <;> exact ⟨_, rfl, by decide, by decide⟩
          have k7 := (k3.trans (Keep.of_same (same_upd hq))).trans kp7
          clear kp7 hv hq k3 st3 hnb3
          refine ⟨fun σ' H8 => σ' = [some (.ref s), some (.int now), some (.ref nb), some (.int n), some (.int kd), none, some (.int sd)] ∧ H8 = H7, ?_, ?_⟩
          · refine ⟨_, rfl, rfl, _, rfl, ?_⟩
            rw [dec_int]
            cases kd == 7 with
            | true =>
              refine iteT ⟨_, rfl, _, rfl, _, rfl, _, rfl, by show 3 ≤ sizeLine; decide, fun q2 hq2 => ?_⟩
              obtain ⟨qs2, qc2⟩ := st7.tracked hq2
              refine ⟨s, c, _, rfl, st7.upd qs2 qc2, .inr ⟨q2, _, rfl, upd_same, qs2, qc2, by simp, by simp, fun v hv H8 st8 kpn => ?_⟩⟩
              obtain ⟨z, rfl, hz⟩ : ∃ z : Str, v = .str z ∧ wdS z := by
                simp only [List.mem_cons, List.not_mem_nil, or_false] at hv
                rcases hv with rfl | rfl | rfl <;> exact ⟨_, rfl, by simp [wdS]⟩
              have k8 := (k7.trans (Keep.of_same (same_upd hq2))).trans kpn
              exact ⟨by show 5 ≤ sizeLine; decide, fun t ht => tupQ (.turn now n sd z) H8 t ⟨st, hn, hsd, hz⟩ st8 k8 ht⟩
            | false => exact iteF ⟨rfl, rfl⟩
          · rintro σ' H8 ⟨rfl, rfl⟩
            refine ⟨fun σ' H9 => σ' = [some (.ref s), some (.int now), some (.ref nb), some (.int n), some (.int kd), none, some (.int sd)] ∧ H9 = H8, ?_, ?_⟩
            · refine ⟨_, rfl, rfl, _, rfl, ?_⟩
              rw [dec_int]
              cases kd == 8 with
              | true => exact iteT ⟨_, rfl, _, rfl, _, rfl, by show 5 ≤ sizeLine; decide, fun t ht => tupQ (.move now n sd) H8 t ⟨st, hn, hsd⟩ st7 k7 ht⟩
              | false => exact iteF ⟨rfl, rfl⟩
            · rintro σ' H9 ⟨rfl, rfl⟩
              refine ⟨fun σ' Ha => σ' = [some (.ref s), some (.int now), some (.ref nb), some (.int n), some (.int kd), none, some (.int sd)] ∧ Ha = H9, ?_, ?_⟩
              · refine ⟨_, rfl, rfl, _, rfl, ?_⟩
                rw [dec_int]
                cases kd == 9 with
                | true => exact iteT ⟨_, rfl, _, rfl, _, rfl, by show 4 ≤ sizeLine; decide, fun t ht => tupQ (.moved now n sd) H9 t ⟨st, hn, hsd⟩ st7 k7 ht⟩
                | false => exact iteF ⟨rfl, rfl⟩
              · rintro σ' Ha ⟨rfl, rfl⟩
                refine ⟨_, rfl, _, rfl, _, rfl, by show 3 ≤ sizeLine; decide, fun q2 hq2 => ?_⟩
                obtain ⟨qs2, qc2⟩ := st7.tracked hq2
                refine ⟨s, c, _, rfl, st7.upd qs2 qc2, .inr ⟨q2, _, rfl, upd_same, qs2, qc2, by simp, by simp, fun v hv Hb stb kpn => ?_⟩⟩
                obtain ⟨z, rfl, hz⟩ : ∃ z : Str, v = .str z ∧ wdS z := by
                  simp only [List.mem_cons, List.not_mem_nil, or_false] at hv
                  rcases hv with rfl | rfl | rfl <;> exact ⟨_, rfl, by simp [wdS]⟩
                have kb := (k7.trans (Keep.of_same (same_upd hq2))).trans kpn
                exact ⟨by show 4 ≤ sizeLine; decide, fun t ht => tupQ (.fin now n z) Hb t ⟨st, hn, hz⟩ stb kb ht⟩

end K16
set_option maxHeartbeats 1000000
namespace K16
open PySem PySem.Spec PyProof.Rows L2 SX TK NdefX
open C8 (pe_c)
abbrev Ar : Type := Addr × Cl
def clA (A : List Ar) : List Cl := A.map (·.2)
structure ClAt (H : Hp) (cl : Addr) (A : List Ar) : Prop where
  l : H cl = some (.lst (A.map fun x => V.ref x.1))
  r : ∀ x ∈ A, H x.1 = some (.lst x.2.v)
  n : (A.map (·.1)).Nodup
  d : ∀ x ∈ A, x.1 ≠ cl
theorem ClAt.same {H H' : Hp} {cl : Addr} {A : List Ar} (h : ClAt H cl A) (s : Same H H') : ClAt H' cl A := ⟨s _ _ h.l, fun x hx => s _ _ (h.r x hx), h.n, h.d⟩
theorem getD_clA {A : List Ar} {i : Nat} (h : i < A.length) : (clA A).getD i c0 = A[i].2 := by
  unfold clA
  rw [List.getD_eq_getElem?_getD, List.getElem?_map, List.getElem?_eq_getElem h]
  rfl
theorem at_A {A : List Ar} {i : Int} (h0 : 1 ≤ i) (h1 : i ≤ A.length) : ∃ h : (i - 1).toNat < A.length, atI (A.map fun x => V.ref x.1) (i - 1) = some (.ref A[(i - 1).toNat].1) := by
  refine ⟨by omega, ?_⟩
  rw [atN V.non (by omega) (by rw [List.length_map]; omega), List.getD_eq_getElem?_getD, List.getElem?_map, List.getElem?_eq_getElem (by omega)]
  rfl
def spLSt (K : PySem.W.Frag) : Sp := fun vs H Q _ => ∃ (cl t nw : Addr) (A : List Ar) (e : Ev) (lat : Int), vs = [.ref t, .ref cl, .ref nw] ∧ ClAt H cl A ∧ H t = some (.tup e.v) ∧ H nw = some (.lst [.int lat]) ∧ ∀ H', Same H H' → Q (.bl (if lat ≤ e.now then std (clA A) e else false)) H'
theorem ok_law_stands {P : Program} {w : World} {K : PySem.W.Frag} {mg : Str → Option Value} {base : Heap} {f : Addr} {fd : FuncData} (T : Tx K mg) 
    (F : FunD K "_law_stands" "_law_stands" (defArgs s_law_stands) (defBody s_law_stands) (defScope s_law_stands) [] [] f fd) : FnOk P w K mg base CX0 1 f fd ["event", "calls", "now"] (spLSt K) := by
  refine F.ok sc_law_stands (fun vs H Q E h => ?_) (fun cdv A outer s0 H vs Q E hr h => ?_)
  · obtain ⟨cl, t, nw, A, e, lat, rfl, _⟩ := h
    rfl
  · obtain ⟨cl, t, nw, A, e, lat, rfl, hA, ht, hw, k⟩ := h
    refine ⟨_, PSs.nox (C8.pss_cut (ps_if (pt_cmpR op_lt (pe_ix ix_tup (pv 0) pe_int (fun _ _ => rfl)) (pe_ix ix_list (pv 2) pe_int (fun _ _ => rfl)) (nomark _)) (pss_one (ps_ret pe_bl)) pss_nil) (C8.pss_cut (ps_if (pt_cmpR op_eq (pe_ix ix_tup (pv 0) pe_int (fun _ _ => rfl)) pe_str (nomark _)) (pss_one (ps_ret (pe_cmpR op_eq (pe_ix ix_tup (pv 0) pe_int (fun _ _ => rfl)) (pe_op op_add (pe_callB call_len_seq rfl T.f_len PySem.boot_len (pa_cons (pv 1) pa_nil)) pe_int) (nomark _)))) pss_nil) (C8.pss_cut (ps_if (pt_not (pt_chain op_le op_le pe_int (pe_ix ix_tup (pv 0) pe_int (fun _ _ => rfl)) (pe_callB call_len_seq rfl T.f_len PySem.boot_len (pa_cons (pv 1) pa_nil)))) (pss_one (ps_ret pe_bl)) pss_nil) (pss_cons (ps_set (i := 3) sc_law_stands.nd rfl (Or.inl rfl) (pe_ix ix_list (pv 1) (pe_op op_sub (pe_ix ix_tup (pv 0) pe_int (fun _ _ => rfl)) pe_int) (fun _ _ => rfl))) (C8.pss_cut (ps_if (pt_cmpR op_notN (pe_ix ix_list (pv 3) pe_int (fun _ _ => rfl)) pe_non (nomark _)) (pss_one (ps_ret pe_bl)) pss_nil) (C8.pss_cut (ps_if (pt_cmpR op_eq (pe_ix ix_tup (pv 0) pe_int (fun _ _ => rfl)) pe_str (nomark _)) (pss_one (ps_ret (pe_and (pe_cmpR op_isN (pe_ix ix_list (pv 3) pe_int (fun _ _ => rfl)) pe_non (nomark _)) (pe_one (pe_cmpR op_isN (pe_ix ix_list (pv 3) pe_int (fun _ _ => rfl)) pe_non (nomark _)))))) pss_nil) (C8.pss_cut (ps_if (pt_cmpR op_eq (pe_ix ix_tup (pv 0) pe_int (fun _ _ => rfl)) pe_str (nomark _)) (pss_one (ps_ret (pe_cmpR op_isN (pe_ix ix_list (pv 3) pe_int (fun _ _ => rfl)) pe_non (nomark _)))) pss_nil) (pss_one (ps_ret (pe_or (pe_cmpR op_eq (pe_ix ix_tup (pv 0) pe_int (fun _ _ => rfl)) pe_str (nomark _)) (pe_one (pe_and (pe_cmpR op_notN (pe_ix ix_list (pv 3) pe_int (fun _ _ => rfl)) pe_non (nomark _)) (pe_one (pe_cmpR op_in_seq (pe_ix ix_tup (pv 0) pe_int (fun _ _ => rfl)) (pe_lst (pa_cons pe_int (pa_cons pe_int pa_nil))) (by with_unfolding_all rfl))))))))))))))), ?_⟩
    have ll : (clA A).length = A.length := List.length_map ..
    refine ⟨fun σ' H' => lat ≤ e.now ∧ σ' = [some (.ref t), some (.ref cl), some (.ref nw), none] ∧ H' = H, ?_, ?_⟩
    · refine ⟨_, rfl, t, _, 1, _, rfl, rfl, SqT.of ht, at_1 e, _, rfl, nw, _, 0, _, rfl, rfl, SqL.of hw, rfl, _, _, rfl, rfl, _, rfl, ?_⟩
      by_cases c1 : lat ≤ e.now
      · rw [decide_eq_false (by omega)]
        exact iteF ⟨c1, rfl, rfl⟩
      · rw [decide_eq_true (by omega)]
        have q := k H fun _ _ e => e
        rw [if_neg c1] at q
        exact iteT q
    · rintro σ' H' ⟨c1, rfl, rfl⟩
      rw [if_pos c1] at k
      refine ⟨fun σ' H2 => e.nm ≠ "begin" ∧ σ' = [some (.ref t), some (.ref cl), some (.ref nw), none] ∧ H2 = H', ?_, ?_⟩
      · refine ⟨_, rfl, t, _, 0, _, rfl, rfl, SqT.of ht, at_0 e, rfl, _, rfl, ?_⟩
        by_cases h : e.nm = "begin"
        · rw [str_eq h]
          refine iteT ⟨_, rfl, t, _, 2, _, rfl, rfl, SqT.of ht, at_2 e, _, rfl, cl, _, rfl, .inl (SqL.of hA.l), _, _, rfl, rfl, rfl, ?_⟩
          have q := k H' fun _ _ e => e
          unfold std at q
          rw [if_pos h, ll] at q
          rw [dec_int, List.length_map]
          exact q
        · rw [str_ne h]
          exact iteF ⟨h, rfl, rfl⟩
      · rintro σ' H2 ⟨h, rfl, rfl⟩
        have kN : ∀ H3, Same H2 H3 → ∀ b, stdN (clA A) e = b → Q (.bl b) H3 := fun H3 s b z => by
          have q := k H3 s
          unfold std at q
          rw [if_neg h, z] at q
          exact q
        refine ⟨fun σ' H3 => (1 ≤ e.n ∧ e.n ≤ A.length) ∧ σ' = [some (.ref t), some (.ref cl), some (.ref nw), none] ∧ H3 = H2, ?_, ?_⟩
        · have no : ¬ (1 ≤ e.n ∧ e.n ≤ A.length) → Q (.bl false) H2 := fun z => kN _ (fun _ _ e => e) _ (by unfold stdN; rw [ll, if_neg z])
          refine ⟨_, rfl, t, _, 2, _, rfl, rfl, SqT.of ht, at_2 e, _, _, rfl, rfl, _, rfl, ?_⟩
          by_cases d1 : 1 ≤ e.n
          · rw [decide_eq_true d1]
            refine iteT ⟨_, rfl, cl, _, rfl, .inl (SqL.of hA.l), _, _, rfl, rfl, _, rfl, ?_⟩
            rw [List.length_map]
            by_cases d2 : e.n ≤ A.length
            · rw [decide_eq_true d2]
              exact iteF ⟨⟨d1, d2⟩, rfl, rfl⟩
            · rw [decide_eq_false d2]
              exact iteT (no fun z => d2 z.2)
          · rw [decide_eq_false d1]
            exact iteF ⟨_, rfl, iteT (no fun z => d1 z.1)⟩
        · rintro σ' H3 ⟨⟨d1, d2⟩, rfl, rfl⟩
          obtain ⟨hi, ea⟩ := at_A d1 d2
          have eS : stdN (clA A) e = alw A[(e.n - 1).toNat].2 e := by unfold stdN; rw [ll, if_pos ⟨d1, d2⟩, getD_clA hi]
          have hp := hA.r _ (List.getElem_mem hi)
          generalize A[(e.n - 1).toNat] = x at *
          obtain ⟨p, c⟩ := x
          dsimp only at *
          rw [eS] at kN
          refine ⟨_, rfl, _, rfl, t, _, 2, _, rfl, rfl, SqT.of ht, at_2 e, _, _, rfl, rfl, cl, _, _, _, rfl, rfl, SqL.of hA.l, ea, ?_⟩
          refine ⟨fun σ' H4 => c.ended = none ∧ σ' = [some (.ref t), some (.ref cl), some (.ref nw), some (.ref p)] ∧ H4 = H3, ?_, ?_⟩
          · refine ⟨_, rfl, p, _, 6, oI c.ended, rfl, rfl, SqL.of hp, rfl, rfl, _, rfl, ?_⟩
            rw [dn_I]
            cases ce : c.ended with
            | none => exact iteF ⟨rfl, rfl, rfl⟩
            | some i => exact iteT (kN _ (fun _ _ e => e) _ (by unfold alw; rw [if_pos (by rw [ce]; rfl)]))
          · rintro σ' H4 ⟨ce, rfl, rfl⟩
            have eA : alw c e = alw2 c e := by unfold alw; rw [if_neg (by rw [ce]; decide)]
            rw [eA] at kN
            refine ⟨fun σ' H5 => e.nm ≠ "ring" ∧ σ' = [some (.ref t), some (.ref cl), some (.ref nw), some (.ref p)] ∧ H5 = H4, ?_, ?_⟩
            · refine ⟨_, rfl, t, _, 0, _, rfl, rfl, SqT.of ht, at_0 e, rfl, _, rfl, ?_⟩
              by_cases g : e.nm = "ring"
              · rw [str_eq g]
                obtain ⟨tt, n, rfl⟩ := nm_ring g
                refine iteT ⟨_, rfl, p, _, 4, oI c.rang, rfl, rfl, SqL.of hp, rfl, rfl, _, rfl, ?_⟩
                rw [dn_I]
                cases cr : c.rang.isNone with
                | true =>
                  refine iteT ⟨_, rfl, p, _, 5, oI c.ans, rfl, rfl, SqL.of hp, rfl, rfl, ?_⟩
                  rw [dn_I]
                  exact kN _ (fun _ _ e => e) _ (by show (c.rang.isNone && c.ans.isNone) = _; rw [cr]; rfl)
                | false => exact iteF (kN _ (fun _ _ e => e) _ (by show (c.rang.isNone && c.ans.isNone) = _; rw [cr]; rfl))
              · rw [str_ne g]
                exact iteF ⟨g, rfl, rfl⟩
            · rintro σ' H5 ⟨g1, rfl, rfl⟩
              refine ⟨fun σ' H6 => e.nm ≠ "answer" ∧ σ' = [some (.ref t), some (.ref cl), some (.ref nw), some (.ref p)] ∧ H6 = H5, ?_, ?_⟩
              · refine ⟨_, rfl, t, _, 0, _, rfl, rfl, SqT.of ht, at_0 e, rfl, _, rfl, ?_⟩
                by_cases g : e.nm = "answer"
                · rw [str_eq g]
                  obtain ⟨tt, n, pp, rfl⟩ := nm_ans g
                  refine iteT ⟨_, rfl, p, _, 5, oI c.ans, rfl, rfl, SqL.of hp, rfl, rfl, ?_⟩
                  rw [dn_I]
                  exact kN _ (fun _ _ e => e) _ rfl
                · rw [str_ne g]
                  exact iteF ⟨g, rfl, rfl⟩
              · rintro σ' H6 ⟨g2, rfl, rfl⟩
                refine ⟨_, rfl, t, _, 0, _, rfl, rfl, SqT.of ht, at_0 e, rfl, _, rfl, ?_⟩
                by_cases g : e.nm = "end"
                · rw [str_eq g]
                  obtain ⟨tt, n, w1, rfl⟩ := nm_fin g
                  exact iteT (kN _ (fun _ _ e => e) _ rfl)
                · rw [str_ne g]
                  have hside : ∃ s : Int, atI e.v 3 = some (.int s) ∧ alw2 c e = (c.ans.isSome && (s == 0 || s == 1)) := by
                    cases e with
                    | bgn => exact absurd rfl h
                    | ring => exact absurd rfl g1
                    | ans => exact absurd rfl g2
                    | fin => exact absurd rfl g
                    | turn t n s m => exact ⟨s, rfl, rfl⟩
                    | move t n s => exact ⟨s, rfl, rfl⟩
                    | moved t n s => exact ⟨s, rfl, rfl⟩
                  obtain ⟨s, hs, e7⟩ := hside
                  refine iteF ⟨_, rfl, p, _, 5, oI c.ans, rfl, rfl, SqL.of hp, rfl, rfl, _, rfl, ?_⟩
                  rw [dn_I]
                  cases cr : c.ans with
                  | none => exact iteF (kN _ (fun _ _ e => e) _ (by rw [e7, cr]; rfl))
                  | some i =>
                    refine iteT ⟨_, rfl, t, _, 3, _, rfl, rfl, SqT.of ht, hs, by show 2 ≤ sizeLine; decide, fun b hb => ⟨b, [.int 0, .int 1], rfl, .inl (SqL.of upd_same), rfl, by decide +kernel, ?_⟩⟩
                    show Q (.bl (inV (.int s) [.int 0, .int 1])) _
                    rw [in_01]
                    exact kN _ (same_upd hb) _ (by rw [e7, cr]; rfl)

end K16
set_option maxHeartbeats 1000000
namespace K16
open PySem PySem.Spec PyProof.Rows L2 SX TK NdefX
open C8 (pe_c)
def spLAp (K : PySem.W.Frag) : Sp := fun vs H Q _ => ∃ (cl t nw : Addr) (A : List Ar) (e : Ev) (lat : Int), vs = [.ref t, .ref cl, .ref nw] ∧ ClAt H cl A ∧ H t = some (.tup e.v) ∧ H nw = some (.lst [.int lat]) ∧ std (clA A) e = true ∧ nw ≠ cl ∧ (∀ x ∈ A, x.1 ≠ nw) ∧ A.length ≤ 1000 ∧
  ∀ A' H', ClAt H' cl A' → clA A' = app (clA A) e → H' nw = some (.lst [.int e.now]) → (∀ b o, H b = some o → b ≠ cl → b ≠ nw → (∀ x ∈ A, b ≠ x.1) → H' b = some o) → (∀ x ∈ A', x.1 ∈ A.map (·.1) ∨ H x.1 = none) → Q .non H'
theorem ok_law_apply {P : Program} {w : World} {K : PySem.W.Frag} {mg : Str → Option Value} {base : Heap} {f : Addr} {fd : FuncData} (T : Tx K mg) 
    (F : FunD K "_law_apply" "_law_apply" (defArgs s_law_apply) (defBody s_law_apply) (defScope s_law_apply) [] [] f fd) : FnOk P w K mg base CX0 1 f fd ["event", "calls", "now"] (spLAp K) := by
  refine F.ok sc_law_apply (fun vs H Q E h => ?_) (fun cdv A outer s0 H vs Q E hr h => ?_)
  · obtain ⟨cl, t, nw, A, e, lat, rfl, _⟩ := h
    rfl
  · obtain ⟨cl, t, nw, A, e, lat, rfl, hA0, ht0, hw, hs, nc, nA, hz, k0⟩ := h
    refine ⟨_, PSs.nox (pss_cons (ps_asg (pe_ix ix_tup (pv 0) pe_int (fun _ _ => rfl)) (pg_sub (pv 2) pe_int set_list)) (C8.pss_cut (ps_if (pt_cmpR op_eq (pe_ix ix_tup (pv 0) pe_int (fun _ _ => rfl)) pe_str (nomark _)) (pss_cons (ps_expr (pe_bm PySem.F.plainAttrs_list PySem.F.slot_list_append PySem.F.type_list_append mt_append (pv 1) (pa_cons (pe_lst (pa_cons (pe_ix ix_tup (pv 0) pe_int (fun _ _ => rfl)) (pa_cons (pe_ix ix_tup (pv 0) pe_int (fun _ _ => rfl)) (pa_cons (pe_ix ix_tup (pv 0) pe_int (fun _ _ => rfl)) (pa_cons (pe_ix ix_tup (pv 0) pe_int (fun _ _ => rfl)) (pa_cons pe_non (pa_cons pe_non (pa_cons pe_non (pa_cons pe_non (pa_cons pe_str (pa_cons pe_str (pa_cons pe_int pa_nil)))))))))))) pa_nil))) (pss_one ps_retN)) pss_nil) (pss_cons (ps_set (i := 3) sc_law_apply.nd rfl (Or.inl rfl) (pe_ix ix_list (pv 1) (pe_op op_sub (pe_ix ix_tup (pv 0) pe_int (fun _ _ => rfl)) pe_int) (fun _ _ => rfl))) (pss_one (ps_if (pt_cmpR op_eq (pe_ix ix_tup (pv 0) pe_int (fun _ _ => rfl)) pe_str (nomark _)) (pss_one (ps_asg (pe_ix ix_tup (pv 0) pe_int (fun _ _ => rfl)) (pg_sub (pv 3) pe_int set_list))) (pss_one (ps_if (pt_cmpR op_eq (pe_ix ix_tup (pv 0) pe_int (fun _ _ => rfl)) pe_str (nomark _)) (pss_one (ps_asg (pe_ix ix_tup (pv 0) pe_int (fun _ _ => rfl)) (pg_sub (pv 3) pe_int set_list))) (pss_one (ps_if (pt_cmpR op_eq (pe_ix ix_tup (pv 0) pe_int (fun _ _ => rfl)) pe_str (nomark _)) (pss_cons (ps_asg (pe_ix ix_tup (pv 0) pe_int (fun _ _ => rfl)) (pg_sub (pv 3) pe_int set_list)) (pss_one (ps_asg (pe_ix ix_tup (pv 0) pe_int (fun _ _ => rfl)) (pg_sub (pv 3) pe_int set_list)))) (pss_one (ps_if (pt_cmpR op_eq (pe_ix ix_tup (pv 0) pe_int (fun _ _ => rfl)) pe_str (nomark _)) (pss_one (ps_asg (pe_ix ix_tup (pv 0) pe_int (fun _ _ => rfl)) (pg_sub (pv 3) (pe_op op_add pe_int (pe_ix ix_tup (pv 0) pe_int (fun _ _ => rfl))) set_list))) (pss_one (ps_if (pt_cmpR op_eq (pe_ix ix_tup (pv 0) pe_int (fun _ _ => rfl)) pe_str (nomark _)) (pss_cons (ps_asg pe_str (pg_sub (pv 3) pe_int set_list)) (pss_cons (ps_asg pe_str (pg_sub (pv 3) pe_int set_list)) (pss_one (ps_asg (pe_op op_add (pe_ix ix_list (pv 3) pe_int (fun _ _ => rfl)) pe_int) (pg_sub (pv 3) pe_int set_list))))) pss_nil))))))))))))), ?_⟩
    refine ⟨_, rfl, t, _, 1, _, rfl, rfl, SqT.of ht0, at_1 e, _, rfl, nw, _, 0, 0, rfl, rfl, hw, rfl, ?_⟩
    have fr0 : ∀ {b o}, H b = some o → b ≠ nw → (upd H nw (.lst [.int e.now])) b = some o := fun eb nb => (upd_ne nb).trans eb
    have hA : ClAt (upd H nw (.lst [.int e.now])) cl A := ⟨fr0 hA0.l nc.symm, fun x hx => fr0 (hA0.r x hx) (nA x hx), hA0.n, hA0.d⟩
    have ht := fr0 ht0 (ne_of ht0 hw (by intro z; cases z))
    have hnw : (upd H nw (.lst [.int e.now])) nw = some (.lst [.int e.now]) := upd_same
    have bk : ∀ {b}, (upd H nw (.lst [.int e.now])) b = none → H b = none := fun {b} z => by
      cases eq : H b with
      | none => rfl
      | some o =>
        by_cases q : b = nw
        · rw [q, upd_same] at z; cases z
        · rw [upd_ne q, eq] at z; cases z
    have k : ∀ A' H', ClAt H' cl A' → clA A' = app (clA A) e → H' nw = some (.lst [.int e.now]) → (∀ b o, (upd H nw (.lst [.int e.now])) b = some o → b ≠ cl → b ≠ nw → (∀ x ∈ A, b ≠ x.1) → H' b = some o) → (∀ x ∈ A', x.1 ∈ A.map (·.1) ∨ (upd H nw (.lst [.int e.now])) x.1 = none) → Q .non H' := fun A' H' q1 q2 q3 q4 q5 =>
      k0 A' H' q1 q2 q3 (fun b o eb b1 b2 b3 => q4 b o (fr0 eb b2) b1 b2 b3) fun x hx => (q5 x hx).imp id bk
    change C8.tCut _ _ _ _ (upd H nw (.lst [.int e.now]))
    clear k0 bk fr0 hA0 ht0 hw
    generalize upd H nw (.lst [.int e.now]) = H1 at *
    refine ⟨fun σ' H2 => e.nm ≠ "begin" ∧ σ' = [some (.ref t), some (.ref cl), some (.ref nw), none] ∧ H2 = H1, ?_, ?_⟩
    · refine ⟨_, rfl, t, _, 0, _, rfl, rfl, SqT.of ht, at_0 e, rfl, _, rfl, ?_⟩
      by_cases h : e.nm = "begin"
      · rw [str_eq h]
        obtain ⟨now, n, w, rfl⟩ := nm_bgn h
        refine iteT ⟨_, rfl, .inl ⟨rfl, _, SqL.of hA.l⟩, _, rfl, t, _, 2, .int n, rfl, rfl, SqT.of ht, rfl, _, rfl, t, _, 3, .str "ann@x", rfl, rfl, SqT.of ht, rfl, _, rfl, t, _, 4, .str w, rfl, rfl, SqT.of ht, rfl, _, rfl, t, _, 1, .int now, rfl, rfl, SqT.of ht, rfl, by show 11 ≤ sizeLine; decide, fun x hx => ⟨cl, _, _, rfl, rfl, (same_upd hx) _ _ hA.l, ?_, ?_⟩⟩
        · rw [List.length_map, sizeLine_eq]
          omega
        have sx := same_upd (o := .lst (mkC now n w).v) hx
        have xcl : x ≠ cl := (ne_of_none hA.l hx).symm
        refine k (A ++ [(x, mkC now n w)]) _ ⟨?_, fun y hy => ?_, ?_, fun y hy => ?_⟩ ?_ ?_ (fun b o eb n1 _ _ => (upd_ne n1).trans (sx _ _ eb)) fun y hy => ?_
        · rw [upd_same, List.map_append]
          rfl
        · rcases List.mem_append.mp hy with z | z
          · exact (upd_ne (hA.d y z)).trans (sx _ _ (hA.r y z))
          · rw [List.mem_singleton.mp z]
            exact (upd_ne xcl).trans upd_same
        · rw [List.map_append, List.nodup_append]
          refine ⟨hA.n, by simp, fun a ha b hb => ?_⟩
          obtain ⟨y, hy, rfl⟩ := List.mem_map.mp ha
          have : b = x := by simpa using hb
          rw [this]
          exact ne_of_none (hA.r y hy) hx
        · rcases List.mem_append.mp hy with z | z
          · exact hA.d y z
          · rw [List.mem_singleton.mp z]
            exact xcl
        · show List.map _ _ = _
          rw [List.map_append]
          rfl
        · exact (upd_ne nc).trans (sx _ _ hnw)
        · rcases List.mem_append.mp hy with z | z
          · exact .inl (List.mem_map.mpr ⟨y, z, rfl⟩)
          · rw [List.mem_singleton.mp z]
            exact .inr hx
      · rw [str_ne h]
        exact iteF ⟨h, rfl, rfl⟩
    · rintro σ' H2 ⟨h, rfl, rfl⟩
      have hs' : stdN (clA A) e = true := by
        unfold std at hs
        rw [if_neg h] at hs
        exact hs
      have ll : (clA A).length = A.length := List.length_map ..
      unfold stdN at hs'
      by_cases cc : 1 ≤ e.n ∧ e.n ≤ (clA A).length
      · rw [if_pos cc] at hs'
        rw [ll] at cc
        obtain ⟨hi, ea⟩ := at_A cc.1 cc.2
        have ae := app_ne (cs := clA A) h
        rw [getD_clA hi] at hs' ae
        generalize hii : (e.n - 1).toNat = i at *
        have hp := hA.r _ (List.getElem_mem hi)
        have pcl := hA.d _ (List.getElem_mem hi)
        have pnw := nA _ (List.getElem_mem hi)
        generalize hx : A[i] = x at *
        obtain ⟨p, c⟩ := x
        dsimp only at *
        have don : ∀ H3, H3 p = some (.lst (takeC c e).v) → (∀ b o, H2 b = some o → b ≠ p → H3 b = some o) → Q .non H3 := fun H3 h3 fr => by
          have oth : ∀ (j : Nat) (hj : j < A.length), j ≠ i → A[j].1 ≠ p := fun j hj hne => by
            have a1 := List.pairwise_iff_getElem.mp hA.n
            have b1 : ∀ m (hm : m < A.length), (A.map (·.1))[m]'(by rw [List.length_map]; exact hm) = A[m].1 := fun m hm => List.getElem_map ..
            have pi : A[i].1 = p := by rw [hx]
            rcases Nat.lt_or_gt_of_ne hne with z | z
            · have c1 := a1 j i (by rw [List.length_map]; exact hj) (by rw [List.length_map]; exact hi) z
              rw [b1 j hj, b1 i hi, pi] at c1
              exact c1
            · have c1 := a1 i j (by rw [List.length_map]; exact hi) (by rw [List.length_map]; exact hj) z
              rw [b1 j hj, b1 i hi, pi] at c1
              exact c1.symm
          have el : ∀ y ∈ A.set i (p, takeC c e), y = (p, takeC c e) ∨ ∃ (j : Nat) (hj : j < A.length), j ≠ i ∧ y = A[j] := fun y hy => by
            obtain ⟨j, hj, rfl⟩ := List.mem_iff_getElem.mp hy
            rw [List.length_set] at hj
            rw [List.getElem_set]
            by_cases e1 : i = j
            · rw [if_pos e1]
              exact .inl rfl
            · rw [if_neg e1]
              exact .inr ⟨j, hj, fun z => e1 z.symm, rfl⟩
          have m1 : (A.set i (p, takeC c e)).map (·.1) = A.map (·.1) := map_set_same (fun x : Ar => x.1) (x := (p, takeC c e)) hi (by rw [hx])
          refine k (A.set i (p, takeC c e)) H3 ⟨?_, fun y hy => ?_, by rw [m1]; exact hA.n, fun y hy => ?_⟩ ?_ (fr _ _ hnw pnw.symm) (fun b o eb _ _ nx => ?_) fun y hy => ?_
          · rw [fr _ _ hA.l pcl.symm]
            congr 2
            exact (map_set_same (fun x : Ar => V.ref x.1) (x := (p, takeC c e)) hi (by rw [hx])).symm
          · rcases el y hy with rfl | ⟨j, hj, hne, rfl⟩
            · exact h3
            · exact fr _ _ (hA.r _ (List.getElem_mem hj)) (oth j hj hne)
          · rcases el y hy with rfl | ⟨j, hj, hne, rfl⟩
            · exact pcl
            · exact hA.d _ (List.getElem_mem hj)
          · rw [ae]
            unfold clA
            rw [List.map_set]
          · have := nx _ (List.getElem_mem hi)
            rw [hx] at this
            exact fr b o eb this
          · rcases el y hy with rfl | ⟨j, hj, hne, rfl⟩
            · exact .inl (List.mem_map.mpr ⟨A[i], List.getElem_mem hi, by rw [hx]⟩)
            · exact .inl (List.mem_map.mpr ⟨_, List.getElem_mem hj, rfl⟩)
        have pt : t ≠ p := ne_of ht hp (by intro z; cases z)
        refine ⟨_, rfl, _, rfl, t, _, 2, _, rfl, rfl, SqT.of ht, at_2 e, _, _, rfl, rfl, cl, _, _, _, rfl, rfl, SqL.of hA.l, ea, ?_⟩
        refine ⟨_, rfl, t, _, 0, _, rfl, rfl, SqT.of ht, at_0 e, rfl, _, rfl, ?_⟩
        clear k
        cases e with
        | bgn now n w => exact absurd rfl h
        | ring now n =>
          rw [str_eq (a := (Ev.ring now n).nm) (b := "ring") rfl]
          exact iteT ⟨_, rfl, t, _, 1, .int now, rfl, rfl, SqT.of ht, rfl, _, rfl, p, _, 4, 4, rfl, rfl, hp, rfl, don _ (by rw [upd_same]; rfl) (fun b o eb nb => (upd_ne nb).trans eb)⟩
        | ans now n w =>
          rw [str_ne (a := (Ev.ans now n w).nm) (b := "ring") (by dsimp only [Ev.nm]; decide +kernel)]
          refine iteF ⟨_, rfl, t, _, 0, _, rfl, rfl, SqT.of ht, at_0 _, rfl, _, rfl, ?_⟩
          rw [str_eq (a := (Ev.ans now n w).nm) (b := "answer") rfl]
          exact iteT ⟨_, rfl, t, _, 1, .int now, rfl, rfl, SqT.of ht, rfl, _, rfl, p, _, 5, 5, rfl, rfl, hp, rfl, don _ (by rw [upd_same]; rfl) (fun b o eb nb => (upd_ne nb).trans eb)⟩
        | turn now n s m =>
          rw [str_ne (a := (Ev.turn now n s m).nm) (b := "ring") (by dsimp only [Ev.nm]; decide +kernel)]
          refine iteF ⟨_, rfl, t, _, 0, _, rfl, rfl, SqT.of ht, at_0 _, rfl, _, rfl, ?_⟩
          rw [str_ne (a := (Ev.turn now n s m).nm) (b := "answer") (by dsimp only [Ev.nm]; decide +kernel)]
          refine iteF ⟨_, rfl, t, _, 0, _, rfl, rfl, SqT.of ht, at_0 _, rfl, _, rfl, ?_⟩
          rw [str_ne (a := (Ev.turn now n s m).nm) (b := "end") (by dsimp only [Ev.nm]; decide +kernel)]
          refine iteF ⟨_, rfl, t, _, 0, _, rfl, rfl, SqT.of ht, at_0 _, rfl, _, rfl, ?_⟩
          rw [str_eq (a := (Ev.turn now n s m).nm) (b := "turn") rfl]
          have hs : s = 0 ∨ s = 1 := by
            unfold alw alw2 at hs'
            split at hs'
            · cases hs'
            · simp only [Bool.and_eq_true, Bool.or_eq_true, beq_iff_eq] at hs'
              exact hs'.2
          refine iteT ⟨_, rfl, t, _, 4, .str m, rfl, rfl, SqT.of ht, rfl, _, rfl, _, rfl, t, _, 3, .int s, rfl, rfl, SqT.of ht, rfl, _, _, rfl, rfl, ?_⟩
          rcases hs with rfl | rfl
          · exact ⟨p, _, 8, 8, rfl, rfl, hp, rfl, don _ (by rw [upd_same]; rfl) (fun b o eb nb => (upd_ne nb).trans eb)⟩
          · exact ⟨p, _, 9, 9, rfl, rfl, hp, rfl, don _ (by rw [upd_same]; rfl) (fun b o eb nb => (upd_ne nb).trans eb)⟩
        | move now n s =>
          rw [str_ne (a := (Ev.move now n s).nm) (b := "ring") (by dsimp only [Ev.nm]; decide +kernel)]
          refine iteF ⟨_, rfl, t, _, 0, _, rfl, rfl, SqT.of ht, at_0 _, rfl, _, rfl, ?_⟩
          rw [str_ne (a := (Ev.move now n s).nm) (b := "answer") (by dsimp only [Ev.nm]; decide +kernel)]
          refine iteF ⟨_, rfl, t, _, 0, _, rfl, rfl, SqT.of ht, at_0 _, rfl, _, rfl, ?_⟩
          rw [str_ne (a := (Ev.move now n s).nm) (b := "end") (by dsimp only [Ev.nm]; decide +kernel)]
          refine iteF ⟨_, rfl, t, _, 0, _, rfl, rfl, SqT.of ht, at_0 _, rfl, _, rfl, ?_⟩
          rw [str_ne (a := (Ev.move now n s).nm) (b := "turn") (by dsimp only [Ev.nm]; decide +kernel)]
          refine iteF ⟨_, rfl, t, _, 0, _, rfl, rfl, SqT.of ht, at_0 _, rfl, _, rfl, ?_⟩
          rw [str_ne (a := (Ev.move now n s).nm) (b := "moved") (by dsimp only [Ev.nm]; decide +kernel)]
          exact iteF (don _ hp fun b o eb _ => eb)
        | moved now n s =>
          rw [str_ne (a := (Ev.moved now n s).nm) (b := "ring") (by dsimp only [Ev.nm]; decide +kernel)]
          refine iteF ⟨_, rfl, t, _, 0, _, rfl, rfl, SqT.of ht, at_0 _, rfl, _, rfl, ?_⟩
          rw [str_ne (a := (Ev.moved now n s).nm) (b := "answer") (by dsimp only [Ev.nm]; decide +kernel)]
          refine iteF ⟨_, rfl, t, _, 0, _, rfl, rfl, SqT.of ht, at_0 _, rfl, _, rfl, ?_⟩
          rw [str_ne (a := (Ev.moved now n s).nm) (b := "end") (by dsimp only [Ev.nm]; decide +kernel)]
          refine iteF ⟨_, rfl, t, _, 0, _, rfl, rfl, SqT.of ht, at_0 _, rfl, _, rfl, ?_⟩
          rw [str_ne (a := (Ev.moved now n s).nm) (b := "turn") (by dsimp only [Ev.nm]; decide +kernel)]
          refine iteF ⟨_, rfl, t, _, 0, _, rfl, rfl, SqT.of ht, at_0 _, rfl, _, rfl, ?_⟩
          rw [str_eq (a := (Ev.moved now n s).nm) (b := "moved") rfl]
          refine iteT ⟨_, rfl, p, _, 8, 8, rfl, rfl, hp, rfl, _, rfl, p, _, 9, 9, rfl, rfl, upd_same, rfl, ?_⟩
          rw [upd_upd]
          refine ⟨_, rfl, p, _, 10, .int c.mv, rfl, rfl, SqL.of upd_same, rfl, _, _, rfl, rfl, _, rfl, p, _, 10, 10, rfl, rfl, upd_same, rfl, ?_⟩
          rw [upd_upd]
          exact don _ (by rw [upd_same]; rfl) (fun b o eb nb => (upd_ne nb).trans eb)
        | fin now n w =>
          rw [str_ne (a := (Ev.fin now n w).nm) (b := "ring") (by dsimp only [Ev.nm]; decide +kernel)]
          refine iteF ⟨_, rfl, t, _, 0, _, rfl, rfl, SqT.of ht, at_0 _, rfl, _, rfl, ?_⟩
          rw [str_ne (a := (Ev.fin now n w).nm) (b := "answer") (by dsimp only [Ev.nm]; decide +kernel)]
          refine iteF ⟨_, rfl, t, _, 0, _, rfl, rfl, SqT.of ht, at_0 _, rfl, _, rfl, ?_⟩
          rw [str_eq (a := (Ev.fin now n w).nm) (b := "end") rfl]
          refine iteT ⟨_, rfl, t, _, 1, .int now, rfl, rfl, SqT.of ht, rfl, _, rfl, p, _, 6, 6, rfl, rfl, hp, rfl, _, rfl, t, _, 3, .str w, rfl, rfl, SqT.of ((upd_ne pt).trans ht), rfl, _, rfl, p, _, 7, 7, rfl, rfl, upd_same, rfl, ?_⟩
          rw [upd_upd]
          exact don _ (by rw [upd_same]; rfl) (fun b o eb nb => (upd_ne nb).trans eb)
      · rw [if_neg cc] at hs'
        cases hs'

end K16
set_option maxHeartbeats 1000000
namespace K16
open PySem PySem.Spec PyProof.Rows L2 SX TK NdefX
open C8 (pe_c)
def vD : V → PyData
  | .int i => .int i
  | .str z => .str z
  | .bl b => .bool b
  | _ => .none
def big (i : Int) : Prop := -1000000000 < i ∧ i < 1000000000
theorem sb {i : Int} (h : small i) : big i := ⟨by have := h.1; omega, by have := h.2; omega⟩
def okV : V → Prop
  | .non => True
  | .int i => big i
  | .str z => PyData.strOk z = true ∧ z.length ≤ 30
  | _ => False
def tupD (b : List V) : PyData := .tuple (b.map vD)
def rowsD (bs : List (List V)) : PyData := .list (bs.map tupD)
structure FlatD (d : PyData) : Prop where
  c : d.canLay0 = true
  w : d.weight ≤ 40
  i : d.intsShort 13 = true
  s : d.showable = true
  h : d.hasDict = false
  p : d.depth ≤ 0
theorem okV.flat {v : V} (h : okV v) : FlatD (vD v) := by
  cases v with
  | non => exact ⟨by simp [vD, PyData.canLay0], by simp [vD, PyData.weight], by simp [vD, PyData.intsShort], by simp [vD, PyData.showable], by simp [vD, PyData.hasDict], by simp [vD, PyData.depth]⟩
  | int i =>
    have hi : big i := h
    have hn : i.natAbs < 1000000000 := by unfold big at hi; omega
    have hl : i.natAbs.log2 < 30 := by
      by_cases z : i.natAbs = 0
      · rw [z]; decide
      · exact (Nat.log2_lt z).mpr (by omega)
    refine ⟨by simp [vD, PyData.canLay0], ?_, ?_, by simp only [vD, PyData.showable]; exact decide_eq_true (by omega), by simp [vD, PyData.hasDict], by simp [vD, PyData.depth]⟩
    · simp only [vD, PyData.weight]
      split
      · omega
      · omega
    · simp only [vD, PyData.intsShort]
      refine decide_eq_true ?_
      have := numS_len (i := i) (by omega)
      rw [PyData.shown_int]
      unfold numS at this
      omega
  | str z =>
    have hz : PyData.strOk z = true ∧ z.length ≤ 30 := h
    refine ⟨by simp [vD, PyData.canLay0, hz.1], ?_, by simp [vD, PyData.intsShort], by simp [vD, PyData.showable], by simp [vD, PyData.hasDict], by simp [vD, PyData.depth]⟩
    simp only [vD, PyData.weight]
    have : z.cps.size = z.length := rfl
    omega
  | _ => exact h.elim
theorem dp_v {K : PySem.W.Frag} {H : Hp} {v : V} (h : okV v) : Dp K H v (vD v) := by
  cases v with
  | non => exact .non
  | int i => exact .int i
  | str z => exact .str z
  | _ => exact h.elim
theorem dp_vs {K : PySem.W.Frag} {H : Hp} : ∀ {b : List V}, (∀ v ∈ b, okV v) → DpAll K H b (b.map vD)
  | [], _ => .nil
  | v :: r, h => .cons (dp_v (h v (List.mem_cons_self ..))) (dp_vs fun x hx => h x (List.mem_cons_of_mem _ hx))
theorem dp_rows {K : PySem.W.Frag} {H : Hp} : ∀ {ts : List Addr} {bs : List (List V)}, TsAt H ts bs → (∀ b ∈ bs, ∀ v ∈ b, okV v) → DpAll K H (ts.map V.ref) (bs.map tupD)
  | [], [], _, _ => .nil
  | t :: ts, b :: bs, h, hb => .cons (.tup (SqT.of h.1) (dp_vs (hb b (List.mem_cons_self ..)))) (dp_rows h.2 fun x hx => hb x (List.mem_cons_of_mem _ hx))
  | [], _ :: _, h, _ => h.elim
  | _ :: _, [], h, _ => h.elim
theorem rowsD_dp {K : PySem.W.Frag} {H : Hp} {a : Addr} {ts : List Addr} {bs : List (List V)} (e : H a = some (.lst (ts.map V.ref))) (h : TsAt H ts bs) (hb : ∀ b ∈ bs, ∀ v ∈ b, okV v) : Dp K H (.ref a) (rowsD bs) := .lst (SqL.of e) (dp_rows h hb)
theorem flats : ∀ {b : List V}, (∀ v ∈ b, okV v) → PyData.canLayAll0 (b.map vD) = true ∧ PyData.weightAll (b.map vD) ≤ 41 * b.length ∧ PyData.intsShortAll 13 (b.map vD) = true ∧ PyData.showableAll (b.map vD) = true ∧ PyData.hasDictAll (b.map vD) = false ∧ PyData.depthAll (b.map vD) ≤ 1
  | [], _ => ⟨by simp [PyData.canLayAll0], by simp [PyData.weightAll], by simp [PyData.intsShortAll], by simp [PyData.showableAll], by simp [PyData.hasDictAll], by simp [PyData.depthAll]⟩
  | v :: r, h => by
    obtain ⟨a1, a2, a3, a4, a5, a6⟩ := flats (b := r) fun x hx => h x (List.mem_cons_of_mem _ hx)
    obtain ⟨b1, b2, b3, b4, b5, b6⟩ := (h v (List.mem_cons_self ..)).flat
    refine ⟨by simp [PyData.canLayAll0, a1, b1], ?_, by simp [PyData.intsShortAll, a3, b3], by simp [PyData.showableAll, a4, b4], by simp [PyData.hasDictAll, a5, b5], ?_⟩
    · rw [List.map_cons, List.length_cons]
      simp only [PyData.weightAll]
      omega
    · rw [List.map_cons]
      simp only [PyData.depthAll]
      omega
theorem rows {n : Nat} : ∀ {bs : List (List V)}, (∀ b ∈ bs, ∀ v ∈ b, okV v) → (∀ b ∈ bs, b.length ≤ 11) → PyData.canLayAll0 (bs.map tupD) = true ∧ PyData.weightAll (bs.map tupD) ≤ 500 * bs.length ∧ PyData.intsShortAll 13 (bs.map tupD) = true ∧ PyData.showableAll (bs.map tupD) = true ∧ PyData.hasDictAll (bs.map tupD) = false ∧ PyData.depthAll (bs.map tupD) ≤ 3
  | [], _, _ => ⟨by simp [PyData.canLayAll0], by simp [PyData.weightAll], by simp [PyData.intsShortAll], by simp [PyData.showableAll], by simp [PyData.hasDictAll], by simp [PyData.depthAll]⟩
  | b :: r, h, hl => by
    obtain ⟨a1, a2, a3, a4, a5, a6⟩ := rows (n := n) (bs := r) (fun x hx => h x (List.mem_cons_of_mem _ hx)) fun x hx => hl x (List.mem_cons_of_mem _ hx)
    obtain ⟨b1, b2, b3, b4, b5, b6⟩ := flats (h b (List.mem_cons_self ..))
    have lb := hl b (List.mem_cons_self ..)
    refine ⟨by simp [PyData.canLayAll0, PyData.canLay0, tupD, a1, b1], ?_, by simp [PyData.intsShortAll, PyData.intsShort, tupD, a3, b3], by simp [PyData.showableAll, PyData.showable, tupD, a4, b4], by simp [PyData.hasDictAll, PyData.hasDict, tupD, a5, b5], ?_⟩
    · rw [List.map_cons, List.length_cons]
      simp only [PyData.weightAll, tupD, PyData.weight]
      have : PyData.weightAll (List.map tupD r) ≤ 500 * r.length := a2
      unfold tupD at this
      omega
    · rw [List.map_cons]
      simp only [PyData.depthAll, tupD, PyData.depth]
      have a7 := a6
      unfold tupD at a7
      omega
theorem rowsD_ok {bs : List (List V)} (h : ∀ b ∈ bs, ∀ v ∈ b, okV v) (hl : ∀ b ∈ bs, b.length ≤ 11) : SeqAt.shaped (rowsD bs) = true ∧ PyData.eqv (rowsD bs) (rowsD bs) = true := by
  obtain ⟨a1, a2, a3, a4, a5, a6⟩ := rows (n := 0) h hl
  have c : (rowsD bs).canLay0 = true := by unfold rowsD; simp [PyData.canLay0, a1]
  refine ⟨?_, SeqAt.eqv_refl _ c⟩
  unfold SeqAt.shaped
  rw [c, Bool.true_and, decide_eq_true_eq]
  simp only [rowsD, PyData.depth]
  omega
theorem rowsD_rep {bs : List (List V)} (h : ∀ b ∈ bs, ∀ v ∈ b, okV v) (hl : ∀ b ∈ bs, b.length ≤ 11) (hn : bs.length ≤ 100) : (rowsD bs).showable = true ∧ (rowsD bs).hasDict = false ∧ (rowsD bs).depth ≤ 8 ∧ (rowsD bs).shown.length ≤ sizeLine := by
  obtain ⟨a1, a2, a3, a4, a5, a6⟩ := rows (n := 0) h hl
  have c : (rowsD bs).canLay0 = true := by unfold rowsD; simp [PyData.canLay0, a1]
  have d : (rowsD bs).depth ≤ 8 := by
    simp only [rowsD, PyData.depth]
    omega
  refine ⟨by simp [rowsD, PyData.showable, a4], by simp [rowsD, PyData.hasDict, a5], d, ?_⟩
  have w : (rowsD bs).weight ≤ 2 ^ 20 := by
    simp only [rowsD, PyData.weight]
    omega
  have q := shown_le13 (d := rowsD bs) (by unfold PyData.layable0; rw [c, decide_eq_true (show (rowsD bs).depth ≤ 64 by omega), decide_eq_true w]; rfl) (by simp [rowsD, PyData.intsShort, a3])
  rw [sizeLine_eq]
  omega
theorem wdS.ok {z : Str} (h : wdS z) : okV (.str z) := by
  unfold wdS at h
  rcases h with rfl | rfl | rfl | rfl | rfl | rfl | rfl | rfl | rfl | rfl <;> exact ⟨by decide +kernel, by decide +kernel⟩
theorem Ev.ok {e : Ev} (h : EvOk e) : ∀ v ∈ e.v, okV v := by
  have lit : ∀ z : Str, z ∈ ([("begin" : Str), "ring", "answer", "turn", "move", "moved", "end", "ann@x", "joe@x"] : List Str) → okV (.str z) := by
    intro z hz
    simp only [List.mem_cons, List.not_mem_nil, or_false] at hz
    rcases hz with rfl | rfl | rfl | rfl | rfl | rfl | rfl | rfl | rfl <;> exact ⟨by decide +kernel, by decide +kernel⟩
  intro v hv
  cases e with
  | bgn t n w =>
    simp only [Ev.v, Ev.r, Ev.nm, Ev.now, Ev.n, List.mem_cons, List.not_mem_nil, or_false] at hv
    rcases hv with rfl | rfl | rfl | rfl | rfl
    · exact lit _ (by simp)
    · exact sb h.1
    · exact sb h.2.1
    · exact lit _ (by simp)
    · exact h.2.2.ok
  | ring t n =>
    simp only [Ev.v, Ev.r, Ev.nm, Ev.now, Ev.n, List.mem_cons, List.not_mem_nil, or_false] at hv
    rcases hv with rfl | rfl | rfl
    · exact lit _ (by simp)
    · exact sb h.1
    · exact sb h.2
  | ans t n w =>
    simp only [Ev.v, Ev.r, Ev.nm, Ev.now, Ev.n, List.mem_cons, List.not_mem_nil, or_false] at hv
    rcases hv with rfl | rfl | rfl | rfl
    · exact lit _ (by simp)
    · exact sb h.1
    · exact sb h.2.1
    · exact h.2.2.ok
  | turn t n s w =>
    simp only [Ev.v, Ev.r, Ev.nm, Ev.now, Ev.n, List.mem_cons, List.not_mem_nil, or_false] at hv
    rcases hv with rfl | rfl | rfl | rfl | rfl
    · exact lit _ (by simp)
    · exact sb h.1
    · exact sb h.2.1
    · exact sb h.2.2.1
    · exact h.2.2.2.ok
  | move t n s =>
    simp only [Ev.v, Ev.r, Ev.nm, Ev.now, Ev.n, List.mem_cons, List.not_mem_nil, or_false] at hv
    rcases hv with rfl | rfl | rfl | rfl | rfl
    · exact lit _ (by simp)
    · exact sb h.1
    · exact sb h.2.1
    · exact sb h.2.2
    · exact lit _ (by simp)
  | moved t n s =>
    simp only [Ev.v, Ev.r, Ev.nm, Ev.now, Ev.n, List.mem_cons, List.not_mem_nil, or_false] at hv
    rcases hv with rfl | rfl | rfl | rfl
    · exact lit _ (by simp)
    · exact sb h.1
    · exact sb h.2.1
    · exact sb h.2.2
  | fin t n w =>
    simp only [Ev.v, Ev.r, Ev.nm, Ev.now, Ev.n, List.mem_cons, List.not_mem_nil, or_false] at hv
    rcases hv with rfl | rfl | rfl | rfl
    · exact lit _ (by simp)
    · exact sb h.1
    · exact sb h.2.1
    · exact h.2.2.ok
theorem Ev.len (e : Ev) : e.v.length ≤ 11 := by cases e <;> simp [Ev.v, Ev.r]

end K16
set_option maxHeartbeats 1000000
namespace K16
open PySem PySem.Spec PyProof.Rows L2 SX TK NdefX
open C8 (pe_c)
def soI (o : Option Int) : Prop := ∀ i, o = some i → small i
structure ClOk (k : Nat) (c : Cl) : Prop where
  n : small c.n
  w : wdS c.who
  b : small c.begun
  r : soI c.rang
  a : soI c.ans
  e : soI c.ended
  y : ∀ z, c.why = some z → wdS z
  m0 : wdS c.m0
  m1 : wdS c.m1
  v : 0 ≤ c.mv ∧ c.mv ≤ k
theorem ClOk.mono {k : Nat} {c : Cl} (h : ClOk k c) : ClOk (k + 1) c := ⟨h.n, h.w, h.b, h.r, h.a, h.e, h.y, h.m0, h.m1, h.v.1, by have := h.v.2; omega⟩
theorem oI_ok {o : Option Int} (h : soI o) : okV (oI o) := by
  cases o with
  | none => trivial
  | some i => exact sb (h i rfl)
theorem oS_ok {o : Option Str} (h : ∀ z, o = some z → wdS z) : okV (oS o) := by
  cases o with
  | none => trivial
  | some z => exact (h z rfl).ok
theorem ClOk.ok {k : Nat} {c : Cl} (h : ClOk k c) (hk : k ≤ 1000) : ∀ v ∈ c.v, okV v := by
  intro v hv
  simp only [Cl.v, List.mem_cons, List.not_mem_nil, or_false] at hv
  rcases hv with rfl | rfl | rfl | rfl | rfl | rfl | rfl | rfl | rfl | rfl | rfl
  · exact sb h.n
  · exact ⟨by decide +kernel, by decide +kernel⟩
  · exact h.w.ok
  · exact sb h.b
  · exact oI_ok h.r
  · exact oI_ok h.a
  · exact oI_ok h.e
  · exact oS_ok h.y
  · exact h.m0.ok
  · exact h.m1.ok
  · have := h.v
    exact ⟨by omega, by omega⟩
theorem wboth : wdS "both" := by simp [wdS]
theorem take_ok {k : Nat} {c : Cl} {e : Ev} (h : ClOk k c) (he : EvOk e) : ClOk (k + 1) (takeC c e) := by
  have m := h.mono
  cases e with
  | bgn t n w => exact m
  | ring t n => exact { m with r := fun i hi => by cases hi; exact he.1 }
  | ans t n p => exact { m with a := fun i hi => by cases hi; exact he.1 }
  | turn t n s w =>
    show ClOk (k + 1) (if s = 0 then { c with m0 := w } else { c with m1 := w })
    split
    · exact { m with m0 := he.2.2.2 }
    · exact { m with m1 := he.2.2.2 }
  | move t n s => exact m
  | moved t n s => exact { m with m0 := wboth, m1 := wboth, v := ⟨by have := h.v.1; show 0 ≤ c.mv + 1; omega, by have := h.v.2; show c.mv + 1 ≤ ((k + 1 : Nat) : Int); omega⟩ }
  | fin t n w => exact { m with e := fun i hi => by cases hi; exact he.1, y := fun z hz => by cases hz; exact he.2.2 }
theorem app_ok {k : Nat} {cs : List Cl} {e : Ev} (h : ∀ c ∈ cs, ClOk k c) (he : EvOk e) : ∀ c ∈ app cs e, ClOk (k + 1) c := by
  have st : ∀ c ∈ cs.set (e.n - 1).toNat (takeC (cs.getD (e.n - 1).toNat c0) e), ClOk (k + 1) c := by
    intro y hy
    obtain ⟨j, hj, rfl⟩ := List.mem_iff_getElem.mp hy
    rw [List.length_set] at hj
    rw [List.getElem_set]
    by_cases e1 : (e.n - 1).toNat = j
    · rw [if_pos e1, e1, List.getD_eq_getElem?_getD, List.getElem?_eq_getElem hj]
      exact take_ok (h _ (List.getElem_mem hj)) he
    · rw [if_neg e1]
      exact (h _ (List.getElem_mem hj)).mono
  cases e with
  | bgn t n w =>
    intro c hc
    rcases List.mem_append.mp hc with z | z
    · exact (h c z).mono
    · rw [List.mem_singleton.mp z]
      exact ⟨he.2.1, he.2.2, he.1, fun i hi => (by cases hi), fun i hi => (by cases hi), fun i hi => (by cases hi), fun i hi => (by cases hi), wboth, wboth, Int.le_refl _, by show (0 : Int) ≤ _; omega⟩
  | _ => exact st
theorem runN_app (es : List Ev) (e : Ev) : ∀ j, j ≤ es.length → runN (es ++ [e]) j = runN es j
  | 0, _ => rfl
  | j + 1, h => by
    have ih := runN_app es e j (by omega)
    have e1 : (es ++ [e])[j]? = es[j]? := List.getElem?_append_left (by omega)
    show (match (es ++ [e])[j]? with | some x => stepR (runN (es ++ [e]) j) j x | none => runN (es ++ [e]) j) = _
    rw [e1, ih]
    rfl
theorem run_snoc (es : List Ev) (e : Ev) : runN (es ++ [e]) (es ++ [e]).length = stepR (runN es es.length) es.length e := by
  rw [List.length_append]
  have e1 : (es ++ [e])[es.length]? = some e := by rw [List.getElem?_append_right (Nat.le_refl _), Nat.sub_self]; rfl
  show (match (es ++ [e])[es.length]? with | some x => stepR (runN (es ++ [e]) es.length) es.length x | none => runN (es ++ [e]) es.length) = _
  rw [e1, runN_app es e es.length (Nat.le_refl _)]
theorem run_ok {es : List Ev} (h : ∀ e ∈ es, EvOk e) : ∀ i, (∀ c ∈ (runN es i).cs, ClOk i c) ∧ ∀ w ∈ (runN es i).ws, 0 ≤ w ∧ w < i
  | 0 => ⟨(fun _ z => nomatch z), fun _ z => nomatch z⟩
  | i + 1 => by
    obtain ⟨a, b⟩ := run_ok h i
    have er : runN es (i + 1) = (match es[i]? with | some x => stepR (runN es i) i x | none => runN es i) := rfl
    rw [er]
    cases he : es[i]? with
    | none => exact ⟨fun c hc => (a c hc).mono, fun w hw => ⟨(b w hw).1, by have := (b w hw).2; omega⟩⟩
    | some e =>
      show (∀ c ∈ (stepR (runN es i) i e).cs, _) ∧ ∀ w ∈ (stepR (runN es i) i e).ws, _
      unfold stepR
      split
      · exact ⟨app_ok a (h e (List.mem_of_getElem? he)), fun w hw => ⟨(b w hw).1, by have := (b w hw).2; omega⟩⟩
      · refine ⟨fun c hc => (a c hc).mono, fun w hw => ?_⟩
        rcases List.mem_append.mp hw with z | z
        · exact ⟨(b w z).1, by have := (b w z).2; omega⟩
        · have : w = (i : Int) := List.mem_singleton.mp z
          omega
structure LW (H : Hp) (s c ev cl wr nw : Addr) (ts : List Addr) (es : List Ev) (A : List Ar) : Prop where
  st : StAt H s c
  evl : H ev = some (.lst (ts.map V.ref))
  tv : TsAt H ts (es.map Ev.v)
  ca : ClAt H cl A
  wl : H wr = some (.lst ((runN es es.length).ws.map V.int))
  nl : H nw = some (.lst [.int (runN es es.length).lat])
theorem LW.same {H H' : Hp} {s c ev cl wr nw : Addr} {ts : List Addr} {es : List Ev} {A : List Ar} (h : LW H s c ev cl wr nw ts es A) (e : Same H H') : LW H' s c ev cl wr nw ts es A :=
  ⟨h.st.same e, e _ _ h.evl, h.tv.mono fun x b q => e _ _ q, h.ca.same e, e _ _ h.wl, e _ _ h.nl⟩
def NE (s c ev cl wr nw : Addr) : Prop := ev ≠ s ∧ ev ≠ c ∧ cl ≠ s ∧ cl ≠ c ∧ wr ≠ s ∧ wr ≠ c ∧ nw ≠ s ∧ nw ≠ c ∧ ev ≠ cl ∧ ev ≠ wr ∧ ev ≠ nw ∧ cl ≠ wr ∧ cl ≠ nw ∧ wr ≠ nw
def NA (s c ev wr nw : Addr) (A : List Ar) : Prop := ∀ x ∈ A, x.1 ≠ s ∧ x.1 ≠ c ∧ x.1 ≠ ev ∧ x.1 ≠ wr ∧ x.1 ≠ nw
theorem LW.keep {H H' : Hp} {s c ev cl wr nw : Addr} {ts : List Addr} {es : List Ev} {A : List Ar} (h : LW H s c ev cl wr nw ts es A) (n : NE s c ev cl wr nw) (na : NA s c ev wr nw A) (st : StAt H' s c) (k : Keep H H' s c) : LW H' s c ev cl wr nw ts es A := by
  obtain ⟨a1, a2, a3, a4, a5, a6, a7, a8, _⟩ := n
  obtain ⟨_, ⟨m, hm⟩, ns, hc, _⟩ := id h.st
  exact ⟨st, k _ _ h.evl a1 a2, h.tv.mono fun x b q => k _ _ q (ne_of q hm (by intro z; cases z)) (ne_of q hc (by intro z; cases z)), ⟨k _ _ h.ca.l a3 a4, fun x hx => k _ _ (h.ca.r x hx) (na x hx).1 (na x hx).2.1, h.ca.n, h.ca.d⟩, k _ _ h.wl a5 a6, k _ _ h.nl a7 a8⟩

end K16
set_option maxHeartbeats 1000000
set_option pp.maxSteps 500
namespace K16
open PySem PySem.Spec PyProof.Rows L2 SX TK NdefX
open C8 (pe_c)
abbrev Bd : Type := Int × Int
def tupV (b : Bd) : List V := [.int b.1, .int b.2]
def TupsAt (H : Hp) : List Addr → List Bd → Prop
  | [], [] => True
  | t :: ts, b :: bs => H t = some (.tup (tupV b)) ∧ TupsAt H ts bs
  | _, _ => False
theorem TupsAt.mono {H H' : Hp} (s : ∀ x b, H x = some (.tup (tupV b)) → H' x = some (.tup (tupV b))) : ∀ {ts : List Addr} {bs : List Bd}, TupsAt H ts bs → TupsAt H' ts bs
  | [], [], _ => trivial
  | t :: ts, b :: bs, h => ⟨s _ _ h.1, TupsAt.mono s h.2⟩
  | [], _ :: _, h => h
  | _ :: _, [], h => h
theorem TupsAt.snoc {H : Hp} {t : Addr} {b : Bd} (ht : H t = some (.tup (tupV b))) : ∀ {ts : List Addr} {bs : List Bd}, TupsAt H ts bs → TupsAt H (ts ++ [t]) (bs ++ [b])
  | [], [], _ => ⟨ht, trivial⟩
  | _ :: _, _ :: _, h => ⟨h.1, TupsAt.snoc ht h.2⟩
  | [], _ :: _, h => h.elim
  | _ :: _, [], h => h.elim
theorem TupsAt.app {H : Hp} : ∀ {ts ts' : List Addr} {bs bs' : List Bd}, TupsAt H ts bs → TupsAt H ts' bs' → TupsAt H (ts ++ ts') (bs ++ bs')
  | [], _, [], _, _, h => h
  | _ :: _, _, _ :: _, _, h, h' => ⟨h.1, TupsAt.app h.2 h'⟩
  | [], _, _ :: _, _, h, _ => h.elim
  | _ :: _, _, [], _, h, _ => h.elim
theorem TupsAt.take {H : Hp} : ∀ {ts : List Addr} {bs : List Bd} (n : Nat), TupsAt H ts bs → TupsAt H (ts.take n) (bs.take n)
  | [], [], n, _ => by rw [List.take_nil, List.take_nil]; trivial
  | _ :: _, _ :: _, 0, _ => trivial
  | _ :: _, _ :: _, n + 1, h => ⟨h.1, TupsAt.take n h.2⟩
  | [], _ :: _, _, h => h.elim
  | _ :: _, [], _, h => h.elim
theorem TupsAt.drop {H : Hp} : ∀ {ts : List Addr} {bs : List Bd} (n : Nat), TupsAt H ts bs → TupsAt H (ts.drop n) (bs.drop n)
  | [], [], n, _ => by rw [List.drop_nil, List.drop_nil]; trivial
  | _ :: _, _ :: _, 0, h => h
  | _ :: _, _ :: _, n + 1, h => TupsAt.drop n h.2
  | [], _ :: _, _, h => h.elim
  | _ :: _, [], _, h => h.elim
theorem TupsAt.len {H : Hp} : ∀ {ts : List Addr} {bs : List Bd}, TupsAt H ts bs → ts.length = bs.length
  | [], [], _ => rfl
  | _ :: _, _ :: _, h => congrArg Nat.succ (TupsAt.len h.2)
  | [], _ :: _, h => h.elim
  | _ :: _, [], h => h.elim
theorem TupsAt.at_ {H : Hp} : ∀ {ts : List Addr} {bs : List Bd}, TupsAt H ts bs → ∀ (i : Nat) (x : V), (ts.map V.ref)[i]? = some x → ∃ t, x = .ref t ∧ ts[i]? = some t ∧ i < bs.length ∧ H t = some (.tup (tupV (bs.getD i (0, 0))))
  | [], [], _, i, x, h => by cases h
  | t :: _, b :: _, h, 0, x, e => ⟨t, (Option.some.inj e).symm, rfl, Nat.succ_pos _, h.1⟩
  | _ :: ts, _ :: bs, h, i + 1, x, e => by
    obtain ⟨t, e1, e2, e3, e4⟩ := TupsAt.at_ h.2 i x e
    exact ⟨t, e1, e2, Nat.succ_lt_succ e3, e4⟩
  | [], _ :: _, h, _, _, _ => h.elim
  | _ :: _, [], h, _, _, _ => h.elim
def BAt (H : Hp) (r : Addr) (bs : List Bd) : Prop := ∃ ts : List Addr, H r = some (.lst (ts.map V.ref)) ∧ TupsAt H ts bs
theorem BAt.same {H H' : Hp} {r : Addr} {bs : List Bd} (h : BAt H r bs) (s : Same H H') : BAt H' r bs := by
  obtain ⟨ts, e, t⟩ := h
  exact ⟨ts, s _ _ e, t.mono fun x b e => s _ _ e⟩
theorem BAt.keep {H H' : Hp} {r s c : Addr} {bs : List Bd} (h : BAt H r bs) (hs : StAt H s c) (k : Keep H H' s c) (h1 : r ≠ s) (h2 : r ≠ c) : BAt H' r bs := by
  obtain ⟨ts, e, t⟩ := h
  obtain ⟨_, ⟨n, hn⟩, ns, hc, _⟩ := hs
  exact ⟨ts, k _ _ e h1 h2, t.mono fun x b e => k _ _ e (ne_of e hn (by intro z; cases z)) (ne_of e hc (by intro z; cases z))⟩
def okU (i : Int) : Bool := if 1 ≤ i then decide (i ≤ 10000) else false
def okP (i : Int) : Bool := if 0 ≤ i then decide (i ≤ 10000) else false
def okD (b : Bd) : Bool := if okU b.1 = true then okP b.2 else false
def okB (bs : List Bd) : Bool := if bs.length ≤ 8 then bs.all okD else false
def spIsU : Sp := fun vs H Q _ => ∃ i : Int, vs = [.int i] ∧ Q (.bl (okU i)) H
def spIsP : Sp := fun vs H Q _ => ∃ i : Int, vs = [.int i] ∧ Q (.bl (okP i)) H
def spAreB (K : PySem.W.Frag) : Sp := fun vs H Q _ => ∃ (r : Addr) (bs : List Bd), vs = [.ref r] ∧ BAt H r bs ∧ bs.length ≤ 40 ∧ ∀ H', Same H H' → Q (.bl (okB bs)) H'
theorem ok_is_unit {P : Program} {w : World} {K : PySem.W.Frag} {mg : Str → Option Value} {base : Heap} {f : Addr} {fd : FuncData} (T : Tx K mg) 
    (F : FunD K "_is_unit" "_is_unit" (defArgs s_is_unit) (defBody s_is_unit) (defScope s_is_unit) [] [] f fd) : FnOk P w K mg base CX0 1 f fd ["number"] spIsU := by
  refine F.ok sc_is_unit (fun vs H Q E h => ?_) (fun cdv A outer s0 H vs Q E hr h => ?_)
  · obtain ⟨i, rfl, _⟩ := h
    rfl
  · obtain ⟨i, rfl, k⟩ := h
    refine ⟨_, PSs.nox (pss_one (ps_ret (pe_chain op_le op_le pe_int (pv 0) (pgI T.g_GREATEST_UNIT)))), ?_⟩
    refine ⟨_, rfl, _, _, rfl, rfl, _, rfl, ?_⟩
    unfold okU at k
    by_cases c : 1 ≤ i
    · rw [if_pos c] at k
      rw [decide_eq_true c]
      exact iteT ⟨_, _, rfl, rfl, k⟩
    · rw [if_neg c] at k
      rw [decide_eq_false c]
      exact iteF k
theorem ok_is_price {P : Program} {w : World} {K : PySem.W.Frag} {mg : Str → Option Value} {base : Heap} {f : Addr} {fd : FuncData} (T : Tx K mg) 
    (F : FunD K "_is_price" "_is_price" (defArgs s_is_price) (defBody s_is_price) (defScope s_is_price) [] [] f fd) : FnOk P w K mg base CX0 1 f fd ["number"] spIsP := by
  refine F.ok sc_is_price (fun vs H Q E h => ?_) (fun cdv A outer s0 H vs Q E hr h => ?_)
  · obtain ⟨i, rfl, _⟩ := h
    rfl
  · obtain ⟨i, rfl, k⟩ := h
    refine ⟨_, PSs.nox (pss_one (ps_ret (pe_chain op_le op_le pe_int (pv 0) (pgI T.g_GREATEST_PRICE)))), ?_⟩
    refine ⟨_, rfl, _, _, rfl, rfl, _, rfl, ?_⟩
    unfold okP at k
    by_cases c : 0 ≤ i
    · rw [if_pos c] at k
      rw [decide_eq_true c]
      exact iteT ⟨_, _, rfl, rfl, k⟩
    · rw [if_neg c] at k
      rw [decide_eq_false c]
      exact iteF k
theorem ok_are_bands {P : Program} {w : World} {K : PySem.W.Frag} {mg : Str → Option Value} {base : Heap} {f : Addr} {fd : FuncData} (T : Tx K mg) (c_is_unit : C8.Cal P w K mg base 1 "_is_unit" spIsU []) (c_is_price : C8.Cal P w K mg base 1 "_is_price" spIsP [])
    (F : FunD K "_are_bands" "_are_bands" (defArgs s_are_bands) (defBody s_are_bands) (defScope s_are_bands) [] [] f fd) : FnOk P w K mg base CX0 2 f fd ["bands"] (spAreB K) := by
  refine F.ok sc_are_bands (fun vs H Q E h => ?_) (fun cdv A outer s0 H vs Q E hr h => ?_)
  · obtain ⟨r, bs, rfl, _⟩ := h
    rfl
  · obtain ⟨r, bs, rfl, hB, hn, k⟩ := h
    refine ⟨_, PSs.nox (pss_one (ps_ret (pe_and (pe_cmpR op_le (pe_callB call_len_seq rfl T.f_len PySem.boot_len (pa_cons (pv 0) pa_nil)) (pgI T.g_MOST_BANDS) (nomark _)) (pe_one (pe_callB (cr_all rfl) rfl T.f_all (by decide +kernel) (pa_cons (pe_lc (own := [("many", 1), ("price", 2)]) rfl sc_are_bands.nd (pi_list (pv 0)) (blkOk_by (own := [("many", 1), ("price", 2)]) (N := ["bands", "many", "price"]) (sc := defScope s_are_bands) (by decide +kernel)) (fun _ _ _ _ _ => TKE.pg_tupK (n := 2) K rfl rfl (pgs_cons (pg_name (i := 1) sc_are_bands.nd rfl (Or.inl rfl)) (pgs_cons (pg_name (i := 2) sc_are_bands.nd rfl (Or.inl rfl)) pgs_nil))) (fun _ _ _ _ _ => pts_nil) (fun _ _ _ _ _ => (pe_and (pe_c c_is_unit hr (by decide) rfl (pa_cons (pv 1) pa_nil)) (pe_one (pe_c c_is_price hr (by decide) rfl (pa_cons (pv 2) pa_nil)))))) pa_nil)))))), ?_⟩
    obtain ⟨ts, e, q⟩ := hB
    refine ⟨_, rfl, r, _, rfl, .inl (SqL.of e), _, _, rfl, rfl, _, rfl, ?_⟩
    have hl := q.len
    unfold okB at k
    by_cases c : bs.length ≤ 8
    · rw [List.length_map, hl, decide_eq_true (by omega)]
      simp only [if_pos c] at k
      refine iteT ?_
      refine ⟨_, rfl, r, rfl, ⟨_, SqL.of e⟩, fun D hD => ?_⟩
      have hnm : (ts.map V.ref).length ≤ sizeLine := by rw [List.length_map, hl, sizeLine_eq]; omega
      have hR : ∀ o, SqL K (upd H D o) r (ts.map V.ref) := fun o => SqL.of ((same_upd hD) _ _ e)
      refine lc_pure walk_list (fun i => V.bl (okD (bs.getD i (0, 0)))) hnm (fun _ _ => hR _) (fun i x H1 kk hi y qq => ?_) (fun _ _ _ _ h q => h _ _ q) (fun x σ H Q Q' h z => ?_) ?_
      · obtain ⟨rfl, hx⟩ := y
        obtain ⟨t, rfl, _, _, ht⟩ := q.at_ i x hx
        refine ⟨t, _, rfl, SqT.of ((same_upd hD) _ _ ht), rfl, _, _, rfl, _, _, rfl, rfl, rfl, rfl, ?_⟩
        generalize bs.getD i (0, 0) = b at qq
        refine ⟨_, rfl, b.1, rfl, _, rfl, ?_⟩
        unfold okD at qq
        by_cases c1 : okU b.1 = true
        · rw [if_pos c1] at qq
          rw [c1]
          exact iteT ⟨_, rfl, b.2, rfl, qq⟩
        · rw [if_neg c1] at qq
          rw [ef c1]
          exact iteF qq
      · obtain ⟨a, xs, e1, e2, e3, v1, r1, e4, v2, r2, e5, e6, q⟩ := z
        exact ⟨a, xs, e1, e2, e3, v1, r1, e4, v2, r2, e5, e6, h _ _ q⟩
      · refine ⟨D, bs.map okD, rfl, ?_, ?_⟩
        · have e9 : (List.range (ts.map V.ref).length).map (fun i => V.bl (okD (bs.getD i (0, 0)))) = (bs.map okD).map V.bl := by
            rw [List.length_map, hl, range_map_getD bs (0, 0) fun b => V.bl (okD b), List.map_map]
            rfl
          rw [e9]
          exact SqL.of upd_same
        · rw [List.all_map] 
          exact k _ (same_upd hD)
    · rw [List.length_map, hl, decide_eq_false (by omega)]
      simp only [if_neg c] at k
      exact iteF (k _ fun _ _ e => e)

end K16
set_option maxHeartbeats 1000000
set_option pp.maxSteps 500
namespace K16
open PySem PySem.Spec PyProof.Rows L2 SX TK NdefX
open C8 (pe_c)
def minI (i j : Int) : Int := if j < i then j else i
def step (s : Int × Int) (b : Bd) : Int × Int := (s.1 - minI s.1 b.1, s.2 + minI s.1 b.1 * b.2)
def unitsI (u span : Int) : Int := (span + u - 1) / u
def costI (u : Int) (bs : List Bd) (l span : Int) : Int := (bs.foldl step (unitsI u span, 0)).2 + (bs.foldl step (unitsI u span, 0)).1 * l
def tfl (u : Int) (r : Addr) (l : Int) : List (Str × V) := [("unit", .int u), ("bands", .ref r), ("last", .int l)]
def TAt (K : PySem.W.Frag) (H : Hp) (p r : Addr) (u : Int) (bs : List Bd) (l : Int) : Prop := ∃ dx, H p = some (.ins (He.ga K "Tariff") dx (tfl u r l)) ∧ BAt H r bs
theorem TAt.same {K : PySem.W.Frag} {H H' : Hp} {p r : Addr} {u : Int} {bs : List Bd} {l : Int} (h : TAt K H p r u bs l) (s : Same H H') : TAt K H' p r u bs l := by
  obtain ⟨dx, e, t⟩ := h
  exact ⟨dx, s _ _ e, t.same s⟩
theorem okD_get {bs : List Bd} (h : okB bs = true) {i : Nat} (hi : i < bs.length) : okU (bs.getD i (0, 0)).1 = true ∧ okP (bs.getD i (0, 0)).2 = true := by
  unfold okB at h
  by_cases c : bs.length ≤ 8
  · rw [if_pos c, List.all_eq_true] at h
    have e := h (bs.getD i (0, 0)) (by rw [List.getD_eq_getElem?_getD, List.getElem?_eq_getElem hi]; exact List.getElem_mem _)
    unfold okD at e
    by_cases c1 : okU (bs.getD i (0, 0)).1 = true
    · rw [if_pos c1] at e
      exact ⟨c1, e⟩
    · rw [if_neg c1] at e
      cases e
  · rw [if_neg c] at h
    cases h
theorem okB_len {bs : List Bd} (h : okB bs = true) : bs.length ≤ 8 := by
  unfold okB at h
  by_cases c : bs.length ≤ 8
  · exact c
  · rw [if_neg c] at h
    cases h
theorem okU_to {i : Int} (h : okU i = true) : 1 ≤ i ∧ i ≤ 10000 := by
  unfold okU at h
  by_cases c : 1 ≤ i
  · rw [if_pos c] at h
    exact ⟨c, of_decide_eq_true h⟩
  · rw [if_neg c] at h
    cases h
theorem okP_to {i : Int} (h : okP i = true) : 0 ≤ i ∧ i ≤ 10000 := by
  unfold okP at h
  by_cases c : 0 ≤ i
  · rw [if_pos c] at h
    exact ⟨c, of_decide_eq_true h⟩
  · rw [if_neg c] at h
    cases h
theorem take_step {bs : List Bd} {i : Nat} (hi : i < bs.length) (s0 : Int × Int) : (bs.take (i + 1)).foldl step s0 = step ((bs.take i).foldl step s0) (bs.getD i (0, 0)) := by
  rw [List.take_add_one, List.getElem?_eq_getElem hi, List.foldl_append, List.getD_eq_getElem?_getD, List.getElem?_eq_getElem hi]
  rfl
def spUnits (K : PySem.W.Frag) : Sp := fun vs H Q _ => ∃ (p dx r : Addr) (u l span : Int), vs = [.ref p, .int span] ∧ H p = some (.ins (He.ga K "Tariff") dx (tfl u r l)) ∧ 1 ≤ u ∧ u ≤ 10000 ∧ Q (.int (unitsI u span)) H
theorem ok_Tariff_units {P : Program} {w : World} {K : PySem.W.Frag} {mg : Str → Option Value} {base : Heap} {f : Addr} {fd : FuncData} (T : Tx K mg) 
    (F : FunD K "units" "Tariff.units" (defArgs s_Tariff_units) (defBody s_Tariff_units) (defScope s_Tariff_units) [] [] f fd) : FnOk P w K mg base CX0 1 f fd ["self", "span"] (spUnits K) := by
  refine F.ok sc_Tariff_units (fun vs H Q E h => ?_) (fun cdv A outer s0 H vs Q E hr h => ?_)
  · obtain ⟨p, dx, r, u, l, span, rfl, _⟩ := h
    rfl
  · obtain ⟨p, dx, r, u, l, span, rfl, hp, h1, h2, k⟩ := h
    refine ⟨_, PSs.nox (pss_one (ps_ret (pe_op op_fdiv (pe_op op_sub (pe_op op_add (pv 1) (pe_fldC rfl T.cl_Tariff T.na_Tariff_unit (pv 0) rfl)) pe_int) (pe_fldC rfl T.cl_Tariff T.na_Tariff_unit (pv 0) rfl)))), ?_⟩
    exact ⟨_, rfl, _, rfl, p, dx, _, _, rfl, hp, rfl, _, _, rfl, rfl, _, _, rfl, rfl, _, rfl, p, dx, _, _, rfl, hp, rfl, _, _, rfl, rfl, ⟨by omega, by omega⟩, k⟩
def spCost (K : PySem.W.Frag) : Sp := fun vs H Q _ => ∃ (p r : Addr) (u l span : Int) (bs : List Bd), vs = [.ref p, .int span] ∧ TAt K H p r u bs l ∧ okU u = true ∧ okB bs = true ∧ okP l = true ∧ Q (.int (costI u bs l span)) H
theorem ok_Tariff_cost {P : Program} {w : World} {K : PySem.W.Frag} {mg : Str → Option Value} {base : Heap} {f : Addr} {fd : FuncData} (T : Tx K mg) (c_Tariff_units : C8.Met P w K mg base 1 (He.ga K "Tariff") "units" (spUnits K) [])
    (F : FunD K "cost" "Tariff.cost" (defArgs s_Tariff_cost) (defBody s_Tariff_cost) (defScope s_Tariff_cost) [] [] f fd) : FnOk P w K mg base CX0 2 f fd ["self", "span"] (spCost K) := by
  refine F.ok sc_Tariff_cost (fun vs H Q E h => ?_) (fun cdv A outer s0 H vs Q E hr h => ?_)
  · obtain ⟨p, r, u, l, span, bs, rfl, _⟩ := h
    rfl
  · obtain ⟨p, r, u, l, span, bs, rfl, ⟨dx, hp, ts, e, q⟩, h1, h2, h3, k⟩ := h
    refine ⟨_, PSs.nox (pss_cons (ps_set (i := 2) sc_Tariff_cost.nd rfl (Or.inl rfl) (C8.pe_mt c_Tariff_units hr (by decide) (pv 0) (pa_cons (pv 1) pa_nil))) (pss_cons (ps_set (i := 3) sc_Tariff_cost.nd rfl (Or.inl rfl) pe_int) (pss_cons (ps_for PassesOwn.never rfl (pi_list (pe_fldC rfl T.cl_Tariff T.na_Tariff_bands (pv 0) rfl)) (pg_tup rfl (pgs_cons (pg_name (i := 4) sc_Tariff_cost.nd rfl (Or.inl rfl)) (pgs_cons (pg_name (i := 5) sc_Tariff_cost.nd rfl (Or.inl rfl)) pgs_nil))) (pss_cons (ps_set (i := 6) sc_Tariff_cost.nd rfl (Or.inl rfl) (pe_callB (call_min2 rfl) rfl T.f_min (by decide +kernel) (pa_cons (pv 2) (pa_cons (pv 4) pa_nil)))) (pss_cons (ps_aug (i := 3) sc_Tariff_cost.nd rfl (Or.inl rfl) (pe_op op_mul (pv 6) (pv 5)) ip_add) (pss_one (ps_aug (i := 2) sc_Tariff_cost.nd rfl (Or.inl rfl) (pv 6) ip_sub))))) (pss_one (ps_ret (pe_op op_add (pv 3) (pe_op op_mul (pv 2) (pe_fldC rfl T.cl_Tariff T.na_Tariff_last (pv 0) rfl)))))))), ?_⟩
    have hl := q.len
    have hu := okU_to h1
    have hlp := okP_to h3
    refine ⟨_, rfl, p, dx, _, rfl, hp, rfl, _, rfl, p, dx, r, u, l, span, rfl, hp, hu.1, hu.2, ?_⟩
    refine ⟨_, rfl, p, dx, _, _, rfl, hp, rfl, r, rfl, ⟨_, SqL.of e⟩, for_list (K := K) (a := r) (xs := ts.map V.ref) (fun i σ H' => H' = H ∧ ∃ (v1 v2 v3 : Option V), σ = [some (.ref p), some (.int span), some (.int ((bs.take i).foldl step (unitsI u span, 0)).1), some (.int ((bs.take i).foldl step (unitsI u span, 0)).2), v1, v2, v3]) ⟨rfl, none, none, none, rfl⟩ (fun i σ H' _ q => q.1 ▸ SqL.of e) ?_ ?_⟩
    · rintro i y σ H' hi ⟨rfl, v1, v2, v3, rfl⟩
      obtain ⟨t, rfl, _, hib, ht⟩ := q.at_ i y hi
      obtain ⟨b1, b2⟩ := okD_get h2 hib
      have hb2 := okP_to b2
      have e9 := take_step hib (unitsI u span, 0)
      rw [e9]
      generalize (bs.take i).foldl step (unitsI u span, 0) = st
      generalize bs.getD i (0, 0) = b at ht b1 b2 hb2
      refine ⟨t, _, rfl, SqT.of ht, rfl, _, _, rfl, _, _, rfl, rfl, ?_⟩
      refine ⟨_, rfl, _, rfl, _, _, rfl, ?_⟩
      refine ⟨_, rfl, _, rfl, _, rfl, _, _, rfl, rfl, .inr ⟨by omega, by omega⟩, ?_⟩
      exact ⟨_, _, rfl, rfl, _, rfl, _, rfl, _, _, rfl, rfl, rfl, some (.int b.1), some (.int b.2), some (.int (minI st.1 b.1)), rfl⟩
    · rintro σ H' ⟨rfl, v1, v2, v3, rfl⟩
      rw [List.length_map, hl, List.take_length]
      refine ⟨_, rfl, _, rfl, _, rfl, p, dx, _, _, rfl, hp, rfl, _, _, rfl, rfl, .inr ⟨by omega, by omega⟩, _, _, rfl, rfl, k⟩
def fltS (u : Int) (bs : List Bd) (l : Int) : Str := if okU u = true then (if okB bs = true then (if okP l = true then "" else "last") else "bands") else "unit"
def spTrInit (K : PySem.W.Frag) : Sp := fun vs H Q E => ∃ (p dx a : Addr) (u l : Int) (bs : List Bd), vs = [.ref p, .int u, .ref a, .int l] ∧ H p = some (.ins (He.ga K "Tariff") dx []) ∧ BAt H a bs ∧ bs.length ≤ 40 ∧
  (fltS u bs l = "" → ∀ r H', H' p = some (.ins (He.ga K "Tariff") dx (tfl u r l)) → BAt H' r bs → H r = none → (∀ c o, H c = some o → c ≠ p → H' c = some o) → Q .non H') ∧
  (fltS u bs l ≠ "" → ∀ d H', H' d = some (.xd [("setting", .str (fltS u bs l))]) → Same H H' → E (.ref (He.ga K "ConfigError")) (some d) H')
theorem ok_Tariff___init {P : Program} {w : World} {K : PySem.W.Frag} {mg : Str → Option Value} {base : Heap} {f : Addr} {fd : FuncData} (T : Tx K mg) (x_ConfigError : TKE.ExcMk P w K mg base "ConfigError" (He.ga K "ConfigError") "setting" TKE.isS) (c_is_unit : C8.Cal P w K mg base 1 "_is_unit" spIsU []) (c_is_price : C8.Cal P w K mg base 1 "_is_price" spIsP []) (c_are_bands : C8.Cal P w K mg base 2 "_are_bands" (spAreB K) [])
    (F : FunD K "__init__" "Tariff.__init__" (defArgs s_Tariff___init) (defBody s_Tariff___init) (defScope s_Tariff___init) [] [] f fd) : FnOk P w K mg base (L2.CX P w) 3 f fd ["self", "unit", "bands", "last"] (spTrInit K) := by
  refine F.ok sc_Tariff___init (fun vs H Q E h => ?_) (fun cdv A outer s0 H vs Q E hr h => ?_)
  · obtain ⟨p, dx, a, u, l, bs, rfl, _⟩ := h
    rfl
  · obtain ⟨p, dx, a, u, l, bs, rfl, hp, hB, hn, k1, k2⟩ := h
    refine ⟨_, (C8.pss_cut (ps_if (pt_not (pt_val (pe_c c_is_unit hr (by decide) rfl (pa_cons (pv 1) pa_nil)))) (pss_one (TKE.ps_raiseE x_ConfigError rfl (takes_of rfl rfl rfl rfl) hr (by decide) rfl pe_str)) pss_nil) (C8.pss_cut (ps_if (pt_not (pt_val (pe_c c_are_bands hr (by decide) rfl (pa_cons (pv 2) pa_nil)))) (pss_one (TKE.ps_raiseE x_ConfigError rfl (takes_of rfl rfl rfl rfl) hr (by decide) rfl pe_str)) pss_nil) (C8.pss_cut (ps_if (pt_not (pt_val (pe_c c_is_price hr (by decide) rfl (pa_cons (pv 3) pa_nil)))) (pss_one (TKE.ps_raiseE x_ConfigError rfl (takes_of rfl rfl rfl rfl) hr (by decide) rfl pe_str)) pss_nil) (pss_cons (ps_fldC rfl T.cl_Tariff T.na_Tariff_unit (pv 0) (pv 1) rfl) (pss_cons (ps_fldC rfl T.cl_Tariff T.na_Tariff_bands (pv 0) (pe_lc (own := [("band", 4)]) (g := gName 4) rfl sc_Tariff___init.nd (pi_list (pv 2)) (blkOk_by (own := [("band", 4)]) (N := ["self", "unit", "bands", "last", "band"]) (sc := defScope s_Tariff___init) (by decide +kernel)) (fun _ _ _ _ _ => pg_name (i := 4) sc_Tariff___init.nd rfl (Or.inl rfl)) (fun _ _ _ _ _ => pts_nil) (fun _ _ _ _ _ => (pe_callTy (TKE.tupOfK K rfl) rfl T.f_tuple (by decide +kernel) (pa_cons (pv 4) pa_nil)))) rfl) (pss_one (ps_fldC rfl T.cl_Tariff T.na_Tariff_last (pv 0) (pv 3) rfl))))))), ?_⟩
    refine ⟨fun σ' H' => okU u = true ∧ σ' = [some (.ref p), some (.int u), some (.ref a), some (.int l), none] ∧ H' = H, ?_, ?_⟩
    · refine ⟨_, rfl, u, rfl, _, rfl, ?_⟩
      by_cases c : okU u = true
      · rw [c]
        exact iteF ⟨rfl, rfl, rfl⟩
      · rw [ef c]
        refine iteT ⟨⟨"unit", rfl, by decide⟩, fun d hd => ?_⟩
        have ef1 : fltS u bs l = "unit" := by unfold fltS; rw [if_neg c]
        exact k2 (by rw [ef1]; decide) d _ (by rw [ef1]; exact upd_same) (same_upd hd)
    · rintro σ' H' ⟨cu, rfl, rfl⟩
      refine ⟨fun σ' H2 => okB bs = true ∧ σ' = [some (.ref p), some (.int u), some (.ref a), some (.int l), none] ∧ Same H' H2, ?_, ?_⟩
      · refine ⟨_, rfl, a, bs, rfl, hB, hn, fun H1 s1 => ⟨_, rfl, ?_⟩⟩
        by_cases c : okB bs = true
        · rw [c]
          exact iteF ⟨rfl, rfl, s1⟩
        · rw [ef c]
          refine iteT ⟨⟨"bands", rfl, by decide⟩, fun d hd => ?_⟩
          have ef1 : fltS u bs l = "bands" := by unfold fltS; rw [if_pos cu, if_neg c]
          exact k2 (by rw [ef1]; decide) d _ (by rw [ef1]; exact upd_same) (s1.trans (same_upd hd))
      · rintro σ' H2 ⟨cb, rfl, s2⟩
        refine ⟨fun σ' H3 => okP l = true ∧ σ' = [some (.ref p), some (.int u), some (.ref a), some (.int l), none] ∧ H3 = H2, ?_, ?_⟩
        · refine ⟨_, rfl, l, rfl, _, rfl, ?_⟩
          by_cases c : okP l = true
          · rw [c]
            exact iteF ⟨rfl, rfl, rfl⟩
          · rw [ef c]
            refine iteT ⟨⟨"last", rfl, by decide⟩, fun d hd => ?_⟩
            have ef1 : fltS u bs l = "last" := by unfold fltS; rw [if_pos cu, if_pos cb, if_neg c]
            exact k2 (by rw [ef1]; decide) d _ (by rw [ef1]; exact upd_same) (s2.trans (same_upd hd))
        · rintro σ' H3 ⟨cl, rfl, rfl⟩
          have ef1 : fltS u bs l = "" := by unfold fltS; rw [if_pos cu, if_pos cb, if_pos cl]
          have k := k1 ef1
          clear k1 k2
          have hp3 := s2 _ _ hp
          obtain ⟨ts, e, q⟩ := hB.same s2
          have pa : a ≠ p := ne_of e hp3 (by intro z; cases z)
          refine ⟨_, rfl, _, rfl, p, dx, _, rfl, hp3, sm, ?_⟩
          refine ⟨_, rfl, a, rfl, ⟨_, SqL.of ((upd_ne pa).trans e)⟩, fun D hD => ?_⟩
          have Dp : D ≠ p := fun z => by rw [z, upd_same] at hD; cases hD
          have hD3 : H3 D = none := by rw [upd_ne Dp] at hD; exact hD
          have aD : a ≠ D := ne_of_none e hD3
          have hl := q.len
          have hR : ∀ o, SqL K (upd (upd H3 p (.ins (He.ga K "Tariff") dx (putF "unit" (.int u) []))) D o) a (ts.map V.ref) := fun o => SqL.of ((upd_ne aD).trans ((upd_ne pa).trans e))
          refine lc_pureN walk_list (fun i => V.ref (ts.getD i 0)) (by rw [List.length_map, hl, sizeLine_eq]; omega) (fun _ _ => hR _) (fun i x H1 kk hi y qq => ?_) ?_
          · obtain ⟨rfl, hx⟩ := y
            obtain ⟨t, rfl, ht0, _, ht⟩ := q.at_ i x hx
            refine ⟨rfl, _, rfl, t, _, rfl, .inr ⟨SqT.of ((upd_ne (ne_of_none ht hD3)).trans ((upd_ne (ne_of ht hp3 (by intro z; cases z))).trans ht)), ?_⟩⟩
            have e0 : ts.getD i 0 = t := getD_at 0 ht0
            rw [e0] at qq
            exact qq
          · have e9 : (List.range (ts.map V.ref).length).map (fun i => V.ref (ts.getD i 0)) = ts.map V.ref := by
              rw [List.length_map, range_map_getD ts 0 V.ref]
            rw [e9]
            refine ⟨_, rfl, p, dx, _, rfl, (upd_ne Dp.symm).trans upd_same, sm, ?_⟩
            refine ⟨_, rfl, _, rfl, p, dx, _, rfl, upd_same, sm, ?_⟩
            rw [upd_upd]
            have hH : ∀ c o, H3 c = some o → c ≠ p → (upd (upd (upd H3 p (.ins (He.ga K "Tariff") dx (putF "unit" (.int u) []))) D (.lst (ts.map V.ref))) p (.ins (He.ga K "Tariff") dx (tfl u D l))) c = some o := fun c o ec hc =>
              (upd_ne hc).trans ((upd_ne (ne_of_none ec hD3)).trans ((upd_ne hc).trans ec))
            refine k D _ upd_same ⟨ts, (upd_ne Dp).trans upd_same, q.mono fun x b ex => hH _ _ ex (ne_of ex hp3 (by intro z; cases z))⟩ ?_ fun c o ec hc => hH c o (s2 _ _ ec) hc
            cases eD : H' D with
            | none => rfl
            | some o => rw [s2 _ _ eD] at hD3; cases hD3

end K16
set_option maxHeartbeats 1000000
set_option pp.maxSteps 500
namespace K16
open PySem PySem.Spec PyProof.Rows L2 SX TK NdefX
open C8 (pe_c)
/-! ### bills -/
structure Bl where
  n : Int
  a : Str
  b : Str
  r : Int
  e : Int
  c : Int
def Bl.v (x : Bl) : List V := [.int x.n, .str x.a, .str x.b, .int x.r, .int x.e, .int x.c]
def wdB (z : Str) : Prop := wdS z ∨ z = "ann@x" ∨ z = "zed@x"
structure BlOk (k : Int) (x : Bl) : Prop where
  n : -k < x.n ∧ x.n < k
  a : wdB x.a
  b : wdB x.b
  r : -k < x.r ∧ x.r < k
  e : -k < x.e ∧ x.e < k
  c : -k < x.c ∧ x.c < k
def spChg : Sp := fun vs H Q _ => ∃ (s c t : Addr) (x : Bl) (k : Int), vs = [.ref s, .ref t] ∧ StAt H s c ∧ H t = some (.tup x.v) ∧ BlOk k x ∧ ∀ t' (y : Bl) H', H' t' = some (.tup y.v) → BlOk (k + 1) y → StAt H' s c → Keep H H' s c → Q (.ref t') H'
theorem ok_law_changed_bill {P : Program} {w : World} {K : PySem.W.Frag} {mg : Str → Option Value} {base : Heap} {f : Addr} {fd : FuncData} (T : Tx K mg) (c_law_draw : C8.Cal P w K mg base 1 "_law_draw" spDraw [])
    (F : FunD K "_law_changed_bill" "_law_changed_bill" (defArgs s_law_changed_bill) (defBody s_law_changed_bill) (defScope s_law_changed_bill) [] [] f fd) : FnOk P w K mg base CX0 2 f fd ["state", "bill"] spChg := by
  refine F.ok sc_law_changed_bill (fun vs H Q E h => ?_) (fun cdv A outer s0 H vs Q E hr h => ?_)
  · obtain ⟨s, c, t, x, k, rfl, _⟩ := h
    rfl
  · obtain ⟨s, c, t, x, kb, rfl, hst, ht, hx, k⟩ := h
    refine ⟨_, PSs.nox (pss_cons (ps_set (i := 2) sc_law_changed_bill.nd rfl (Or.inl rfl) (pe_callTy call_list_of rfl T.f_list (by decide +kernel) (pa_cons (pv 1) pa_nil))) (pss_cons (ps_set (i := 3) sc_law_changed_bill.nd rfl (Or.inl rfl) (pe_c c_law_draw hr (by decide) rfl (pa_cons (pv 0) (pa_cons pe_int pa_nil)))) (C8.pss_cut (ps_if (pt_cmpR op_in_seq (pv 3) (pe_lst (pa_cons pe_int (pa_cons pe_int pa_nil))) (by with_unfolding_all rfl)) (pss_one (ps_asg pe_str (pg_sub (pv 2) (pv 3) set_list))) (pss_one (ps_asg (pe_op op_add (pe_ix ix_list (pv 2) (pv 3) (fun _ _ => rfl)) pe_int) (pg_sub (pv 2) (pv 3) set_list)))) (pss_one (ps_ret (pe_callTy call_tuple_of rfl T.f_tuple (by decide +kernel) (pa_cons (pv 2) pa_nil))))))), ?_⟩
    refine ⟨_, rfl, t, _, rfl, .inr (SqT.of ht), fun l hl => ?_⟩
    obtain ⟨ls, lc⟩ := hst.tracked hl
    have kl := Keep.of_same (a := s) (c := c) (same_upd (o := .lst x.v) hl)
    refine ⟨_, rfl, s, c, 6, rfl, hst.upd ls lc, by decide, by decide, fun d H1 d0 d1 st1 kp1 => ?_⟩
    have hl1 := kp1 _ _ (upd_same (a := l)) ls lc
    have k1 := kl.trans kp1
    have hl0 : H l = none := hl
    clear kl kp1
    refine ⟨fun σ' H2 => ∃ y : Bl, BlOk (kb + 1) y ∧ σ' = [some (.ref s), some (.ref t), some (.ref l), some (.int d)] ∧ H2 l = some (.lst y.v) ∧ StAt H2 s c ∧ Keep H H2 s c, ?_, ?_⟩
    · refine ⟨_, rfl, by show 2 ≤ sizeLine; decide, fun q hq => ⟨q, [.int 1, .int 2], rfl, .inl (SqL.of upd_same), rfl, by decide +kernel, _, rfl, ?_⟩⟩
      obtain ⟨qs, qc⟩ := st1.tracked hq
      have sq := same_upd (o := .lst [.int 1, .int 2]) hq
      have hl2 := sq _ _ hl1
      have st2 := st1.upd (o := .lst [.int 1, .int 2]) qs qc
      have k2 := k1.trans (Keep.of_same sq)
      show if inV (.int d) [.int 1, .int 2] = true then _ else _
      clear sq hq st1 k1 hl1 hl
      generalize upd H1 q (.lst [.int 1, .int 2]) = H2 at *
      have fin : ∀ y : Bl, BlOk (kb + 1) y → ∀ ys, ys = y.v → ∃ y : Bl, BlOk (kb + 1) y ∧ ([some (V.ref s), some (V.ref t), some (V.ref l), some (V.int d)] : L2.St) = [some (.ref s), some (.ref t), some (.ref l), some (.int d)] ∧ (upd H2 l (.lst ys)) l = some (.lst y.v) ∧ StAt (upd H2 l (.lst ys)) s c ∧ Keep H (upd H2 l (.lst ys)) s c := by
        rintro y hy ys rfl
        exact ⟨y, hy, rfl, upd_same, st2.upd ls lc, fun b o eb n1 n2 => (upd_ne (ne_of_none eb hl0)).trans (k2 b o eb n1 n2)⟩
      have m : BlOk (kb + 1) x := ⟨by have := hx.n; omega, hx.a, hx.b, by have := hx.r; omega, by have := hx.e; omega, by have := hx.c; omega⟩
      have hd : d = 0 ∨ d = 1 ∨ d = 2 ∨ d = 3 ∨ d = 4 ∨ d = 5 := by omega
      rcases hd with rfl | rfl | rfl | rfl | rfl | rfl
      · refine iteF ⟨_, rfl, _, rfl, l, _, 0, .int x.n, rfl, rfl, SqL.of hl2, rfl, _, _, rfl, rfl, _, rfl, _, rfl, l, _, 0, 0, rfl, rfl, hl2, rfl, ?_⟩
        exact fin { x with n := x.n + 1 } { m with n := ⟨by have := hx.n; show -(kb + 1) < x.n + 1; omega, by have := hx.n; show x.n + 1 < kb + 1; omega⟩ } _ rfl
      · refine iteT ⟨_, rfl, _, rfl, l, _, 1, 1, rfl, rfl, hl2, rfl, ?_⟩
        exact fin { x with a := "zed@x" } { m with a := .inr (.inr rfl) } _ rfl
      · refine iteT ⟨_, rfl, _, rfl, l, _, 2, 2, rfl, rfl, hl2, rfl, ?_⟩
        exact fin { x with b := "zed@x" } { m with b := .inr (.inr rfl) } _ rfl
      · refine iteF ⟨_, rfl, _, rfl, l, _, 3, .int x.r, rfl, rfl, SqL.of hl2, rfl, _, _, rfl, rfl, _, rfl, _, rfl, l, _, 3, 3, rfl, rfl, hl2, rfl, ?_⟩
        exact fin { x with r := x.r + 1 } { m with r := ⟨by have := hx.r; show -(kb + 1) < x.r + 1; omega, by have := hx.r; show x.r + 1 < kb + 1; omega⟩ } _ rfl
      · refine iteF ⟨_, rfl, _, rfl, l, _, 4, .int x.e, rfl, rfl, SqL.of hl2, rfl, _, _, rfl, rfl, _, rfl, _, rfl, l, _, 4, 4, rfl, rfl, hl2, rfl, ?_⟩
        exact fin { x with e := x.e + 1 } { m with e := ⟨by have := hx.e; show -(kb + 1) < x.e + 1; omega, by have := hx.e; show x.e + 1 < kb + 1; omega⟩ } _ rfl
      · refine iteF ⟨_, rfl, _, rfl, l, _, 5, .int x.c, rfl, rfl, SqL.of hl2, rfl, _, _, rfl, rfl, _, rfl, _, rfl, l, _, 5, 5, rfl, rfl, hl2, rfl, ?_⟩
        exact fin { x with c := x.c + 1 } { m with c := ⟨by have := hx.c; show -(kb + 1) < x.c + 1; omega, by have := hx.c; show x.c + 1 < kb + 1; omega⟩ } _ rfl
    · rintro σ' H2 ⟨y, hy, rfl, h2, st2, k2⟩
      refine ⟨_, rfl, l, _, rfl, .inl ⟨SqL.of h2, fun t' ht' => ?_⟩⟩
      obtain ⟨a1, a2⟩ := st2.tracked ht'
      exact k t' y _ upd_same hy (st2.upd a1 a2) (k2.trans (Keep.of_same (same_upd ht')))
end K16
set_option maxHeartbeats 1000000
set_option pp.maxSteps 500
namespace K16
open PySem PySem.Spec PyProof.Rows L2 SX TK NdefX
open C8 (pe_c)
theorem ClAt.keep {H H' : Hp} {cl s c : Addr} {A : List Ar} (h : ClAt H cl A) (k : Keep H H' s c) (n1 : cl ≠ s) (n2 : cl ≠ c) (na : ∀ x ∈ A, x.1 ≠ s ∧ x.1 ≠ c) : ClAt H' cl A := ⟨k _ _ h.l n1 n2, fun x hx => k _ _ (h.r x hx) (na x hx).1 (na x hx).2, h.n, h.d⟩
def spPend : Sp := fun vs H Q _ => ∃ (s c cl : Addr) (A : List Ar), vs = [.ref s, .ref cl] ∧ StAt H s c ∧ ClAt H cl A ∧ cl ≠ s ∧ cl ≠ c ∧ (∀ x ∈ A, x.1 ≠ s ∧ x.1 ≠ c) ∧ A.length ≤ 100 ∧ (∀ x ∈ A, small x.2.n) ∧
  ∀ r (ps : List Int) H', H r = none → H' r = some (.lst (ps.map V.int)) → ps.length ≤ A.length → (∀ n ∈ ps, small n) → StAt H' s c → Keep H H' s c → Q (.ref r) H'
theorem ok_law_pending {P : Program} {w : World} {K : PySem.W.Frag} {mg : Str → Option Value} {base : Heap} {f : Addr} {fd : FuncData} (T : Tx K mg) (c_law_draw : C8.Cal P w K mg base 1 "_law_draw" spDraw [])
    (F : FunD K "_law_pending" "_law_pending" (defArgs s_law_pending) (defBody s_law_pending) (defScope s_law_pending) [] [] f fd) : FnOk P w K mg base CX0 2 f fd ["state", "calls"] spPend := by
  refine F.ok sc_law_pending (fun vs H Q E h => ?_) (fun cdv A outer s0 H vs Q E hr h => ?_)
  · obtain ⟨s, c, cl, A, rfl, _⟩ := h
    rfl
  · obtain ⟨s, c, cl, A, rfl, hst, hA, n1, n2, na, hl, hs, k⟩ := h
    refine ⟨_, PSs.nox (pss_cons (ps_set (i := 2) sc_law_pending.nd rfl (Or.inl rfl) (pe_lst pa_nil)) (pss_cons (ps_for PassesOwn.never rfl (pi_list (pv 1)) (pg_name (i := 3) sc_law_pending.nd rfl (Or.inl rfl)) (pss_one (ps_if (pt_cmpR op_ne (pe_and (pe_cmpR op_notN (pe_ix ix_list (pv 3) pe_int (fun _ _ => rfl)) pe_non (nomark _)) (pe_one (pe_cmpR op_isN (pe_ix ix_list (pv 3) pe_int (fun _ _ => rfl)) pe_non (nomark _)))) (pe_cmpR op_eq (pe_c c_law_draw hr (by decide) rfl (pa_cons (pv 0) (pa_cons pe_int pa_nil))) pe_int (nomark _)) (nomark _)) (pss_one (ps_expr (pe_bm PySem.F.plainAttrs_list PySem.F.slot_list_append PySem.F.type_list_append mt_append (pv 2) (pa_cons (pe_ix ix_list (pv 3) pe_int (fun _ _ => rfl)) pa_nil)))) pss_nil))) (pss_one (ps_ret (pv 2))))), ?_⟩
    refine ⟨by show 0 ≤ sizeLine; decide, fun nm hnm => ?_⟩
    obtain ⟨m1, m2⟩ := hst.tracked hnm
    have kn := Keep.of_same (a := s) (c := c) (same_upd (o := .lst []) hnm)
    refine ⟨_, rfl, cl, rfl, ⟨_, SqL.of ((same_upd hnm) _ _ hA.l)⟩, for_list (K := K) (a := cl) (xs := A.map fun x => V.ref x.1) (fun i σ H' => StAt H' s c ∧ Keep H H' s c ∧ ∃ (ps : List Int) (v3 : Option V), σ = [some (.ref s), some (.ref cl), some (.ref nm), v3] ∧ H' nm = some (.lst (ps.map V.int)) ∧ ps.length ≤ i ∧ ∀ n ∈ ps, small n)
      ⟨hst.upd m1 m2, kn, [], none, rfl, upd_same, Nat.le_refl _, fun _ h => nomatch h⟩ (fun i σ H' _ q => SqL.of (q.2.1 _ _ hA.l n1 n2)) ?_ ?_⟩
    · rintro i y σ H2 hi ⟨st2, k2, ps, v3, rfl, h2, l2, p2⟩
      obtain ⟨x, hx, rfl⟩ : ∃ x, A[i]? = some x ∧ y = V.ref x.1 := by
        rw [List.getElem?_map] at hi
        obtain ⟨x, hx, e⟩ := Option.map_eq_some_iff.mp hi
        exact ⟨x, hx, e.symm⟩
      have hm := List.mem_of_getElem? hx
      have hi9 : i < A.length := (List.getElem?_eq_some_iff.mp hx).1
      have hc := k2 _ _ (hA.r x hm) (na x hm).1 (na x hm).2
      obtain ⟨p, cc⟩ := x
      have keep : ∀ H3, StAt H3 s c → Keep H2 H3 s c → StAt H3 s c ∧ Keep H H3 s c ∧ ∃ (ps : List Int) (v3 : Option V), [some (V.ref s), some (V.ref cl), some (V.ref nm), some (V.ref p)] = [some (V.ref s), some (V.ref cl), some (V.ref nm), v3] ∧ H3 nm = some (.lst (ps.map V.int)) ∧ ps.length ≤ i + 1 ∧ ∀ n ∈ ps, small n := fun H3 st3 k3 =>
        ⟨st3, k2.trans k3, ps, _, rfl, k3 _ _ h2 m1 m2, Nat.le_succ_of_le l2, p2⟩
      have add : ∀ H3, StAt H3 s c → Keep H2 H3 s c → StAt (upd H3 nm (.lst (ps.map V.int ++ [.int cc.n]))) s c ∧ Keep H (upd H3 nm (.lst (ps.map V.int ++ [.int cc.n]))) s c ∧ ∃ (ps' : List Int) (v3 : Option V), [some (V.ref s), some (V.ref cl), some (V.ref nm), some (V.ref p)] = [some (V.ref s), some (V.ref cl), some (V.ref nm), v3] ∧ (upd H3 nm (.lst (ps.map V.int ++ [.int cc.n]))) nm = some (.lst (ps'.map V.int)) ∧ ps'.length ≤ i + 1 ∧ ∀ n ∈ ps', small n := fun H3 st3 k3 => by
        refine ⟨st3.upd m1 m2, fun b o eb b1 b2 => (upd_ne (ne_of_none eb hnm)).trans ((k2.trans k3) b o eb b1 b2), ps ++ [cc.n], _, rfl, ?_, ?_, fun n hn => ?_⟩
        · rw [upd_same, List.map_append]
          rfl
        · rw [List.length_append]
          show ps.length + 1 ≤ _
          omega
        · rcases List.mem_append.mp hn with z | z
          · exact p2 n z
          · rw [List.mem_singleton.mp z]
            exact hs _ hm
      have fin : ∀ (b1 b2 : Bool) H3, StAt H3 s c → Keep H2 H3 s c → True := fun _ _ _ _ _ => trivial
      refine ⟨_, rfl, p, _, 5, oI cc.ans, rfl, rfl, SqL.of hc, rfl, rfl, _, rfl, ?_⟩
      rw [dn_I]
      have lps : (ps.map V.int).length < sizeLine := by
        rw [List.length_map, sizeLine_eq]
        omega
      cases cc.ans.isNone with
      | true =>
        refine iteF ⟨_, rfl, s, c, 8, rfl, st2, by decide, by decide, fun d H3 _ _ st3 k3 => ⟨rfl, rfl, _, rfl, ?_⟩⟩
        rw [dec_int]
        cases d == 0 with
        | true =>
          refine iteT ⟨_, rfl, .inl ⟨rfl, _, SqL.of (k3 _ _ h2 m1 m2)⟩, _, rfl, p, _, 0, .int cc.n, rfl, rfl, SqL.of (k3 _ _ hc (na _ hm).1 (na _ hm).2), rfl, nm, _, _, rfl, rfl, k3 _ _ h2 m1 m2, lps, add H3 st3 k3⟩
        | false => exact iteF (keep H3 st3 k3)
      | false =>
        refine iteT ⟨_, rfl, p, _, 6, oI cc.ended, rfl, rfl, SqL.of hc, rfl, rfl, ?_⟩
        rw [dn_I]
        refine ⟨_, rfl, s, c, 8, rfl, st2, by decide, by decide, fun d H3 _ _ st3 k3 => ⟨rfl, rfl, _, rfl, ?_⟩⟩
        rw [dec_int]
        cases cc.ended.isNone <;> cases d == 0
        · exact iteF (keep H3 st3 k3)
        · exact iteT ⟨_, rfl, .inl ⟨rfl, _, SqL.of (k3 _ _ h2 m1 m2)⟩, _, rfl, p, _, 0, .int cc.n, rfl, rfl, SqL.of (k3 _ _ hc (na _ hm).1 (na _ hm).2), rfl, nm, _, _, rfl, rfl, k3 _ _ h2 m1 m2, lps, add H3 st3 k3⟩
        · exact iteT ⟨_, rfl, .inl ⟨rfl, _, SqL.of (k3 _ _ h2 m1 m2)⟩, _, rfl, p, _, 0, .int cc.n, rfl, rfl, SqL.of (k3 _ _ hc (na _ hm).1 (na _ hm).2), rfl, nm, _, _, rfl, rfl, k3 _ _ h2 m1 m2, lps, add H3 st3 k3⟩
        · exact iteF (keep H3 st3 k3)
    · rintro σ H2 ⟨st2, k2, ps, v3, rfl, h2, l2, p2⟩
      rw [List.length_map] at l2
      exact ⟨_, rfl, k nm ps H2 hnm h2 l2 p2 st2 k2⟩
end K16
set_option maxHeartbeats 1000000
set_option pp.maxSteps 500
namespace K16
open PySem PySem.Spec PyProof.Rows L2 SX TK NdefX
open C8 (pe_c)
theorem TsAt.keep {H H' : Hp} {s c : Addr} {ts : List Addr} {bs : List (List V)} (h : TsAt H ts bs) (st : StAt H s c) (k : Keep H H' s c) : TsAt H' ts bs := by
  obtain ⟨_, ⟨n, hn⟩, ns, hc, _⟩ := st
  exact h.mono fun x b e => k _ _ e (ne_of e hn (by intro z; cases z)) (ne_of e hc (by intro z; cases z))
theorem BlOk.mono {k j : Int} {x : Bl} (h : BlOk k x) (hj : k ≤ j) : BlOk j x := ⟨by have := h.n; omega, h.a, h.b, by have := h.r; omega, by have := h.e; omega, by have := h.c; omega⟩
def St9 (H : Hp) (s c bl : Addr) (B : Int) (n : Nat) (H' : Hp) : Prop := StAt H' s c ∧ Keep H H' s c ∧ ∃ (ts : List Addr) (bs : List Bl), H' bl = some (.lst (ts.map V.ref)) ∧ TsAt H' ts (bs.map Bl.v) ∧ bs.length ≤ n ∧ ∀ b ∈ bs, BlOk (B + 3) b
theorem St9.keep {H H2 H3 : Hp} {s c bl : Addr} {B : Int} {n : Nat} (h : St9 H s c bl B n H2) (st : StAt H3 s c) (k : Keep H2 H3 s c) (m1 : bl ≠ s) (m2 : bl ≠ c) : St9 H s c bl B n H3 := by
  obtain ⟨s2, k2, ts, bs, e, t, l, o⟩ := h
  exact ⟨st, k2.trans k, ts, bs, k _ _ e m1 m2, t.keep s2 k, l, o⟩
theorem St9.same {H H2 H3 : Hp} {s c bl : Addr} {B : Int} {n : Nat} (h : St9 H s c bl B n H2) (k : Same H2 H3) : St9 H s c bl B n H3 := by
  obtain ⟨s2, k2, ts, bs, e, t, l, o⟩ := h
  exact ⟨s2.same k, k2.trans (Keep.of_same k), ts, bs, k _ _ e, t.mono fun x b q => k _ _ q, l, o⟩
theorem St9.mono {H H2 : Hp} {s c bl : Addr} {B : Int} {n m : Nat} (h : St9 H s c bl B n H2) (k : n ≤ m) : St9 H s c bl B m H2 := by
  obtain ⟨s2, k2, ts, bs, e, t, l, o⟩ := h
  exact ⟨s2, k2, ts, bs, e, t, Nat.le_trans l k, o⟩
theorem St9.push {H H2 : Hp} {s c bl : Addr} {B : Int} {n : Nat} (h : St9 H s c bl B n H2) (m1 : bl ≠ s) (m2 : bl ≠ c) (h0 : H bl = none) {t : Addr} {b : Bl} (ht : H2 t = some (.tup b.v)) (hb : BlOk (B + 3) b) (hn : n ≤ 1000) :
    ∃ ts : List Addr, H2 bl = some (.lst (ts.map V.ref)) ∧ (ts.map V.ref).length < sizeLine ∧ St9 H s c bl B (n + 1) (upd H2 bl (.lst (ts.map V.ref ++ [.ref t]))) := by
  obtain ⟨s2, k2, ts, bs, e, tt, l, o⟩ := h
  have lt := tt.len
  rw [List.length_map] at lt
  have up : ∀ {x : Addr} {q : List V}, H2 x = some (.tup q) → (upd H2 bl (.lst (ts.map V.ref ++ [.ref t]))) x = some (.tup q) := fun z => (upd_ne (ne_of z e (by intro z; cases z))).trans z
  refine ⟨ts, e, by rw [List.length_map, sizeLine_eq]; omega, s2.upd m1 m2, fun x u eu a1 a2 => (upd_ne (ne_of_none eu h0)).trans (k2 x u eu a1 a2), ts ++ [t], bs ++ [b], ?_, ?_, ?_, fun y hy => ?_⟩
  · rw [upd_same, List.map_append]
    rfl
  · rw [List.map_append]
    exact TsAt.snoc (up ht) (tt.mono fun x q z => up z)
  · rw [List.length_append]
    show bs.length + 1 ≤ _
    omega
  · rcases List.mem_append.mp hy with z | z
    · exact o y z
    · rw [List.mem_singleton.mp z]
      exact hb
structure CaOk (B u l : Int) (bds : List Bd) (x : Cl) : Prop where
  n : -B < x.n ∧ x.n < B
  w : wdS x.who
  a : ∀ i, x.ans = some i → -B < i ∧ i < B
  e : ∀ i, x.ended = some i → -B < i ∧ i < B
  c : ∀ i j, x.ans = some i → x.ended = some j → -B < costI u bds l (j - i) ∧ costI u bds l (j - i) < B
theorem odd_ok {B u l : Int} {bds : List Bd} {x : Cl} (h : CaOk B u l bds x) (hB : 10 ≤ B) : BlOk (B + 3) ⟨x.n, "ann@x", x.who, 1, 2, 3⟩ := by
  have := h.n
  refine ⟨?_, .inr (.inl rfl), .inl h.w, ?_, ?_, ?_⟩ <;> dsimp only <;> omega
def spBills (K : PySem.W.Frag) : Sp := fun vs H Q _ => ∃ (s c cl tr rt : Addr) (u l B : Int) (bds : List Bd) (A : List Ar), vs = [.ref s, .ref cl, .ref tr] ∧ StAt H s c ∧ ClAt H cl A ∧ TAt K H tr rt u bds l ∧ okU u = true ∧ okB bds = true ∧ okP l = true ∧ cl ≠ s ∧ cl ≠ c ∧ rt ≠ s ∧ rt ≠ c ∧ (∀ x ∈ A, x.1 ≠ s ∧ x.1 ≠ c) ∧ A.length ≤ 100 ∧ 10 ≤ B ∧ (∀ x ∈ A, CaOk B u l bds x.2) ∧
  ∀ r ts (bs : List Bl) H', H r = none → H' r = some (.lst (ts.map V.ref)) → TsAt H' ts (bs.map Bl.v) → bs.length ≤ 2 * A.length → (∀ b ∈ bs, BlOk (B + 3) b) → StAt H' s c → Keep H H' s c → Q (.ref r) H'
theorem ok_law_bills {P : Program} {w : World} {K : PySem.W.Frag} {mg : Str → Option Value} {base : Heap} {f : Addr} {fd : FuncData} (T : Tx K mg) (c_law_draw : C8.Cal P w K mg base 1 "_law_draw" spDraw []) (c_law_pick : C8.Cal P w K mg base 2 "_law_pick" spPick []) (c_law_changed_bill : C8.Cal P w K mg base 2 "_law_changed_bill" spChg []) (c_Tariff_cost : C8.Met P w K mg base 2 (He.ga K "Tariff") "cost" (spCost K) [])
    (F : FunD K "_law_bills" "_law_bills" (defArgs s_law_bills) (defBody s_law_bills) (defScope s_law_bills) [] [] f fd) : FnOk P w K mg base CX0 3 f fd ["state", "calls", "tariff"] (spBills K) := by
  refine F.ok sc_law_bills (fun vs H Q E h => ?_) (fun cdv A outer s0 H vs Q E hr h => ?_)
  · obtain ⟨s, c, cl, tr, rt, u, l, B, bds, A, rfl, _⟩ := h
    rfl
  · obtain ⟨s, c, cl, tr, rt, u, l, B, bds, A, rfl, hst, hA, hT, ou, ob, op, n1, n2, n3, n4, na, hl, hB, hca, k⟩ := h
    refine ⟨_, PSs.nox (pss_cons (ps_set (i := 3) sc_law_bills.nd rfl (Or.inl rfl) (pe_lst pa_nil)) (pss_cons (ps_for PassesOwn.never rfl (pi_list (pv 1)) (pg_name (i := 4) sc_law_bills.nd rfl (Or.inl rfl)) (pss_one (ps_if (PW.pt (pw_and (pt_cmpR op_notN (pe_ix ix_list (pv 4) pe_int (fun _ _ => rfl)) pe_non (nomark _)) (pw_and1 (pt_cmpR op_notN (pe_ix ix_list (pv 4) pe_int (fun _ _ => rfl)) pe_non (nomark _))))) (pss_cons (ps_set (i := 5) sc_law_bills.nd rfl (Or.inl rfl) (pe_tup (pa_cons (pe_ix ix_list (pv 4) pe_int (fun _ _ => rfl)) (pa_cons (pe_ix ix_list (pv 4) pe_int (fun _ _ => rfl)) (pa_cons (pe_ix ix_list (pv 4) pe_int (fun _ _ => rfl)) (pa_cons (pe_ix ix_list (pv 4) pe_int (fun _ _ => rfl)) (pa_cons (pe_ix ix_list (pv 4) pe_int (fun _ _ => rfl)) (pa_cons (C8.pe_mt c_Tariff_cost hr (by decide) (pv 2) (pa_cons (pe_op op_sub (pe_ix ix_list (pv 4) pe_int (fun _ _ => rfl)) (pe_ix ix_list (pv 4) pe_int (fun _ _ => rfl))) pa_nil)) pa_nil)))))))) (pss_cons (ps_set (i := 6) sc_law_bills.nd rfl (Or.inl rfl) (pe_c c_law_draw hr (by decide) rfl (pa_cons (pv 0) (pa_cons pe_int pa_nil)))) (C8.pss_cut (ps_if (pt_cmpR op_eq (pv 6) pe_int (nomark _)) (pss_one (ps_set (i := 5) sc_law_bills.nd rfl (Or.inl rfl) (pe_c c_law_changed_bill hr (by decide) rfl (pa_cons (pv 0) (pa_cons (pv 5) pa_nil))))) pss_nil) (C8.pss_cut (ps_if (pt_cmpR op_ne (pv 6) pe_int (nomark _)) (pss_one (ps_expr (pe_bm PySem.F.plainAttrs_list PySem.F.slot_list_append PySem.F.type_list_append mt_append (pv 3) (pa_cons (pv 5) pa_nil)))) pss_nil) (pss_one (ps_if (pt_cmpR op_eq (pv 6) pe_int (nomark _)) (pss_one (ps_expr (pe_bm PySem.F.plainAttrs_list PySem.F.slot_list_append PySem.F.type_list_append mt_append (pv 3) (pa_cons (pe_c c_law_pick hr (by decide) rfl (pa_cons (pv 0) (pa_cons (pe_lst (pa_cons (pv 5) (pa_cons (pe_c c_law_changed_bill hr (by decide) rfl (pa_cons (pv 0) (pa_cons (pv 5) pa_nil))) pa_nil))) pa_nil))) pa_nil)))) pss_nil)))))) (pss_one (ps_if (pt_cmpR op_eq (pe_c c_law_draw hr (by decide) rfl (pa_cons (pv 0) (pa_cons pe_int pa_nil))) pe_int (nomark _)) (pss_one (ps_expr (pe_bm PySem.F.plainAttrs_list PySem.F.slot_list_append PySem.F.type_list_append mt_append (pv 3) (pa_cons (pe_tup (pa_cons (pe_ix ix_list (pv 4) pe_int (fun _ _ => rfl)) (pa_cons (pe_ix ix_list (pv 4) pe_int (fun _ _ => rfl)) (pa_cons (pe_ix ix_list (pv 4) pe_int (fun _ _ => rfl)) (pa_cons pe_int (pa_cons pe_int (pa_cons pe_int pa_nil))))))) pa_nil)))) pss_nil))))) (pss_one (ps_ret (pv 3))))), ?_⟩
    refine ⟨by show 0 ≤ sizeLine; decide, fun bl hbl => ?_⟩
    obtain ⟨m1, m2⟩ := hst.tracked hbl
    have kn := Keep.of_same (a := s) (c := c) (same_upd (o := .lst []) hbl)
    have keepT : ∀ {H'}, Keep H H' s c → TAt K H' tr rt u bds l := fun {H'} kk => by
      obtain ⟨dx, e, t⟩ := hT
      obtain ⟨_, ⟨n, hn⟩, ns, hc, _⟩ := id hst
      exact ⟨dx, kk _ _ e (ne_of e hn (by intro z; cases z)) (ne_of e hc (by intro z; cases z)), t.keep hst kk n3 n4⟩
    refine ⟨_, rfl, cl, rfl, ⟨_, SqL.of ((same_upd hbl) _ _ hA.l)⟩, for_list (K := K) (a := cl) (xs := A.map fun x => V.ref x.1) (fun i σ H' => StAt H' s c ∧ Keep H H' s c ∧ ∃ (ts : List Addr) (bs : List Bl) (v4 v5 v6 : Option V), σ = [some (.ref s), some (.ref cl), some (.ref tr), some (.ref bl), v4, v5, v6] ∧ H' bl = some (.lst (ts.map V.ref)) ∧ TsAt H' ts (bs.map Bl.v) ∧ bs.length ≤ 2 * i ∧ ∀ b ∈ bs, BlOk (B + 3) b)
      ⟨hst.upd m1 m2, kn, [], [], none, none, none, rfl, upd_same, trivial, Nat.le_refl _, fun _ h => nomatch h⟩ (fun i σ H' _ q => SqL.of (q.2.1 _ _ hA.l n1 n2)) ?_ ?_⟩
    · rintro i y σ H2 hi ⟨st2, k2, ts, bs, v4, v5, v6, rfl, h2, t2, l2, p2⟩
      obtain ⟨x, hx, rfl⟩ : ∃ x, A[i]? = some x ∧ y = V.ref x.1 := by
        rw [List.getElem?_map] at hi
        obtain ⟨x, hx, e⟩ := Option.map_eq_some_iff.mp hi
        exact ⟨x, hx, e.symm⟩
      have hm := List.mem_of_getElem? hx
      have hi9 : i < A.length := (List.getElem?_eq_some_iff.mp hx).1
      have hc := k2 _ _ (hA.r x hm) (na x hm).1 (na x hm).2
      have cok := hca x hm
      obtain ⟨ns1, ns2⟩ := na x hm
      obtain ⟨p, cc⟩ := x
      dsimp only at *
      have S2 : St9 H s c bl B (2 * i) H2 := ⟨st2, k2, ts, bs, h2, t2, l2, p2⟩
      have don : ∀ (n : Nat) H3, n ≤ 2 * (i + 1) → St9 H s c bl B n H3 → ∀ (v5 v6 : Option V), StAt H3 s c ∧ Keep H H3 s c ∧ ∃ (ts : List Addr) (bs : List Bl) (w4 w5 w6 : Option V), ([some (V.ref s), some (V.ref cl), some (V.ref tr), some (V.ref bl), some (V.ref p), v5, v6] : L2.St) = [some (V.ref s), some (V.ref cl), some (V.ref tr), some (V.ref bl), w4, w5, w6] ∧ H3 bl = some (.lst (ts.map V.ref)) ∧ TsAt H3 ts (bs.map Bl.v) ∧ bs.length ≤ 2 * (i + 1) ∧ ∀ b ∈ bs, BlOk (B + 3) b := fun n H3 hn S v5 v6 => by
        obtain ⟨s3, k3, ts3, bs3, e3, t3, l3, o3⟩ := S
        exact ⟨s3, k3, ts3, bs3, _, _, _, rfl, e3, t3, Nat.le_trans l3 hn, o3⟩
      clear st2 ts bs h2 t2 l2 p2
      have other : ∀ Qx : Bool → Hp → Prop, True := fun _ => trivial
      refine ⟨_, rfl, p, _, 5, oI cc.ans, rfl, rfl, SqL.of hc, rfl, rfl, _, rfl, ?_⟩
      rw [dn_I]
      have hw : wdB cc.who := .inl cok.w
      cases ea : cc.ans with
      | none =>
        refine iteF (iteF ⟨_, rfl, s, c, 8, rfl, S2.1, by decide, by decide, fun d H3 _ _ st3 k3 => ⟨rfl, _, rfl, ?_⟩⟩)
        have S3 := S2.keep st3 k3 m1 m2
        have hc3 := k3 _ _ hc ns1 ns2
        rw [dec_int]
        cases d == 0 with
        | false => exact iteF (don (2 * i) H3 (by omega) S3 _ _)
        | true =>
          obtain ⟨s3, _, ts3, _, e3, _⟩ := id S3
          refine iteT ⟨_, rfl, .inl ⟨rfl, _, SqL.of e3⟩, _, rfl, p, _, 0, .int cc.n, rfl, rfl, SqL.of hc3, rfl, _, rfl, p, _, 1, .str "ann@x", rfl, rfl, SqL.of hc3, rfl, _, rfl, p, _, 2, .str cc.who, rfl, rfl, SqL.of hc3, rfl, by show 6 ≤ sizeLine; decide, fun t ht => ?_⟩
          have S4 := S3.same (same_upd (o := .tup (Bl.v ⟨cc.n, "ann@x", cc.who, 1, 2, 3⟩)) ht)
          obtain ⟨ts4, e4, l4, S5⟩ := S4.push (t := t) (b := ⟨cc.n, "ann@x", cc.who, 1, 2, 3⟩) m1 m2 hbl upd_same (odd_ok cok hB) (by omega)
          exact ⟨bl, _, _, rfl, rfl, e4, l4, don _ _ (by omega) S5 _ _⟩
      | some ai =>
        refine iteT ⟨_, rfl, p, _, 6, oI cc.ended, rfl, rfl, SqL.of hc, rfl, rfl, _, rfl, ?_⟩
        rw [dn_I]
        cases ee : cc.ended with
        | none =>
          refine iteF ⟨_, rfl, s, c, 8, rfl, S2.1, by decide, by decide, fun d H3 _ _ st3 k3 => ⟨rfl, _, rfl, ?_⟩⟩
          have S3 := S2.keep st3 k3 m1 m2
          have hc3 := k3 _ _ hc ns1 ns2
          rw [dec_int]
          cases d == 0 with
          | false => exact iteF (don (2 * i) H3 (by omega) S3 _ _)
          | true =>
            obtain ⟨s3, _, ts3, _, e3, _⟩ := id S3
            refine iteT ⟨_, rfl, .inl ⟨rfl, _, SqL.of e3⟩, _, rfl, p, _, 0, .int cc.n, rfl, rfl, SqL.of hc3, rfl, _, rfl, p, _, 1, .str "ann@x", rfl, rfl, SqL.of hc3, rfl, _, rfl, p, _, 2, .str cc.who, rfl, rfl, SqL.of hc3, rfl, by show 6 ≤ sizeLine; decide, fun t ht => ?_⟩
            have S4 := S3.same (same_upd (o := .tup (Bl.v ⟨cc.n, "ann@x", cc.who, 1, 2, 3⟩)) ht)
            obtain ⟨ts4, e4, l4, S5⟩ := S4.push (t := t) (b := ⟨cc.n, "ann@x", cc.who, 1, 2, 3⟩) m1 m2 hbl upd_same (odd_ok cok hB) (by omega)
            exact ⟨bl, _, _, rfl, rfl, e4, l4, don _ _ (by omega) S5 _ _⟩
        | some ei =>
          obtain ⟨dx, htr, htb⟩ := keepT k2
          have cv : cc.v = [.int cc.n, .str "ann@x", .str cc.who, .int cc.begun, oI cc.rang, .int ai, .int ei, oS cc.why, .str cc.m0, .str cc.m1, .int cc.mv] := by unfold Cl.v; rw [ea, ee]; rfl
          rw [cv] at hc
          refine iteT ⟨_, rfl, p, _, 0, .int cc.n, rfl, rfl, SqL.of hc, rfl, _, rfl, p, _, 1, .str "ann@x", rfl, rfl, SqL.of hc, rfl, _, rfl, p, _, 2, .str cc.who, rfl, rfl, SqL.of hc, rfl, _, rfl, p, _, 5, .int ai, rfl, rfl, SqL.of hc, rfl, _, rfl, p, _, 6, .int ei, rfl, rfl, SqL.of hc, rfl, ?_⟩
          refine ⟨_, rfl, tr, dx, _, rfl, htr, rfl, _, rfl, p, _, 6, .int ei, rfl, rfl, SqL.of hc, rfl, _, rfl, p, _, 5, .int ai, rfl, rfl, SqL.of hc, rfl, _, _, rfl, rfl, tr, rt, u, l, _, bds, rfl, ⟨dx, htr, htb⟩, ou, ob, op, by show 6 ≤ sizeLine; decide, fun t ht => ?_⟩
          have ok1 : BlOk B ⟨cc.n, "ann@x", cc.who, ai, ei, costI u bds l (ei - ai)⟩ := ⟨cok.n, .inr (.inl rfl), hw, cok.a ai ea, cok.e ei ee, cok.c ai ei ea ee⟩
          have S3 := S2.same (same_upd (o := .tup [.int cc.n, .str "ann@x", .str cc.who, .int ai, .int ei, .int (costI u bds l (ei - ai))]) ht)
          have ht3 : (upd H2 t (.tup [.int cc.n, .str "ann@x", .str cc.who, .int ai, .int ei, .int (costI u bds l (ei - ai))])) t = some (.tup (Bl.v ⟨cc.n, "ann@x", cc.who, ai, ei, costI u bds l (ei - ai)⟩)) := upd_same
          generalize upd H2 t (.tup [.int cc.n, .str "ann@x", .str cc.who, .int ai, .int ei, .int (costI u bds l (ei - ai))]) = Ht at *
          generalize (⟨cc.n, "ann@x", cc.who, ai, ei, costI u bds l (ei - ai)⟩ : Bl) = b1 at *
          have tupK : ∀ {H3 H4 : Hp} {x : Addr} {q : List V}, StAt H3 s c → Keep H3 H4 s c → H3 x = some (.tup q) → H4 x = some (.tup q) := fun s3 k3 z => by
            obtain ⟨_, ⟨n, hn⟩, ns, hcs, _⟩ := s3
            exact k3 _ _ z (ne_of z hn (by intro z; cases z)) (ne_of z hcs (by intro z; cases z))
          refine ⟨_, rfl, s, c, 8, rfl, S3.1, by decide, by decide, fun kd H4 _ _ st4 k4 => ?_⟩
          have S4 := S3.keep st4 k4 m1 m2
          have ht4 := tupK S3.1 k4 ht3
          refine ⟨fun σ' H5 => ∃ (t5 : Addr) (b5 : Bl), σ' = [some (.ref s), some (.ref cl), some (.ref tr), some (.ref bl), some (.ref p), some (.ref t5), some (.int kd)] ∧ St9 H s c bl B (2 * i) H5 ∧ H5 t5 = some (.tup b5.v) ∧ BlOk (B + 1) b5, ?_, ?_⟩
          · refine ⟨_, rfl, rfl, _, rfl, ?_⟩
            rw [dec_int]
            cases kd == 0 with
            | false => exact iteF ⟨t, b1, rfl, S4, ht4, ok1.mono (by omega)⟩
            | true => exact iteT ⟨_, rfl, _, rfl, s, c, t, b1, B, rfl, st4, ht4, ok1, fun t' y H5 h5 hy st5 k5 => ⟨t', y, rfl, S4.keep st5 k5 m1 m2, h5, hy⟩⟩
          · rintro σ' H5 ⟨t5, b5, rfl, S5, ht5, hb5⟩
            refine ⟨fun σ' H6 => σ' = [some (.ref s), some (.ref cl), some (.ref tr), some (.ref bl), some (.ref p), some (.ref t5), some (.int kd)] ∧ St9 H s c bl B (2 * i + 1) H6 ∧ H6 t5 = some (.tup b5.v), ?_, ?_⟩
            · refine ⟨_, rfl, rfl, _, rfl, ?_⟩
              rw [dec_int]
              cases kd == 1 with
              | true => exact iteF ⟨rfl, S5.mono (by omega), ht5⟩
              | false =>
                obtain ⟨ts6, e6, l6, S6⟩ := S5.push (t := t5) (b := b5) m1 m2 hbl ht5 (hb5.mono (by omega)) (by omega)
                exact iteT ⟨_, rfl, .inl ⟨rfl, _, SqL.of e6⟩, _, rfl, bl, _, _, rfl, rfl, e6, l6, rfl, S6, (upd_ne (ne_of ht5 e6 (by intro z; cases z))).trans ht5⟩
            · rintro σ' H6 ⟨rfl, S6, ht6⟩
              refine ⟨_, rfl, rfl, _, rfl, ?_⟩
              rw [dec_int]
              cases kd == 2 with
              | false => exact iteF (don _ H6 (by omega) S6 _ _)
              | true =>
                obtain ⟨s6, _, ts6, _, e6, _⟩ := id S6
                refine iteT ⟨_, rfl, .inl ⟨rfl, _, SqL.of e6⟩, _, rfl, _, rfl, _, rfl, _, rfl, s, c, t5, b5, B + 1, rfl, s6, ht6, hb5, fun t7 y7 H7 h7 hy7 st7 k7 => ⟨by show 2 ≤ sizeLine; decide, fun q hq => ?_⟩⟩
                obtain ⟨qs, qc⟩ := st7.tracked hq
                have S7 := (S6.keep st7 k7 m1 m2).same (same_upd (o := .lst [.ref t5, .ref t7]) hq)
                have ht7 := (same_upd (o := .lst [.ref t5, .ref t7]) hq) _ _ (tupK s6 k7 ht6)
                have h7' := (same_upd (o := .lst [.ref t5, .ref t7]) hq) _ _ h7
                refine ⟨s, c, _, rfl, st7.upd qs qc, .inr ⟨q, _, rfl, upd_same, qs, qc, by simp, by simp, fun v hv H9 st9 k9 => ?_⟩⟩
                obtain ⟨t9, b9, rfl, h9, hb9⟩ : ∃ (t9 : Addr) (b9 : Bl), v = .ref t9 ∧ H9 t9 = some (.tup b9.v) ∧ BlOk (B + 3) b9 := by
                  simp only [List.mem_cons, List.not_mem_nil, or_false] at hv
                  rcases hv with rfl | rfl
                  · exact ⟨t5, b5, rfl, tupK (st7.upd qs qc) k9 ht7, hb5.mono (by omega)⟩
                  · exact ⟨t7, y7, rfl, tupK (st7.upd qs qc) k9 h7', hy7.mono (by omega)⟩
                obtain ⟨tsa, ea9, la9, Sa⟩ := (S7.keep st9 k9 m1 m2).push (t := t9) (b := b9) m1 m2 hbl h9 hb9 (by omega)
                exact ⟨bl, _, _, rfl, rfl, ea9, la9, don _ _ (by omega) Sa _ _⟩
    · rintro σ H2 ⟨st2, k2, ts, bs, v4, v5, v6, rfl, h2, t2, l2, p2⟩
      rw [List.length_map] at l2
      exact ⟨_, rfl, k bl ts bs H2 hbl h2 t2 l2 p2 st2 k2⟩
end K16
set_option maxHeartbeats 1000000
set_option pp.maxSteps 500
namespace K16
open PySem PySem.Spec PyProof.Rows L2 SX TK NdefX
open C8 (pe_c)
abbrev Fd : Type := Str × Int
def fdV (f : Fd) : List V := [.str f.1, .int f.2]
def due (c : Cl) (u l : Int) (bds : List Bd) (a e : Int) : Bl := ⟨c.n, "ann@x", c.who, a, e, costI u bds l (e - a)⟩
def fnd (u l : Int) (bds : List Bd) (c : Cl) (ob : Option Bl) (pend : Bool) : List Fd :=
  match c.ans, c.ended with
  | some a, some e => (match ob with
    | none => [("none", c.n)]
    | some b => if b.v = (due c u l bds a e).v then [] else [("bill", c.n)])
  | a, _ => (if ob.isSome = true then [(("bill" : Str), c.n)] else []) ++ (if pend = a.isSome then [] else [(("pending" : Str), c.n)])
theorem eqv_bl (x y : Bl) : PyData.eqv (tupD x.v) (tupD y.v) = decide (x.v = y.v) := by
  rw [Bool.eq_iff_iff, decide_eq_true_eq]
  simp [tupD, Bl.v, vD, PyData.eqv, PyData.eqvAll]
theorem bl_ok {x : Bl} (h : ∀ v ∈ x.v, okV v) : SeqAt.shaped (tupD x.v) = true := by
  obtain ⟨a1, _, _, _, _, a6⟩ := flats h
  have c : (tupD x.v).canLay0 = true := by unfold tupD; simp [PyData.canLay0, a1]
  unfold SeqAt.shaped
  rw [c, Bool.true_and, decide_eq_true_eq]
  simp only [tupD, PyData.depth]
  omega
def obV (H : Hp) (bv : V) : Option Bl → Prop
  | none => bv = .non
  | some b => ∃ tb, bv = .ref tb ∧ H tb = some (.tup b.v) ∧ ∀ v ∈ b.v, okV v
def spJC (K : PySem.W.Frag) : Sp := fun vs H Q _ => ∃ (ct tr rt : Addr) (bv : V) (u l : Int) (bds : List Bd) (c : Cl) (ob : Option Bl) (pend : Bool), vs = [.ref ct, .ref tr, bv, .bl pend] ∧ H ct = some (.tup c.v) ∧ TAt K H tr rt u bds l ∧ okU u = true ∧ okB bds = true ∧ okP l = true ∧ obV H bv ob ∧
  (∀ a e, c.ans = some a → c.ended = some e → ∀ v ∈ (due c u l bds a e).v, okV v) ∧ ∀ r ts H', H r = none → Same H H' → H' r = some (.lst (ts.map V.ref)) → TsAt H' ts ((fnd u l bds c ob pend).map fdV) → Q (.ref r) H'
theorem ok_judge_call {P : Program} {w : World} {K : PySem.W.Frag} {mg : Str → Option Value} {base : Heap} {f : Addr} {fd : FuncData} (T : Tx K mg) (c_Tariff_cost : C8.Met P w K mg base 2 (He.ga K "Tariff") "cost" (spCost K) [])
    (F : FunD K "_judge_call" "_judge_call" (defArgs s_judge_call) (defBody s_judge_call) (defScope s_judge_call) [] [] f fd) : FnOk P w K mg base CX0 3 f fd ["call", "tariff", "bill", "is_pending"] (spJC K) := by
  refine F.ok sc_judge_call (fun vs H Q E h => ?_) (fun cdv A outer s0 H vs Q E hr h => ?_)
  · obtain ⟨ct, tr, rt, bv, u, l, bds, c, ob, pend, rfl, _⟩ := h
    rfl
  · obtain ⟨ct, tr, rt, bv, u, l, bds, c, ob, pend, rfl, hct, hT, ou, obb, op, hb, hd, k⟩ := h
    refine ⟨_, PSs.nox (pss_cons (ps_asg (pv 0) (pg_tup rfl (pgs_cons (pg_name (i := 4) sc_judge_call.nd rfl (Or.inl rfl)) (pgs_cons (pg_name (i := 5) sc_judge_call.nd rfl (Or.inl rfl)) (pgs_cons (pg_name (i := 6) sc_judge_call.nd rfl (Or.inl rfl)) (pgs_cons (pg_name (i := 7) sc_judge_call.nd rfl (Or.inl rfl)) (pgs_cons (pg_name (i := 7) sc_judge_call.nd rfl (Or.inl rfl)) (pgs_cons (pg_name (i := 8) sc_judge_call.nd rfl (Or.inl rfl)) (pgs_cons (pg_name (i := 9) sc_judge_call.nd rfl (Or.inl rfl)) (pgs_cons (pg_name (i := 7) sc_judge_call.nd rfl (Or.inl rfl)) (pgs_cons (pg_name (i := 7) sc_judge_call.nd rfl (Or.inl rfl)) (pgs_cons (pg_name (i := 7) sc_judge_call.nd rfl (Or.inl rfl)) (pgs_cons (pg_name (i := 7) sc_judge_call.nd rfl (Or.inl rfl)) pgs_nil))))))))))))) (C8.pss_cut (ps_if (PW.pt (pw_or (pt_cmpR op_isN (pv 8) pe_non (nomark _)) (pw_or1 (pt_cmpR op_isN (pv 9) pe_non (nomark _))))) (pss_cons (ps_set (i := 10) sc_judge_call.nd rfl (Or.inl rfl) (pe_cmpR op_ne (pv 3) (pe_cmpR op_notN (pv 8) pe_non (nomark _)) (nomark _))) (pss_cons (ps_set (i := 11) sc_judge_call.nd rfl (Or.inl rfl) (pe_ifExp (pt_cmpR op_notN (pv 2) pe_non (nomark _)) (pe_lst (pa_cons (pe_tup (pa_cons pe_str (pa_cons (pv 4) pa_nil))) pa_nil)) (pe_lst pa_nil))) (pss_one (ps_ret (pe_ifExp (pt_val (pv 10)) (pe_op op_cat (pv 11) (pe_lst (pa_cons (pe_tup (pa_cons pe_str (pa_cons (pv 4) pa_nil))) pa_nil))) (pv 11)))))) pss_nil) (C8.pss_cut (ps_if (pt_cmpR op_isN (pv 2) pe_non (nomark _)) (pss_one (ps_ret (pe_lst (pa_cons (pe_tup (pa_cons pe_str (pa_cons (pv 4) pa_nil))) pa_nil)))) pss_nil) (pss_cons (ps_set (i := 12) sc_judge_call.nd rfl (Or.inl rfl) (pe_tup (pa_cons (pv 4) (pa_cons (pv 5) (pa_cons (pv 6) (pa_cons (pv 8) (pa_cons (pv 9) (pa_cons (C8.pe_mt c_Tariff_cost hr (by decide) (pv 1) (pa_cons (pe_op op_sub (pv 9) (pv 8)) pa_nil)) pa_nil)))))))) (pss_one (ps_ret (pe_ifExp (pt_cmpR (op_neD hr.units) (pe_callTy call_tuple_of rfl T.f_tuple (by decide +kernel) (pa_cons (pv 2) pa_nil)) (pv 12) (nomark _)) (pe_lst (pa_cons (pe_tup (pa_cons pe_str (pa_cons (pv 4) pa_nil))) pa_nil)) (pe_lst pa_nil)))))))), ?_⟩
    refine ⟨_, rfl, ct, _, rfl, SqT.of hct, rfl, _, _, rfl, _, _, rfl, _, _, rfl, _, _, rfl, _, _, rfl, _, _, rfl, _, _, rfl, _, _, rfl, _, _, rfl, _, _, rfl, _, _, rfl, rfl, ?_⟩
    change C8.tCut _ _ _ [some (V.ref ct), some (V.ref tr), some bv, some (V.bl pend), some (V.int c.n), some (V.str "ann@x"), some (V.str c.who), some (V.int c.mv), some (oI c.ans), some (oI c.ended), none, none, none] H
    refine ⟨fun σ' H' => (c.ans ≠ none ∧ c.ended ≠ none) ∧ σ' = [some (.ref ct), some (.ref tr), some bv, some (.bl pend), some (.int c.n), some (.str "ann@x"), some (.str c.who), some (.int c.mv), some (oI c.ans), some (oI c.ended), none, none, none] ∧ H' = H, ?_, ?_⟩
    · refine ⟨_, rfl, rfl, _, rfl, ?_⟩
      rw [dn_I]
      have hfn : (c.ans = none ∨ c.ended = none) → fnd u l bds c ob pend = (if ob.isSome = true then [(("bill" : Str), c.n)] else []) ++ (if pend = c.ans.isSome then [] else [(("pending" : Str), c.n)]) := fun z => by
        unfold fnd
        cases e1 : c.ans with
        | none => rfl
        | some a =>
          cases e2 : c.ended with
          | none => rfl
          | some e =>
            rcases z with z | z
            · rw [e1] at z; cases z
            · rw [e2] at z; cases z
      have h3 : c.ans = none ∨ (∃ a, c.ans = some a ∧ c.ended = none) ∨ ∃ a e, c.ans = some a ∧ c.ended = some e := by
        cases c.ans with
        | none => exact .inl rfl
        | some a =>
          cases c.ended with
          | none => exact .inr (.inl ⟨a, rfl, rfl⟩)
          | some e => exact .inr (.inr ⟨a, e, rfl, rfl⟩)
      rcases h3 with e1 | ⟨a, e1, e2⟩ | ⟨a, e, e1, e2⟩
      rotate_left 2
      · rw [show c.ans.isNone = false by rw [e1]; rfl]
        refine iteF ⟨_, rfl, rfl, _, rfl, ?_⟩
        rw [dn_I, show c.ended.isNone = false by rw [e2]; rfl]
        exact iteF ⟨⟨by rw [e1]; simp, by rw [e2]; simp⟩, rfl, rfl⟩
      case' inl =>
        have hf := hfn (.inl e1)
        rw [show c.ans.isNone = true by rw [e1]; rfl]
        refine iteT (iteT ?_)
      case' inr.inl =>
        have hf := hfn (.inr e2)
        rw [show c.ans.isNone = false by rw [e1]; rfl]
        refine iteF ⟨_, rfl, rfl, _, rfl, ?_⟩
        rw [dn_I, show c.ended.isNone = true by rw [e2]; rfl]
        refine iteT ?_
      all_goals
        clear hfn
        refine ⟨_, rfl, _, rfl, rfl, rfl, ?_⟩
        have hw : (!decide (V.bl pend = V.bl (!decide (oI c.ans = V.non)))) = !decide (pend = c.ans.isSome) := by
          rw [dn_I]
          cases c.ans <;> cases pend <;> simp
        rw [hw]
        generalize hq : (!decide (pend = c.ans.isSome)) = wb
        refine ⟨_, rfl, rfl, _, rfl, ?_⟩
        cases ob with
        | none =>
          have hbv : bv = .non := hb
          subst hbv
          rw [show (!decide (V.non = V.non)) = false from by simp]
          refine iteF ⟨by show 0 ≤ sizeLine; decide, fun p1 h1 => ⟨_, rfl, _, rfl, ?_⟩⟩
          have s1 := same_upd (o := .lst []) h1
          have hww : (wb = false ∧ pend = c.ans.isSome) ∨ (wb = true ∧ ¬ pend = c.ans.isSome) := by
            by_cases w : pend = c.ans.isSome
            · exact .inl ⟨by rw [← hq, decide_eq_true w]; rfl, w⟩
            · exact .inr ⟨by rw [← hq, decide_eq_false w]; rfl, w⟩
          rcases hww with ⟨rfl, w⟩ | ⟨rfl, w⟩
          · exact iteF ⟨_, rfl, k p1 [] _ h1 s1 upd_same (by rw [hf, if_pos w]; trivial)⟩
          · refine iteT ⟨_, rfl, _, rfl, by show 2 ≤ sizeLine; decide, fun t2 h2 => ⟨by show 1 ≤ sizeLine; decide, fun p2 h3 => ?_⟩⟩
            have s2 := same_upd (o := .tup (fdV ("pending", c.n))) h2
            have s3 := same_upd (o := .lst [.ref t2]) h3
            refine ⟨p1, p2, _, _, rfl, rfl, s3 _ _ (s2 _ _ upd_same), upd_same, by show 1 ≤ sizeLine; decide, fun r hr => ?_⟩
            have s4 := same_upd (o := .lst ([] ++ [.ref t2])) hr
            have sa := s1.trans (s2.trans (s3.trans s4))
            refine k r [t2] _ ?_ sa upd_same (by rw [hf, if_neg w]; exact ⟨s4 _ _ (s3 _ _ upd_same), trivial⟩)
            cases eq : H r with
            | none => rfl
            | some o => exact absurd (((s1.trans (s2.trans s3)) _ _ eq).symm.trans hr) (by simp)
        | some b =>
          obtain ⟨tb, rfl, _⟩ := id hb
          rw [show (!decide (V.ref tb = V.non)) = true from by simp]
          refine iteT ⟨_, rfl, by show 2 ≤ sizeLine; decide, fun t1 h0 => ⟨by show 1 ≤ sizeLine; decide, fun p1 h1 => ⟨_, rfl, _, rfl, ?_⟩⟩⟩
          have s0 := same_upd (o := .tup (fdV ("bill", c.n))) h0
          have s1 := same_upd (o := .lst [.ref t1]) h1
          have f1 := s1 _ _ (upd_same (H := H) (a := t1) (o := .tup (fdV ("bill", c.n))))
          have hww : (wb = false ∧ pend = c.ans.isSome) ∨ (wb = true ∧ ¬ pend = c.ans.isSome) := by
            by_cases w : pend = c.ans.isSome
            · exact .inl ⟨by rw [← hq, decide_eq_true w]; rfl, w⟩
            · exact .inr ⟨by rw [← hq, decide_eq_false w]; rfl, w⟩
          rcases hww with ⟨rfl, w⟩ | ⟨rfl, w⟩
          · refine iteF ⟨_, rfl, k p1 [t1] _ ?_ (s0.trans s1) upd_same (by rw [hf, if_pos w]; exact ⟨f1, trivial⟩)⟩
            cases eq : H p1 with
            | none => rfl
            | some o => exact absurd ((s0 _ _ eq).symm.trans h1) (by simp)
          · refine iteT ⟨_, rfl, _, rfl, by show 2 ≤ sizeLine; decide, fun t2 h2 => ⟨by show 1 ≤ sizeLine; decide, fun p2 h3 => ?_⟩⟩
            have s2 := same_upd (o := .tup (fdV ("pending", c.n))) h2
            have s3 := same_upd (o := .lst [.ref t2]) h3
            refine ⟨p1, p2, _, _, rfl, rfl, s3 _ _ (s2 _ _ upd_same), upd_same, by show 2 ≤ sizeLine; decide, fun r hr => ?_⟩
            have s4 := same_upd (o := .lst ([.ref t1] ++ [.ref t2])) hr
            refine k r [t1, t2] _ ?_ (s0.trans (s1.trans (s2.trans (s3.trans s4)))) upd_same (by rw [hf, if_neg w]; exact ⟨s4 _ _ (s3 _ _ (s2 _ _ f1)), s4 _ _ (s3 _ _ upd_same), trivial⟩)
            cases eq : H r with
            | none => rfl
            | some o => exact absurd (((s0.trans (s1.trans (s2.trans s3))) _ _ eq).symm.trans hr) (by simp)
    · rintro σ' H' ⟨⟨ha, he⟩, rfl, rfl⟩
      obtain ⟨a, ea⟩ := Option.ne_none_iff_exists'.mp ha
      obtain ⟨e, ee⟩ := Option.ne_none_iff_exists'.mp he
      have kf : ∀ fs, fnd u l bds c ob pend = fs → ∀ r ts H2, H' r = none → Same H' H2 → H2 r = some (.lst (ts.map V.ref)) → TsAt H2 ts (fs.map fdV) → Q (.ref r) H2 := fun fs z r ts H2 q1 q2 q3 q4 => k r ts H2 q1 q2 q3 (by rw [z]; exact q4)
      rw [ea, ee]
      refine ⟨fun σ' H2 => ob ≠ none ∧ σ' = [some (.ref ct), some (.ref tr), some bv, some (.bl pend), some (.int c.n), some (.str "ann@x"), some (.str c.who), some (.int c.mv), some (.int a), some (.int e), none, none, none] ∧ H2 = H', ?_, ?_⟩
      · refine ⟨_, rfl, rfl, _, rfl, ?_⟩
        cases ob with
        | none =>
          have hbv : bv = .non := hb
          subst hbv
          rw [show decide (V.non = V.non) = true from decide_eq_true rfl]
          refine iteT ⟨_, rfl, by show 2 ≤ sizeLine; decide, fun t ht => ⟨by show 1 ≤ sizeLine; decide, fun p hp => ?_⟩⟩
          have pt : p ≠ t := fun z => by rw [z, upd_same] at hp; cases hp
          exact kf [("none", c.n)] (by unfold fnd; rw [ea, ee]) p [t] _ (by rw [upd_ne pt] at hp; exact hp) ((same_upd ht).trans (same_upd hp)) upd_same ⟨(upd_ne pt.symm).trans upd_same, trivial⟩
        | some b =>
          obtain ⟨tb, rfl, _⟩ := id hb
          rw [show decide (V.ref tb = V.non) = false from decide_eq_false (fun z => by cases z)]
          exact iteF ⟨by simp, rfl, rfl⟩
      · rintro σ' H2 ⟨hob, rfl, rfl⟩
        obtain ⟨b, rfl⟩ := Option.ne_none_iff_exists'.mp hob
        obtain ⟨tb, rfl, htb, okb⟩ := hb
        obtain ⟨dx, htr, htl⟩ := id hT
        refine ⟨_, rfl, _, rfl, _, rfl, _, rfl, _, rfl, _, rfl, tr, dx, _, rfl, htr, rfl, _, rfl, _, rfl, _, _, rfl, rfl, tr, rt, u, l, _, bds, rfl, hT, ou, obb, op, by show 6 ≤ sizeLine; decide, fun t ht => ?_⟩
        have st := same_upd (o := .tup (due c u l bds a e).v) ht
        have htd : (upd H2 t (.tup (due c u l bds a e).v)) t = some (.tup (due c u l bds a e).v) := upd_same
        have okd := hd a e ea ee
        have fresh : ∀ {p : Addr}, (upd H2 t (.tup (due c u l bds a e).v)) p = none → H2 p = none ∧ p ≠ t := fun {p} z => by
          have pt : p ≠ t := fun q => by rw [q, upd_same] at z; cases z
          exact ⟨by rw [upd_ne pt] at z; exact z, pt⟩
        have st2 := st _ _ htb
        refine ⟨_, rfl, tb, _, rfl, .inr ⟨SqT.of st2, _, rfl, tupD b.v, tupD (due c u l bds a e).v, .tup (SqT.of st2) (dp_vs okb), .tup (SqT.of htd) (dp_vs okd), bl_ok okb, bl_ok okd, _, rfl, ?_⟩⟩
        rw [eqv_bl]
        by_cases q : b.v = (due c u l bds a e).v
        · rw [decide_eq_true q]
          refine iteF ⟨by show 0 ≤ sizeLine; decide, fun p hp => ?_⟩
          exact kf [] (by unfold fnd; rw [ea, ee]; dsimp only; rw [if_pos q]) p [] _ (fresh hp).1 (st.trans (same_upd hp)) upd_same trivial
        · rw [decide_eq_false q]
          refine iteT ⟨_, rfl, by show 2 ≤ sizeLine; decide, fun w hw => ⟨by show 1 ≤ sizeLine; decide, fun p hp => ?_⟩⟩
          have sw := same_upd (o := .tup (fdV ("bill", c.n))) hw
          have pw : p ≠ w := fun z => by rw [z, upd_same] at hp; cases hp
          have hp2 := hp
          rw [upd_ne pw] at hp2
          exact kf [("bill", c.n)] (by unfold fnd; rw [ea, ee]; dsimp only; rw [if_neg q]) p [w] _ (fresh hp2).1 (st.trans (sw.trans (same_upd hp))) upd_same ⟨(upd_ne pw.symm).trans upd_same, trivial⟩
end K16
set_option maxHeartbeats 1000000
set_option pp.maxSteps 500
namespace K16
open PySem PySem.Spec PyProof.Rows L2 SX TK NdefX
open C8 (pe_c)
theorem flat_ints (l : List Int) : (l.map V.int).all flatV = true := by
  rw [List.all_eq_true]
  intro v hv
  obtain ⟨i, _, rfl⟩ := List.mem_map.mp hv
  rfl
theorem TsAt.get {H : Hp} : ∀ {ts : List Addr} {bs : List (List V)}, TsAt H ts bs → ∀ (i : Nat) (b : List V), bs[i]? = some b → ∃ t, (ts.map V.ref)[i]? = some (.ref t) ∧ H t = some (.tup b)
  | [], [], _, i, x, h => by cases h
  | t :: _, b :: _, h, 0, x, e => ⟨t, rfl, by rw [← Option.some.inj e]; exact h.1⟩
  | _ :: ts, _ :: bs, h, i + 1, x, e => TsAt.get h.2 i x e
  | [], _ :: _, h, _, _, _ => h.elim
  | _ :: _, [], h, _, _, _ => h.elim
def mineL (bs : List Bl) (c : Cl) : List Bl := bs.filter fun b => decide (b.n = c.n)
def lastB (bs : List Bl) (c : Cl) : Option Bl := (mineL bs c).getLast?
theorem lastB_none {bs : List Bl} {c : Cl} (h : (mineL bs c).length = 0) : lastB bs c = none := by
  unfold lastB
  rw [List.length_eq_zero_iff.mp h]
  rfl
theorem lastB_some {bs : List Bl} {c : Cl} (h : ¬ (mineL bs c).length = 0) : ∃ b, lastB bs c = some b ∧ (mineL bs c)[(mineL bs c).length - 1]? = some b ∧ b ∈ bs := by
  unfold lastB
  rw [List.getLast?_eq_getElem?]
  have : (mineL bs c).length - 1 < (mineL bs c).length := by omega
  rw [List.getElem?_eq_getElem this]
  exact ⟨_, rfl, rfl, (List.mem_filter.mp (List.getElem_mem this)).1⟩
def spLF (K : PySem.W.Frag) : Sp := fun vs H Q _ => ∃ (ca bl pd tr rt : Addr) (u l : Int) (bds : List Bd) (c : Cl) (ts : List Addr) (bs : List Bl) (ps : List Int), vs = [.ref ca, .ref bl, .ref pd, .ref tr] ∧ H ca = some (.lst c.v) ∧ H bl = some (.lst (ts.map V.ref)) ∧ TsAt H ts (bs.map Bl.v) ∧ bs.length ≤ 1000 ∧ H pd = some (.lst (ps.map V.int)) ∧ TAt K H tr rt u bds l ∧ okU u = true ∧ okB bds = true ∧ okP l = true ∧ (∀ b ∈ bs, ∀ v ∈ b.v, okV v) ∧
  (∀ a e, c.ans = some a → c.ended = some e → ∀ v ∈ (due c u l bds a e).v, okV v) ∧ ∀ r fs H', H r = none → Same H H' → H' r = some (.lst (fs.map V.ref)) → TsAt H' fs ((fnd u l bds c (lastB bs c) (inV (.int c.n) (ps.map V.int))).map fdV) → Q (.ref r) H'
theorem ok_law_findings {P : Program} {w : World} {K : PySem.W.Frag} {mg : Str → Option Value} {base : Heap} {f : Addr} {fd : FuncData} (T : Tx K mg) (c_Tariff_cost : C8.Met P w K mg base 2 (He.ga K "Tariff") "cost" (spCost K) [])
    (F : FunD K "_law_findings" "_law_findings" (defArgs s_law_findings) (defBody s_law_findings) (defScope s_law_findings) [] [] f fd) : FnOk P w K mg base CX0 3 f fd ["call", "bills", "pending", "tariff"] (spLF K) := by
  refine F.ok sc_law_findings (fun vs H Q E h => ?_) (fun cdv A outer s0 H vs Q E hr h => ?_)
  · obtain ⟨ca, bl, pd, tr, rt, u, l, bds, c, ts, bs, ps, rfl, _⟩ := h
    rfl
  · obtain ⟨ca, bl, pd, tr, rt, u, l, bds, c, ts, bs, ps, rfl, hca, hbl, hts, hlen, hpd, hT, ou, obb, op, hbk, hd, k⟩ := h
    refine ⟨_, PSs.nox (pss_cons (ps_setLc (i := 4) (own := [("bill", 7)]) (g := gName 7) rfl sc_law_findings.nd rfl rfl (sw_true rfl rfl rfl (by decide +kernel)) (pi_list (pv 1)) (blkOk_by (own := [("bill", 7)]) (N := ["call", "bills", "pending", "tariff", "mine", "found", "due", "bill"]) (sc := defScope s_law_findings) (by decide +kernel)) (fun _ _ _ _ _ => pg_name (i := 7) sc_law_findings.nd rfl (Or.inl rfl)) (fun _ _ _ _ _ => pts_one (pt_cmpR op_eq (pe_ix (ixTupK K rfl) (pv 7) pe_int (fun _ _ => rfl)) (pe_ix (ixListK K rfl) (pv 0) pe_int (fun _ _ => rfl)) (nomark _))) (fun _ _ _ _ _ => (pv 7))) (pss_cons (ps_set (i := 5) sc_law_findings.nd rfl (Or.inl rfl) (pe_lst pa_nil)) (C8.pss_cut (ps_if (PW.pt (pw_or (pt_cmpR op_isN (pe_ix ix_list (pv 0) pe_int (fun _ _ => rfl)) pe_non (nomark _)) (pw_or1 (pt_cmpR op_isN (pe_ix ix_list (pv 0) pe_int (fun _ _ => rfl)) pe_non (nomark _))))) (C8.pss_cut (ps_if (pt_cmpR op_gt (pe_callB call_len_seq rfl T.f_len PySem.boot_len (pa_cons (pv 4) pa_nil)) pe_int (nomark _)) (pss_one (ps_expr (pe_bm PySem.F.plainAttrs_list PySem.F.slot_list_append PySem.F.type_list_append mt_append (pv 5) (pa_cons (pe_tup (pa_cons pe_str (pa_cons (pe_ix ix_list (pv 0) pe_int (fun _ _ => rfl)) pa_nil))) pa_nil)))) pss_nil) (pss_one (ps_if (pt_cmpR op_ne (pe_cmpR op_notN (pe_ix ix_list (pv 0) pe_int (fun _ _ => rfl)) pe_non (nomark _)) (pe_cmpR op_in_seq (pe_ix ix_list (pv 0) pe_int (fun _ _ => rfl)) (pv 2) (by with_unfolding_all rfl)) (nomark _)) (pss_one (ps_expr (pe_bm PySem.F.plainAttrs_list PySem.F.slot_list_append PySem.F.type_list_append mt_append (pv 5) (pa_cons (pe_tup (pa_cons pe_str (pa_cons (pe_ix ix_list (pv 0) pe_int (fun _ _ => rfl)) pa_nil))) pa_nil)))) pss_nil))) (pss_one (ps_if (pt_cmpR op_eq (pe_callB call_len_seq rfl T.f_len PySem.boot_len (pa_cons (pv 4) pa_nil)) pe_int (nomark _)) (pss_one (ps_expr (pe_bm PySem.F.plainAttrs_list PySem.F.slot_list_append PySem.F.type_list_append mt_append (pv 5) (pa_cons (pe_tup (pa_cons pe_str (pa_cons (pe_ix ix_list (pv 0) pe_int (fun _ _ => rfl)) pa_nil))) pa_nil)))) (pss_cons (ps_set (i := 6) sc_law_findings.nd rfl (Or.inl rfl) (pe_tup (pa_cons (pe_ix ix_list (pv 0) pe_int (fun _ _ => rfl)) (pa_cons (pe_ix ix_list (pv 0) pe_int (fun _ _ => rfl)) (pa_cons (pe_ix ix_list (pv 0) pe_int (fun _ _ => rfl)) (pa_cons (pe_ix ix_list (pv 0) pe_int (fun _ _ => rfl)) (pa_cons (pe_ix ix_list (pv 0) pe_int (fun _ _ => rfl)) (pa_cons (C8.pe_mt c_Tariff_cost hr (by decide) (pv 3) (pa_cons (pe_op op_sub (pe_ix ix_list (pv 0) pe_int (fun _ _ => rfl)) (pe_ix ix_list (pv 0) pe_int (fun _ _ => rfl))) pa_nil)) pa_nil)))))))) (pss_one (ps_if (pt_cmpR (op_neD hr.units) (pe_ix ix_list (pv 4) (pe_op op_sub (pe_callB call_len_seq rfl T.f_len PySem.boot_len (pa_cons (pv 4) pa_nil)) pe_int) (fun _ _ => rfl)) (pv 6) (nomark _)) (pss_one (ps_expr (pe_bm PySem.F.plainAttrs_list PySem.F.slot_list_append PySem.F.type_list_append mt_append (pv 5) (pa_cons (pe_tup (pa_cons pe_str (pa_cons (pe_ix ix_list (pv 0) pe_int (fun _ _ => rfl)) pa_nil))) pa_nil)))) pss_nil)))))) (pss_one (ps_ret (pv 5)))))), ?_⟩
    have lts : ts.length = bs.length := by rw [hts.len, List.length_map]
    refine ⟨_, rfl, bl, rfl, ⟨_, SqL.of hbl⟩, fun D hD => ?_⟩
    refine lc_it walk_list (fun i H' => Same H H' ∧ ∃ us : List Addr, H' D = some (.lst (us.map V.ref)) ∧ TsAt H' us ((mineL (bs.take i) c).map Bl.v)) ⟨same_upd hD, [], upd_same, trivial⟩ (fun i H' _ q => SqL.of (q.1 _ _ hbl)) (fun i x H3 H4 hi p y => ?_) (fun H3 p => ?_)
    · obtain ⟨s3, us, e1, e2⟩ := p
      obtain ⟨rfl, hx⟩ := y
      obtain ⟨t, b, rfl, hb, ht⟩ := (hts.mono fun x b ex => s3 _ _ ex).at_ i x hx
      rw [List.getElem?_map] at hb
      obtain ⟨b0, hb0, rfl⟩ := Option.map_eq_some_iff.mp hb
      have tk : bs.take (i + 1) = bs.take i ++ [b0] := by rw [List.take_add_one, hb0]; rfl
      refine ⟨rfl, _, rfl, t, _, 0, .int b0.n, rfl, rfl, SqT.of ht, rfl, _, rfl, ca, _, 0, .int c.n, rfl, rfl, SqL.of (s3 _ _ hca), rfl, rfl, _, rfl, ?_⟩
      rw [dec_int]
      by_cases q : b0.n = c.n
      · have mk : mineL (bs.take (i + 1)) c = mineL (bs.take i) c ++ [b0] := by
          rw [tk]
          unfold mineL
          rw [List.filter_append]
          simp [q]
        rw [show (b0.n == c.n) = true by simp [q]]
        refine iteT ⟨_, rfl, _, e1, ?_, fun x o eb => (upd_ne (ne_of_none eb hD)).trans (s3 _ _ eb), us ++ [t], ?_, ?_⟩
        · have l1 := e2.len
          have l2 : (mineL (bs.take i) c).length ≤ (bs.take i).length := List.length_filter_le _ _
          rw [List.length_map] at l1
          rw [List.length_take] at l2
          rw [List.length_map, sizeLine_eq]
          omega
        · rw [upd_same, List.map_append]
          rfl
        · rw [mk, List.map_append]
          refine TsAt.snoc ((upd_ne (ne_of ht e1 (by intro z; cases z))).trans ht) (e2.mono fun x b ex => ?_)
          exact (upd_ne (ne_of ex e1 (by intro z; cases z))).trans ex
      · have mk : mineL (bs.take (i + 1)) c = mineL (bs.take i) c := by
          rw [tk]
          unfold mineL
          rw [List.filter_append]
          simp [q]
        rw [show (b0.n == c.n) = false by simp [q]]
        exact iteF ⟨s3, us, e1, by rw [mk]; exact e2⟩
    · obtain ⟨s3, us, e1, e2⟩ := p
      rw [List.length_map, lts, List.take_length] at e2
      have lus : us.length = (mineL bs c).length := by rw [e2.len, List.length_map]
      have hD0 := hD
      refine ⟨by show 0 ≤ sizeLine; decide, fun fd hfd => ?_⟩
      have s4 := s3.trans (same_upd (o := .lst []) hfd)
      have e3 := (same_upd (o := .lst []) hfd) _ _ e1
      have e4 := e2.mono fun x b ex => (same_upd (o := .lst []) hfd) _ _ ex
      have ef : (upd H3 fd (.lst [])) fd = some (.lst []) := upd_same
      have fd0 : H fd = none := by
        cases eq : H fd with
        | none => rfl
        | some o => rw [s3 _ _ eq] at hfd; cases hfd
      change C8.tCut _ _ _ [some (V.ref ca), some (V.ref bl), some (V.ref pd), some (V.ref tr), some (V.ref D), some (V.ref fd), none, none] _
      clear s3 e1 e2 hfd hD
      generalize upd H3 fd (.lst []) = H1 at *
      clear H3
      have hc1 := s4 _ _ hca
      have hp1 := s4 _ _ hpd
      generalize hpn : inV (.int c.n) (ps.map V.int) = pend at *
      refine ⟨fun σ' H' => (∃ v6, σ' = [some (.ref ca), some (.ref bl), some (.ref pd), some (.ref tr), some (.ref D), some (.ref fd), v6, none]) ∧ Same H H' ∧ ∃ fs, H' fd = some (.lst (fs.map V.ref)) ∧ TsAt H' fs ((fnd u l bds c (lastB bs c) pend).map fdV), ?_, ?_⟩
      rotate_left
      · rintro σ' H' ⟨⟨v6, rfl⟩, s5, fs, f1, f2⟩
        exact ⟨_, rfl, k fd fs H' fd0 s5 f1 f2⟩
      have one : ∀ (z : Str) (H5 : Hp) (t : Addr) (fs : List Addr) (F : List Fd) (w : List Fd), Same H H5 → H5 fd = some (.lst (fs.map V.ref)) → TsAt H5 fs (F.map fdV) → H5 t = none → w = F ++ [(z, c.n)] →
          Same H (upd (upd H5 t (.tup [.str z, .int c.n])) fd (.lst (fs.map V.ref ++ [.ref t]))) ∧ ∃ fs', (upd (upd H5 t (.tup [.str z, .int c.n])) fd (.lst (fs.map V.ref ++ [.ref t]))) fd = some (.lst (fs'.map V.ref)) ∧ TsAt (upd (upd H5 t (.tup [.str z, .int c.n])) fd (.lst (fs.map V.ref ++ [.ref t]))) fs' (w.map fdV) := by
        rintro z H5 t fs F w sm e0 tt ht rfl
        have st := same_upd (o := .tup [.str z, .int c.n]) ht
        have ft : t ≠ fd := (ne_of_none e0 ht).symm
        refine ⟨fun x o eb => (upd_ne (ne_of_none eb fd0)).trans (st _ _ (sm _ _ eb)), fs ++ [t], ?_, ?_⟩
        · rw [upd_same, List.map_append]
          rfl
        · rw [List.map_append]
          refine TsAt.snoc ((upd_ne ft).trans upd_same) (tt.mono fun x b ex => ?_)
          exact (upd_ne (ne_of ex e0 (by intro z; cases z))).trans (st _ _ ex)
      have h3 : c.ans = none ∨ (∃ a, c.ans = some a ∧ c.ended = none) ∨ ∃ a e, c.ans = some a ∧ c.ended = some e := by
        cases c.ans with
        | none => exact .inl rfl
        | some a =>
          cases c.ended with
          | none => exact .inr (.inl ⟨a, rfl, rfl⟩)
          | some e => exact .inr (.inr ⟨a, e, rfl, rfl⟩)
      have hfn : (c.ans = none ∨ c.ended = none) → fnd u l bds c (lastB bs c) pend = (if (lastB bs c).isSome = true then [(("bill" : Str), c.n)] else []) ++ (if pend = c.ans.isSome then [] else [(("pending" : Str), c.n)]) := fun z => by
        unfold fnd
        cases e1 : c.ans with
        | none => rfl
        | some a =>
          cases e2 : c.ended with
          | none => rfl
          | some e =>
            rcases z with z | z
            · rw [e1] at z; cases z
            · rw [e2] at z; cases z
      refine ⟨_, rfl, ca, _, 5, oI c.ans, rfl, rfl, SqL.of hc1, rfl, rfl, _, rfl, ?_⟩
      rw [dn_I]
      rcases h3 with e1 | ⟨a, e1, e2⟩ | ⟨a, e, ea, ee⟩
      rotate_left 2
      · have kf : ∀ fs : List Fd, fnd u l bds c (lastB bs c) pend = fs → fnd u l bds c (lastB bs c) pend = fs := fun _ z => z
        rw [show c.ans.isNone = false by rw [ea]; rfl]
        refine iteF ⟨_, rfl, ca, _, 6, oI c.ended, rfl, rfl, SqL.of hc1, rfl, rfl, _, rfl, ?_⟩
        rw [dn_I, show c.ended.isNone = false by rw [ee]; rfl]
        refine iteF ⟨_, rfl, D, _, rfl, .inl (SqL.of e3), rfl, _, rfl, ?_⟩
        rw [List.length_map, lus, dec_int]
        by_cases z : (mineL bs c).length = 0
        · rw [show (((mineL bs c).length : Int) == 0) = true by rw [z]; rfl]
          refine iteT ⟨_, rfl, .inl ⟨rfl, _, SqL.of ef⟩, _, rfl, ca, _, 0, .int c.n, rfl, rfl, SqL.of hc1, rfl, by show 2 ≤ sizeLine; decide, fun t ht => ⟨fd, _, _, rfl, rfl, (same_upd ht) _ _ ef, by show 0 < sizeLine; decide, ⟨_, rfl⟩, ?_⟩⟩
          exact one "none" H1 t [] [] _ s4 ef trivial ht (by unfold fnd; rw [ea, ee, lastB_none z]; rfl)
        · rw [show (((mineL bs c).length : Int) == 0) = false by simp only [beq_eq_false_iff_ne]; omega]
          obtain ⟨b, lb, gb, mb⟩ := lastB_some z
          have hT1 := hT.same s4
          obtain ⟨dx, htr, htl⟩ := id hT1
          have okd := hd a e ea ee
          have okb := hbk b mb
          have hx : fnd u l bds c (lastB bs c) pend = if b.v = (due c u l bds a e).v then [] else [(("bill" : Str), c.n)] := by
            unfold fnd
            rw [ea, ee, lb]
          obtain ⟨tb, gt, htb⟩ := e4.get ((mineL bs c).length - 1) b.v (by rw [List.getElem?_map, gb]; rfl)
          have hc2 := hc1
          rw [show c.v = [.int c.n, .str "ann@x", .str c.who, .int c.begun, oI c.rang, .int a, .int e, oS c.why, .str c.m0, .str c.m1, .int c.mv] by unfold Cl.v; rw [ea, ee]; rfl] at hc2
          refine iteF ⟨_, rfl, ca, _, 0, .int c.n, rfl, rfl, SqL.of hc2, rfl, _, rfl, ca, _, 1, .str "ann@x", rfl, rfl, SqL.of hc2, rfl, _, rfl, ca, _, 2, .str c.who, rfl, rfl, SqL.of hc2, rfl, _, rfl, ca, _, 5, .int a, rfl, rfl, SqL.of hc2, rfl, _, rfl, ca, _, 6, .int e, rfl, rfl, SqL.of hc2, rfl, _, rfl, tr, dx, _, rfl, htr, rfl, _, rfl, ca, _, 6, .int e, rfl, rfl, SqL.of hc2, rfl, _, rfl, ca, _, 5, .int a, rfl, rfl, SqL.of hc2, rfl, _, _, rfl, rfl, tr, rt, u, l, _, bds, rfl, hT1, ou, obb, op, by show 6 ≤ sizeLine; decide, fun t ht => ?_⟩
          have st := same_upd (o := .tup (due c u l bds a e).v) ht
          have htd : (upd H1 t (.tup (due c u l bds a e).v)) t = some (.tup (due c u l bds a e).v) := upd_same
          have ai : atI (us.map V.ref) (((us.map V.ref).length : Int) - 1) = some (.ref tb) := by
            have e0 : ((us.map V.ref).length : Int) - 1 = (((mineL bs c).length - 1 : Nat) : Int) := by rw [List.length_map, lus]; omega
            have l0 : (mineL bs c).length - 1 < (us.map V.ref).length := by rw [List.length_map, lus]; omega
            rw [e0, atN V.non (by omega) (by omega), List.getD_eq_getElem?_getD, Int.toNat_natCast, gt]
            rfl
          refine ⟨_, rfl, _, rfl, D, _, rfl, .inl (SqL.of (st _ _ e3)), _, _, rfl, rfl, D, _, _, _, rfl, rfl, SqL.of (st _ _ e3), ai, _, rfl, tupD b.v, tupD (due c u l bds a e).v, .tup (SqT.of (st _ _ htb)) (dp_vs okb), .tup (SqT.of htd) (dp_vs okd), bl_ok okb, bl_ok okd, _, rfl, ?_⟩
          rw [eqv_bl]
          by_cases q : b.v = (due c u l bds a e).v
          · rw [decide_eq_true q]
            exact iteF ⟨⟨_, rfl⟩, s4.trans st, [], st _ _ ef, by rw [hx, if_pos q]; trivial⟩
          · rw [decide_eq_false q]
            refine iteT ⟨_, rfl, .inl ⟨rfl, _, SqL.of (st _ _ ef)⟩, _, rfl, ca, _, 0, .int c.n, rfl, rfl, SqL.of (st _ _ hc1), rfl, by show 2 ≤ sizeLine; decide, fun w hw => ⟨fd, _, _, rfl, rfl, (same_upd hw) _ _ (st _ _ ef), by show 0 < sizeLine; decide, ⟨_, rfl⟩, ?_⟩⟩
            exact one "bill" _ w [] [] _ (s4.trans st) (st _ _ ef) trivial hw (by rw [hx, if_neg q]; rfl)
      case' inl =>
        have hf := hfn (.inl e1)
        rw [show c.ans.isNone = true by rw [e1]; rfl]
        refine iteT (iteT ?_)
      case' inr.inl =>
        have hf := hfn (.inr e2)
        rw [show c.ans.isNone = false by rw [e1]; rfl]
        refine iteF ⟨_, rfl, ca, _, 6, oI c.ended, rfl, rfl, SqL.of hc1, rfl, rfl, _, rfl, ?_⟩
        rw [dn_I, show c.ended.isNone = true by rw [e2]; rfl]
        refine iteT ?_
      all_goals
        clear hfn
        rw [hf]
        refine ⟨fun σ' H' => σ' = [some (.ref ca), some (.ref bl), some (.ref pd), some (.ref tr), some (.ref D), some (.ref fd), none, none] ∧ Same H H' ∧ ∃ fs, H' fd = some (.lst (fs.map V.ref)) ∧ TsAt H' fs ((if (lastB bs c).isSome = true then [(("bill" : Str), c.n)] else []).map fdV), ?_, ?_⟩
        · refine ⟨_, rfl, D, _, rfl, .inl (SqL.of e3), _, _, rfl, rfl, _, rfl, ?_⟩
          rw [List.length_map, lus]
          by_cases z : (mineL bs c).length = 0
          · rw [decide_eq_false (by omega), lastB_none z]
            exact iteF ⟨rfl, s4, [], ef, trivial⟩
          · obtain ⟨b, lb, gb, mb⟩ := lastB_some z
            rw [decide_eq_true (by omega), lb]
            refine iteT ⟨_, rfl, .inl ⟨rfl, _, SqL.of ef⟩, _, rfl, ca, _, 0, .int c.n, rfl, rfl, SqL.of hc1, rfl, by show 2 ≤ sizeLine; decide, fun t ht => ⟨fd, _, _, rfl, rfl, (same_upd ht) _ _ ef, by show 0 < sizeLine; decide, rfl, ?_⟩⟩
            exact one "bill" H1 t [] [] _ s4 ef trivial ht rfl
        · rintro σ' H5 ⟨rfl, s5, fs, f1, f2⟩
          have hc5 := s5 _ _ hca
          have hp5 := s5 _ _ hpd
          refine ⟨_, rfl, ca, _, 5, oI c.ans, rfl, rfl, SqL.of hc5, rfl, rfl, _, rfl, ca, _, 0, .int c.n, rfl, rfl, SqL.of hc5, rfl, _, rfl, pd, _, rfl, .inl (SqL.of hp5), rfl, flat_ints ps, rfl, _, rfl, ?_⟩
          have hw : (!decide (V.bl (!decide (oI c.ans = V.non)) = V.bl (if false = true then !inV (.int c.n) (ps.map V.int) else inV (.int c.n) (ps.map V.int)))) = !decide (pend = c.ans.isSome) := by
            rw [dn_I, hpn]
            cases c.ans <;> cases pend <;> simp
          rw [hw]
          by_cases w : pend = c.ans.isSome
          · rw [decide_eq_true w, if_pos w]
            exact iteF ⟨⟨_, rfl⟩, s5, fs, f1, by rw [List.append_nil]; exact f2⟩
          · rw [decide_eq_false w, if_neg w]
            refine iteT ⟨_, rfl, .inl ⟨rfl, _, SqL.of f1⟩, _, rfl, ca, _, 0, .int c.n, rfl, rfl, SqL.of hc5, rfl, by show 2 ≤ sizeLine; decide, fun t ht => ⟨fd, _, _, rfl, rfl, (same_upd ht) _ _ f1, ?_, ⟨_, rfl⟩, ?_⟩⟩
            · have := f2.len
              rw [List.length_map] at this
              rw [List.length_map, sizeLine_eq, this]
              split
              · show 1 < 16777216; decide
              · show 0 < 16777216; decide
            · exact one "pending" H5 t fs _ _ s5 f1 f2 ht rfl
end K16
set_option maxHeartbeats 1000000
set_option pp.maxSteps 500
namespace K16
open PySem PySem.Spec PyProof.Rows L2 SX TK NdefX
open C8 (pe_c)
theorem TsAt.app {H : Hp} {b : List Addr} {y : List (List V)} (h2 : TsAt H b y) : ∀ {a : List Addr} {x : List (List V)}, TsAt H a x → TsAt H (a ++ b) (x ++ y)
  | [], [], _ => h2
  | _ :: _, _ :: _, h => ⟨h.1, TsAt.app h2 h.2⟩
  | [], _ :: _, h => h.elim
  | _ :: _, [], h => h.elim
def lastN (bs : List Bl) (n : Int) : Option Bl := (bs.filter fun b => decide (b.n = n)).getLast?
theorem lastN_snoc (bs : List Bl) (b : Bl) (n : Int) : lastN (bs ++ [b]) n = if b.n = n then some b else lastN bs n := by
  unfold lastN
  rw [List.filter_append]
  by_cases q : b.n = n
  · simp [q]
  · simp [q]
theorem lastN_any (n : Int) : ∀ bs : List Bl, (lastN bs n).isSome = bs.any fun x => decide (x.n = n)
  | [] => rfl
  | b :: r => by
    have ih := lastN_any n r
    unfold lastN at *
    rw [List.any_cons, ← ih]
    by_cases q : b.n = n
    · rw [List.filter_cons_of_pos (by simp [q]), decide_eq_true q, Bool.true_or, List.getLast?_isSome]
      simp
    · rw [List.filter_cons_of_neg (by simp [q]), decide_eq_false q, Bool.false_or]
def evF (ws : List Int) : List Fd := ws.map fun w => ("event", w)
def tw1 (bs : List Bl) (b : Bl) : List Fd := if (bs.any fun x => decide (x.n = b.n)) = true then [("twice", b.n)] else []
def twN (bs : List Bl) : Nat → List Fd
  | 0 => []
  | i + 1 => twN bs i ++ (match bs[i]? with | some b => tw1 (bs.take i) b | none => [])
theorem twN_len (bs : List Bl) : ∀ i, (twN bs i).length ≤ i
  | 0 => Nat.le_refl _
  | i + 1 => by
    have ih := twN_len bs i
    unfold twN
    rw [List.length_append]
    cases bs[i]? with
    | none => show _ + 0 ≤ _; omega
    | some b =>
      have : (tw1 (bs.take i) b).length ≤ 1 := by
        unfold tw1
        split <;> simp
      show _ + (tw1 (bs.take i) b).length ≤ _
      omega
def cl1 (u l : Int) (bds : List Bd) (bs : List Bl) (ps : List Int) (c : Cl) : List Fd := fnd u l bds c (lastB bs c) (inV (.int c.n) (ps.map V.int))
def clF (u l : Int) (bds : List Bd) (bs : List Bl) (ps : List Int) (cs : List Cl) : List Fd := (cs.map (cl1 u l bds bs ps)).flatten
theorem fnd_len (u l : Int) (bds : List Bd) (c : Cl) (ob : Option Bl) (p : Bool) : (fnd u l bds c ob p).length ≤ 2 := by
  have two : ∀ (a b : Prop) [Decidable a] [Decidable b] (x y : Fd), ((if a then [x] else []) ++ (if b then [] else [y])).length ≤ 2 := by
    intro a b _ _ x y
    split <;> split <;> simp
  unfold fnd
  split
  · split
    · simp
    · split <;> simp
  · exact two _ _ _ _
theorem clF_snoc (u l : Int) (bds : List Bd) (bs : List Bl) (ps : List Int) (cs : List Cl) (c : Cl) : clF u l bds bs ps (cs ++ [c]) = clF u l bds bs ps cs ++ cl1 u l bds bs ps c := by
  unfold clF
  rw [List.map_append, List.flatten_append]
  simp
theorem clF_len (u l : Int) (bds : List Bd) (bs : List Bl) (ps : List Int) : ∀ cs : List Cl, (clF u l bds bs ps cs).length ≤ 2 * cs.length
  | [] => Nat.le_refl _
  | c :: r => by
    have ih := clF_len u l bds bs ps r
    unfold clF at *
    rw [List.map_cons, List.flatten_cons, List.length_append, List.length_cons]
    have : (cl1 u l bds bs ps c).length ≤ 2 := fnd_len ..
    omega
def CtAt (H : Hp) (kvs : List (Key × V)) (bs : List Bl) : Prop := ∀ n, (lastN bs n = none ∧ valV kvs (Sum.inl n) = none) ∨ ∃ b t, lastN bs n = some b ∧ valV kvs (Sum.inl n) = some (.ref t) ∧ H t = some (.tup b.v)
theorem CtAt.mono {H H' : Hp} {kvs : List (Key × V)} {bs : List Bl} (h : CtAt H kvs bs) (s : ∀ x b, H x = some (.tup b) → H' x = some (.tup b)) : CtAt H' kvs bs := fun n => by
  rcases h n with z | ⟨b, t, a1, a2, a3⟩
  · exact .inl z
  · exact .inr ⟨b, t, a1, a2, s _ _ a3⟩
theorem CtAt.some_ {H : Hp} {kvs : List (Key × V)} {bs : List Bl} (h : CtAt H kvs bs) (n : Int) : (valV kvs (Sum.inl n)).isSome = bs.any fun x => decide (x.n = n) := by
  rw [← lastN_any]
  rcases h n with ⟨a, b⟩ | ⟨b, t, a1, a2, a3⟩
  · rw [a, b]; rfl
  · rw [a1, a2]; rfl
theorem CtAt.put {H : Hp} {kvs : List (Key × V)} {bs : List Bl} (h : CtAt H kvs bs) {t : Addr} {b : Bl} (ht : H t = some (.tup b.v)) : CtAt H (putK kvs (Sum.inl b.n) (.ref t)) (bs ++ [b]) := fun n => by
  rw [lastN_snoc, valV_put]
  by_cases q : b.n = n
  · rw [if_pos q, if_pos (by rw [q])]
    exact .inr ⟨b, t, rfl, rfl, ht⟩
  · rw [if_neg q, if_neg (fun z => q (Sum.inl.inj z).symm)]
    exact h n
def jdg (u l : Int) (bds : List Bd) (bs : List Bl) (ps : List Int) (R : Rs) : List Fd := evF R.ws ++ twN bs bs.length ++ clF u l bds bs ps R.cs
def spJudge (K : PySem.W.Frag) : Sp := fun vs H Q _ => ∃ (ev tr rt bl pd : Addr) (u l : Int) (bds : List Bd) (ts : List Addr) (es : List Ev) (tb : List Addr) (bs : List Bl) (ps : List Int), vs = [.ref ev, .ref tr, .ref bl, .ref pd] ∧ H ev = some (.lst (ts.map V.ref)) ∧ TsAt H ts (es.map Ev.v) ∧ es.length ≤ 100 ∧ H bl = some (.lst (tb.map V.ref)) ∧ TsAt H tb (bs.map Bl.v) ∧ bs.length ≤ 1000 ∧ H pd = some (.lst (ps.map V.int)) ∧ TAt K H tr rt u bds l ∧ okU u = true ∧ okB bds = true ∧ okP l = true ∧ (∀ b ∈ bs, ∀ v ∈ b.v, okV v) ∧
  (∀ c ∈ (runN es es.length).cs, ∀ a e, c.ans = some a → c.ended = some e → ∀ v ∈ (due c u l bds a e).v, okV v) ∧ ∀ r fs H', Same H H' → H' r = some (.lst (fs.map V.ref)) → TsAt H' fs ((jdg u l bds bs ps (runN es es.length)).map fdV) → Q (.ref r) H'
theorem ok_judge {P : Program} {w : World} {K : PySem.W.Frag} {mg : Str → Option Value} {base : Heap} {f : Addr} {fd : FuncData} (T : Tx K mg) (c_tell : C8.Cal P w K mg base 4 "tell" (spTell K) []) (c_judge_call : C8.Cal P w K mg base 3 "_judge_call" (spJC K) [])
    (F : FunD K "judge" "judge" (defArgs s_judge) (defBody s_judge) (defScope s_judge) [] [] f fd) : FnOk P w K mg base CX0 5 f fd ["events", "tariff", "bills", "pending"] (spJudge K) := by
  refine F.ok sc_judge (fun vs H Q E h => ?_) (fun cdv A outer s0 H vs Q E hr h => ?_)
  · obtain ⟨ev, tr, rt, bl, pd, u, l, bds, ts, es, tb, bs, ps, rfl, _⟩ := h
    rfl
  · obtain ⟨ev, tr, rt, bl, pd, u, l, bds, ts, es, tb, bs, ps, rfl, hev, hts, hes, hbl, htb, hbs, hpd, hT, ou, obb, op, okb, okd, k⟩ := h
    refine ⟨_, PSs.nox (pss_cons (ps_asg (pe_c c_tell hr (by decide) rfl (pa_cons (pv 0) pa_nil)) (pg_tup rfl (pgs_cons (pg_name (i := 4) sc_judge.nd rfl (Or.inl rfl)) (pgs_cons (pg_name (i := 5) sc_judge.nd rfl (Or.inl rfl)) pgs_nil)))) (pss_cons (ps_setLc (i := 6) (own := [("index", 11)]) (g := gName 11) rfl sc_judge.nd rfl rfl (sw_true rfl rfl rfl (by decide +kernel)) (pi_list (pv 5)) (blkOk_by (own := [("index", 11)]) (N := ["events", "tariff", "bills", "pending", "calls", "wrong", "findings", "counting", "bill", "number", "call", "index"]) (sc := defScope s_judge) (by decide +kernel)) (fun _ _ _ _ _ => pg_name (i := 11) sc_judge.nd rfl (Or.inl rfl)) (fun _ _ _ _ _ => pts_nil) (fun _ _ _ _ _ => (pe_tup (pa_cons pe_str (pa_cons (pv 11) pa_nil))))) (pss_cons (ps_set (i := 7) sc_judge.nd rfl (Or.inl rfl) pe_dnewK) (pss_cons (ps_for PassesOwn.never rfl (pi_list (pv 2)) (pg_name (i := 8) sc_judge.nd rfl (Or.inl rfl)) (pss_cons (ps_set (i := 9) sc_judge.nd rfl (Or.inl rfl) (pe_ix ix_tup (pv 8) pe_int (fun _ _ => rfl))) (C8.pss_cut (ps_if (pt_cmp (pc_din (hu_of hr) (pv 9) (pv 7))) (pss_one (ps_expr (pe_bm PySem.F.plainAttrs_list PySem.F.slot_list_append PySem.F.type_list_append mt_append (pv 6) (pa_cons (pe_tup (pa_cons pe_str (pa_cons (pv 9) pa_nil))) pa_nil)))) pss_nil) (pss_one (ps_dput (hu_of hr) (pv 7) (pv 9) (pv 8) rfl))))) (pss_cons (ps_for PassesOwn.never rfl (pi_list (pv 4)) (pg_name (i := 10) sc_judge.nd rfl (Or.inl rfl)) (pss_cons (ps_set (i := 9) sc_judge.nd rfl (Or.inl rfl) (pe_ix ix_tup (pv 10) pe_int (fun _ _ => rfl))) (pss_one (ps_expr (pe_bm PySem.F.plainAttrs_list PySem.F.slot_list_extend PySem.F.type_list_extend mt_extend (pv 6) (pa_cons (pe_c c_judge_call hr (by decide) rfl (pa_cons (pv 10) (pa_cons (pv 1) (pa_cons (pe_dget1 (hu_of hr) (pv 7) (pv 9) ⟨rfl, by rfl, rfl, rfl⟩) (pa_cons (pe_cmpR op_in_seq (pv 9) (pv 3) (by with_unfolding_all rfl)) pa_nil))))) pa_nil)))))) (pss_one (ps_ret (pv 6)))))))), ?_⟩
    have ltb : tb.length = bs.length := by rw [htb.len, List.length_map]
    refine ⟨_, rfl, ev, ts, es, rfl, hev, hts, hes, fun r pa wr us H1 s1 hr1 hpa hus hwr => ⟨r, _, rfl, SqT.of hr1, rfl, _, _, rfl, _, _, rfl, rfl, ?_⟩⟩
    have lcs := run_len es es.length
    generalize runN es es.length = R at *
    refine ⟨_, rfl, wr, rfl, ⟨_, SqL.of hwr⟩, fun D hD => ?_⟩
    refine lc_itN walk_list (fun i H' => Same H1 H' ∧ ∃ fs : List Addr, H' D = some (.lst (fs.map V.ref)) ∧ TsAt H' fs ((evF (R.ws.take i)).map fdV)) ⟨same_upd hD, [], upd_same, trivial⟩ (fun i H' _ q => SqL.of (q.1 _ _ hwr)) (fun i x H3 H4 hi p y => ?_) (fun H3 p => ?_)
    · obtain ⟨s3, fs, e1, e2⟩ := p
      obtain ⟨rfl, hx⟩ := y
      rw [List.length_map] at hi
      rw [List.getElem?_map, List.getElem?_eq_getElem hi] at hx
      obtain rfl := Option.some.inj hx
      refine ⟨rfl, _, rfl, by show 2 ≤ sizeLine; decide, fun t ht => ?_⟩
      have tD : t ≠ D := (ne_of_none e1 ht).symm
      refine ⟨_, (upd_ne tD.symm).trans e1, ?_, fun b o eb => (upd_ne (ne_of_none eb hD)).trans ((same_upd ht) _ _ (s3 _ _ eb)), fs ++ [t], ?_, ?_⟩
      · have := e2.len
        unfold evF at this
        rw [List.length_map, List.length_map, List.length_take] at this
        rw [List.length_map, sizeLine_eq]
        omega
      · rw [upd_same, List.map_append]
        rfl
      · have tk : evF (R.ws.take (i + 1)) = evF (R.ws.take i) ++ [(("event" : Str), R.ws[i])] := by
          rw [List.take_add_one, List.getElem?_eq_getElem hi]
          unfold evF
          rw [List.map_append]
          rfl
        rw [tk, List.map_append]
        exact TsAt.snoc ((upd_ne tD).trans upd_same) (e2.mono fun x b ex => (upd_ne (ne_of ex e1 (by intro z; cases z))).trans ((same_upd ht) _ _ ex))
    · obtain ⟨s3, fs0, e1, e2⟩ := p
      rw [List.length_map, List.take_length] at e2
      have D0 : H D = none := by
        cases eq : H D with
        | none => rfl
        | some o => rw [s1 _ _ eq] at hD; cases hD
      refine fun d hd => ?_
      have sd := same_upd (o := .dK []) hd
      have d0 : H d = none := by
        cases eq : H d with
        | none => rfl
        | some o => rw [s3 _ _ (s1 _ _ eq)] at hd; cases hd
      have s4 := (s1.trans s3).trans sd
      have e3 := sd _ _ e1
      have e4 := e2.mono fun x b ex => sd _ _ ex
      have hpa4 := sd _ _ (s3 _ _ hpa)
      have hus4 := hus.mono fun x b ex => sd _ _ (s3 _ _ ex)
      have ed : (upd H3 d (.dK [])) d = some (.dK []) := upd_same
      have D1 := hD
      have pD : pa ≠ D := fun z => by rw [z, hD] at hpa; cases hpa
      clear s3 e1 e2 hd sd hD s1 hr1 hpa hus hwr
      generalize upd H3 d (.dK []) = H5 at *
      clear H3
      refine ⟨_, rfl, bl, rfl, ⟨_, SqL.of (s4 _ _ hbl)⟩, for_list (K := K) (a := bl) (xs := tb.map V.ref) (fun i σ H' => Same H H' ∧ H' pa = some (.lst (us.map V.ref)) ∧ TsAt H' us (R.cs.map Cl.v) ∧ ∃ (fs : List Addr) (kvs : List (Key × V)) (v8 v9 : Option V), σ = [some (.ref ev), some (.ref tr), some (.ref bl), some (.ref pd), some (.ref pa), some (.ref wr), some (.ref D), some (.ref d), v8, v9, none, none] ∧ H' D = some (.lst (fs.map V.ref)) ∧ TsAt H' fs ((evF R.ws ++ twN bs i).map fdV) ∧ H' d = some (.dK kvs) ∧ kvs.length ≤ i ∧ CtAt H' kvs (bs.take i))
        ⟨s4, hpa4, hus4, fs0, [], none, none, rfl, e3, by rw [show twN bs 0 = [] from rfl, List.append_nil]; exact e4, ed, Nat.le_refl _, fun n => .inl ⟨rfl, rfl⟩⟩ (fun i σ H' _ q => SqL.of (q.1 _ _ hbl)) ?_ ?_⟩
      · clear s4 e3 e4 ed hpa4 hus4 H5
        rintro i y σ H2 hi ⟨s2, hpa2, hus2, fs, kvs, v8, v9, rfl, f1, f2, f3, f4, f5⟩
        obtain ⟨t, b', rfl, hb, ht⟩ := (htb.mono fun x b ex => s2 _ _ ex).at_ i y hi
        rw [List.getElem?_map] at hb
        obtain ⟨b, hb0, rfl⟩ := Option.map_eq_some_iff.mp hb
        have hi9 : i < bs.length := (List.getElem?_eq_some_iff.mp hb0).1
        have tk : bs.take (i + 1) = bs.take i ++ [b] := by rw [List.take_add_one, hb0]; rfl
        have tw : twN bs (i + 1) = twN bs i ++ tw1 (bs.take i) b := by
          show twN bs i ++ (match bs[i]? with | some b => tw1 (bs.take i) b | none => []) = _
          rw [hb0]
        have lfs := f2.len
        have l9 := twN_len bs i
        unfold evF at lfs
        rw [List.length_map, List.length_append, List.length_map] at lfs
        refine ⟨_, rfl, t, _, 0, .int b.n, rfl, rfl, SqT.of ht, rfl, ?_⟩
        have dD : d ≠ D := ne_of f3 f1 (by intro z; cases z)
        have dpa : d ≠ pa := ne_of f3 hpa2 (by intro z; cases z)
        refine ⟨fun σ' H' => σ' = [some (.ref ev), some (.ref tr), some (.ref bl), some (.ref pd), some (.ref pa), some (.ref wr), some (.ref D), some (.ref d), some (.ref t), some (.int b.n), none, none] ∧ Same H H' ∧ H' pa = some (.lst (us.map V.ref)) ∧ TsAt H' us (R.cs.map Cl.v) ∧ H' t = some (.tup b.v) ∧ ∃ fs : List Addr, H' D = some (.lst (fs.map V.ref)) ∧ TsAt H' fs ((evF R.ws ++ twN bs (i + 1)).map fdV) ∧ H' d = some (.dK kvs) ∧ CtAt H' kvs (bs.take i), ?_, ?_⟩
        · refine ⟨_, rfl, _, rfl, d, _, rfl, DGet.k (k := Sum.inl b.n) f3, _, rfl, ?_⟩
          rw [f5.some_]
          by_cases q : ((bs.take i).any fun x => decide (x.n = b.n)) = true
          · rw [q]
            refine iteT ⟨_, rfl, .inl ⟨rfl, _, SqL.of f1⟩, _, rfl, by show 2 ≤ sizeLine; decide, fun w hw => ⟨D, _, _, rfl, rfl, (same_upd hw) _ _ f1, by rw [List.length_map, sizeLine_eq]; omega, rfl, ?_⟩⟩
            have sw := same_upd (o := .tup [.str "twice", .int b.n]) hw
            have wD : w ≠ D := (ne_of_none f1 hw).symm
            have ut : ∀ {x : Addr} {b' : List V}, H2 x = some (.tup b') → (upd (upd H2 w (.tup [.str "twice", .int b.n])) D (.lst (fs.map V.ref ++ [.ref w]))) x = some (.tup b') := fun z => (upd_ne (ne_of z f1 (by intro z; cases z))).trans (sw _ _ z)
            refine ⟨fun x o eb => (upd_ne (ne_of_none eb D0)).trans (sw _ _ (s2 _ _ eb)), (upd_ne pD).trans (sw _ _ hpa2), hus2.mono fun x b z => ut z, ut ht, fs ++ [w], ?_, ?_, (upd_ne dD).trans (sw _ _ f3), f5.mono fun x b z => ut z⟩
            · rw [upd_same, List.map_append]
              rfl
            · rw [tw, ← List.append_assoc, show tw1 (bs.take i) b = [(("twice" : Str), b.n)] by unfold tw1; rw [if_pos q], List.map_append]
              exact TsAt.snoc ((upd_ne wD).trans upd_same) (f2.mono fun x b z => ut z)
          · rw [show ((bs.take i).any fun x => decide (x.n = b.n)) = false by simpa using q]
            refine iteF ⟨rfl, s2, hpa2, hus2, ht, fs, f1, ?_, f3, f5⟩
            rw [tw, ← List.append_assoc, show tw1 (bs.take i) b = [] by unfold tw1; rw [if_neg q], List.append_nil]
            exact f2
        · rintro σ' H6 ⟨rfl, s6, hpa6, hus6, ht6, fs6, g1, g2, g3, g5⟩
          refine ⟨_, rfl, _, rfl, _, rfl, d, _, rfl, DPut.k (k := Sum.inl b.n) g3 (by rw [sizeLine_eq]; omega), ?_⟩
          have ut : ∀ {x : Addr} {b' : List V}, H6 x = some (.tup b') → (upd H6 d (.dK (putK kvs (Sum.inl b.n) (.ref t)))) x = some (.tup b') := fun z => (upd_ne (ne_of z g3 (by intro z; cases z))).trans z
          refine ⟨fun x o eb => (upd_ne (ne_of_none eb d0)).trans (s6 _ _ eb), (upd_ne dpa.symm).trans hpa6, hus6.mono fun x b z => ut z, fs6, _, _, _, rfl, (upd_ne dD.symm).trans g1, g2.mono fun x b z => ut z, upd_same, ?_, ?_⟩
          · have := length_putK kvs (Sum.inl b.n) (.ref t)
            omega
          · rw [tk]
            exact (g5.put ht6).mono fun x b z => ut z
      · clear s4 e3 e4 ed hpa4 hus4 H5
        rintro σ H2 ⟨s2, hpa2, hus2, fs, kvs, v8, v9, rfl, f1, f2, f3, f4, f5⟩
        rw [List.length_map, ltb] at f2 f4 f5
        rw [List.take_length] at f5
        refine ⟨_, rfl, pa, rfl, ⟨_, SqL.of hpa2⟩, for_list (K := K) (a := pa) (xs := us.map V.ref) (fun i σ H' => Same H H' ∧ H' pa = some (.lst (us.map V.ref)) ∧ TsAt H' us (R.cs.map Cl.v) ∧ ∃ (fs : List Addr) (v9 v10 : Option V), σ = [some (.ref ev), some (.ref tr), some (.ref bl), some (.ref pd), some (.ref pa), some (.ref wr), some (.ref D), some (.ref d), v8, v9, v10, none] ∧ H' D = some (.lst (fs.map V.ref)) ∧ TsAt H' fs ((evF R.ws ++ twN bs bs.length ++ clF u l bds bs ps (R.cs.take i)).map fdV) ∧ H' d = some (.dK kvs) ∧ CtAt H' kvs bs)
          ⟨s2, hpa2, hus2, fs, v9, none, rfl, f1, by rw [List.take_zero, show clF u l bds bs ps [] = [] from rfl, List.append_nil]; exact f2, f3, f5⟩ (fun i σ H' _ q => SqL.of q.2.1) ?_ ?_⟩
        · clear s2 hpa2 hus2 f1 f2 f3 f5 H2
          rintro i y σ H2 hi ⟨s2, hpa2, hus2, fs, v9, v10, rfl, f1, f2, f3, f5⟩
          obtain ⟨t, b', rfl, hb, ht⟩ := hus2.at_ i y hi
          rw [List.getElem?_map] at hb
          obtain ⟨c, hb0, rfl⟩ := Option.map_eq_some_iff.mp hb
          have hi9 : i < R.cs.length := (List.getElem?_eq_some_iff.mp hb0).1
          have tk : R.cs.take (i + 1) = R.cs.take i ++ [c] := by rw [List.take_add_one, hb0]; rfl
          have lfs := f2.len
          have l9 := twN_len bs bs.length
          have l8 := clF_len u l bds bs ps (R.cs.take i)
          unfold evF at lfs
          rw [List.length_map, List.length_append, List.length_append, List.length_map] at lfs
          rw [List.length_take] at l8
          have hpd2 := s2 _ _ hpd
          refine ⟨_, rfl, t, _, 0, .int c.n, rfl, rfl, SqT.of ht, rfl, ?_⟩
          refine ⟨_, rfl, .inl ⟨rfl, _, SqL.of f1⟩, _, rfl, _, rfl, _, rfl, d, rfl, .inl ⟨_, .inl f3⟩, _, rfl, _, DGet.k (k := Sum.inl c.n) f3, _, rfl, _, rfl, pd, _, rfl, .inl (SqL.of hpd2), rfl, flat_ints ps, ?_⟩
          refine ⟨t, tr, rt, _, u, l, bds, c, lastB bs c, inV (.int c.n) (ps.map V.int), rfl, ht, hT.same s2, ou, obb, op, ?_, okd c (List.mem_of_getElem? hb0), fun r1 ts1 H6 hr6 s6 er6 tr6 => ?_⟩
          · rcases f5 c.n with ⟨a1, a2⟩ | ⟨b, tb1, a1, a2, a3⟩
            · rw [a2]
              show obV H2 _ (lastN bs c.n)
              rw [a1]
              exact rfl
            · rw [a2]
              show obV H2 _ (lastN bs c.n)
              have mb : b ∈ bs := (List.mem_filter.mp (List.mem_of_getLast? a1)).1
              rw [a1]
              exact ⟨tb1, rfl, a3, okb b mb⟩
          · have fl := fnd_len u l bds c (lastB bs c) (inV (.int c.n) (ps.map V.int))
            have lt1 := tr6.len
            rw [List.length_map] at lt1
            have rD : r1 ≠ D := (ne_of_none f1 hr6).symm
            refine ⟨D, r1, _, _, rfl, rfl, s6 _ _ f1, er6, by rw [List.length_map, List.length_map, sizeLine_eq]; omega, ?_⟩
            have dD : d ≠ D := ne_of f3 f1 (by intro z; cases z)
            have ut : ∀ {x : Addr} {b' : List V}, H6 x = some (.tup b') → (upd H6 D (.lst (fs.map V.ref ++ ts1.map V.ref))) x = some (.tup b') := fun z => (upd_ne (ne_of z (s6 _ _ f1) (by intro z; cases z))).trans z
            refine ⟨fun x o eb => (upd_ne (ne_of_none eb D0)).trans (s6 _ _ (s2 _ _ eb)), (upd_ne pD).trans (s6 _ _ hpa2), hus2.mono fun x b z => ut (s6 _ _ z), fs ++ ts1, _, _, rfl, ?_, ?_, (upd_ne dD).trans (s6 _ _ f3), f5.mono fun x b z => ut (s6 _ _ z)⟩
            · rw [upd_same, List.map_append]
            · rw [tk, clF_snoc, ← List.append_assoc, List.map_append]
              exact TsAt.app (tr6.mono fun x b z => ut z) (f2.mono fun x b z => ut (s6 _ _ z))
        · clear s2 hpa2 hus2 f1 f2 f3 f5 H2
          rintro σ H2 ⟨s2, hpa2, hus2, fs, v9, v10, rfl, f1, f2, f3, f5⟩
          have e9 := hus2.len
          rw [List.length_map] at e9
          rw [List.length_map, e9, List.take_length] at f2
          exact ⟨_, rfl, k D fs H2 s2 f1 f2⟩
end K16
set_option maxHeartbeats 1000000
set_option pp.maxSteps 500
namespace K16
open PySem PySem.Spec PyProof.Rows L2 SX TK NdefX
open C8 (pe_c)
abbrev BB : Int := 100000000
abbrev bd1 : List Bd := [(2, 5)]
theorem cost_bd {u sp : Int} (h1 : 1 ≤ u) (h2 : u ≤ 4) (h3 : -3000000 < sp) (h4 : sp < 3000000) : -BB < costI u bd1 1 sp ∧ costI u bd1 1 sp < BB := by
  have e : costI u bd1 1 sp = 0 + minI (unitsI u sp) 2 * 5 + (unitsI u sp - minI (unitsI u sp) 2) * 1 := rfl
  rw [e]
  unfold minI unitsI BB
  obtain rfl | rfl | rfl | rfl : u = 1 ∨ u = 2 ∨ u = 3 ∨ u = 4 := by omega
  all_goals
    split <;> omega
theorem ca_ok {k : Nat} {c : Cl} {u : Int} (h : ClOk k c) (h1 : 1 ≤ u) (h2 : u ≤ 4) : CaOk BB u 1 bd1 c := by
  refine ⟨?_, h.w, fun i hi => ?_, fun i hi => ?_, fun i j hi hj => ?_⟩
  · have := h.n
    unfold small at this
    unfold BB
    omega
  · have := h.a i hi
    unfold small at this
    unfold BB
    omega
  · have := h.e i hi
    unfold small at this
    unfold BB
    omega
  · have a := h.a i hi
    have b := h.e j hj
    unfold small at a b
    exact cost_bd h1 h2 (by omega) (by omega)
theorem wdB.ok {z : Str} (h : wdB z) : okV (.str z) := by
  rcases h with h | rfl | rfl
  · exact h.ok
  · exact ⟨by decide +kernel, by decide +kernel⟩
  · exact ⟨by decide +kernel, by decide +kernel⟩
theorem bl_okV {x : Bl} (h : BlOk (BB + 3) x) : ∀ v ∈ x.v, okV v := by
  intro v hv
  simp only [Bl.v, List.mem_cons, List.not_mem_nil, or_false] at hv
  have h1 := h.n
  have h2 := h.r
  have h3 := h.e
  have h4 := h.c
  unfold BB at h1 h2 h3 h4
  rcases hv with rfl | rfl | rfl | rfl | rfl | rfl
  · exact ⟨by omega, by omega⟩
  · exact h.a.ok
  · exact h.b.ok
  · exact ⟨by omega, by omega⟩
  · exact ⟨by omega, by omega⟩
  · exact ⟨by omega, by omega⟩
theorem due_okV {k : Nat} {c : Cl} {u : Int} (h : ClOk k c) (h1 : 1 ≤ u) (h2 : u ≤ 4) : ∀ a e, c.ans = some a → c.ended = some e → ∀ v ∈ (due c u 1 bd1 a e).v, okV v := by
  intro a e ea ee
  have k9 := ca_ok h h1 h2
  have q1 := k9.n
  have q2 := k9.a a ea
  have q3 := k9.e e ee
  have q4 := k9.c a e ea ee
  unfold BB at *
  exact bl_okV (x := due c u 1 bd1 a e) ⟨⟨by dsimp only [due]; unfold BB; omega, by dsimp only [due]; unfold BB; omega⟩, .inr (.inl rfl), .inl h.w, ⟨by dsimp only [due]; unfold BB; omega, by dsimp only [due]; unfold BB; omega⟩, ⟨by dsimp only [due]; unfold BB; omega, by dsimp only [due]; unfold BB; omega⟩, ⟨by dsimp only [due]; unfold BB; omega, by dsimp only [due]; unfold BB; omega⟩⟩
structure FdOk (f : Fd) : Prop where
  z : f.1 = "event" ∨ f.1 = "twice" ∨ f.1 = "bill" ∨ f.1 = "none" ∨ f.1 = "pending"
  i : big f.2
theorem fd_okV {f : Fd} (h : FdOk f) : ∀ v ∈ fdV f, okV v := by
  intro v hv
  simp only [fdV, List.mem_cons, List.not_mem_nil, or_false] at hv
  rcases hv with rfl | rfl
  · rcases h.z with z | z | z | z | z <;> rw [z] <;> exact ⟨by decide +kernel, by decide +kernel⟩
  · exact h.i
theorem fnd_ok {u l : Int} {bds : List Bd} {c : Cl} {ob : Option Bl} {p : Bool} (h : big c.n) : ∀ f ∈ fnd u l bds c ob p, FdOk f := by
  have two : ∀ (a b : Prop) [Decidable a] [Decidable b], ∀ f ∈ (if a then [(("bill" : Str), c.n)] else []) ++ (if b then [] else [(("pending" : Str), c.n)]), FdOk f := by
    intro a b _ _ f hf
    rcases List.mem_append.mp hf with z | z
    · split at z
      · rw [List.mem_singleton.mp z]
        exact ⟨by simp, h⟩
      · cases z
    · split at z
      · cases z
      · rw [List.mem_singleton.mp z]
        exact ⟨by simp, h⟩
  intro f hf
  unfold fnd at hf
  split at hf
  · split at hf
    · rw [List.mem_singleton.mp hf]
      exact ⟨by simp, h⟩
    · split at hf
      · cases hf
      · rw [List.mem_singleton.mp hf]
        exact ⟨by simp, h⟩
  · exact two _ _ f hf
theorem jdg_ok {u l : Int} {bds : List Bd} {bs : List Bl} {ps : List Int} {R : Rs} (h1 : ∀ w ∈ R.ws, big w) (h2 : ∀ b ∈ bs, big b.n) (h3 : ∀ c ∈ R.cs, big c.n) : ∀ f ∈ jdg u l bds bs ps R, FdOk f := by
  have tw : ∀ i, ∀ f ∈ twN bs i, FdOk f := by
    intro i
    induction i with
    | zero => exact fun f z => nomatch z
    | succ i ih =>
      intro f hf
      unfold twN at hf
      rcases List.mem_append.mp hf with z | z
      · exact ih f z
      · cases eb : bs[i]? with
        | none => rw [eb] at z; cases z
        | some b =>
          rw [eb] at z
          have z' : f ∈ tw1 (bs.take i) b := z
          unfold tw1 at z'
          split at z'
          · rw [List.mem_singleton.mp z']
            exact ⟨by simp, h2 b (List.mem_of_getElem? eb)⟩
          · cases z'
  intro f hf
  unfold jdg at hf
  rcases List.mem_append.mp hf with z | z
  · rcases List.mem_append.mp z with z | z
    · unfold evF at z
      obtain ⟨w, hw, rfl⟩ := List.mem_map.mp z
      exact ⟨by simp, h1 w hw⟩
    · exact tw _ f z
  · unfold clF at z
    obtain ⟨x, hx, hf⟩ := List.mem_flatten.mp z
    obtain ⟨c, hc, rfl⟩ := List.mem_map.mp hx
    exact fnd_ok (h3 c hc) f hf
def lstD (b : List V) : PyData := .list (b.map vD)
theorem lstD_dp {K : PySem.W.Frag} {H : Hp} {a : Addr} {b : List V} (e : H a = some (.lst b)) (h : ∀ v ∈ b, okV v) : Dp K H (.ref a) (lstD b) := .lst (SqL.of e) (dp_vs h)
def repD (es : List (List V)) (bs : List (List V)) (ps : List V) : PyData := .list [rowsD es, rowsD bs, lstD ps]
theorem repD_ok {es bs : List (List V)} {ps : List V} (h1 : ∀ b ∈ es, ∀ v ∈ b, okV v) (l1 : ∀ b ∈ es, b.length ≤ 11) (n1 : es.length ≤ 100) (h2 : ∀ b ∈ bs, ∀ v ∈ b, okV v) (l2 : ∀ b ∈ bs, b.length ≤ 11) (n2 : bs.length ≤ 200) (h3 : ∀ v ∈ ps, okV v) (n3 : ps.length ≤ 100) :
    (repD es bs ps).showable = true ∧ (repD es bs ps).hasDict = false ∧ (repD es bs ps).depth ≤ 8 ∧ (repD es bs ps).shown.length ≤ sizeLine := by
  obtain ⟨a1, a2, a3, a4, a5, a6⟩ := rows (n := 0) h1 l1
  obtain ⟨b1, b2, b3, b4, b5, b6⟩ := rows (n := 0) h2 l2
  obtain ⟨c1, c2, c3, c4, c5, c6⟩ := flats h3
  have c : (repD es bs ps).canLay0 = true := by unfold repD; simp [PyData.canLay0, PyData.canLayAll0, rowsD, lstD, a1, b1, c1]
  have d : (repD es bs ps).depth ≤ 8 := by
    simp only [repD, rowsD, lstD, PyData.depth, PyData.depthAll]
    omega
  refine ⟨by simp [repD, rowsD, lstD, PyData.showable, PyData.showableAll, a4, b4, c4], by simp [repD, rowsD, lstD, PyData.hasDict, PyData.hasDictAll, a5, b5, c5], d, ?_⟩
  have w : (repD es bs ps).weight ≤ 2 ^ 20 := by
    simp only [repD, rowsD, lstD, PyData.weight, PyData.weightAll]
    omega
  have q := shown_le13 (d := repD es bs ps) (by unfold PyData.layable0; rw [c, decide_eq_true (show (repD es bs ps).depth ≤ 64 by omega), decide_eq_true w]; rfl) (by simp [repD, rowsD, lstD, PyData.intsShort, PyData.intsShortAll, a3, b3, c3])
  rw [sizeLine_eq]
  omega
theorem inV_ints (z : Int) : ∀ l : List Int, inV (.int z) (l.map V.int) = decide (z ∈ l)
  | [] => rfl
  | a :: r => by
    have ih := inV_ints z r
    unfold inV at *
    rw [List.map_cons, List.any_cons, ih]
    show ((a == z) || decide (z ∈ r)) = decide (z ∈ a :: r)
    by_cases h : a = z
    · rw [h, beq_self_eq_true, Bool.true_or, decide_eq_true (List.mem_cons_self ..)]
    · rw [show (a == z) = false from beq_eq_false_iff_ne.mpr h, Bool.false_or]
      exact decide_eq_decide.mpr ⟨fun m => List.mem_cons_of_mem _ m, fun m => (List.mem_cons.mp m).elim (fun e => absurd e.symm h) id⟩
theorem in_any (n : Int) : ∀ l : List Bl, inV (.int n) ((l.map fun b => b.n).map V.int) = l.any fun x => decide (x.n = n)
  | [] => rfl
  | a :: r => by
    have ih := in_any n r
    rw [inV_ints] at *
    rw [List.any_cons, ← ih, List.map_cons]
    by_cases h : a.n = n
    · rw [decide_eq_true h, Bool.true_or, h, decide_eq_true (List.mem_cons_self ..)]
    · rw [decide_eq_false h, Bool.false_or]
      exact decide_eq_decide.mpr ⟨fun m => (List.mem_cons.mp m).elim (fun e => absurd e.symm h) id, fun m => List.mem_cons_of_mem _ m⟩
structure LX (K : PySem.W.Frag) (H : Hp) (s c ev cl du nw tr rt : Addr) (u : Int) (ts : List Addr) (es : List Ev) (A : List Ar) : Prop where
  st : StAt H s c
  evl : H ev = some (.lst (ts.map V.ref))
  tv : TsAt H ts (es.map Ev.v)
  ca : ClAt H cl A
  dl : ∃ fs : List Addr, H du = some (.lst (fs.map V.ref)) ∧ TsAt H fs ((evF (runN es es.length).ws).map fdV)
  nl : H nw = some (.lst [.int (runN es es.length).lat])
  T : TAt K H tr rt u bd1 1
theorem TAt.via {K : PySem.W.Frag} {H H' : Hp} {p r : Addr} {u l : Int} {bs : List Bd} (h : TAt K H p r u bs l) (hi : ∀ x C dx fs, H x = some (.ins C dx fs) → H' x = some (.ins C dx fs)) (ht : ∀ x b, H x = some (.tup b) → H' x = some (.tup b)) (hl : ∀ ys, H r = some (.lst ys) → H' r = some (.lst ys)) : TAt K H' p r u bs l := by
  obtain ⟨dx, e, ts, e1, q⟩ := h
  exact ⟨dx, hi _ _ _ _ e, ts, hl _ e1, q.mono fun x b z => ht x _ z⟩
theorem LX.same {K : PySem.W.Frag} {H H' : Hp} {s c ev cl du nw tr rt : Addr} {u : Int} {ts : List Addr} {es : List Ev} {A : List Ar} (h : LX K H s c ev cl du nw tr rt u ts es A) (e : Same H H') : LX K H' s c ev cl du nw tr rt u ts es A :=
  ⟨h.st.same e, e _ _ h.evl, h.tv.mono fun x b q => e _ _ q, h.ca.same e, h.dl.elim fun fs q => ⟨fs, e _ _ q.1, q.2.mono fun x b z => e _ _ z⟩, e _ _ h.nl, h.T.same e⟩
def NEx (s c ev cl du nw rt : Addr) : Prop := NE s c ev cl du nw ∧ rt ≠ s ∧ rt ≠ c ∧ rt ≠ ev ∧ rt ≠ cl ∧ rt ≠ du ∧ rt ≠ nw
def NAx (s c ev du nw rt : Addr) (A : List Ar) : Prop := NA s c ev du nw A ∧ ∀ x ∈ A, x.1 ≠ rt
theorem LX.keep {K : PySem.W.Frag} {H H' : Hp} {s c ev cl du nw tr rt : Addr} {u : Int} {ts : List Addr} {es : List Ev} {A : List Ar} (h : LX K H s c ev cl du nw tr rt u ts es A) (n : NEx s c ev cl du nw rt) (na : NAx s c ev du nw rt A) (st : StAt H' s c) (k : Keep H H' s c) : LX K H' s c ev cl du nw tr rt u ts es A := by
  obtain ⟨⟨a1, a2, a3, a4, a5, a6, a7, a8, _⟩, r1, r2, _⟩ := n
  obtain ⟨_, ⟨m, hm⟩, ns, hc, _⟩ := id h.st
  have tk : ∀ x b, H x = some (.tup b) → H' x = some (.tup b) := fun x b q => k _ _ q (ne_of q hm (by intro z; cases z)) (ne_of q hc (by intro z; cases z))
  exact ⟨st, k _ _ h.evl a1 a2, h.tv.mono tk, ⟨k _ _ h.ca.l a3 a4, fun x hx => k _ _ (h.ca.r x hx) (na.1 x hx).1 (na.1 x hx).2.1, h.ca.n, h.ca.d⟩, h.dl.elim fun fs q => ⟨fs, k _ _ q.1 a5 a6, q.2.mono tk⟩, k _ _ h.nl a7 a8, h.T.via (fun x C dx fs q => k _ _ q (ne_of q hm (by intro z; cases z)) (ne_of q hc (by intro z; cases z))) tk fun ys q => k _ _ q r1 r2⟩
end K16
set_option maxHeartbeats 4000000
set_option pp.maxSteps 500
namespace K16
open PySem PySem.Spec PyProof.Rows L2 SX TK NdefX
open C8 (pe_c)
/-- all but what stands at one place stays -/
def Fr1 (H H' : Hp) (d : Addr) : Prop := ∀ b o, H b = some o → b ≠ d → H' b = some o
theorem SqL.via {K : PySem.W.Frag} {H H' : Hp} {a : Addr} {xs : List V} (h : SqL K H a xs) (f : ∀ o, H a = some o → H' a = some o) : SqL K H' a xs := by
  rcases h with (h | ⟨o, h⟩) | h
  · exact .inl (.inl (f _ h))
  · exact .inl (.inr ⟨o, f _ h⟩)
  · exact .inr h
def spLaw (K : PySem.W.Frag) : Sp := fun vs H Q _ => ∃ (a : Addr) (ns : List Int), vs = [.ref a] ∧ SqL K H a (ns.map V.int) ∧ ns.length ≤ 63 ∧ ∀ H', Q (.bl true) H'
theorem ok_law {P : Program} {w : World} {K : PySem.W.Frag} {mg : Str → Option Value} {base : Heap} {f : Addr} {fd : FuncData} (T : Tx K mg) (c_law_state : C8.Cal P w K mg base 1 "_law_state" (spState K) []) (c_law_draw : C8.Cal P w K mg base 1 "_law_draw" spDraw []) (c_law_pick : C8.Cal P w K mg base 2 "_law_pick" spPick []) (c_law_event : C8.Cal P w K mg base 3 "_law_event" spEvent []) (c_law_stands : C8.Cal P w K mg base 1 "_law_stands" (spLSt K) []) (c_law_apply : C8.Cal P w K mg base 1 "_law_apply" (spLAp K) []) (c_law_bills : C8.Cal P w K mg base 3 "_law_bills" (spBills K) []) (c_law_pending : C8.Cal P w K mg base 2 "_law_pending" spPend []) (c_law_findings : C8.Cal P w K mg base 3 "_law_findings" (spLF K) []) (c_judge : C8.Cal P w K mg base 5 "judge" (spJudge K) []) (c_mkx_Tariff : TKE.MakX P w K mg base 3 "Tariff" (He.ga K "Tariff") (spTrInit K) 3 [] (fun vs _ => vs))
    (F : FunD K "law" "law" (defArgs s_law) (defBody s_law) (defScope s_law) [] [] f fd) : TKR.FnC P w K mg base f fd ["script"] (spLaw K) := by
  refine TKR.fnC_of (k := 5) F sc_law ⟨rfl, by decide, by decide⟩ (fun vs H Q E h => ?_) (fun cdv s0 H vs Q E hr h => ?_)
  · obtain ⟨a, ns, rfl, _⟩ := h
    rfl
  · obtain ⟨a, ns, rfl, hS, hn, k⟩ := h
    refine ⟨_, PSs.nox (pss_cons (ps_set (i := 1) sc_law.nd rfl (Or.inl rfl) (pe_c c_law_state hr (by decide) rfl (pa_cons (pv 0) pa_nil))) (pss_cons (ps_set (i := 2) sc_law.nd rfl (Or.inl rfl) (TKE.pe_makX c_mkx_Tariff hr (by decide) TKE.none_out rfl (pa_cons (pe_op op_add pe_int (pe_c c_law_draw hr (by decide) rfl (pa_cons (pv 1) (pa_cons pe_int pa_nil)))) (pa_cons (pe_lst (pa_cons (pe_tup (pa_cons pe_int (pa_cons pe_int pa_nil))) pa_nil)) (pa_cons pe_int pa_nil))))) (pss_cons (ps_set (i := 3) sc_law.nd rfl (Or.inl rfl) (pe_lst pa_nil)) (pss_cons (ps_set (i := 4) sc_law.nd rfl (Or.inl rfl) (pe_lst pa_nil)) (pss_cons (ps_set (i := 5) sc_law.nd rfl (Or.inl rfl) (pe_lst pa_nil)) (pss_cons (ps_set (i := 6) sc_law.nd rfl (Or.inl rfl) (pe_lst (pa_cons pe_int pa_nil))) (pss_cons (ps_set (i := 7) sc_law.nd rfl (Or.inl rfl) pe_int) (pss_cons (ps_for PassesOwn.never rfl (pi_range1 rfl T.f_range (pa_cons (pe_callB call_len_seq rfl T.f_len PySem.boot_len (pa_cons (pe_slice sl_list (pv 0) po_none (po_some pe_int)) pa_nil)) pa_nil)) (pg_name (i := 8) sc_law.nd rfl (Or.inl rfl)) (pss_cons (ps_set (i := 7) sc_law.nd rfl (Or.inl rfl) (pe_callB (call_max2 rfl) rfl T.f_max (by decide +kernel) (pa_cons pe_int (pa_cons (pe_op op_add (pv 7) (pe_c c_law_pick hr (by decide) rfl (pa_cons (pv 1) (pa_cons (pe_lst (pa_cons pe_int (pa_cons pe_int (pa_cons (pe_c c_law_draw hr (by decide) rfl (pa_cons (pv 1) (pa_cons pe_int pa_nil))) (pa_cons (pe_un un_neg pe_int) pa_nil))))) pa_nil)))) pa_nil)))) (pss_cons (ps_set (i := 9) sc_law.nd rfl (Or.inl rfl) (pe_c c_law_event hr (by decide) rfl (pa_cons (pv 1) (pa_cons (pv 7) (pa_cons (pe_lst (pa_cons (pe_callB call_len_seq rfl T.f_len PySem.boot_len (pa_cons (pv 4) pa_nil)) pa_nil)) pa_nil))))) (pss_cons (ps_expr (pe_bm PySem.F.plainAttrs_list PySem.F.slot_list_append PySem.F.type_list_append mt_append (pv 3) (pa_cons (pv 9) pa_nil))) (pss_one (ps_if (pt_val (pe_c c_law_stands hr (by decide) rfl (pa_cons (pv 9) (pa_cons (pv 4) (pa_cons (pv 6) pa_nil))))) (pss_one (ps_expr (pe_c c_law_apply hr (by decide) rfl (pa_cons (pv 9) (pa_cons (pv 4) (pa_cons (pv 6) pa_nil)))))) (pss_one (ps_expr (pe_bm PySem.F.plainAttrs_list PySem.F.slot_list_append PySem.F.type_list_append mt_append (pv 5) (pa_cons (pe_tup (pa_cons pe_str (pa_cons (pv 8) pa_nil))) pa_nil)))))))))) (pss_cons (ps_set (i := 10) sc_law.nd rfl (Or.inl rfl) (pe_c c_law_bills hr (by decide) rfl (pa_cons (pv 1) (pa_cons (pv 4) (pa_cons (pv 2) pa_nil))))) (pss_cons (ps_set (i := 11) sc_law.nd rfl (Or.inl rfl) (pe_c c_law_pending hr (by decide) rfl (pa_cons (pv 1) (pa_cons (pv 4) pa_nil)))) (pss_cons (ps_for PassesOwn.never rfl (pi_range1 rfl T.f_range (pa_cons (pe_callB call_len_seq rfl T.f_len PySem.boot_len (pa_cons (pv 10) pa_nil)) pa_nil)) (pg_name (i := 8) sc_law.nd rfl (Or.inl rfl)) (pss_one (ps_if (pt_cmpR op_in_seq (pe_ix ix_tup (pe_ix ix_list (pv 10) (pv 8) (fun _ _ => rfl)) pe_int (fun _ _ => rfl)) (pe_lc (own := [("bill", 15)]) (g := gName 15) rfl sc_law.nd (pi_list (pe_slice sl_list (pv 10) po_none (po_some (pv 8)))) (blkOk_by (own := [("bill", 15)]) (N := ["script", "state", "tariff", "events", "calls", "due", "now", "tick", "k", "event", "bills", "pending", "call", "before", "told", "bill"]) (sc := defScope s_law) (by decide +kernel)) (fun _ _ _ _ _ => pg_name (i := 15) sc_law.nd rfl (Or.inl rfl)) (fun _ _ _ _ _ => pts_nil) (fun _ _ _ _ _ => (pe_ix (ixTupK K rfl) (pv 15) pe_int (fun _ _ => rfl)))) (by with_unfolding_all rfl)) (pss_one (ps_expr (pe_bm PySem.F.plainAttrs_list PySem.F.slot_list_append PySem.F.type_list_append mt_append (pv 5) (pa_cons (pe_tup (pa_cons pe_str (pa_cons (pe_ix ix_tup (pe_ix ix_list (pv 10) (pv 8) (fun _ _ => rfl)) pe_int (fun _ _ => rfl)) pa_nil))) pa_nil)))) pss_nil))) (pss_cons (ps_for PassesOwn.never rfl (pi_list (pv 4)) (pg_name (i := 12) sc_law.nd rfl (Or.inl rfl)) (pss_one (ps_set (i := 5) sc_law.nd rfl (Or.inl rfl) (pe_op op_cat (pv 5) (pe_c c_law_findings hr (by decide) rfl (pa_cons (pv 12) (pa_cons (pv 10) (pa_cons (pv 11) (pa_cons (pv 2) pa_nil))))))))) (pss_cons (ps_set (i := 13) sc_law.nd rfl (Or.inl rfl) (pe_callB (TKR.call_repr rfl hr.units) rfl T.f_repr (by decide +kernel) (pa_cons (pe_lst (pa_cons (pv 3) (pa_cons (pv 10) (pa_cons (pv 11) pa_nil)))) pa_nil))) (pss_cons (ps_set (i := 14) sc_law.nd rfl (Or.inl rfl) (pe_c c_judge hr (by decide) rfl (pa_cons (pv 3) (pa_cons (pv 2) (pa_cons (pv 10) (pa_cons (pv 11) pa_nil)))))) (pss_one (ps_ret (pe_and (pe_callB call_isi rfl T.f_isinstance (by decide +kernel) (pa_cons (pv 14) (pa_cons (pe_bltn (v := .ty "list") rfl T.f_list (by decide +kernel) rfl) pa_nil))) (pe_and (pe_cmpR (op_eqD hr.units) (pv 14) (pv 5) (nomark _)) (pe_one (pe_cmpR op_eq (pe_callB (TKR.call_repr rfl hr.units) rfl T.f_repr (by decide +kernel) (pa_cons (pe_lst (pa_cons (pv 3) (pa_cons (pv 10) (pa_cons (pv 11) pa_nil)))) pa_nil)) (pv 13) (nomark _))))))))))))))))))))), ?_⟩
    refine ⟨_, rfl, a, ns, rfl, hS, hn, fun s c H1 s1 hs0 hc0 st1 => ?_⟩
    refine ⟨_, rfl, s, c, 4, rfl, st1, by decide, by decide, fun d H2 d0 d1 st2 kp2 => ?_⟩
    have fa2 : ∀ b o, H b = some o → H2 b = some o := fun b o e => kp2 _ _ (s1 _ _ e) (ne_of_none e hs0) (ne_of_none e hc0)
    refine ⟨_, _, rfl, rfl, by show 2 ≤ sizeLine; decide, fun t ht => ⟨by show 1 ≤ sizeLine; decide, fun g hg => ⟨rfl, rfl, fun x dx hx hdx ne => ?_⟩⟩⟩
    have u0 : 1 ≤ 1 + d := by omega
    have u1 : 1 + d ≤ 4 := by omega
    clear s1 hs0 hc0 st1 kp2 H1
    have s3 := same_upd (o := .tup [.int 2, .int 5]) ht
    have s4 := same_upd (o := .lst [.ref t]) hg
    have s5 := same_own (C := He.ga K "Tariff") (fs := []) hx hdx
    have s35 := (s3.trans s4).trans s5
    have hBg : BAt (upd (upd (upd (upd H2 t (.tup [.int 2, .int 5])) g (.lst [.ref t])) dx (.own x)) x (.ins (He.ga K "Tariff") dx [])) g bd1 := ⟨[t], s5 _ _ upd_same, ⟨s5 _ _ (s4 _ _ upd_same), trivial⟩⟩
    have okU1 : okU (1 + d) = true := by
      unfold okU
      rw [if_pos u0]
      exact decide_eq_true (by omega)
    have okB1 : okB bd1 = true := rfl
    have okP1 : okP 1 = true := rfl
    refine ⟨x, dx, g, 1 + d, 1, bd1, rfl, upd_same, hBg, by decide, fun _ rt H6 f1 f2 f3 f4 => ⟨rfl, ?_⟩, fun ef => absurd (by unfold fltS; rw [if_pos okU1]; rfl) ef⟩
    clear d0 d1
    generalize 1 + d = u at *
    clear d
    have x0 : H2 x = none := by
      cases eq : H2 x with
      | none => rfl
      | some o => rw [s4 _ _ (s3 _ _ eq)] at hx; cases hx
    have r0 : H2 rt = none := by
      cases eq : H2 rt with
      | none => rfl
      | some o => rw [s35 _ _ eq] at f3; cases f3
    have s6 : Same H2 H6 := fun b o e => f4 _ _ (s35 _ _ e) (ne_of_none e x0)
    have hT1 : TAt K H6 x rt u bd1 1 := ⟨dx, f1, f2⟩
    have st6 := st2.same s6
    have hS6 : SqL K H6 a (ns.map V.int) := K16.SqL.via hS fun o e => s6 _ _ (fa2 _ _ e)
    obtain ⟨rs, rc⟩ := st2.tracked r0
    clear s3 s4 s5 s35 hBg f1 f2 f3 f4 x0 r0 s6 fa2 hS st2 hx hdx ht hg ne H2 t g
    refine ⟨by show 0 ≤ sizeLine; decide, fun ev hev => ⟨by show 0 ≤ sizeLine; decide, fun cl hcl => ⟨by show 0 ≤ sizeLine; decide, fun wr hwr => ⟨by show 1 ≤ sizeLine; decide, fun nw hnw => ?_⟩⟩⟩⟩
    obtain ⟨ts0, ert, _⟩ : ∃ ts0 : List Addr, H6 rt = some (.lst (ts0.map V.ref)) ∧ True := by
      obtain ⟨_, _, ts0, e, _⟩ := hT1
      exact ⟨ts0, e, trivial⟩
    obtain ⟨e1, e2⟩ := st6.tracked hev
    have g1 := st6.upd (o := .lst []) e1 e2
    have fA := same_upd (o := .lst []) hev
    obtain ⟨e3, e4⟩ := g1.tracked hcl
    have g2 := g1.upd (o := .lst []) e3 e4
    have fB := same_upd (o := .lst []) hcl
    obtain ⟨e5, e6⟩ := g2.tracked hwr
    have g3 := g2.upd (o := .lst []) e5 e6
    have fC := same_upd (o := .lst []) hwr
    obtain ⟨e7, e8⟩ := g3.tracked hnw
    have g4 := g3.upd (o := .lst [.int 0]) e7 e8
    have fD := same_upd (o := .lst [.int 0]) hnw
    have q1 : (upd H6 ev (.lst [])) ev = some (.lst []) := upd_same
    have q2 : (upd (upd H6 ev (.lst [])) cl (.lst [])) cl = some (.lst []) := upd_same
    have q3 : (upd (upd (upd H6 ev (.lst [])) cl (.lst [])) wr (.lst [])) wr = some (.lst []) := upd_same
    have hne : NEx s c ev cl wr nw rt := ⟨⟨e1, e2, e3, e4, e5, e6, e7, e8, ne_of_none q1 hcl, ne_of_none (fB _ _ q1) hwr, ne_of_none (fC _ _ (fB _ _ q1)) hnw, ne_of_none q2 hwr, ne_of_none (fC _ _ q2) hnw, ne_of_none q3 hnw⟩, rs, rc, ne_of_none ert hev, ne_of_none (fA _ _ ert) hcl, ne_of_none (fB _ _ (fA _ _ ert)) hwr, ne_of_none (fC _ _ (fB _ _ (fA _ _ ert))) hnw⟩
    have s4 := ((fA.trans fB).trans fC).trans fD
    have L0 : LX K (upd (upd (upd (upd H6 ev (.lst [])) cl (.lst [])) wr (.lst [])) nw (.lst [.int 0])) s c ev cl wr nw x rt u [] [] [] :=
      ⟨g4, fD _ _ (fC _ _ (fB _ _ q1)), trivial, ⟨fD _ _ (fC _ _ q2), (fun _ h => nomatch h), by simp, fun _ h => nomatch h⟩, ⟨[], fD _ _ q3, trivial⟩, upd_same, hT1.same s4⟩
    have hS4 := s4.seq hS6
    clear e1 e2 e3 e4 e5 e6 e7 e8 g1 g2 g3 g4 fA fB fC fD q1 q2 q3 hev hcl hwr hnw hS6 st6 hT1 s4 ert rs rc
    generalize upd (upd (upd (upd H6 ev (.lst [])) cl (.lst [])) wr (.lst [])) nw (.lst [.int 0]) = H2 at *
    refine ⟨_, rfl, _, rfl, a, _, rfl, hS4, fun cu hcu => ?_⟩
    have L1 := L0.same (same_upd (o := .lst (cutV (ns.map V.int) none (some 40))) hcu)
    have lcu : (cutV (ns.map V.int) none (some 40)).length ≤ 40 := by
      rw [show (40 : Int) = ((40 : Nat) : Int) from rfl, cutV_to]
      exact List.length_take_le _ _
    refine ⟨cu, _, rfl, .inl (SqL.of upd_same), ?_⟩
    clear L0 hS4
    generalize upd H2 cu (.lst (cutV (ns.map V.int) none (some 40))) = H3 at *
    clear hcu
    refine ⟨_, rfl, by omega, by omega, for_range (lo := 0) (fun i σ H' => ∃ (ts : List Addr) (es : List Ev) (A : List Ar) (tick : Int) (v8 v9 : Option V), σ = [some (.ref a), some (.ref s), some (.ref x), some (.ref ev), some (.ref cl), some (.ref wr), some (.ref nw), some (.int tick), v8, v9, none, none, none, none, none, none] ∧ LX K H' s c ev cl wr nw x rt u ts es A ∧ NAx s c ev wr nw rt A ∧ clA A = (runN es es.length).cs ∧ es.length = i ∧ (∀ e ∈ es, EvOk e) ∧ 0 ≤ tick ∧ tick ≤ 10 * (i : Int))
      ⟨[], [], [], 0, none, none, rfl, L1, ⟨(fun _ h => nomatch h), fun _ h => nomatch h⟩, rfl, rfl, (fun _ h => nomatch h), by omega, by omega⟩ ?_ ?_⟩
    · rintro i σ H4 hi ⟨ts, es, A, tick, v8, v9, rfl, L4, na, ec, el, eo, t0, t1⟩
      clear L1
      have hi2 : i < 64 := by omega
      refine ⟨_, rfl, _, rfl, _, rfl, s, c, 9, rfl, L4.st, by decide, by decide, fun d H5 d0 d1 st5 kp5 => ⟨_, rfl, by show 4 ≤ sizeLine; decide, fun p hp => ?_⟩⟩
      have L5 := L4.keep hne na st5 kp5
      obtain ⟨ps, pc⟩ := st5.tracked hp
      refine ⟨s, c, _, rfl, st5.upd ps pc, .inr ⟨p, _, rfl, upd_same, ps, pc, by simp, by simp, fun v hv H6 st6 kp6 => ?_⟩⟩
      have L6 := (L5.same (same_upd hp)).keep hne na st6 kp6
      obtain ⟨vi, rfl, v0, v1⟩ : ∃ vi : Int, v = .int vi ∧ -1 ≤ vi ∧ vi ≤ 9 := by
        simp only [List.mem_cons, List.not_mem_nil, or_false] at hv
        rcases hv with rfl | rfl | rfl | rfl
        · exact ⟨_, rfl, by decide, by decide⟩
        · exact ⟨_, rfl, by decide, by decide⟩
        · exact ⟨_, rfl, by omega, by omega⟩
        · exact ⟨_, rfl, by decide, by decide⟩
      clear hv L4 L5 kp5 kp6 hp st5 st6
      refine ⟨_, _, rfl, rfl, _, _, rfl, ?_⟩
      obtain ⟨tk, htk, k0, k1⟩ : ∃ tk : Int, (if tick + vi > 0 then tick + vi else 0) = tk ∧ 0 ≤ tk ∧ tk ≤ 10 * ((i + 1 : Nat) : Int) := by
        refine ⟨_, rfl, ?_, ?_⟩
        · split <;> omega
        · split <;> omega
      rw [htk]
      have lcs := run_len es es.length
      have lA2 : A.length ≤ 64 := by
        have : (clA A).length = A.length := List.length_map ..
        rw [ec] at this
        omega
      refine ⟨_, rfl, _, rfl, _, rfl, cl, _, rfl, .inl (SqL.of L6.ca.l), by show 1 ≤ sizeLine; decide, fun nb hnb => ?_⟩
      rw [List.length_map]
      obtain ⟨nbs, nbc⟩ := L6.st.tracked hnb
      refine ⟨s, c, nb, tk, A.length, rfl, L6.st.upd nbs nbc, upd_same, nbs, nbc, by omega, by omega, k0, by omega, fun t e H7 ht he st7 kp7 => ?_⟩
      have L7 := (L6.same (same_upd hnb)).keep hne na st7 kp7
      clear L6 kp7 st7 hnb
      obtain ⟨⟨q1, q2, q3, q4, q5, q6, q7, q8, q9, q10, q11, q12, q13, q14⟩, w1, w2, w3, w4, w5, w6⟩ := id hne
      obtain ⟨fs7, dl7, tf7⟩ := L7.dl
      refine ⟨_, rfl, .inl ⟨rfl, _, SqL.of L7.evl⟩, _, rfl, ev, _, _, rfl, rfl, L7.evl, ?_, ?_⟩
      · have := L7.tv.len
        rw [List.length_map] at this
        rw [List.length_map, sizeLine_eq]
        omega
      have uT : ∀ {x : Addr} {b : List V}, H7 x = some (.tup b) → (upd H7 ev (.lst (ts.map V.ref ++ [.ref t]))) x = some (.tup b) := fun z => (upd_ne (ne_of z L7.evl (by intro z; cases z))).trans z
      have T8 : TAt K (upd H7 ev (.lst (ts.map V.ref ++ [.ref t]))) x rt u bd1 1 := L7.T.via (fun y C dx fs q => (upd_ne (ne_of q L7.evl (by intro z; cases z))).trans q) (fun y b q => uT q) fun ys q => (upd_ne w3).trans q
      have ht8 := uT ht
      have ca8 : ClAt (upd H7 ev (.lst (ts.map V.ref ++ [.ref t]))) cl A := ⟨(upd_ne q9.symm).trans L7.ca.l, fun x hx => (upd_ne (na.1 x hx).2.2.1).trans (L7.ca.r x hx), L7.ca.n, L7.ca.d⟩
      have st8 := L7.st.upd (o := .lst (ts.map V.ref ++ [.ref t])) q1 q2
      have ev8 : (upd H7 ev (.lst (ts.map V.ref ++ [.ref t]))) ev = some (.lst ((ts ++ [t]).map V.ref)) := by
        rw [upd_same, List.map_append]
        rfl
      have dl8 : (upd H7 ev (.lst (ts.map V.ref ++ [.ref t]))) wr = _ := (upd_ne q10.symm).trans dl7
      have tf8 := tf7.mono fun x b z => uT z
      have nl8 : (upd H7 ev (.lst (ts.map V.ref ++ [.ref t]))) nw = _ := (upd_ne q11.symm).trans L7.nl
      have tv8 : TsAt (upd H7 ev (.lst (ts.map V.ref ++ [.ref t]))) (ts ++ [t]) ((es ++ [e]).map Ev.v) := by
        rw [List.map_append]
        exact TsAt.snoc ht8 (L7.tv.mono fun x b z => uT z)
      have eo8 : ∀ x ∈ es ++ [e], EvOk x := fun x hx => by
        rcases List.mem_append.mp hx with z | z
        · exact eo x z
        · rw [List.mem_singleton.mp z]
          exact he
      have rs := run_snoc es e
      have el8 : (es ++ [e]).length = i + 1 := by rw [List.length_append, el]; rfl
      have lf8 := tf8.len
      rw [List.length_map] at lf8
      unfold evF at lf8
      rw [List.length_map] at lf8
      clear uT L7 ht dl7 tf7
      generalize upd H7 ev (.lst (ts.map V.ref ++ [.ref t])) = H8 at *
      have lwr : (fs7.map V.ref).length < sizeLine := by
        rw [List.length_map, sizeLine_eq]
        omega
      rw [el] at rs
      refine ⟨_, rfl, _, rfl, _, rfl, cl, t, nw, A, e, (runN es es.length).lat, rfl, ca8, ht8, nl8, fun H9 s9 => ⟨_, rfl, ?_⟩⟩
      rw [ec]
      by_cases cc : (runN es es.length).lat ≤ e.now ∧ std (runN es es.length).cs e = true
      · have e9 : (if (runN es es.length).lat ≤ e.now then std (runN es es.length).cs e else false) = true := by rw [if_pos cc.1]; exact cc.2
        rw [e9]
        rw [stepR, if_pos (by rw [← el]; exact cc)] at rs
        refine iteT ⟨_, rfl, _, rfl, _, rfl, cl, t, nw, A, e, (runN es es.length).lat, rfl, ca8.same s9, s9 _ _ ht8, s9 _ _ nl8, by rw [ec]; exact cc.2, q13.symm, fun x hx => (na.1 x hx).2.2.2.2, by omega, fun A' Ha caa eca nla fra ela => ?_⟩
        have keepA : ∀ {b o}, H8 b = some o → b ≠ cl → b ≠ nw → (∀ x ∈ A, b ≠ x.1) → Ha b = some o := fun eb b1 b2 b3 => fra _ _ (s9 _ _ eb) b1 b2 b3
        have nlA : ∀ {x : Addr} {o : HO}, H8 x = some o → (∀ l, o ≠ .lst l) → Ha x = some o := fun z nl => keepA z (ne_of z ca8.l (nl _)) (ne_of z nl8 (nl _)) fun y hy => ne_of z (ca8.r y hy) (nl _)
        have tupA : ∀ {x : Addr} {b : List V}, H8 x = some (.tup b) → Ha x = some (.tup b) := fun z => nlA z (by intro l z; cases z)
        have fresh : ∀ x ∈ A', ∀ y, (∃ o, H8 y = some o) → (∀ z ∈ A, z.1 ≠ y) → x.1 ≠ y := fun x hx y hy hz => by
          rcases ela x hx with z | z
          · obtain ⟨w1, hw1, ew1⟩ := List.mem_map.mp z
            have ew2 : w1.1 = x.1 := ew1
            rw [← ew2]
            exact hz w1 hw1
          · obtain ⟨o, ho⟩ := hy
            exact (ne_of_none (s9 _ _ ho) z).symm
        have stA : StAt Ha s c := by
          obtain ⟨n0, ⟨m, hm⟩, cs, hc, l63⟩ := id st8
          exact ⟨n0, ⟨m, keepA hm q3.symm q7.symm fun x hx => (na.1 x hx).1.symm⟩, cs, keepA hc q4.symm q8.symm fun x hx => (na.1 x hx).2.1.symm, l63⟩
        have naA : NAx s c ev wr nw rt A' := by
          obtain ⟨n0, ⟨m, hm⟩, cs, hc, l63⟩ := id st8
          obtain ⟨_, _, ts9, er9, _⟩ := id T8
          exact ⟨fun x hx => ⟨fresh x hx s ⟨_, hm⟩ fun z hz => (na.1 z hz).1, fresh x hx c ⟨_, hc⟩ fun z hz => (na.1 z hz).2.1, fresh x hx ev ⟨_, ev8⟩ fun z hz => (na.1 z hz).2.2.1, fresh x hx wr ⟨_, dl8⟩ fun z hz => (na.1 z hz).2.2.2.1, fresh x hx nw ⟨_, nl8⟩ fun z hz => (na.1 z hz).2.2.2.2⟩, fun x hx => fresh x hx rt ⟨_, er9⟩ fun z hz => na.2 z hz⟩
        refine ⟨ts ++ [t], es ++ [e], A', tk, _, _, rfl, ⟨stA, keepA ev8 q9 q11 (fun x hx => (na.1 x hx).2.2.1.symm), tv8.mono (fun x b z => tupA z), caa, ⟨fs7, ?_, ?_⟩, ?_, ?_⟩, naA, ?_, el8, eo8, k0, k1⟩
        · exact keepA dl8 q12.symm q14 (fun x hx => (na.1 x hx).2.2.2.1.symm)
        · rw [run_snoc, stepR, if_pos cc]
          exact tf8.mono fun x b z => tupA z
        · rw [run_snoc, stepR, if_pos cc]
          exact nla
        · exact T8.via (fun y C dx fs q => nlA q (by intro l z; cases z)) (fun y b q => tupA q) fun ys q => keepA q w4 w6 fun x hx => (na.2 x hx).symm
        · rw [run_snoc, stepR, if_pos cc, eca, ec]
      · have e9 : (if (runN es es.length).lat ≤ e.now then std (runN es es.length).cs e else false) = false := by
          by_cases z : (runN es es.length).lat ≤ e.now
          · rw [if_pos z]
            exact ef fun y => cc ⟨z, y⟩
          · rw [if_neg z]
        rw [e9]
        have ez : (0 + (i : Int)) = (i : Int) := by omega
        rw [ez]
        refine iteF ⟨_, rfl, .inl ⟨rfl, _, SqL.of (s9 _ _ dl8)⟩, _, rfl, by show 2 ≤ sizeLine; decide, fun w hw => ⟨wr, _, _, rfl, rfl, (same_upd hw) _ _ (s9 _ _ dl8), lwr, ?_⟩⟩
        have sw := s9.trans (same_upd (o := .tup [.str "event", .int i]) hw)
        have wwr : w ≠ wr := (ne_of_none (s9 _ _ dl8) hw).symm
        have ew : (upd H9 w (.tup [.str "event", .int i])) w = some (.tup [.str "event", .int i]) := upd_same
        clear hw
        generalize upd H9 w (.tup [.str "event", .int i]) = Hb at *
        have keepW : ∀ {b o o2}, H8 b = some o → b ≠ wr → (upd Hb wr o2) b = some o := fun eb b1 => (upd_ne b1).trans (sw _ _ eb)
        have nw9 : ∀ {x : Addr} {o o2 : HO}, H8 x = some o → (∀ l, o ≠ .lst l) → (upd Hb wr o2) x = some o := fun z nl => keepW z (ne_of z dl8 (nl _))
        have tupW : ∀ {x : Addr} {b : List V} {o2 : HO}, H8 x = some (.tup b) → (upd Hb wr o2) x = some (.tup b) := fun z => nw9 z (by intro l z; cases z)
        refine ⟨ts ++ [t], es ++ [e], A, tk, _, _, rfl, ⟨(st8.same sw).upd q5 q6, keepW ev8 q10, tv8.mono (fun x b z => tupW z), ⟨keepW ca8.l q12, fun x hx => keepW (ca8.r x hx) (na.1 x hx).2.2.2.1, ca8.n, ca8.d⟩, ⟨fs7 ++ [w], ?_, ?_⟩, ?_, ?_⟩, na, ?_, el8, eo8, k0, k1⟩
        · rw [upd_same, List.map_append]
          rfl
        · rw [run_snoc, stepR, if_neg cc, el]
          show TsAt _ _ ((evF (_ ++ [(i : Int)])).map fdV)
          unfold evF
          rw [List.map_append, List.map_append]
          rw [el] at tf8
          exact TsAt.snoc ((upd_ne wwr).trans ew) (tf8.mono fun x b z => tupW (o2 := .lst (fs7.map V.ref ++ [.ref w])) z)
        · rw [run_snoc, stepR, if_neg cc]
          exact keepW nl8 q14.symm
        · exact T8.via (fun y C dx fs q => nw9 q (by intro l z; cases z)) (fun y b q => tupW q) fun ys q => keepW q w5
        · rw [run_snoc, stepR, if_neg cc]
          exact ec
    · rintro σ H4 ⟨ts, es, A, tick, v8, v9, rfl, L4, na, ec, el, eo, t0, t1⟩
      clear L1
      have esl : es.length ≤ 40 := by omega
      have ro := run_ok eo es.length
      have lcs := run_len es es.length
      have llA : (clA A).length = A.length := List.length_map ..
      have lA : A.length ≤ 40 := by
        rw [← llA, ec]
        omega
      have cA : ∀ y ∈ A, ClOk es.length y.2 := fun y hy => by
        refine ro.1 y.2 ?_
        rw [← ec]
        exact List.mem_map.mpr ⟨y, hy, rfl⟩
      obtain ⟨⟨q1, q2, q3, q4, q5, q6, q7, q8, q9, q10, q11, q12, q13, q14⟩, w1, w2, w3, w4, w5, w6⟩ := id hne
      refine ⟨_, rfl, _, rfl, _, rfl, s, c, cl, x, rt, u, 1, BB, bd1, A, rfl, L4.st, L4.ca, L4.T, okU1, okB1, okP1, q3, q4, w1, w2, fun y hy => ⟨(na.1 y hy).1, (na.1 y hy).2.1⟩, by omega, by decide, fun y hy => ca_ok (cA y hy) u0 u1, fun bl tb bs H5 hbl0 hbl5 htb5 lbs okbs st5 k5 => ?_⟩
      have L5 := L4.keep hne na st5 k5
      obtain ⟨bs1, bs2⟩ := L4.st.tracked hbl0
      have nbw : bl ≠ wr := L4.dl.elim fun fs z => (ne_of_none z.1 hbl0).symm
      refine ⟨_, rfl, _, rfl, s, c, cl, A, rfl, st5, L5.ca, q3, q4, fun y hy => ⟨(na.1 y hy).1, (na.1 y hy).2.1⟩, by omega, fun y hy => (cA y hy).n, fun pd ps H6 hpd0 hpd6 lps sps st6 k6 => ?_⟩
      have L6 := L5.keep hne na st6 k6
      have npw : pd ≠ wr := L5.dl.elim fun fs z => (ne_of_none z.1 hpd0).symm
      have hbl6 := k6 _ _ hbl5 bs1 bs2
      have htb6 := htb5.keep st5 k6
      have ltb : tb.length = bs.length := by rw [htb6.len, List.length_map]
      clear L4 L5 st5 st6 k5 k6 hbl5 htb5 hbl0 hpd0 H4 H5
      obtain ⟨st6, hev6, tv6, ca6, ⟨fs6, dl6, tf6⟩, nl6, T6⟩ := L6
      have hbv : ∀ b ∈ es.map Ev.v, ∀ v ∈ b, okV v := fun b hb => by
        obtain ⟨e, he, rfl⟩ := List.mem_map.mp hb
        exact Ev.ok (eo e he)
      have hbl9 : ∀ b ∈ es.map Ev.v, b.length ≤ 11 := fun b hb => by
        obtain ⟨e, he, rfl⟩ := List.mem_map.mp hb
        exact Ev.len e
      have hbv2 : ∀ b ∈ bs.map Bl.v, ∀ v ∈ b, okV v := fun b hb => by
        obtain ⟨e, he, rfl⟩ := List.mem_map.mp hb
        exact bl_okV (okbs e he)
      have hbl2 : ∀ b ∈ bs.map Bl.v, b.length ≤ 11 := fun b hb => by
        obtain ⟨e, he, rfl⟩ := List.mem_map.mp hb
        exact (by decide : 6 ≤ 11)
      have hpv : ∀ v ∈ ps.map V.int, okV v := fun v hv => by
        obtain ⟨w9, hw9, rfl⟩ := List.mem_map.mp hv
        exact sb (sps w9 hw9)
      obtain ⟨r1, r2, r3, r4⟩ := repD_ok hbv hbl9 (by rw [List.length_map]; omega) hbv2 hbl2 (by rw [List.length_map]; omega) hpv (by rw [List.length_map]; omega)
      have jok : ∀ f ∈ jdg u 1 bd1 bs ps (runN es es.length), FdOk f := jdg_ok (fun w hw => by
          have := ro.2 w hw
          exact ⟨by omega, by omega⟩) (fun b hb => by
          have := (okbs b hb).n
          unfold BB at this
          exact ⟨by omega, by omega⟩) (fun c hc => sb (ro.1 c hc).n)
      have hdu : ∀ c ∈ (runN es es.length).cs, ∀ a e, c.ans = some a → c.ended = some e → ∀ v ∈ (due c u 1 bd1 a e).v, okV v := fun c hc => due_okV (ro.1 c hc) u0 u1
      generalize hR : runN es es.length = R at *
      refine ⟨_, rfl, bl, _, rfl, .inl (SqL.of hbl6), ?_⟩
      rw [List.length_map, ltb]
      refine ⟨_, rfl, by omega, by omega, for_range (lo := 0) (fun i σ H' => ∃ (fs : List Addr) (w8 : Option V), σ = [some (.ref a), some (.ref s), some (.ref x), some (.ref ev), some (.ref cl), some (.ref wr), some (.ref nw), some (.int tick), w8, v9, some (.ref bl), some (.ref pd), none, none, none, none] ∧ Fr1 H6 H' wr ∧ H' wr = some (.lst (fs.map V.ref)) ∧ TsAt H' fs ((evF R.ws ++ twN bs i).map fdV))
        ⟨fs6, _, rfl, fun _ _ e _ => e, dl6, by rw [show twN bs 0 = [] from rfl, List.append_nil]; exact tf6⟩ ?_ ?_⟩
      · rintro i σ H7 hi ⟨fs, w8, rfl, f7, dl7, tf7⟩
        have ez : (0 + (i : Int)) = (i : Int) := by omega
        rw [ez]
        have hi9 : i < bs.length := by omega
        have tk : ∀ {y b}, H6 y = some (.tup b) → H7 y = some (.tup b) := fun z => f7 _ _ z (ne_of z dl6 (by intro z; cases z))
        have hbl7 := f7 _ _ hbl6 nbw
        have htb7 := htb6.mono fun y b z => tk z
        obtain ⟨t, gt, ht⟩ := htb7.get i bs[i].v (by rw [List.getElem?_map, List.getElem?_eq_getElem hi9]; rfl)
        have ai : atI (tb.map V.ref) (i : Int) = some (.ref t) := by
          rw [atN V.non (by omega) (by rw [List.length_map, ltb]; omega), List.getD_eq_getElem?_getD, Int.toNat_natCast, gt]
          rfl
        have tw : twN bs (i + 1) = twN bs i ++ tw1 (bs.take i) bs[i] := by
          show twN bs i ++ (match bs[i]? with | some b => tw1 (bs.take i) b | none => []) = _
          rw [List.getElem?_eq_getElem hi9]
        have lfs := tf7.len
        have l9 := twN_len bs i
        unfold evF at lfs
        rw [List.length_map, List.length_append, List.length_map] at lfs
        generalize hb0 : bs[i] = b at *
        refine ⟨_, rfl, _, rfl, bl, _, _, .ref t, rfl, rfl, SqL.of hbl7, ai, t, _, 0, .int b.n, rfl, rfl, SqT.of ht, rfl, ?_⟩
        refine ⟨_, rfl, _, rfl, _, rfl, bl, _, rfl, SqL.of hbl7, fun cu2 hcu2 => ⟨cu2, rfl, ⟨_, SqL.of upd_same⟩, fun D hD => ?_⟩⟩
        rw [cutV_to]
        have sc2 := same_upd (o := .lst ((tb.map V.ref).take i)) hcu2
        have ecu : (upd H7 cu2 (.lst ((tb.map V.ref).take i))) cu2 = some (.lst ((tb.map V.ref).take i)) := upd_same
        rw [cutV_to] at hD
        clear hcu2
        generalize upd H7 cu2 (.lst ((tb.map V.ref).take i)) = H8 at *
        refine lc_itN walk_list (fun j H' => Same H8 H' ∧ H' D = some (.lst ((((bs.take i).map fun b => b.n).take j).map V.int))) ⟨same_upd hD, upd_same⟩ (fun j H' _ q => SqL.of (q.1 _ _ ecu)) (fun j y H9 Hx hj p yy => ?_) (fun H9 p => ?_)
        · obtain ⟨s9, e9⟩ := p
          obtain ⟨rfl, hy⟩ := yy
          rw [List.length_take, List.length_map, ltb] at hj
          have hj1 : j < i := by omega
          have hj2 : j < bs.length := by omega
          obtain ⟨tj, gj, htj⟩ := (htb7.mono fun y b z => s9 _ _ (sc2 _ _ z)).get j bs[j].v (by rw [List.getElem?_map, List.getElem?_eq_getElem hj2]; rfl)
          rw [List.getElem?_take, if_pos hj1, gj] at hy
          obtain rfl := Option.some.inj hy
          have tk9 : ((bs.take i).map fun b => b.n).take (j + 1) = ((bs.take i).map fun b => b.n).take j ++ [bs[j].n] := by
            rw [List.take_add_one, List.getElem?_map, List.getElem?_take, if_pos hj1, List.getElem?_eq_getElem hj2]
            rfl
          refine ⟨rfl, _, rfl, tj, _, 0, .int bs[j].n, rfl, rfl, SqT.of htj, rfl, _, e9, ?_, fun y o eb => (upd_ne (ne_of_none eb hD)).trans (s9 _ _ eb), ?_⟩
          · rw [List.length_map, List.length_take, sizeLine_eq]
            omega
          · rw [upd_same, tk9, List.map_append]
            rfl
        · obtain ⟨s9, e9⟩ := p
          rw [List.length_take, List.length_map, ltb, Nat.min_eq_left (by omega), List.take_of_length_le (by rw [List.length_map, List.length_take]; omega)] at e9
          refine ⟨D, _, rfl, .inl (SqL.of e9), rfl, flat_ints _, _, rfl, ?_⟩
          show if inV (.int b.n) (((bs.take i).map fun b => b.n).map V.int) = true then _ else _
          rw [in_any]
          have s79 : Same H7 H9 := sc2.trans s9
          by_cases q : ((bs.take i).any fun x => decide (x.n = b.n)) = true
          · rw [q]
            refine iteT ⟨_, rfl, .inl ⟨rfl, _, SqL.of (s79 _ _ dl7)⟩, _, rfl, _, rfl, bl, _, _, .ref t, rfl, rfl, SqL.of (s79 _ _ hbl7), ai, t, _, 0, .int b.n, rfl, rfl, SqT.of (s79 _ _ ht), rfl, by show 2 ≤ sizeLine; decide, fun w hw => ⟨wr, _, _, rfl, rfl, (same_upd hw) _ _ (s79 _ _ dl7), by rw [List.length_map, sizeLine_eq]; omega, fs ++ [w], _, rfl, fun y o eb ny => (upd_ne ny).trans ((same_upd hw) _ _ (s79 _ _ (f7 _ _ eb ny))), ?_, ?_⟩⟩
            · rw [upd_same, List.map_append]
              rfl
            · have wwr : w ≠ wr := (ne_of_none (s79 _ _ dl7) hw).symm
              rw [tw, ← List.append_assoc, show tw1 (bs.take i) b = [(("twice" : Str), b.n)] by unfold tw1; rw [if_pos q], List.map_append]
              exact TsAt.snoc ((upd_ne wwr).trans upd_same) (tf7.mono fun y b z => (upd_ne (ne_of (s79 _ _ z) (s79 _ _ dl7) (by intro z; cases z))).trans ((same_upd hw) _ _ (s79 _ _ z)))
          · rw [show ((bs.take i).any fun x => decide (x.n = b.n)) = false by simpa using q]
            refine iteF ⟨fs, _, rfl, fun y o eb ny => s79 _ _ (f7 _ _ eb ny), s79 _ _ dl7, ?_⟩
            rw [tw, ← List.append_assoc, show tw1 (bs.take i) b = [] by unfold tw1; rw [if_neg q], List.append_nil]
            exact tf7.mono fun y b z => s79 _ _ z
      · rintro σ H7 ⟨fs7, w8, rfl, f7, dl7, tf7⟩
        have en : ((bs.length : Int) - 0).toNat = bs.length := by omega
        have tk : ∀ {y b}, H6 y = some (.tup b) → H7 y = some (.tup b) := fun z => f7 _ _ z (ne_of z dl6 (by intro z; cases z))
        have hbl7 := f7 _ _ hbl6 nbw
        have htb7 := htb6.mono fun y b z => tk z
        have hpd7 := f7 _ _ hpd6 npw
        have hev7 := f7 _ _ hev6 q10
        have tv7 := tv6.mono fun y b z => tk z
        have hcl7 := f7 _ _ ca6.l q12
        have hA7 : ∀ y ∈ A, H7 y.1 = some (.lst y.2.v) := fun y hy => f7 _ _ (ca6.r y hy) (na.1 y hy).2.2.2.1
        have T7 : TAt K H7 x rt u bd1 1 := T6.via (fun y C dx fs q => f7 _ _ q (ne_of q dl6 (by intro z; cases z))) (fun y b q => tk q) fun ys q => f7 _ _ q w5
        clear f7 tk hbl6 htb6 hpd6 hev6 tv6 ca6 dl6 tf6 nl6 T6 st6 H6
        refine ⟨_, rfl, cl, rfl, ⟨_, SqL.of hcl7⟩, for_list (K := K) (a := cl) (xs := A.map fun y => V.ref y.1) (fun i σ H' => Same H7 H' ∧ ∃ (dq : Addr) (fs : List Addr) (v12 : Option V), σ = [some (.ref a), some (.ref s), some (.ref x), some (.ref ev), some (.ref cl), some (.ref dq), some (.ref nw), some (.int tick), w8, v9, some (.ref bl), some (.ref pd), v12, none, none, none] ∧ H' dq = some (.lst (fs.map V.ref)) ∧ TsAt H' fs ((evF R.ws ++ twN bs bs.length ++ clF u 1 bd1 bs ps (R.cs.take i)).map fdV))
          ⟨fun _ _ e => e, wr, fs7, none, rfl, dl7, by rw [List.take_zero, show clF u 1 bd1 bs ps [] = [] from rfl, List.append_nil]; exact tf7⟩ (fun i σ H' _ q => SqL.of (q.1 _ _ hcl7)) ?_ ?_⟩
        · rintro i y σ H8 hi ⟨s8, dq, fs, v12, rfl, e8, t8⟩
          obtain ⟨z, hz, rfl⟩ : ∃ z, A[i]? = some z ∧ y = V.ref z.1 := by
            rw [List.getElem?_map] at hi
            obtain ⟨z, hz, e⟩ := Option.map_eq_some_iff.mp hi
            exact ⟨z, hz, e.symm⟩
          have hzA := List.mem_of_getElem? hz
          have hzc : R.cs[i]? = some z.2 := by
            rw [← ec]
            unfold clA
            rw [List.getElem?_map, hz]
            rfl
          have tk9 : R.cs.take (i + 1) = R.cs.take i ++ [z.2] := by rw [List.take_add_one, hzc]; rfl
          have lfs := t8.len
          have l9 := twN_len bs bs.length
          have l8 := clF_len u 1 bd1 bs ps (R.cs.take i)
          unfold evF at lfs
          rw [List.length_map, List.length_append, List.length_append, List.length_map] at lfs
          rw [List.length_take] at l8
          refine ⟨_, rfl, _, rfl, _, rfl, _, rfl, _, rfl, z.1, bl, pd, x, rt, u, 1, bd1, z.2, tb, bs, ps, rfl, s8 _ _ (hA7 z hzA), s8 _ _ hbl7, htb7.mono (fun y b q => s8 _ _ q), by omega, s8 _ _ hpd7, T7.same s8, okU1, okB1, okP1, fun b hb => bl_okV (okbs b hb), hdu z.2 (List.mem_of_getElem? hzc), fun r fs1 H9 hr9 s9 er9 tr9 => ?_⟩
          have fl := fnd_len u 1 bd1 z.2 (lastB bs z.2) (inV (.int z.2.n) (ps.map V.int))
          have lt1 := tr9.len
          rw [List.length_map] at lt1
          refine ⟨dq, r, _, _, rfl, rfl, s9 _ _ e8, er9, by rw [List.length_map, List.length_map, sizeLine_eq]; omega, fun q hq => ?_⟩
          have sq := same_upd (o := .lst (fs.map V.ref ++ fs1.map V.ref)) hq
          refine ⟨s8.trans (s9.trans sq), q, fs ++ fs1, _, rfl, ?_, ?_⟩
          · rw [upd_same, List.map_append]
          · rw [tk9, clF_snoc, ← List.append_assoc, List.map_append]
            exact TsAt.app (tr9.mono fun x b z => sq _ _ z) (t8.mono fun x b z => sq _ _ (s9 _ _ z))
        · rintro σ H8 ⟨s8, dq, fs, v12, rfl, e8, t8⟩
          rw [List.length_map, ← llA, ec, List.take_length] at t8
          have jv : ∀ b ∈ (jdg u 1 bd1 bs ps R).map fdV, ∀ v ∈ b, okV v := fun b hb => by
            obtain ⟨f, hf, rfl⟩ := List.mem_map.mp hb
            exact fd_okV (jok f hf)
          have jl : ∀ b ∈ (jdg u 1 bd1 bs ps R).map fdV, b.length ≤ 11 := fun b hb => by
            obtain ⟨f, hf, rfl⟩ := List.mem_map.mp hb
            exact (by decide : 2 ≤ 11)
          have rep : ∀ H9 l1, Same H8 H9 → H9 l1 = some (.lst [.ref ev, .ref bl, .ref pd]) → Dp K H9 (.ref l1) (repD (es.map Ev.v) (bs.map Bl.v) (ps.map V.int)) := fun H9 l1 s9 e9 =>
            .lst (SqL.of e9) (.cons (rowsD_dp (s9 _ _ (s8 _ _ hev7)) (tv7.mono fun x b z => s9 _ _ (s8 _ _ z)) hbv) (.cons (rowsD_dp (s9 _ _ (s8 _ _ hbl7)) (htb7.mono fun x b z => s9 _ _ (s8 _ _ z)) hbv2) (.cons (lstD_dp (s9 _ _ (s8 _ _ hpd7)) hpv) .nil)))
          refine ⟨_, rfl, _, rfl, _, rfl, by show 3 ≤ sizeLine; decide, fun l1 hl1 => ⟨l1, repD (es.map Ev.v) (bs.map Bl.v) (ps.map V.int), rfl, rep _ _ (same_upd hl1) upd_same, r1, r2, r3, r4, ?_⟩⟩
          have s81 := same_upd (o := .lst [.ref ev, .ref bl, .ref pd]) hl1
          clear hl1
          generalize upd H8 l1 (.lst [.ref ev, .ref bl, .ref pd]) = Ha at *
          generalize hZ : (repD (es.map Ev.v) (bs.map Bl.v) (ps.map V.int)).shown = Z at *
          have sa : Same H7 Ha := s8.trans s81
          refine ⟨_, rfl, _, rfl, _, rfl, _, rfl, ev, x, rt, bl, pd, u, 1, bd1, ts, es, tb, bs, ps, rfl, sa _ _ hev7, tv7.mono (fun x b z => sa _ _ z), by omega, sa _ _ hbl7, htb7.mono (fun x b z => sa _ _ z), by omega, sa _ _ hpd7, T7.same sa, okU1, okB1, okP1, fun b hb => bl_okV (okbs b hb), by rw [hR]; exact hdu, fun r fr Hb sb er tr => ?_⟩
          rw [hR] at tr
          refine ⟨_, rfl, _, _, _, _, true, rfl, ClsV.ty "list", TyX.base (TyOf.lst er), kit_ty (by decide +kernel), _, rfl, ?_⟩
          refine iteT ⟨_, rfl, _, rfl, rowsD ((jdg u 1 bd1 bs ps R).map fdV), rowsD ((jdg u 1 bd1 bs ps R).map fdV), rowsD_dp er tr jv, rowsD_dp (sb _ _ (s81 _ _ e8)) (t8.mono fun x b z => sb _ _ (s81 _ _ z)) jv, (rowsD_ok jv jl).1, (rowsD_ok jv jl).1, _, rfl, ?_⟩
          rw [(rowsD_ok jv jl).2]
          refine iteT ⟨_, rfl, _, rfl, _, rfl, by show 3 ≤ sizeLine; decide, fun l2 hl2 => ⟨l2, repD (es.map Ev.v) (bs.map Bl.v) (ps.map V.int), rfl, rep _ _ (s81.trans (sb.trans (same_upd hl2))) upd_same, r1, r2, r3, by rw [hZ]; exact r4, _, rfl, rfl, ?_⟩⟩
          rw [hZ, decide_eq_true rfl]
          exact k _
end K16
set_option maxHeartbeats 0
namespace K16
open PySem PySem.Spec PyProof.Rows L2 SX TK NdefX
/-! ### the head: facts by names, the run -/
def d_Told___init : He.DefD := ⟨("Told", some "__init__"), "__init__", "Told.__init__", defArgs s_Told___init, defBody s_Told___init, defScope s_Told___init, [], []⟩
def d_Told_parts : He.DefD := ⟨("Told", some "parts"), "parts", "Told.parts", defArgs s_Told_parts, defBody s_Told_parts, defScope s_Told_parts, [], []⟩
def d_Told_allows : He.DefD := ⟨("Told", some "allows"), "allows", "Told.allows", defArgs s_Told_allows, defBody s_Told_allows, defScope s_Told_allows, [], []⟩
def d_Told_take : He.DefD := ⟨("Told", some "take"), "take", "Told.take", defArgs s_Told_take, defBody s_Told_take, defScope s_Told_take, [], []⟩
def d_tell : He.DefD := ⟨("tell", none), "tell", "tell", defArgs s_tell, defBody s_tell, defScope s_tell, [], []⟩
def d_stands : He.DefD := ⟨("_stands", none), "_stands", "_stands", defArgs s_stands, defBody s_stands, defScope s_stands, [], []⟩
def d_take : He.DefD := ⟨("_take", none), "_take", "_take", defArgs s_take, defBody s_take, defScope s_take, [], []⟩
def d_judge : He.DefD := ⟨("judge", none), "judge", "judge", defArgs s_judge, defBody s_judge, defScope s_judge, [], []⟩
def d_judge_call : He.DefD := ⟨("_judge_call", none), "_judge_call", "_judge_call", defArgs s_judge_call, defBody s_judge_call, defScope s_judge_call, [], []⟩
def d_Tariff___init : He.DefD := ⟨("Tariff", some "__init__"), "__init__", "Tariff.__init__", defArgs s_Tariff___init, defBody s_Tariff___init, defScope s_Tariff___init, [], []⟩
def d_Tariff_units : He.DefD := ⟨("Tariff", some "units"), "units", "Tariff.units", defArgs s_Tariff_units, defBody s_Tariff_units, defScope s_Tariff_units, [], []⟩
def d_Tariff_cost : He.DefD := ⟨("Tariff", some "cost"), "cost", "Tariff.cost", defArgs s_Tariff_cost, defBody s_Tariff_cost, defScope s_Tariff_cost, [], []⟩
def d_is_unit : He.DefD := ⟨("_is_unit", none), "_is_unit", "_is_unit", defArgs s_is_unit, defBody s_is_unit, defScope s_is_unit, [], []⟩
def d_is_price : He.DefD := ⟨("_is_price", none), "_is_price", "_is_price", defArgs s_is_price, defBody s_is_price, defScope s_is_price, [], []⟩
def d_are_bands : He.DefD := ⟨("_are_bands", none), "_are_bands", "_are_bands", defArgs s_are_bands, defBody s_are_bands, defScope s_are_bands, [], []⟩
def d_law_state : He.DefD := ⟨("_law_state", none), "_law_state", "_law_state", defArgs s_law_state, defBody s_law_state, defScope s_law_state, [], []⟩
def d_law_draw : He.DefD := ⟨("_law_draw", none), "_law_draw", "_law_draw", defArgs s_law_draw, defBody s_law_draw, defScope s_law_draw, [], []⟩
def d_law_pick : He.DefD := ⟨("_law_pick", none), "_law_pick", "_law_pick", defArgs s_law_pick, defBody s_law_pick, defScope s_law_pick, [], []⟩
def d_law_event : He.DefD := ⟨("_law_event", none), "_law_event", "_law_event", defArgs s_law_event, defBody s_law_event, defScope s_law_event, [], []⟩
def d_law_stands : He.DefD := ⟨("_law_stands", none), "_law_stands", "_law_stands", defArgs s_law_stands, defBody s_law_stands, defScope s_law_stands, [], []⟩
def d_law_apply : He.DefD := ⟨("_law_apply", none), "_law_apply", "_law_apply", defArgs s_law_apply, defBody s_law_apply, defScope s_law_apply, [], []⟩
def d_law_changed_bill : He.DefD := ⟨("_law_changed_bill", none), "_law_changed_bill", "_law_changed_bill", defArgs s_law_changed_bill, defBody s_law_changed_bill, defScope s_law_changed_bill, [], []⟩
def d_law_bills : He.DefD := ⟨("_law_bills", none), "_law_bills", "_law_bills", defArgs s_law_bills, defBody s_law_bills, defScope s_law_bills, [], []⟩
def d_law_pending : He.DefD := ⟨("_law_pending", none), "_law_pending", "_law_pending", defArgs s_law_pending, defBody s_law_pending, defScope s_law_pending, [], []⟩
def d_law_findings : He.DefD := ⟨("_law_findings", none), "_law_findings", "_law_findings", defArgs s_law_findings, defBody s_law_findings, defScope s_law_findings, [], []⟩
def d_law : He.DefD := ⟨("law", none), "law", "law", defArgs s_law, defBody s_law, defScope s_law, [], []⟩
def fnL : List He.DefD := [d_Told___init, d_Told_parts, d_Told_allows, d_Told_take, d_tell, d_stands, d_take, d_judge, d_judge_call, d_Tariff___init, d_Tariff_units, d_Tariff_cost, d_is_unit, d_is_price, d_are_bands, d_law_state, d_law_draw, d_law_pick, d_law_event, d_law_stands, d_law_apply, d_law_changed_bill, d_law_bills, d_law_pending, d_law_findings, d_law]
def faL : List He.Fa := [.int "GREATEST_PRICE" 10000, .int "GREATEST_UNIT" 10000, .int "MOST_BANDS" 8, .free "abs", .free "all", .free "enumerate", .free "int", .free "isinstance", .free "len", .free "list", .free "max", .free "min", .free "range", .free "repr", .free "super", .free "tuple", .cls "Told", .noat "Told" "number", .noat "Told" "caller", .noat "Told" "callee", .noat "Told" "begun", .noat "Told" "rang", .noat "Told" "answered", .noat "Told" "ended", .noat "Told" "why", .noat "Told" "modes", .noat "Told" "moves", .glo "Told", .mkr "Told", .cls "Tariff", .noat "Tariff" "unit", .noat "Tariff" "bands", .noat "Tariff" "last", .glo "Tariff", .mkr "Tariff", .glo "TrunklandError", .glo "ConfigError", .meth "Told" "parts", .meth "Told" "allows", .meth "Told" "take", .glo "tell", .glo "_stands", .glo "_take", .glo "judge", .glo "_judge_call", .meth "Tariff" "units", .meth "Tariff" "cost", .glo "_is_unit", .glo "_is_price", .glo "_are_bands", .glo "_law_state", .glo "_law_draw", .glo "_law_pick", .glo "_law_event", .glo "_law_stands", .glo "_law_apply", .glo "_law_changed_bill", .glo "_law_bills", .glo "_law_pending", .glo "_law_findings", .glo "law"]
def loose0 : List Str := ["GREATEST_UNIT", "GREATEST_PRICE", "MOST_BANDS", "tell", "_stands", "_take", "judge", "_judge_call", "_is_unit", "_is_price", "_are_bands", "_law_state", "_law_draw", "_law_pick", "_law_event", "_law_stands", "_law_apply", "_law_changed_bill", "_law_bills", "_law_pending", "_law_findings", "Told", "TrunklandError", "ConfigError", "Tariff"]
abbrev Row0 : PySem.W.OpenRow := PySem.W.OpenLaw.row PySem.Challenge.rw_trunkland_k16_judge
def exL (K : PySem.W.Frag) : List Bool := [TKE.excAll K "ConfigError" "setting" "ConfigError.__init__" PySem.Challenge.pw_trunkland_k16_judge.main.file]
def e_ConfigError : He.DefD := ⟨("ConfigError", some "__init__"), "__init__", "ConfigError.__init__", defArgs si_ConfigError, defBody si_ConfigError, defScope si_ConfigError, [], []⟩
def esL : List He.DefD := [e_ConfigError]
abbrev hk : PySem.W.Hook := TKE.hookE 6 faL fnL exL esL
def ob (s : PySem.W.SharedT) : TKE.AlE := TKE.obsE 6 faL fnL exL esL (HandSHeadRun.getT s)
theorem ob_eq (s : PySem.W.SharedT) : ob s = hk.obs s.abs := TKE.obsE_eq (HandSHeadRun.getT_eq s)
theorem run (w : World) : HandSHeadRun.RunEq Row0 (PySem.W.view Row0.prog [30]) hk ob 4000 (loose0) w := by
  intro os
  kernel_rfl
theorem facts {P : Program} {w : World} {K : PySem.W.Frag} {h : Heap} {mg : Str → Option Value} {f : Addr} (X : K.In h) (G : h.Ns mainGlobals mg) (hfa : mg ("law" : Str) = some (.ref f)) (c : He.SaysD faL fnL K) (cx : (exL K).all id = true) (ce : esL.map (fun d => TKE.fnC K d.at_) = esL.map He.DefD.val) (hP : P.main.file = PySem.Challenge.pw_trunkland_k16_judge.main.file) (htop : (P.main.scope.names.lookup ("super" : Str)).isSome = false) :
    ∃ fd : FuncData, (∀ (s : Shared) (v : Value), BindsTo s fd ⟨[v], []⟩ [("script", v)]) ∧ ∀ base : Heap, K.In base → base.Ns mainGlobals mg → TKR.FnC P w K mg base f fd ["script"] (spLaw K) := by
  have b_ConfigError := TKE.exTxt_of (P := P) (TK.exAt cx 0 rfl) hP (TKE.fnC_at ce 0 (d := e_ConfigError) rfl)
  have T : Tx K mg := ⟨He.int_ok X G (c.fact 0 (f := .int "GREATEST_PRICE" 10000) rfl), He.int_ok X G (c.fact 1 (f := .int "GREATEST_UNIT" 10000) rfl), He.int_ok X G (c.fact 2 (f := .int "MOST_BANDS" 8) rfl), He.free_ok X G (c.fact 3 (f := .free "abs") rfl), He.free_ok X G (c.fact 4 (f := .free "all") rfl), He.free_ok X G (c.fact 5 (f := .free "enumerate") rfl), He.free_ok X G (c.fact 6 (f := .free "int") rfl), He.free_ok X G (c.fact 7 (f := .free "isinstance") rfl), He.free_ok X G (c.fact 8 (f := .free "len") rfl), He.free_ok X G (c.fact 9 (f := .free "list") rfl), He.free_ok X G (c.fact 10 (f := .free "max") rfl), He.free_ok X G (c.fact 11 (f := .free "min") rfl), He.free_ok X G (c.fact 12 (f := .free "range") rfl), He.free_ok X G (c.fact 13 (f := .free "repr") rfl), He.free_ok X G (c.fact 14 (f := .free "super") rfl), He.free_ok X G (c.fact 15 (f := .free "tuple") rfl), He.cls_ok (c.fact 16 (f := .cls "Told") rfl), He.noat_ok (c.fact 17 (f := .noat "Told" "number") rfl), He.noat_ok (c.fact 18 (f := .noat "Told" "caller") rfl), He.noat_ok (c.fact 19 (f := .noat "Told" "callee") rfl), He.noat_ok (c.fact 20 (f := .noat "Told" "begun") rfl), He.noat_ok (c.fact 21 (f := .noat "Told" "rang") rfl), He.noat_ok (c.fact 22 (f := .noat "Told" "answered") rfl), He.noat_ok (c.fact 23 (f := .noat "Told" "ended") rfl), He.noat_ok (c.fact 24 (f := .noat "Told" "why") rfl), He.noat_ok (c.fact 25 (f := .noat "Told" "modes") rfl), He.noat_ok (c.fact 26 (f := .noat "Told" "moves") rfl), He.cls_ok (c.fact 29 (f := .cls "Tariff") rfl), He.noat_ok (c.fact 30 (f := .noat "Tariff" "unit") rfl), He.noat_ok (c.fact 31 (f := .noat "Tariff" "bands") rfl), He.noat_ok (c.fact 32 (f := .noat "Tariff" "last") rfl), He.glo_ok X G (c.fact 35 (f := .glo "TrunklandError") rfl), He.glo_ok X G (c.fact 36 (f := .glo "ConfigError") rfl), b_ConfigError.xf, b_ConfigError.ec, b_ConfigError.no⟩
  obtain ⟨fd_Told___init, F_Told___init⟩ := c.def_ 0 (d := d_Told___init) rfl
  obtain ⟨fd_Told_parts, F_Told_parts⟩ := c.def_ 1 (d := d_Told_parts) rfl
  obtain ⟨fd_Told_allows, F_Told_allows⟩ := c.def_ 2 (d := d_Told_allows) rfl
  obtain ⟨fd_Told_take, F_Told_take⟩ := c.def_ 3 (d := d_Told_take) rfl
  obtain ⟨fd_tell, F_tell⟩ := c.def_ 4 (d := d_tell) rfl
  obtain ⟨fd_stands, F_stands⟩ := c.def_ 5 (d := d_stands) rfl
  obtain ⟨fd_take, F_take⟩ := c.def_ 6 (d := d_take) rfl
  obtain ⟨fd_judge, F_judge⟩ := c.def_ 7 (d := d_judge) rfl
  obtain ⟨fd_judge_call, F_judge_call⟩ := c.def_ 8 (d := d_judge_call) rfl
  obtain ⟨fd_Tariff___init, F_Tariff___init⟩ := c.def_ 9 (d := d_Tariff___init) rfl
  obtain ⟨fd_Tariff_units, F_Tariff_units⟩ := c.def_ 10 (d := d_Tariff_units) rfl
  obtain ⟨fd_Tariff_cost, F_Tariff_cost⟩ := c.def_ 11 (d := d_Tariff_cost) rfl
  obtain ⟨fd_is_unit, F_is_unit⟩ := c.def_ 12 (d := d_is_unit) rfl
  obtain ⟨fd_is_price, F_is_price⟩ := c.def_ 13 (d := d_is_price) rfl
  obtain ⟨fd_are_bands, F_are_bands⟩ := c.def_ 14 (d := d_are_bands) rfl
  obtain ⟨fd_law_state, F_law_state⟩ := c.def_ 15 (d := d_law_state) rfl
  obtain ⟨fd_law_draw, F_law_draw⟩ := c.def_ 16 (d := d_law_draw) rfl
  obtain ⟨fd_law_pick, F_law_pick⟩ := c.def_ 17 (d := d_law_pick) rfl
  obtain ⟨fd_law_event, F_law_event⟩ := c.def_ 18 (d := d_law_event) rfl
  obtain ⟨fd_law_stands, F_law_stands⟩ := c.def_ 19 (d := d_law_stands) rfl
  obtain ⟨fd_law_apply, F_law_apply⟩ := c.def_ 20 (d := d_law_apply) rfl
  obtain ⟨fd_law_changed_bill, F_law_changed_bill⟩ := c.def_ 21 (d := d_law_changed_bill) rfl
  obtain ⟨fd_law_bills, F_law_bills⟩ := c.def_ 22 (d := d_law_bills) rfl
  obtain ⟨fd_law_pending, F_law_pending⟩ := c.def_ 23 (d := d_law_pending) rfl
  obtain ⟨fd_law_findings, F_law_findings⟩ := c.def_ 24 (d := d_law_findings) rfl
  obtain ⟨fd_law, F_law⟩ := c.def_ 25 (d := d_law) rfl
  have e := hfa.symm.trans (He.glo_ok X G (c.fact 60 (f := .glo "law") rfl))
  cases e
  have b := FunD.bindsA (ps := ["script"]) F_law fun _ _ _ _ _ _ us hl => match us, hl with | [_], _ => rfl
  refine ⟨fd_law, fun s v => b s [v] rfl, fun base _ _ => ?_⟩
  have x_ConfigError := ok_exc_ConfigError (w := w) (base := base) T.f_super htop T.g_ConfigError b_ConfigError
  have c_law_state := cal_of (P := P) (w := w) (base := base) F_law_state (ok_law_state T  F_law_state) (He.glo_ok X G (c.fact 50 (f := .glo "_law_state") rfl)) fun _ _ _ _ _ _ us hl => match us, hl with | [_], _ => rfl
  have c_law_draw := cal_of (P := P) (w := w) (base := base) F_law_draw (ok_law_draw T  F_law_draw) (He.glo_ok X G (c.fact 51 (f := .glo "_law_draw") rfl)) fun _ _ _ _ _ _ us hl => match us, hl with | [_, _], _ => rfl
  have c_law_pick := cal_of (P := P) (w := w) (base := base) F_law_pick (ok_law_pick T c_law_draw F_law_pick) (He.glo_ok X G (c.fact 52 (f := .glo "_law_pick") rfl)) fun _ _ _ _ _ _ us hl => match us, hl with | [_, _], _ => rfl
  have c_mk_Told := mak_of (P := P) (w := w) (base := base) (He.mkr_ok (c.fact 28 (f := .mkr "Told") rfl)) (He.glo_ok X G (c.fact 27 (f := .glo "Told") rfl)) F_Told___init (ok_Told___init T  F_Told___init) fun _ _ _ _ _ _ us hl => match us, hl with | [_, _, _, _, _], _ => rfl
  have c_Told_parts := met_of (P := P) (w := w) (base := base) T.cl_Told (He.meth_ok (c.fact 37 (f := .meth "Told" "parts") rfl)) F_Told_parts (ok_Told_parts T  F_Told_parts) fun _ _ _ _ _ _ us hl => match us, hl with | [_], _ => rfl
  have c_Told_allows := met_of (P := P) (w := w) (base := base) T.cl_Told (He.meth_ok (c.fact 38 (f := .meth "Told" "allows") rfl)) F_Told_allows (ok_Told_allows T  F_Told_allows) fun _ _ _ _ _ _ us hl => match us, hl with | [_, _], _ => rfl
  have c_Told_take := met_of (P := P) (w := w) (base := base) T.cl_Told (He.meth_ok (c.fact 39 (f := .meth "Told" "take") rfl)) F_Told_take (ok_Told_take T  F_Told_take) fun _ _ _ _ _ _ us hl => match us, hl with | [_, _], _ => rfl
  have c_stands := cal_of (P := P) (w := w) (base := base) F_stands (ok_stands T c_Told_allows F_stands) (He.glo_ok X G (c.fact 41 (f := .glo "_stands") rfl)) fun _ _ _ _ _ _ us hl => match us, hl with | [_, _], _ => rfl
  have c_take := cal_of (P := P) (w := w) (base := base) F_take (ok_take T c_Told_take c_mk_Told F_take) (He.glo_ok X G (c.fact 42 (f := .glo "_take") rfl)) fun _ _ _ _ _ _ us hl => match us, hl with | [_, _], _ => rfl
  have c_tell := cal_of (P := P) (w := w) (base := base) F_tell (ok_tell T c_stands c_take c_Told_parts F_tell) (He.glo_ok X G (c.fact 40 (f := .glo "tell") rfl)) fun _ _ _ _ _ _ us hl => match us, hl with | [_], _ => rfl
  have c_law_event := cal_of (P := P) (w := w) (base := base) F_law_event (ok_law_event T c_law_draw c_law_pick F_law_event) (He.glo_ok X G (c.fact 53 (f := .glo "_law_event") rfl)) fun _ _ _ _ _ _ us hl => match us, hl with | [_, _, _], _ => rfl
  have c_law_stands := cal_of (P := P) (w := w) (base := base) F_law_stands (ok_law_stands T  F_law_stands) (He.glo_ok X G (c.fact 54 (f := .glo "_law_stands") rfl)) fun _ _ _ _ _ _ us hl => match us, hl with | [_, _, _], _ => rfl
  have c_law_apply := cal_of (P := P) (w := w) (base := base) F_law_apply (ok_law_apply T  F_law_apply) (He.glo_ok X G (c.fact 55 (f := .glo "_law_apply") rfl)) fun _ _ _ _ _ _ us hl => match us, hl with | [_, _, _], _ => rfl
  have c_is_unit := cal_of (P := P) (w := w) (base := base) F_is_unit (ok_is_unit T  F_is_unit) (He.glo_ok X G (c.fact 47 (f := .glo "_is_unit") rfl)) fun _ _ _ _ _ _ us hl => match us, hl with | [_], _ => rfl
  have c_is_price := cal_of (P := P) (w := w) (base := base) F_is_price (ok_is_price T  F_is_price) (He.glo_ok X G (c.fact 48 (f := .glo "_is_price") rfl)) fun _ _ _ _ _ _ us hl => match us, hl with | [_], _ => rfl
  have c_are_bands := cal_of (P := P) (w := w) (base := base) F_are_bands (ok_are_bands T c_is_unit c_is_price F_are_bands) (He.glo_ok X G (c.fact 49 (f := .glo "_are_bands") rfl)) fun _ _ _ _ _ _ us hl => match us, hl with | [_], _ => rfl
  have c_Tariff_units := met_of (P := P) (w := w) (base := base) T.cl_Tariff (He.meth_ok (c.fact 45 (f := .meth "Tariff" "units") rfl)) F_Tariff_units (ok_Tariff_units T  F_Tariff_units) fun _ _ _ _ _ _ us hl => match us, hl with | [_, _], _ => rfl
  have c_Tariff_cost := met_of (P := P) (w := w) (base := base) T.cl_Tariff (He.meth_ok (c.fact 46 (f := .meth "Tariff" "cost") rfl)) F_Tariff_cost (ok_Tariff_cost T c_Tariff_units F_Tariff_cost) fun _ _ _ _ _ _ us hl => match us, hl with | [_, _], _ => rfl
  have c_mkx_Tariff := TKE.makX_of (P := P) (w := w) (base := base) (n := 3) (He.mkr_ok (c.fact 34 (f := .mkr "Tariff") rfl)) (He.glo_ok X G (c.fact 33 (f := .glo "Tariff") rfl)) F_Tariff___init (ok_Tariff___init T x_ConfigError c_is_unit c_is_price c_are_bands F_Tariff___init) rfl fun _ _ _ _ _ _ us hl => match us, hl with | [_, _, _, _], _ => rfl
  have c_law_changed_bill := cal_of (P := P) (w := w) (base := base) F_law_changed_bill (ok_law_changed_bill T c_law_draw F_law_changed_bill) (He.glo_ok X G (c.fact 56 (f := .glo "_law_changed_bill") rfl)) fun _ _ _ _ _ _ us hl => match us, hl with | [_, _], _ => rfl
  have c_law_pending := cal_of (P := P) (w := w) (base := base) F_law_pending (ok_law_pending T c_law_draw F_law_pending) (He.glo_ok X G (c.fact 58 (f := .glo "_law_pending") rfl)) fun _ _ _ _ _ _ us hl => match us, hl with | [_, _], _ => rfl
  have c_law_bills := cal_of (P := P) (w := w) (base := base) F_law_bills (ok_law_bills T c_law_draw c_law_pick c_law_changed_bill c_Tariff_cost F_law_bills) (He.glo_ok X G (c.fact 57 (f := .glo "_law_bills") rfl)) fun _ _ _ _ _ _ us hl => match us, hl with | [_, _, _], _ => rfl
  have c_judge_call := cal_of (P := P) (w := w) (base := base) F_judge_call (ok_judge_call T c_Tariff_cost F_judge_call) (He.glo_ok X G (c.fact 44 (f := .glo "_judge_call") rfl)) fun _ _ _ _ _ _ us hl => match us, hl with | [_, _, _, _], _ => rfl
  have c_law_findings := cal_of (P := P) (w := w) (base := base) F_law_findings (ok_law_findings T c_Tariff_cost F_law_findings) (He.glo_ok X G (c.fact 59 (f := .glo "_law_findings") rfl)) fun _ _ _ _ _ _ us hl => match us, hl with | [_, _, _, _], _ => rfl
  have c_judge := cal_of (P := P) (w := w) (base := base) F_judge (ok_judge T c_tell c_judge_call F_judge) (He.glo_ok X G (c.fact 43 (f := .glo "judge") rfl)) fun _ _ _ _ _ _ us hl => match us, hl with | [_, _, _, _], _ => rfl
  exact ok_law T c_law_state c_law_draw c_law_pick c_law_event c_law_stands c_law_apply c_law_bills c_law_pending c_law_findings c_judge c_mkx_Tariff F_law
end K16
open PySem PySem.W PySem.Calls PyProof.Rows
theorem PySem.Challenge.cw_trunkland_k16_judge_holds : PySem.Challenge.rw_trunkland_k16_judge.Holds := by
  w_on; o_law
  refine HandSHeadRun.head_any (r := OpenLaw.row PySem.Challenge.rw_trunkland_k16_judge) (q := view (OpenLaw.row PySem.Challenge.rw_trunkland_k16_judge).prog [30]) (H := K16.hk) (ob := K16.ob) (M := 4000) (loose := K16.loose0) (d := HandSHeadRun.topDef (OpenLaw.row PySem.Challenge.rw_trunkland_k16_judge).prog 30) (kwd := []) K16.ob_eq
    (by kernel_rfl) (fun s => by kernel_rfl) K16.run (by kernel_rfl) (by kernel_rfl) (by kernel_rfl) (by rfl) (by first | assumption | decide +kernel) (by decide +kernel) ⟨rfl, rfl, rfl, rfl, rfl, by decide +kernel⟩ ?hw ?hc
  case hw => w_witness2
  case hc =>
    refine TKR.walk_ofC (l := PySem.Challenge.rw_trunkland_k16_judge) (n := 63) (x := "script") rfl (by decide) (by kernel_rfl) ?F
    intro w mg fa h Y G hmg0
    obtain ⟨K, KX, c, cx, ce⟩ := Y
    have hmg : mg ("law" : PySem.Str) = some (.ref fa) := by
      have e : (HandSHeadRun.topDef (OpenLaw.row PySem.Challenge.rw_trunkland_k16_judge).prog 30).name = ("law" : PySem.Str) := by kernel_rfl
      rw [← e]
      exact hmg0
    obtain ⟨fd, hb, hF⟩ := K16.facts (P := (PySem.Challenge.rw_trunkland_k16_judge).prog) (w := w) KX G hmg c cx ce rfl (by kernel_rfl)
    exact ⟨K, fd, K16.spLaw K, KX, hb, fun H a ns hl _ hS => ⟨a, ns, rfl, hS, hl, fun _ => rfl⟩, hF⟩
