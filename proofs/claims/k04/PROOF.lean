import PyProof.Rows.All
import Wide.All
import OpenK.AllK
import Wide.FinOn
import HandS.ForMost
import HandS.Defaults
import HandS.Codes
import HandS.IsInst
import HandS.NoneIn
import HandS.Replace
import HandS.Walk
import HandS.Head0
import HandS.Head1
import HandS.Head2
import HandS.HeadEnd
import HandS.HeadHook1
import HandS.HeadHook2
import HandS.MakeKw
import HandS.MakeKwOnly
import HandS.FStr
import HandS.Deep
import HandS.StrMore
import HandS.Steps
import PyProof.MeetsStr3
import PyProof.Rows.StrNews2
import PyProof.Rows.StrLast
import PyProof.Rows.StrCountLaw
import HandS.SetKeys
import HandS.Strs
import HandS.ExcInit
import HandS.ExcIs
import HandS.ExcField
import HandS.ExcCtx
import HandS.ClsMeth
import HandS.Nested
import KE.KExcSuper
import KE.KExcIs
import KE.KIsAll
import HandS.WordsExc
import HandS.ExcOwn
import PySem.Challenge.RW_trunkland_k04_texts_that_are_no_letters
import HandS.SetFor
set_option Elab.async false
set_option linter.all false
set_option maxRecDepth 100000
set_option maxHeartbeats 4000000
/-! Helpers of mine over the hand layer, the same for every law of this program. -/
namespace TK
open PySem PySem.Spec PyProof.Rows L2 C8 SX
section
variable {X : Cx} {x : Str} {pos p : Pos} {k j : Nat} {sp : Sp} {dvs : List V}
theorem pgI {i : Int} (h : ∃ t, X.mg x = some (.int i t)) (hg : Gl X x := by rfl) (hd : (x == ("__debug__" : Str)) = false := by decide) : PE X (.Name x pos) (tC (.int i)) := by
  obtain ⟨t, e⟩ := h
  exact pe_glob hg e ⟨t, rfl⟩ hd
theorem pgS {z : Str} (h : ∃ t, X.mg x = some (.str z t)) (hg : Gl X x := by rfl) (hd : (x == ("__debug__" : Str)) = false := by decide) : PE X (.Name x pos) (tC (.str z)) := by
  obtain ⟨t, e⟩ := h
  exact pe_glob hg e ⟨t, rfl⟩ hd
theorem pgR {a : Addr} (h : X.mg x = some (.ref a)) (hg : Gl X x := by rfl) (hd : (x == ("__debug__" : Str)) = false := by decide) : PE X (.Name x pos) (tC (.ref a)) := pe_glob hg h rfl hd
theorem pe_c0 (c : Cal X.prog X.w X.K X.mg X.base k x sp dvs) (hr : Room j X.A) (hk : k ≤ j) (hg : Gl X x) (hdb : (x == ("__debug__" : Str)) = false := by decide) :
    PE X (.Call (.Name x p) [] [] pos) (tCall sp dvs L2.E0 tNil) := by
  obtain ⟨f, fd, ps, ds, F, hm, kp, b, d⟩ := c.ex
  exact pe_call0 F (hr.mono hk) hg hm kp b d L2.pass0 hdb
end
section
variable {P : Program} {w : World} {K : PySem.W.Frag} {mg : Str → Option Value} {base : Heap}
/-- a def without defaults, as callers want it -/
theorem cal_of {x qual : Str} {params : Arguments} {body : List Stmt} {scope : Scope} {f : Addr} {fd : FuncData} {ps : List Str} {k : Nat} {sp : Sp} (F : FunD K x qual params body scope [] [] f fd) (G : FnOk P w K mg base L2.CX0 k f fd ps sp) (hm : mg x = some (.ref f))
    (h : ∀ (kV doc pm : Value) (an : Option Addr) (cdv ct : Value) (us : List Value), us.length = ps.length → bindArgs (PySem.W.fnOf x qual params body scope .none kV doc pm an cdv ct) ⟨us, []⟩ = pure (ps.zip us)) : Cal P w K mg base k x sp [] :=
  ⟨f, fd, ps, [], G, hm, F.kp, F.bindsN h, .nil⟩
end
/-! ### heaps -/
/-- all that was tracked is as it was, but what stands at two places -/
def Keep (H H' : Hp) (a c : Addr) : Prop := ∀ b o, H b = some o → b ≠ a → b ≠ c → H' b = some o
theorem Keep.refl (H : Hp) (a c : Addr) : Keep H H a c := fun _ _ h _ _ => h
theorem Keep.trans {H H1 H2 : Hp} {a c : Addr} (h : Keep H H1 a c) (k : Keep H1 H2 a c) : Keep H H2 a c := fun b o e h1 h2 => k b o (h b o e h1 h2) h1 h2
theorem Keep.of_same {H H' : Hp} {a c : Addr} (h : Same H H') : Keep H H' a c := fun b o e _ _ => h b o e
theorem same_upd {H : Hp} {p : Addr} {o : HO} (h : H p = none) : Same H (upd H p o) := fun b u e => by
  rw [upd_ne (ne_of_none e h)]
  exact e
/-- the law's source of draws: a list of a list of cells and a seed -/
structure StAt (H : Hp) (s c : Addr) : Prop where
  ne : s ≠ c
  at_ : ∃ n : Int, H s = some (.lst [.ref c, .int n])
  cells : ∃ ns : List Int, H c = some (.lst (ns.map V.int)) ∧ ns.length ≤ 63
theorem StAt.same {H H' : Hp} {s c : Addr} (h : StAt H s c) (e : Same H H') : StAt H' s c := by
  obtain ⟨ne, ⟨n, h1⟩, ns, h2, h3⟩ := h
  exact ⟨ne, ⟨n, e _ _ h1⟩, ns, e _ _ h2, h3⟩
end TK
namespace TK
open PySem PySem.Spec PyProof.Rows L2 C8 SX
/-! ### comprehensions whose elements leave the heap alone -/
theorem lc_pure {J : It} {n : Nat} {G : Hp → Prop} {Y : Nat → Hp → V → Hp → Prop} (w : Walk J n G Y) (f : Nat → V) {g : TG} {tt : TT} {te : TE} {vs : List Nat} {σ : L2.St} {H1 : Hp} {D : Addr} {Qd : Hp → Prop} (hn : n ≤ sizeLine)
    (hG : ∀ i, i ≤ n → G (upd H1 D (.lst ((List.range i).map f))))
    (hs : ∀ (i : Nat) (x : V) (H' : Hp) (k : V → Hp → Prop), i < n → Y i (upd H1 D (.lst ((List.range i).map f))) x H' → k (f i) (upd H1 D (.lst ((List.range i).map f))) →
      g x (wipe σ vs) H' fun σ2 H2 => wipe σ2 vs = wipe σ vs ∧ tt σ2 H2 fun b H3 => b = true ∧ te σ2 H3 k)
    (ht : ∀ σ H Q Q', (∀ b H', Q b H' → Q' b H') → tt σ H Q → tt σ H Q') (hg : ∀ x σ H Q Q', (∀ σ' H', Q σ' H' → Q' σ' H') → g x σ H Q → g x σ H Q')
    (hd : Qd (upd H1 D (.lst ((List.range n).map f)))) :
    ∃ W : Nat → Nat → Hp → Prop, (∃ m, W 0 m (upd H1 D (.lst []))) ∧ ∀ i m H, W i m H →
      (J.stop i H ∧ Qd H) ∨ (J.go i H ∧ ∃ Nx : Hp → Prop, (∀ H', Nx H' → ∃ m', m' < m ∧ W (i + 1) m' H') ∧ ∀ x H', J.yld i H x H' → g x (wipe σ vs) H' fun σ2 H2 => wipe σ2 vs = wipe σ vs ∧ tt σ2 H2 fun b H3 =>
        if b = true then te σ2 H3 fun y H4 => ∃ acc, H4 D = some (.lst acc) ∧ acc.length < sizeLine ∧ Nx (upd H4 D (.lst (acc ++ [y]))) else Nx H3) := by
  refine lc_it w (fun i H => H = upd H1 D (.lst ((List.range i).map f))) rfl (fun i H hi e => e ▸ hG i hi) (fun i x H H' hi e y => ?_) (fun H e => e ▸ hd)
  subst e
  refine hg _ _ _ _ _ (fun σ2 H2 q => ⟨q.1, ht _ _ _ _ (fun b H3 r => ?_) q.2⟩) (hs i x H' (fun y H4 => ∃ acc, H4 D = some (.lst acc) ∧ acc.length < sizeLine ∧ upd H4 D (.lst (acc ++ [y])) = upd H1 D (.lst ((List.range (i + 1)).map f))) hi y ⟨_, upd_same, ?_, ?_⟩)
  · rw [if_pos r.1]
    exact r.2
  · rw [List.length_map, List.length_range]
    omega
  · rw [upd_upd, List.range_succ, List.map_append]
    rfl
/-- the usual target and no test -/
theorem lc_pureN {J : It} {n : Nat} {G : Hp → Prop} {Y : Nat → Hp → V → Hp → Prop} (w : Walk J n G Y) (f : Nat → V) {j : Nat} {te : TE} {vs : List Nat} {σ : L2.St} {H1 : Hp} {D : Addr} {Qd : Hp → Prop} (hn : n ≤ sizeLine)
    (hG : ∀ i, i ≤ n → G (upd H1 D (.lst ((List.range i).map f))))
    (hs : ∀ (i : Nat) (x : V) (H' : Hp) (k : V → Hp → Prop), i < n → Y i (upd H1 D (.lst ((List.range i).map f))) x H' → k (f i) (upd H1 D (.lst ((List.range i).map f))) →
      wipe ((wipe σ vs).set j (some x)) vs = wipe σ vs ∧ te ((wipe σ vs).set j (some x)) H' k)
    (hd : Qd (upd H1 D (.lst ((List.range n).map f)))) :
    ∃ W : Nat → Nat → Hp → Prop, (∃ m, W 0 m (upd H1 D (.lst []))) ∧ ∀ i m H, W i m H →
      (J.stop i H ∧ Qd H) ∨ (J.go i H ∧ ∃ Nx : Hp → Prop, (∀ H', Nx H' → ∃ m', m' < m ∧ W (i + 1) m' H') ∧ ∀ x H', J.yld i H x H' → gName j x (wipe σ vs) H' fun σ2 H2 => wipe σ2 vs = wipe σ vs ∧ tYes σ2 H2 fun b H3 =>
        if b = true then te σ2 H3 fun y H4 => ∃ acc, H4 D = some (.lst acc) ∧ acc.length < sizeLine ∧ Nx (upd H4 D (.lst (acc ++ [y]))) else Nx H3) :=
  lc_pure w f hn hG (fun i x H' k hi y q => ⟨(hs i x H' k hi y q).1, rfl, (hs i x H' k hi y q).2⟩) (fun _ _ _ _ h q => h _ _ q) (fun _ _ _ _ _ h q => h _ _ q) hd
theorem size_tl (z : Str) : z.cps.size = (TL.tl z).length := by simp [TL.tl]
theorem len_eq (z : Str) : z.length = (TL.tl z).length := TL.len_tl z
theorem range_map_getD {α β : Type} (l : List α) (d : α) (f : α → β) : (List.range l.length).map (fun i => f (l.getD i d)) = l.map f := by
  apply List.ext_getElem
  · simp
  · intro i h1 h2
    simp at h1
    simp [h1]
end TK
namespace TK
open PySem PySem.Spec PyProof.Rows L2 SX
theorem ef {b : Bool} (h : ¬ b = true) : b = false := Bool.eq_false_iff.mpr h
/-! ### places in texts -/
theorem at0 {α : Type} {l : List α} (d : α) (h : 0 < l.length) : atI l 0 = some (l.getD 0 d) := by
  cases l with
  | nil => exact absurd h (Nat.lt_irrefl 0)
  | cons a r =>
    show ((if (0 : Int) ≤ 0 then (if (0 : Int) < ((a :: r).length : Nat) then some (0 : Int).toNat else none) else _) : Option Nat).bind _ = _
    rw [if_pos (Int.le_refl 0), if_pos (by rw [List.length_cons]; omega)]
    rfl
theorem atN {α : Type} {l : List α} {i : Int} (d : α) (h0 : 0 ≤ i) (h : i < l.length) : atI l i = some (l.getD i.toNat d) := by
  show ((if (0 : Int) ≤ i then (if i < (l.length : Nat) then some i.toNat else none) else _) : Option Nat).bind _ = _
  rw [if_pos h0, if_pos h]
  show l[i.toNat]? = _
  rw [List.getD_eq_getElem?_getD, List.getElem?_eq_getElem (by omega)]
  rfl
theorem atC {α : Type} (a : α) (r : List α) : atI (a :: r) 0 = some a := at0 a (by simp)
theorem ixP {n : Nat} {i : Int} (h0 : 0 ≤ i) (h : i < n) : ixN n i = some i.toNat := by
  unfold ixN
  rw [if_pos h0, if_pos h]
theorem sqP {n : Nat} {i : Int} (h0 : 0 ≤ i) (h : i < n) : seqIndex? i n = some i.toNat := (ixN_seq (ixP h0 h)).1
theorem ixC {α : Type} (a : α) (r : List α) : ixN (a :: r).length 0 = some 0 := ixP (by decide) (by rw [List.length_cons]; omega)
theorem sqC {α : Type} (a : α) (r : List α) : seqIndex? 0 (a :: r).length = some 0 := sqP (by decide) (by rw [List.length_cons]; omega)
/-- the first place of a sign -/
theorem occ_first1 {l : List Nat} {c : Nat} (h : c ∈ l) : ∃ rest, Builtin.Str.occurrences (S l) (S [c]) 0 (S l).length 1 = l.idxOf c :: rest := by
  have at_iff : ∀ i, StrLaws.At (S l) (S [c]) (S l).length i ↔ l[i]? = some c := by
    intro i
    have e := TL.at_iff (x := S l) (y := S [c]) (by show [c] ≠ []; simp) i
    refine e.trans ?_
    show (((l.drop i).take 1 == [c]) = true) ↔ _
    rw [beq_iff_eq]
    constructor
    · intro q
      cases e2 : l.drop i with
      | nil =>
        rw [e2] at q
        cases q
      | cons a r =>
        rw [e2] at q
        have e3 : a = c := by
          simpa using q
        rw [← e3]
        have e4 : (l.drop i)[0]? = some a := by rw [e2]; rfl
        rw [List.getElem?_drop] at e4
        exact e4
    · intro q
      have hi : i < l.length := (List.getElem?_eq_some_iff.mp q).1
      rw [List.drop_eq_getElem_cons hi]
      have e3 : l[i] = c := (List.getElem?_eq_some_iff.mp q).2
      rw [e3]
      rfl
  rcases StrLaws.occ_head (S l) (S [c]) 1 (Nat.le_refl 1) with ⟨_, hn⟩ | ⟨i, r, e, ha, hn⟩
  · obtain ⟨i, hi, e⟩ := List.mem_iff_getElem.mp h
    exact absurd ((at_iff i).mpr (by rw [List.getElem?_eq_getElem hi, e])) (hn i)
  · refine ⟨r, ?_⟩
    rw [e]
    congr 1
    have h1 := (at_iff i).mp ha
    have hi : i < l.length := (List.getElem?_eq_some_iff.mp h1).1
    have e1 : l[i] = c := (List.getElem?_eq_some_iff.mp h1).2
    have hj : l.idxOf c < l.length := List.idxOf_lt_length_iff.mpr h
    have e2 : l[l.idxOf c] = c := List.getElem_idxOf hj
    rcases Nat.lt_trichotomy i (l.idxOf c) with z | z | z
    · exfalso
      have := List.not_of_lt_findIdx (p := (· == c)) (xs := l) (i := i) z
      simp [e1] at this
    · exact z
    · exfalso
      exact hn _ z ((at_iff _).mpr (by rw [List.getElem?_eq_getElem hj, e2]))
/-- a list cut at the first sign c -/
theorem cut_first {l : List Nat} {c : Nat} (h : c ∈ l) : l = l.take (l.idxOf c) ++ c :: l.drop (l.idxOf c + 1) ∧ c ∉ l.take (l.idxOf c) := by
  have hj : l.idxOf c < l.length := List.idxOf_lt_length_iff.mpr h
  refine ⟨?_, ?_⟩
  · have e2 : l[l.idxOf c] = c := List.getElem_idxOf hj
    have e3 := List.drop_eq_getElem_cons hj
    rw [e2] at e3
    rw [← e3, List.take_append_drop]
  · intro hm
    obtain ⟨i, hi, e⟩ := List.mem_iff_getElem.mp hm
    rw [List.length_take] at hi
    have hi1 : i < l.idxOf c := by omega
    have := List.not_of_lt_findIdx (p := (· == c)) (xs := l) (i := i) hi1
    rw [List.getElem_take] at e
    simp [e] at this
theorem cut_unique {a b a' b' : List Nat} {c : Nat} (h : a ++ c :: b = a' ++ c :: b') (ha : c ∉ a) (ha' : c ∉ a') : a = a' ∧ b = b' := by
  induction a generalizing a' with
  | nil =>
    cases a' with
    | nil => exact ⟨rfl, by simpa using h⟩
    | cons d r =>
      have e : c = d := by simpa using (List.cons.inj h).1
      exact absurd (List.mem_cons.mpr (.inl e)) ha'
  | cons d r ih =>
    cases a' with
    | nil =>
      have e : d = c := by simpa using (List.cons.inj h).1
      exact absurd (List.mem_cons.mpr (.inl e.symm)) ha
    | cons d' r' =>
      obtain ⟨e1, e2⟩ := List.cons.inj h
      obtain ⟨e3, e4⟩ := ih e2 (fun z => ha (List.mem_cons_of_mem _ z)) (fun z => ha' (List.mem_cons_of_mem _ z))
      exact ⟨by rw [e1, e3], e4⟩
end TK
namespace TK
open PySem PySem.Spec PyProof.Rows L2 SX
theorem Keep.upd {H H' : Hp} {s c D : Addr} {o : HO} (k : Keep H H' s c) (hD : H D = none) : Keep H (upd H' D o) s c := fun b u e h1 h2 => by
  rw [upd_ne (ne_of_none e hD)]
  exact k b u e h1 h2
theorem StAt.upd {H : Hp} {s c D : Addr} {o : HO} (h : StAt H s c) (h1 : D ≠ s) (h2 : D ≠ c) : StAt (upd H D o) s c := by
  obtain ⟨ne, ⟨n, a⟩, ns, b, l⟩ := h
  exact ⟨ne, ⟨n, by rw [upd_ne h1.symm]; exact a⟩, ns, by rw [upd_ne h2.symm]; exact b, l⟩
theorem StAt.tracked {H : Hp} {s c D : Addr} (h : StAt H s c) (hD : H D = none) : D ≠ s ∧ D ≠ c := by
  obtain ⟨ne, ⟨n, a⟩, ns, b, l⟩ := h
  exact ⟨fun e => (by rw [e, a] at hD; cases hD), fun e => (by rw [e, b] at hD; cases hD)⟩
theorem Keep.none {H H' : Hp} {s c b : Addr} (k : Keep H H' s c) (h : H' b = Option.none) (h1 : b ≠ s) (h2 : b ≠ c) : H b = Option.none := by
  cases e : H b with
  | none => rfl
  | some o =>
    rw [k b o e h1 h2] at h
    cases h
theorem joinL_nil : ∀ l : List (List Nat), TL.joinL [] l = l.flatten
  | [] => rfl
  | [p] => by simp [TL.joinL]
  | p :: q :: r => by
    show p ++ ([] ++ TL.joinL [] (q :: r)) = _
    rw [joinL_nil (q :: r)]
    rfl
/-- texts of one sign, joined -/
theorem join_ones {ys : List Str} (h : ∀ z ∈ ys, z.length = 1) : (Txt.join "" ys).length = ys.length := by
  have e : (Txt.join ("" : Str) ys) = Str.join "" ys := TL.join_eq "" ys
  rw [e, len_eq, TL.tl_join, show TL.tl ("" : Str) = [] by decide +kernel, joinL_nil]
  induction ys with
  | nil => rfl
  | cons a r ih =>
    have h1 := h a (List.mem_cons_self ..)
    rw [len_eq] at h1
    rw [List.map_cons, List.flatten_cons, List.length_append, ih (fun z hz => h z (List.mem_cons_of_mem _ hz)) (TL.join_eq "" r), List.length_cons, h1]
    omega
theorem sum_ones {ys : List Str} (h : ∀ z ∈ ys, z.length = 1) : (ys.map (·.length)).sum = ys.length := by
  induction ys with
  | nil => rfl
  | cons a r ih =>
    rw [List.map_cons, List.sum_cons, ih (fun z hz => h z (List.mem_cons_of_mem _ hz)), h a (List.mem_cons_self ..), List.length_cons]
    omega
theorem cat_len (a b : Str) : (a ++ b).length = a.length + b.length := by
  rw [len_eq, TL.tl_append, List.length_append, ← len_eq, ← len_eq]
end TK
namespace TK
open PySem PySem.Spec PyProof.Rows L2 SX
/-- lc_it with a plain name as target and no test -/
theorem lc_itN {J : It} {n : Nat} {G : Hp → Prop} {Y : Nat → Hp → V → Hp → Prop} (w : Walk J n G Y) {j : Nat} {te : TE} {vs : List Nat} {σ : L2.St} {H1 : Hp} {D : Addr} {Qd : Hp → Prop} (Pv : Nat → Hp → Prop) (h0 : Pv 0 (upd H1 D (.lst []))) (hG : ∀ i H, i ≤ n → Pv i H → G H)
    (hs : ∀ i x H H', i < n → Pv i H → Y i H x H' → wipe ((wipe σ vs).set j (some x)) vs = wipe σ vs ∧ te ((wipe σ vs).set j (some x)) H' fun y H4 => ∃ acc, H4 D = some (.lst acc) ∧ acc.length < sizeLine ∧ Pv (i + 1) (upd H4 D (.lst (acc ++ [y])))) (hd : ∀ H, Pv n H → Qd H) :
    ∃ W : Nat → Nat → Hp → Prop, (∃ m, W 0 m (upd H1 D (.lst []))) ∧ ∀ i m H, W i m H →
      (J.stop i H ∧ Qd H) ∨ (J.go i H ∧ ∃ Nx : Hp → Prop, (∀ H', Nx H' → ∃ m', m' < m ∧ W (i + 1) m' H') ∧ ∀ x H', J.yld i H x H' → gName j x (wipe σ vs) H' fun σ2 H2 => wipe σ2 vs = wipe σ vs ∧ tYes σ2 H2 fun b H3 =>
        if b = true then te σ2 H3 fun y H4 => ∃ acc, H4 D = some (.lst acc) ∧ acc.length < sizeLine ∧ Nx (upd H4 D (.lst (acc ++ [y]))) else Nx H3) :=
  lc_it w Pv h0 hG (fun i x H H' hi p y => ⟨(hs i x H H' hi p y).1, (hs i x H H' hi p y).2⟩) hd
end TK
namespace TK
open PySem PySem.Spec PyProof.Rows L2 SX
theorem slTo (z : Str) {i : Int} (h : 0 ≤ i) : Txt.slice z none (some i) = S ((TL.tl z).take i.toNat) := slice_to (a := TL.tl z) h
theorem slFrom (z : Str) {i : Int} (h : 0 ≤ i) : Txt.slice z (some i) none = S ((TL.tl z).drop i.toNat) := slice_from (a := TL.tl z) h
theorem log_small {i : Int} (h : i.natAbs < 2 ^ 1900) : i.natAbs.log2 < 1920 := by
  by_cases h0 : i.natAbs = 0
  · rw [h0]
    decide
  · exact (Nat.log2_lt h0).mpr (Nat.lt_of_lt_of_le h (Nat.pow_le_pow_right (by decide) (by decide)))
end TK
namespace TK
open PySem PySem.Spec PyProof.Rows L2 SX
/-! ### comprehensions with a test, the heap left alone -/
theorem lc_filt {J : It} {n : Nat} {G : Hp → Prop} {Y : Nat → Hp → V → Hp → Prop} (w : Walk J n G Y) (f : Nat → V) (b : Nat → Bool) {j : Nat} {tt : TT} {te : TE} {vs : List Nat} {σ : L2.St} {H1 : Hp} {D : Addr} {Qd : Hp → Prop} (hn : n ≤ sizeLine)
    (hG : ∀ i, i ≤ n → G (upd H1 D (.lst (((List.range i).filter b).map f))))
    (ht : ∀ (i : Nat) (x : V) (H' : Hp) (k : Bool → Hp → Prop), i < n → Y i (upd H1 D (.lst (((List.range i).filter b).map f))) x H' → k (b i) (upd H1 D (.lst (((List.range i).filter b).map f))) →
      wipe ((wipe σ vs).set j (some x)) vs = wipe σ vs ∧ tt ((wipe σ vs).set j (some x)) H' k)
    (he : ∀ (i : Nat) (x : V) (H' : Hp) (k : V → Hp → Prop), i < n → b i = true → Y i (upd H1 D (.lst (((List.range i).filter b).map f))) x H' → k (f i) (upd H1 D (.lst (((List.range i).filter b).map f))) →
      te ((wipe σ vs).set j (some x)) (upd H1 D (.lst (((List.range i).filter b).map f))) k)
    (hd : Qd (upd H1 D (.lst (((List.range n).filter b).map f)))) :
    ∃ W : Nat → Nat → Hp → Prop, (∃ m, W 0 m (upd H1 D (.lst []))) ∧ ∀ i m H, W i m H →
      (J.stop i H ∧ Qd H) ∨ (J.go i H ∧ ∃ Nx : Hp → Prop, (∀ H', Nx H' → ∃ m', m' < m ∧ W (i + 1) m' H') ∧ ∀ x H', J.yld i H x H' → gName j x (wipe σ vs) H' fun σ2 H2 => wipe σ2 vs = wipe σ vs ∧ tt σ2 H2 fun b H3 =>
        if b = true then te σ2 H3 fun y H4 => ∃ acc, H4 D = some (.lst acc) ∧ acc.length < sizeLine ∧ Nx (upd H4 D (.lst (acc ++ [y]))) else Nx H3) := by
  refine lc_it w (fun i H => H = upd H1 D (.lst (((List.range i).filter b).map f))) rfl (fun i H hi e => e ▸ hG i hi) (fun i x H H' hi e y => ?_) (fun H e => e ▸ hd)
  subst e
  refine ht i x H' _ hi y ?_
  cases hb : b i with
  | true =>
    refine iteT (he i x H' _ hi hb y ⟨_, upd_same, ?_, ?_⟩)
    · rw [List.length_map]
      exact Nat.lt_of_le_of_lt (List.length_filter_le _ _) (by rw [List.length_range]; omega)
    · rw [upd_upd, List.range_succ, List.filter_append, List.map_append, List.filter_cons_of_pos hb]
      rfl
  | false =>
    refine iteF ?_
    rw [List.range_succ, List.filter_append, List.filter_cons_of_neg (by rw [hb]; exact Bool.false_ne_true), List.filter_nil, List.append_nil]
theorem range_filter_getD {α β : Type} (l : List α) (d : α) (p : α → Bool) (f : α → β) : ((List.range l.length).filter (fun i => p (l.getD i d))).map (fun i => f (l.getD i d)) = (l.filter p).map f := by
  have e := range_map_getD l d (fun x => x)
  rw [List.map_id'] at e
  have h : (l.filter p).map f = (((List.range l.length).map (fun i => l.getD i d)).filter p).map f := by rw [e]
  rw [h, List.filter_map, List.map_map]
  rfl
theorem getD_at {α : Type} {l : List α} {i : Nat} {x : α} (d : α) (h : l[i]? = some x) : l.getD i d = x := by
  rw [List.getD_eq_getElem?_getD, h]
  rfl
/-! ### heads with tables -/
def obsX (n : Nat) (fa : List He.Fa) (fn : List He.DefD) (ex : PySem.W.Frag → List Bool) (g : Addr → Option Obj) : He.AlD :=
  ((He.obsD fa fn (He.frG g (He.asD g n))).1 && (ex (He.frG g (He.asD g n))).all id, (He.obsD fa fn (He.frG g (He.asD g n))).2)
def hookX (n : Nat) (fa : List He.Fa) (fn : List He.DefD) (ex : PySem.W.Frag → List Bool) : PySem.W.Hook where
  α := He.AlD
  obs s := obsX n fa fn ex s.heap.get?
  val _ := He.valD fn
  says _ h := ∃ K : PySem.W.Frag, K.In h ∧ He.SaysD fa fn K ∧ (ex K).all id = true
  of _ _ e := by
    have e1 := congrArg (fun z : He.AlD => z.1) e
    have e2 := congrArg (fun z : He.AlD => z.2) e
    obtain ⟨a, b⟩ := Bool.and_eq_true_iff.mp e1
    exact ⟨_, He.frG_in, Prod.ext a e2, b⟩
  keeps _ _ _ c k := let ⟨K, hK, c1, c2⟩ := c; ⟨K, PySem.W.Frag.In.keeps hK k, c1, c2⟩
theorem obsX_eq {n : Nat} {fa : List He.Fa} {fn : List He.DefD} {ex : PySem.W.Frag → List Bool} {g : Addr → Option Obj} {s : Shared} (h : ∀ a, g a = s.heap.get? a) : obsX n fa fn ex g = (hookX n fa fn ex).obs s := by
  obtain rfl : g = s.heap.get? := funext h
  rfl
theorem exAt {l : List Bool} (h : l.all id = true) (i : Nat) {b : Bool} (e : l[i]? = some b) : b = true := List.all_eq_true.mp h b (List.mem_of_getElem? e)
end TK
namespace TK
open PySem PySem.Spec PyProof.Rows L2 SX
/-! ### rules that name the written part, for use within a comprehension -/
section
variable {X : Cx}
theorem inSeqK (K : PySem.W.Frag) (e : X.K = K) : OpR X (compareOp .In) (rIn K false) := by
  subst e
  exact op_in_seq
theorem notInSeqK (K : PySem.W.Frag) (e : X.K = K) : OpR X (compareOp .NotIn) (rIn K true) := by
  subst e
  exact op_notIn_seq
theorem ixListK (K : PySem.W.Frag) (e : X.K = K) : IxR X (rIxL K) := by
  subst e
  exact ix_list
theorem ixTupK (K : PySem.W.Frag) (e : X.K = K) : IxR X (rIxT K) := by
  subst e
  exact ix_tup
theorem isiK (K : PySem.W.Frag) (e : X.K = K) : CallR X (.builtin "isinstance") (rIsi K) := by
  subst e
  exact call_isi
end
end TK
set_option maxHeartbeats 4000000
namespace TK
open PySem PySem.Spec PyProof.Rows L2 SX
theorem same_upd2 {H H' : Hp} {D : Addr} {o : HO} (s : Same H H') (hD : H D = none) : Same H (upd H' D o) := fun b u e => by
  rw [upd_ne (ne_of_none e hD)]
  exact s b u e
theorem joinL_len (y : List Nat) : ∀ l : List (List Nat), (TL.joinL y l).length ≤ (l.map (·.length)).sum + l.length * y.length
  | [] => by simp [TL.joinL]
  | [p] => by simp [TL.joinL]
  | p :: q :: r => by
    have ih := joinL_len y (q :: r)
    show (p ++ (y ++ TL.joinL y (q :: r))).length ≤ _
    rw [List.length_append, List.length_append, List.map_cons, List.sum_cons, List.length_cons (a := p), Nat.succ_mul]
    omega
theorem join_len (y : Str) (ys : List Str) : (Txt.join y ys).length ≤ (ys.map (·.length)).sum + ys.length * y.length := by
  rw [show Txt.join y ys = Str.join y ys from TL.join_eq y ys, len_eq, TL.tl_join]
  have q := joinL_len (TL.tl y) (ys.map TL.tl)
  rw [List.length_map, List.map_map] at q
  have e : (ys.map (fun x : Str => x.length)) = ys.map ((fun x : List Nat => x.length) ∘ TL.tl) := List.map_congr_left fun x _ => len_eq x
  rw [e, len_eq y]
  exact q
theorem sum_le {m : Nat} : ∀ {ys : List Str}, (∀ z ∈ ys, z.length ≤ m) → (ys.map (·.length)).sum ≤ ys.length * m
  | [], _ => Nat.zero_le _
  | a :: r, h => by
    have ih := sum_le (ys := r) fun z hz => h z (List.mem_cons_of_mem _ hz)
    have h1 := h a (List.mem_cons_self ..)
    rw [List.map_cons, List.sum_cons, List.length_cons, Nat.succ_mul]
    omega
theorem nodup_inr : ∀ ys : List Str, (ys.map (Sum.inr : Str → Key)).Nodup ↔ ys.Nodup
  | [] => by simp
  | a :: r => by
    rw [List.map_cons, List.nodup_cons, List.nodup_cons, nodup_inr r, List.mem_map]
    constructor
    · intro q
      exact ⟨fun m => q.1 ⟨a, m, rfl⟩, q.2⟩
    · intro q
      exact ⟨fun ⟨b, m, e⟩ => q.1 (Sum.inr.inj e ▸ m), q.2⟩
theorem key_strs (ys : List Str) : (ys.map (Sum.inr : Str → Key)).map kV = ys.map V.str := by
  rw [List.map_map]
  rfl
/-- the parts of a text are no longer than the text -/
theorem part_len {z y p : Str} (h : p ∈ Txt.split z y) : p.length ≤ z.length := by
  have j := StrLaws.join_split z y
  have sub : ∀ (l : List (List Nat)) (s : List Nat), ∀ x ∈ l, x.length ≤ (TL.joinL s l).length := by
    intro l s
    induction l with
    | nil => exact fun x hx => nomatch hx
    | cons a r ih =>
      intro x hx
      cases r with
      | nil =>
        rw [List.mem_singleton.mp hx]
        exact Nat.le_refl _
      | cons b r =>
        show x.length ≤ (a ++ (s ++ TL.joinL s (b :: r))).length
        rw [List.length_append, List.length_append]
        rcases List.mem_cons.mp hx with q | q
        · rw [q]
          omega
        · have := ih x q
          omega
  have q := sub ((Txt.split z y).map TL.tl) (TL.tl y) (TL.tl p) (List.mem_map.mpr ⟨p, h, rfl⟩)
  rw [← TL.tl_join, j] at q
  rw [len_eq, len_eq]
  exact q
end TK
namespace TK
open PySem PySem.Spec PyProof.Rows L2 SX
/-! ### a word between an expression and what follows -/
def tCutE (t : TE) : TE := fun σ H Q => ∃ Mid : VK, t σ H Mid ∧ ∀ v H', Mid v H' → Q v H'
def tCutT (t : TT) : TT := fun σ H Q => ∃ Mid : Bool → Hp → Prop, t σ H Mid ∧ ∀ b H', Mid b H' → Q b H'
section
variable {X : Cx} {e : Expr}
theorem pe_cut {t : TE} (h : PE X e t) : PE X e (tCutE t) := ⟨fun pins s σ H _ I ⟨Mid, hm, hq⟩ => thn (h.run pins s σ H Mid I hm) fun _ _ ⟨v, H', I', r, q⟩ => ⟨v, H', I', r, hq v H' q⟩⟩
theorem pt_cut {t : TT} (h : PT X e t) : PT X e (tCutT t) := ⟨fun pins s σ H _ I ⟨Mid, hm, hq⟩ => thn (h.run pins s σ H Mid I hm) fun b _ ⟨H', I', q⟩ => ⟨H', I', hq b H' q⟩⟩
end
end TK
set_option maxHeartbeats 4000000
/-! Own classes: rules that name the class, makers and methods by their promises. -/
namespace TK
open PySem PySem.Spec PyProof.Rows L2 SX
def tFldC (C : Addr) (ta : TE) (f : Str) : TE := fun σ H Q => ta σ H fun x H1 => ∃ a dx fs v, x = .ref a ∧ H1 a = some (.ins C dx fs) ∧ fs.lookup f = some v ∧ Q v H1
def sFldC (C : Addr) (ta tv : TE) (f : Str) : TS := fun D σ H => tv σ H fun y H1 => ta σ H1 fun x H2 => ∃ a dx fs, x = .ref a ∧ H2 a = some (.ins C dx fs) ∧ fs.length < 1000 ∧ D.nx σ (upd H2 a (.ins C dx (putF f y fs)))
section
variable {X : Cx} {K : PySem.W.Frag} {C : Addr} {e o value : Expr} {f : Str} {pos pos' : Pos} {ta tv : TE}
theorem pe_fldC (eK : X.K = K) (c : Cls K C) (n : NoAttr K C f) (he : PE X e ta) (hb : attributeBase e f X.env (eval e X.env) = eval e X.env) : PE X (.Attribute e f pos) (tFldC C ta f) := by
  subst eK
  exact ⟨fun pins s σ H Q I h => (pe_fld (pe_cut he) hb).run pins s σ H Q I ⟨_, h, fun v H' ⟨a, dx, fs, w, e1, e2, e3, q⟩ => ⟨a, C, dx, fs, w, e1, e2, c, n, e3, q⟩⟩⟩
theorem ps_fldC (eK : X.K = K) (c : Cls K C) (n : NoAttr K C f) (ha : PE X o ta) (hv : PE X value tv) (hs : swapsWith value (some (.Attribute o f pos')) pos.line X.env = pure false) : PS X (.Assign [.Attribute o f pos'] value pos) (sFldC C ta tv f) := by
  subst eK
  exact ⟨fun pins s σ H D I h => (ps_fld (pe_cut ha) (pe_cut hv) hs).run pins s σ H D I ⟨_, h, fun v H' h2 => ⟨_, h2, fun x H2 ⟨a, dx, fs, e1, e2, e3, q⟩ => ⟨a, C, dx, fs, e1, e2, c, n, e3, q⟩⟩⟩⟩
end
/-! ### few attributes -/
class SmallF (fs : List (Str × V)) (n : outParam Nat) : Prop where
  le : fs.length ≤ n
instance : SmallF [] 0 := ⟨Nat.le_refl _⟩
instance {x : Str × V} {l : List (Str × V)} {n : Nat} [h : SmallF l n] : SmallF (x :: l) (n + 1) := ⟨Nat.succ_le_succ h.le⟩
theorem putF_len {f : Str} {v : V} : ∀ fs : List (Str × V), (putF f v fs).length ≤ fs.length + 1
  | [] => Nat.le_refl _
  | (g, x) :: r => by
    show (if g = f then (g, v) :: r else (g, x) :: putF f v r).length ≤ _
    by_cases h : g = f
    · rw [if_pos h]
      exact Nat.le_succ _
    · rw [if_neg h]
      exact Nat.succ_le_succ (putF_len r)
instance {f : Str} {v : V} {l : List (Str × V)} {n : Nat} [h : SmallF l n] : SmallF (putF f v l) (n + 1) := ⟨Nat.le_trans (putF_len l) (Nat.succ_le_succ h.le)⟩
theorem sm {fs : List (Str × V)} {n : Nat} [h : SmallF fs n] (hn : n < 1000 := by decide) : fs.length < 1000 := Nat.lt_of_le_of_lt h.le hn
/-! ### makers -/
section
variable {P : Program} {w : World} {K : PySem.W.Frag} {mg : Str → Option Value} {base : Heap}
structure MakK (P : Program) (w : World) (K : PySem.W.Frag) (mg : Str → Option Value) (base : Heap) (k : Nat) (x : Str) (C : Addr) (sp : Sp) (n : Nat) (ks : List Str) (gV : List V → List V → List V) : Prop where
  ex : ∃ (f : Addr) (fd : FuncData) (ps : List Str) (g : List Value → List Value → List Value), Mk K C f ∧ FnOk P w K mg base L2.CX0 k f fd ps sp ∧ mg x = some (.ref C) ∧ KBn K fd ps (n + 1) ks g gV
theorem mak_of {C : Addr} {x n qual : Str} {params : Arguments} {body : List Stmt} {scope : Scope} {f : Addr} {fd : FuncData} {ps : List Str} {k : Nat} {sp : Sp} (M : Mk K C f) (hm : mg x = some (.ref C)) (F : FunD K n qual params body scope [] [] f fd) (G : FnOk P w K mg base L2.CX0 k f fd ps sp)
    (h : ∀ (kV doc pm : Value) (an : Option Addr) (cdv ct : Value) (us : List Value), us.length = ps.length → bindArgs (PySem.W.fnOf n qual params body scope .none kV doc pm an cdv ct) ⟨us, []⟩ = pure (ps.zip us)) : C8.Mak P w K mg base k x C sp [] :=
  ⟨f, fd, ps, [], M, G, hm, F.bindsN h, .nil⟩
theorem met_of {C : Addr} {n qual : Str} {params : Arguments} {body : List Stmt} {scope : Scope} {f : Addr} {fd : FuncData} {ps : List Str} {k : Nat} {sp : Sp} (c : Cls K C) (m : Meth K C n f) (F : FunD K n qual params body scope [] [] f fd) (G : FnOk P w K mg base L2.CX0 k f fd ps sp)
    (h : ∀ (kV doc pm : Value) (an : Option Addr) (cdv ct : Value) (us : List Value), us.length = ps.length → bindArgs (PySem.W.fnOf n qual params body scope .none kV doc pm an cdv ct) ⟨us, []⟩ = pure (ps.zip us)) : C8.Met P w K mg base k C n sp [] :=
  ⟨f, fd, ps, [], c, m, G, F.bindsN h, .nil⟩
theorem metD_of {C : Addr} {n qual : Str} {params : Arguments} {body : List Stmt} {scope : Scope} {dvs : List V} {f : Addr} {fd : FuncData} {ps : List Str} {k : Nat} {sp : Sp} (c : Cls K C) (m : Meth K C n f) (F : FunD K n qual params body scope dvs [] f fd) (G : FnOk P w K mg base L2.CX0 k f fd ps sp) (hd : dvs ≠ []) (hn : dvs.length ≤ ps.length)
    (h : ∀ (T : Addr) (kV doc pm : Value) (an : Option Addr) (cdv ct : Value) (us its : List Value), us.length = ps.length - dvs.length → its.length = dvs.length →
      ∃ k, bindArgs (PySem.W.fnOf n qual params body scope (.ref T) kV doc pm an cdv ct) ⟨us, []⟩ = seqItems? (.ref T) >>= k ∧ k (some its.toArray) = pure (ps.zip (us ++ its.drop 0))) : C8.Met P w K mg base k C n sp dvs := by
  obtain ⟨ds, h1, h2⟩ := F.binds1 (ps := ps) (ps.length - dvs.length) 0 hd (by omega) h
  exact ⟨f, fd, ps, ds, c, m, G, h2, by simpa using h1⟩
end
section
variable {X : Cx} {k j n : Nat} {C : Addr} {x : Str} {sp : Sp} {p pos : Pos} {e : Expr} {es : List Expr} {kws : List Keyword} {ks : List Str} {t tk : TA} {gV : List V → List V → List V}
theorem pe_mk0 {dvs : List V} (c : C8.Mak X.prog X.w X.K X.mg X.base k x C sp dvs) (hr : Room j X.A) (hk : k + 1 ≤ j) (hg : Gl X x) (hdb : (x == ("__debug__" : Str)) = false := by decide) : PE X (.Call (.Name x p) [] [] pos) (tMake C sp dvs L2.E0 tNil) := by
  obtain ⟨f, fd, ps, ds, M, F, hm, b, d⟩ := c.ex
  exact pe_make0 M F (hr.mono hk) hg hm b d L2.pass0 hdb
theorem pe_mkK0 (c : MakK X.prog X.w X.K X.mg X.base k x C sp 0 ks gV) (hr : Room j X.A) (hk : k + 1 ≤ j) (hg : Gl X x) (hkw : PK X kws tk)
    (hall : (backToKw pos (keywordEach kws X.env)).all (·.1.isSome) = true := by rfl) (hks : (backToKw pos (keywordEach kws X.env)).filterMap (·.1) = ks := by rfl) (hdb : (x == ("__debug__" : Str)) = false := by decide)
    (hpl : ((backTo pos (starEach [] X.env)).any (·.1) || (backToKw pos (keywordEach kws X.env)).any (·.1.isNone)) = false := by rfl) :
    PE X (.Call (.Name x p) [] kws pos) (tMakeK C 0 ks.length sp gV L2.E0 tNil tk) := by
  obtain ⟨f, fd, ps, g, M, F, hm, b⟩ := c.ex
  exact pe_makeK0 M F (hr.mono hk) hg hm b L2.pass0 hkw hall hks hdb hpl
end
/-! ### new objects -/
theorem same_own {H : Hp} {x dx C : Addr} {fs : List (Str × V)} (hx : H x = none) (hd : H dx = none) : Same H (upd (upd H dx (.own x)) x (.ins C dx fs)) := fun b o e => by
  rw [upd_ne (ne_of_none e hx), upd_ne (ne_of_none e hd)]
  exact e
theorem Same.upd_of {H H' : Hp} {a : Addr} {o : HO} (s : Same H H') (h : H a = none) : Same H (upd H' a o) := fun b u e => by
  rw [upd_ne (ne_of_none e h)]
  exact s b u e
/-! ### texts that can be laid -/
theorem ok_iff {z : Str} : PyData.strOk z = true ↔ ∀ c ∈ TL.tl z, c < 0x110000 := by
  unfold PyData.strOk TL.tl
  rw [Array.all_eq_true']
  constructor
  · intro h c hc
    simpa using h c (by simpa using hc)
  · intro h c hc
    simpa using h c (by simpa using hc)
theorem ok_cat {a b : Str} (ha : PyData.strOk a = true) (hb : PyData.strOk b = true) : PyData.strOk (a ++ b) = true := by
  rw [ok_iff] at *
  intro c hc
  rw [TL.tl_append, List.mem_append] at hc
  exact hc.elim (ha c) (hb c)
theorem joinL_mem {s : List Nat} {c : Nat} : ∀ l : List (List Nat), c ∈ TL.joinL s l → c ∈ s ∨ ∃ p ∈ l, c ∈ p
  | [], h => by simp [TL.joinL] at h
  | [p], h => .inr ⟨p, List.mem_singleton.mpr rfl, by simpa [TL.joinL] using h⟩
  | p :: q :: r, h => by
    have h2 : c ∈ p ++ (s ++ TL.joinL s (q :: r)) := h
    rw [List.mem_append, List.mem_append] at h2
    rcases h2 with h2 | h2 | h2
    · exact .inr ⟨p, List.mem_cons_self .., h2⟩
    · exact .inl h2
    · rcases joinL_mem (q :: r) h2 with h3 | ⟨x, h3, h4⟩
      · exact .inl h3
      · exact .inr ⟨x, List.mem_cons_of_mem _ h3, h4⟩
theorem ok_join {y : Str} {l : List Str} (hy : PyData.strOk y = true) (hl : ∀ z ∈ l, PyData.strOk z = true) : PyData.strOk (Txt.join y l) = true := by
  rw [TL.join_eq, ok_iff]
  intro c hc
  rw [TL.tl_join] at hc
  rcases joinL_mem _ hc with h | ⟨p, hp, h⟩
  · exact ok_iff.mp hy c h
  · obtain ⟨z, hz, rfl⟩ := List.mem_map.mp hp
    exact ok_iff.mp (hl z hz) c h
def numS (i : Int) : Str := Str.ofString (toString i)
theorem numS_tl {i : Int} (h : 0 ≤ i) : TL.tl (numS i) = TL.numL i.toNat := by
  have e : i = ((i.toNat : Nat) : Int) := (Int.toNat_of_nonneg h).symm
  rw [e]
  exact TL.tl_num _
theorem ok_num {i : Int} (h : 0 ≤ i) : PyData.strOk (numS i) = true := by
  rw [ok_iff, numS_tl h]
  intro c hc
  exact Nat.lt_of_not_le fun q => TL.numL_free (n := i.toNat) (s := c) (.inr (by omega)) hc
theorem numS_len {i : Int} (h : i.natAbs < 1000000000) : (numS i).length ≤ 10 := by
  have e := int_text_length_le10 (a := i) (k := 9) (by decide) (by omega)
  show (Str.ofString (toString i)).length ≤ 10
  rw [PySem.ofString_length]
  omega
theorem numS_log {i : Int} (h : i.natAbs < 1000000000) : i.natAbs.log2 < 1920 := log_small (Nat.lt_of_lt_of_le h (by decide))
theorem szl {z : Str} (h : z.length ≤ 100000) : z.length ≤ sizeLine := Nat.le_trans h (by decide)
theorem ne_ins {H : Hp} {a b C C' dx dx' : Addr} {fs fs' : List (Str × V)} (h : H a = some (.ins C dx fs)) (h' : H b = some (.ins C' dx' fs')) (n : fs.length ≠ fs'.length) : a ≠ b :=
  ne_of h h' fun e => by
    injection e with _ _ e2
    exact n (congrArg List.length e2)
/-- only what stands at A has changed -/
def Fr (A : List Addr) (H H' : Hp) : Prop := ∀ b o, H b = some o → b ∉ A → H' b = some o
theorem Fr.of_same {A : List Addr} {H H' : Hp} (s : Same H H') : Fr A H H' := fun b o e _ => s b o e
theorem Fr.refl (A : List Addr) (H : Hp) : Fr A H H := fun _ _ e _ => e
theorem Fr.trans {A : List Addr} {H H1 H2 : Hp} (s : Fr A H H1) (t : Fr A H1 H2) : Fr A H H2 := fun b o e n => t b o (s b o e n) n
theorem Fr.trans_new {A A' : List Addr} {H H1 H2 : Hp} (s : Fr A H H1) (t : Fr A' H1 H2) (n : ∀ b ∈ A', b ∈ A ∨ H b = none) : Fr A H H2 := fun b o e hn => t b o (s b o e hn) fun m => (n b m).elim hn fun z => by rw [e] at z; cases z
end TK
set_option maxHeartbeats 1000000
/-! Calls with keywords of defs with many keyword-only parameters: the binding by names, without unfolding it at each name. -/
namespace TK
open PySem PySem.Spec PyProof.Rows L2
open PySem.W (Looks)
theorem forIn_looks {M : Model} {h : Heap} {α β : Type} {f : α → β → Sem (ForInStep β)} {g : β → α → β} : ∀ (l : List α) (b : β), (∀ pre a post, l = pre ++ a :: post → Looks M h (f a (pre.foldl g b)) (.yield (g (pre.foldl g b) a))) → Looks M h (forIn l b f) (l.foldl g b)
  | [], b, _ => by rw [List.forIn_nil]; exact Looks.of_pure rfl
  | a :: r, b, H => by
    rw [List.forIn_cons]
    exact Looks.andThen (H [] a r rfl) (forIn_looks r (g b a) fun pre c post e => H (a :: pre) c post (by rw [e]; rfl))
abbrev Sl : Type := List (Str × Value)
def g1 (s : Sl × Sl) (p : Str × Value) : Sl × Sl := (s.1 ++ [(p.1, p.2)], s.2)
theorem fold1 : ∀ (l : Sl) (s : Sl × Sl), l.foldl g1 s = (s.1 ++ l, s.2)
  | [], s => by rw [List.foldl_nil, List.append_nil]
  | p :: r, s => by
    rw [List.foldl_cons, fold1 r]
    unfold g1
    rw [List.append_assoc]
    rfl
theorem lookup_none {k : Str} : ∀ {l : Sl}, k ∉ l.map (·.1) → l.lookup k = none
  | [], _ => rfl
  | (a, b) :: r, h => by
    rw [List.map_cons, List.mem_cons, not_or] at h
    rw [List.lookup_cons, show (k == a) = false from beq_eq_false_iff_ne.mpr h.1]
    exact lookup_none h.2
theorem lookup_some {k : Str} : ∀ {l : Sl}, k ∈ l.map (·.1) → ∃ v, l.lookup k = some v
  | [], h => by cases h
  | (a, b) :: r, h => by
    rw [List.lookup_cons]
    by_cases e : (k == a) = true
    · rw [e]
      exact ⟨b, rfl⟩
    · rw [show (k == a) = false by simpa using e]
      rw [List.map_cons, List.mem_cons] at h
      exact lookup_some (h.resolve_left fun z => e (by rw [z]; exact beq_self_eq_true a))
def g2 (dv : Str → Value) (s : Sl × List Str) (n : Str) : Sl × List Str := if (s.1.lookup n).isNone = true then (s.1 ++ [(n, dv n)], s.2) else (s.1, s.2)
theorem fold2 {dv : Str → Value} : ∀ (l : List Str) (s : Sl × List Str), ∃ t, l.foldl (g2 dv) s = (s.1 ++ t, s.2)
  | [], s => ⟨[], by rw [List.foldl_nil, List.append_nil]⟩
  | n :: r, s => by
    rw [List.foldl_cons]
    obtain ⟨t, e⟩ := fold2 r (g2 dv s n)
    rw [e]
    unfold g2
    by_cases h : (s.1.lookup n).isNone = true
    · rw [if_pos h]
      exact ⟨(n, dv n) :: t, by rw [List.append_assoc]; rfl⟩
    · rw [if_neg h]
      exact ⟨t, rfl⟩
def bindR (self : Str) (L : List Str) (u : Value) (kw : Sl) (dv : Str → Value) : Sl :=
  ([self] ++ L).filterMap fun n => ((L.foldl (g2 dv) ((self, u) :: kw, [])).1.lookup n).map fun x => (n, x)
theorem bind_kw {K : PySem.W.Frag} {M : Model} {h : Heap} {x qual : Str} {params : Arguments} {body : List Stmt} {scope : Scope} {D : Addr} {doc pm : Value} {an : Option Addr} {cdv ct : Value} {u : Value} {kw : Sl} {L ks : List Str} {self : Str}
    (X : K.In h) (h1 : params.posonlyargs.map (·.arg) = []) (h2 : params.args.map (·.arg) = [self]) (h3 : params.kwonlyargs.map (·.arg) = L) (h4 : params.vararg = none) (h5 : params.kwarg = none) (hk : kw.map (·.1) = ks) (nd : (self :: ks).Nodup) (hin : ∀ k ∈ ks, k ∈ L)
    (dv : Str → Value) (hd : ∀ n ∈ L, n ∉ ks → PySem.W.nsIn K D n = some (some (dv n))) :
    Looks M h (bindArgs (PySem.W.fnOf x qual params body scope .none (.ref D) doc pm an cdv ct) ⟨[u], kw⟩) (bindR self L u kw dv) := by
  unfold bindArgs
  simp only [PySem.W.fnOf, h1, h2, h3, h4, h5]
  have e1 : ∀ pre, pre.foldl g1 ((([] : List Str) ++ [self]).zip [u], []) = ((self, u) :: pre, []) := fun pre => fold1 pre _
  refine Looks.andThen (a := ((self, u) :: kw, [])) ?_ ?_
  · rw [← e1 kw]
    refine forIn_looks kw _ fun pre p post e => ?_
    rw [e1 pre]
    have mk : p.1 ∈ ks := by rw [← hk, e, List.map_append, List.map_cons]; exact List.mem_append_right _ (List.mem_cons_self ..)
    have c1 : ([self].contains p.1 || L.contains p.1) = true := by rw [show L.contains p.1 = true by simpa using hin _ mk, Bool.or_true]
    have nk : p.1 ∉ ((self, u) :: pre).map (·.1) := by
      rw [← hk, e, List.map_append, List.map_cons] at nd
      obtain ⟨n1, n2⟩ := List.nodup_cons.mp nd
      rw [List.map_cons, List.mem_cons, not_or]
      refine ⟨fun z => n1 (by have z2 : p.1 = self := z; rw [← z2]; exact List.mem_append_right _ (List.mem_cons_self ..)), fun z => ?_⟩
      exact (List.nodup_append.mp n2).2.2 _ z _ (List.mem_cons_self ..) rfl
    rw [if_pos c1, if_neg (by rw [lookup_none nk]; exact Bool.false_ne_true)]
    exact Looks.of_pure rfl
  · refine Looks.andThen (a := none) (Looks.of_pure rfl) ?_
    have el : ((self, u) :: kw).lookup self = some u := by rw [List.lookup_cons, beq_self_eq_true]
    rw [if_neg (by show ¬ (decide (1 > 1) && _) = true; simp)]
    have em : List.filter (fun n => (List.lookup n (((self, u) :: kw, ([] : Sl)) : Sl × Sl).fst).isNone) [self] = [] := by
      rw [List.filter_cons, if_neg (by show ¬ (List.lookup self ((self, u) :: kw)).isNone = true; rw [el]; exact Bool.false_ne_true)]
      rfl
    refine (fun z => ?_) em
    rw [if_neg (by show ¬ (!(List.filter (fun n => (List.lookup n (((self, u) :: kw, ([] : Sl)) : Sl × Sl).fst).isNone) [self]).isEmpty) = true; rw [em]; exact Bool.false_ne_true)]
    refine Looks.andThen (a := (self, u) :: kw) (Looks.of_pure rfl) ?_
    refine Looks.andThen (a := L.foldl (g2 dv) ((self, u) :: kw, [])) (forIn_looks L _ fun pre n post e => ?_) ?_
    · obtain ⟨t, et⟩ := fold2 (dv := dv) pre ((self, u) :: kw, [])
      rw [show List.foldl (g2 dv) ((self, u) :: kw, []) pre = (((self, u) :: kw) ++ t, []) from et]
      unfold g2
      by_cases hl : (List.lookup n (((self, u) :: kw) ++ t)).isNone = true
      · rw [if_pos hl, if_pos hl]
        have nks : n ∉ ks := fun m => by
          have m2 : n ∈ (((self, u) :: kw) ++ t).map (·.1) := by
            rw [List.map_append, List.map_cons, hk]
            exact List.mem_append_left _ (List.mem_cons_of_mem _ m)
          obtain ⟨v, ev⟩ := lookup_some m2
          rw [ev] at hl
          cases hl
        refine Looks.andThen (a := some (dv n)) (PySem.W.looks_nsIn X (hd n (by rw [e]; exact List.mem_append_right _ (List.mem_cons_self ..)) nks)) (Looks.of_pure rfl)
      · rw [if_neg hl, if_neg hl]
        exact Looks.of_pure rfl
    · obtain ⟨t, et⟩ := fold2 (dv := dv) L ((self, u) :: kw, [])
      rw [if_neg (by rw [et]; exact Bool.false_ne_true)]
      exact Looks.of_pure rfl
theorem kbn_of {K : PySem.W.Frag} {x qual : Str} {params : Arguments} {body : List Stmt} {scope : Scope} {kws : List (Str × V)} {f : Addr} {fd : FuncData} {ps ks L : List Str} {self : Str} (F : FunD K x qual params body scope [] kws f fd) (ms : List (Str × V)) (g : {α : Type} → List α → List α → List α → List α) (hkws : kws ≠ [])
    (hrel : ∀ {vs mz zs : List V} {us mv ws : List Value}, Vals vs us → Vals mz mv → Vals zs ws → Vals (g vs mz zs) (g us mv ws))
    (h1 : params.posonlyargs.map (·.arg) = []) (h2 : params.args.map (·.arg) = [self]) (h3 : params.kwonlyargs.map (·.arg) = L) (h4 : params.vararg = none) (h5 : params.kwarg = none) (nd : (self :: ks).Nodup) (hin : ∀ k ∈ ks, k ∈ L) (hms : ∀ q ∈ ms, q ∈ kws) (hcov : ∀ n ∈ L, n ∉ ks → n ∈ ms.map (·.1))
    (heq : ∀ (u : Value) (mv ws : List Value), mv.length = ms.length → ws.length = ks.length → bindR self L u (ks.zip ws) (fun n => (((ms.map (·.1)).zip mv).lookup n).getD .none) = ps.zip (g [u] mv ws)) :
    ∃ mv : List Value, KBn K fd ps 1 ks (fun us ws => g us mv ws) (fun vs zs => g vs (ms.map (·.2)) zs) := by
  obtain ⟨oc, od, dV, kV, doc, pm, an, cdv, ct, osl, rfl, lk, hcd, hD, hK⟩ := F.ex
  have edV : dV = .none := by
    rcases hD with ⟨_, e⟩ | ⟨e, _⟩
    · exact e
    · exact absurd rfl e
  subst edV
  rcases hK with e | ⟨D, rfl, hq⟩
  · exact absurd e hkws
  obtain ⟨mv, hl, rk, hks⟩ := kwd_vals (ms := ms) fun q hm => hq q (hms q hm)
  refine ⟨mv, ⟨fun s us ws X l1 l2 => ?_, fun r1 r2 => hrel r1 rk r2⟩⟩
  obtain ⟨u, rfl⟩ : ∃ u, us = [u] := by
    cases us with
    | nil => cases l1
    | cons a r =>
      cases r with
      | nil => exact ⟨a, rfl⟩
      | cons b r => cases l1
  refine BindsTo.of_looks fun M => ?_
  show Looks M s.heap _ (ps.zip (g [u] mv ws))
  rw [← heq u mv ws hl l2]
  refine bind_kw X h1 h2 h3 h4 h5 (List.map_fst_zip (by omega)) nd hin _ fun n hn nk => ?_
  have lm : ((ms.map (·.1)).zip mv).map (·.1) = ms.map (·.1) := List.map_fst_zip (by rw [List.length_map]; omega)
  obtain ⟨v, ev⟩ := lookup_some (k := n) (l := (ms.map (·.1)).zip mv) (by rw [lm]; exact hcov n hn nk)
  rw [ev]
  have mem : ∀ {l : Sl}, l.lookup n = some v → (n, v) ∈ l := by
    intro l
    induction l with
    | nil => intro h; cases h
    | cons a r ih =>
      obtain ⟨a1, a2⟩ := a
      intro h
      rw [List.lookup_cons] at h
      by_cases e : (n == a1) = true
      · rw [e] at h
        rw [Option.some.inj h, beq_iff_eq.mp e]
        exact List.mem_cons_self ..
      · rw [show (n == a1) = false by simpa using e] at h
        exact List.mem_cons_of_mem _ (ih h)
  exact hks _ (mem ev)
end TK
set_option maxHeartbeats 1000000
namespace TK
open PySem PySem.Spec PyProof.Rows L2 SX
def rRpart : V → List V → Hp → VK → Prop := fun x xs H Q => ∃ z y, x = .str z ∧ xs = [.str y] ∧ (y.length == 0) = false ∧ z.length ≤ sizeLine ∧ ∀ p, H p = none → Q (.ref p) (upd H p (.tup [.str (Txt.rpartition z y).1, .str (Txt.rpartition z y).2.1, .str (Txt.rpartition z y).2.2]))
section
variable {X : Cx} {e o : Expr} {te to : TE}
theorem mt_rpart : MtR X "str.rpartition" rRpart := by
  intro pins s σ H x xs v us Q I rx rs ⟨z, y, ex, exs, hy, hz, h⟩
  subst ex exs
  obtain ⟨tz, rfl⟩ := rx
  match us, rs with
  | [w], .cons r1 .nil =>
    obtain ⟨ty, rfl⟩ := r1
    refine call_meets PySem.F.slot_str_rpartition (typeIs_str _ _ _) PySem.F.entry_str_rpartition (PySem.F.args_str_rpartition_2 _ _) (meets_str_rpartition z y tz ty hy hz) ?_
    have h2 := h
    unfold Txt.rpartition at h2
    revert h2
    cases Builtin.Str.lastOccurrence z y 0 z.length with
    | none => exact fun h2 => laid_parts I h2
    | some i => exact fun h2 => laid_parts I h2
theorem pe_rpartition {apos pos : Pos} (ho : PE X o to) (he : PE X e te) (hs : starEach [e] X.env = [(false, eval e X.env)] := by rfl) (hb : attributeBase o "rpartition" X.env (eval o X.env) = eval o X.env := by rfl) (hl : (apos.endLine == pos.line) = true := by rfl) :
    PE X (.Call (.Attribute o "rpartition" apos) [e] [] pos) (tM1 rRpart to te) := pe_m1 PySem.F.slot_str_rpartition PySem.F.type_str_rpartition mt_rpart ho he hs hb hl
end
/-- what a new object at t, then one at l leaves -/
theorem new2 {H : Hp} {t l : Addr} {o u : HO} (ht : H t = none) (hl : upd H t o l = none) : t ≠ l ∧ H l = none ∧ Same H (upd (upd H t o) l u) ∧ (upd (upd H t o) l u) t = some o ∧ (upd (upd H t o) l u) l = some u := by
  have n : t ≠ l := fun e => by rw [← e, upd_same] at hl; cases hl
  exact ⟨n, by rw [upd_ne n.symm] at hl; exact hl, (same_upd ht).trans (same_upd hl), (upd_ne n).trans upd_same, upd_same⟩
theorem cutV_to (xs : List V) (k : Nat) : cutV xs none (some (k : Int)) = xs.take k := by
  unfold cutV
  have a : HT.sIx xs.length 0 none = 0 := by rfl
  have b : HT.sIx xs.length xs.length (some (k : Int)) = min k xs.length := by
    unfold HT.sIx
    simp
    try omega
  rw [a, b, List.drop_zero, Nat.sub_zero]
  by_cases h : k ≤ xs.length
  · rw [Nat.min_eq_left h]
  · rw [Nat.min_eq_right (by omega), List.take_length, List.take_of_length_le (by omega)]
theorem pi_listK {X : Cx} {tg l : Expr} {tl : TE} (K : PySem.W.Frag) (e : X.K = K) (hl : PE X l tl) : PI X tg l (iList K tl) := by
  subst e
  exact pi_list hl
end TK
set_option maxHeartbeats 4000000
/-! set(xs) of a list of ints and texts, of any length below the model's bound: mine. -/
namespace TKS
open PySem PySem.Spec PyProof.Rows L2 SX TK
def inK (l : List Key) (x : Key) : Bool := l.any fun y => decide (y = x)
def addK (l : List Key) (x : Key) : List Key := if inK l x = true then l else l ++ [x]
/-- the keys met so far, each once -/
def metK (kk : Nat → Key) : Nat → List Key
  | 0 => []
  | i + 1 => addK (metK kk i) (kk i)
theorem inK_iff {l : List Key} {x : Key} : inK l x = true ↔ x ∈ l := by
  unfold inK
  rw [List.any_eq_true]
  exact ⟨fun ⟨y, h, e⟩ => of_decide_eq_true e ▸ h, fun h => ⟨x, h, decide_eq_true rfl⟩⟩
theorem addK_len (l : List Key) (x : Key) : (addK l x).length = if inK l x = true then l.length else l.length + 1 := by
  unfold addK
  split
  · rfl
  · rw [List.length_append, List.length_singleton]
theorem metK_len (kk : Nat → Key) : ∀ i, (metK kk i).length ≤ i
  | 0 => Nat.le_refl 0
  | i + 1 => by
    have ih := metK_len kk i
    show (addK (metK kk i) (kk i)).length ≤ i + 1
    rw [addK_len]
    split <;> omega
theorem addK_in (l : List Key) (x y : Key) : inK (addK l x) y = (inK l y || decide (y = x)) := by
  unfold addK
  by_cases h : inK l x = true
  · rw [if_pos h]
    by_cases e : y = x
    · rw [e, h]
      rfl
    · rw [decide_eq_false e, Bool.or_false]
  · rw [if_neg h]
    show (l ++ [x]).any (fun z => decide (z = y)) = _
    rw [List.any_append]
    have e2 : [x].any (fun z => decide (z = y)) = decide (y = x) := by
      by_cases e : y = x
      · rw [e]
        simp
      · rw [decide_eq_false e]
        simp
        exact fun z => e z.symm
    rw [e2]
    rfl
theorem setOf_as {P : Program} {w : World} {h : Heap} {a : Addr} {S S' : Key → Bool} {n n' : Nat} (q : h.SetOf (mixKind P w) a S n) (e : ∀ k, S k = S' k) (en : n = n') : h.SetOf (mixKind P w) a S' n' := by
  obtain rfl : S = S' := funext e
  exact en ▸ q
section
variable {P : Program} {w : World} {A : Around} {R : Result → Shared → Prop} {it : Addr} {fp wr : List Addr} {G : Array GenState → Array GenState → Prop} {n : Nat} {Y : Nat → Value → Prop} {Z : Nat → Shared → Prop}
theorem set_loop (W : WalksS P w A.in1 it fp wr G n Y Z) (D : Addr) (nf : D ∉ fp) (kk : Nat → Key) (hv : ∀ i v, Y i v → RelV (kV (kk i)) v) (room : n + 1 < scanBound) : ∀ (m i : Nat) (s : Shared), n - i = m → i ≤ n → Z i s → s.heap.SetOf (mixKind P w) D (inK (metK kk i)) (metK kk i).length →
    (∀ s2, Moved (D :: wr) G s s2 → s2.heap.SetOf (mixKind P w) D (inK (metK kk n)) (metK kk n).length → R (.ok (.ret .none)) s2) → codeAny (model P w) A (.builtin "set.update.loop" ⟨[.ref D, .ref it], []⟩) R s := by
  have nw : D ∉ wr := fun q => nf (W.sub _ q)
  have more : ∀ b ∈ wr, b ∈ D :: wr := fun _ q => .tail _ q
  have stays : ∀ {s1 s2 : Shared} {S : Key → Bool} {c : Nat}, Moved wr G s1 s2 → s1.heap.SetOf (mixKind P w) D S c → s2.heap.SetOf (mixKind P w) D S c := fun mv q => setOf_at q fun o e => mv.heap D o nw e
  intro m
  induction m with
  | zero =>
    intro i s em hi z q k
    obtain rfl : i = n := by omega
    refine codeAny_builtin PyProof.Rows.F.entry_set_update_loop (?_ : wpAny _ _ _ _ _ _)
    rw [Around.under_plainId PyProof.Rows.F.plain_set_update_loop _] <;> exact wpAny_bind (W.done s _ _ z fun s2 mv => wpAny_pure (k s2 (mv.mono more) (stays mv q)))
  | succ m ih =>
    intro i s em hi z q k
    have lt : i < n := by omega
    refine codeAny_builtin PyProof.Rows.F.entry_set_update_loop (?_ : wpAny _ _ _ _ _ _)
    rw [Around.under_plainId PyProof.Rows.F.plain_set_update_loop _]
    refine wpAny_bind (W.item i s _ _ lt z fun v s2 y z2 mv => (?_ : wpAny _ A.in1 (holding [v] (setAdd D v) >>= _) _ _ s2))
    have rv := hv i v y
    have q2 := stays mv q
    have small := metK_len kk i
    refine wpAny_bind (wpAny_holding (?_ : wpAny _ A.in1 (setAdd D v) _ _ s2))
    unfold setAdd
    refine wpAny_holding (wpAny_bind ((mixKind P w).pyHash (k := kk i) (kV_is rv) (wpAny_setAddHashed_of (knd := mixKind P w) (s := { s2 with toks := s2.toks + 1 }) (kV_is rv) (key_scan rv) q2 (by omega) fun h3 but q3 => ?_)))
    have q4 : h3.SetOf (mixKind P w) D (inK (metK kk (i + 1))) (metK kk (i + 1)).length := setOf_as q3 (fun x => (addK_in (metK kk i) (kk i) x).symm) (addK_len (metK kk i) (kk i)).symm
    refine wpAny_pure ⟨plainId_quiet PyProof.Rows.F.plain_set_update_loop _, ih (i + 1) _ (by omega) lt (W.frame _ s2 _ _ z2 (Nat.le_succ _) fun b hb o e => (but.2 b fun z => nf (z ▸ hb)).trans e) q4 fun s5 mv5 q5 => k s5 ?_ q5⟩
    exact Moved.trans W.gtrans ((mv.mono more).then_heap (Nat.le_succ _) fun b o hb e => (but.2 b fun z => hb (z ▸ .head _)).trans e) mv5
/-- an empty set as the boot lays it -/
abbrev bare (b : Bool) : Obj := ⟨.type "set", none, .set #[] 0 (.fresh 0 0 b), #[]⟩
abbrev walker (l : Addr) : Obj := ⟨.type "list_iterator", none, .fields #[.ref l, .int 0 0], #[]⟩
theorem bare_of {h : Heap} {a : Addr} {b : Bool} (e : h.get? a = some (bare b)) : h.SetOf (mixKind P w) a (inK (metK (fun _ => .inl 0) 0)) 0 := by
  refine ⟨_, #[], 0, _, e, ⟨rfl, rfl, rfl⟩, rfl, ?_, ?_, ?_, ?_, ?_⟩
  · exact fun x hx => nomatch (show x ∈ ([] : List _) by simpa using hx)
  · exact fun k => ⟨fun q => (nomatch q), fun ⟨x, hx, _⟩ => nomatch (show x ∈ ([] : List _) by simpa using hx)⟩
  · decide
  · rfl
  · rfl
variable {E : Value → Shared → Prop} {s : Shared}
theorem vals_key {ks : List Key} : ∀ {us : List Value}, Vals (ks.map kV) us → ∀ (i : Nat) (v : Value), us[i]? = some v → RelV (kV (ks.getD i (.inl 0))) v := by
  induction ks with
  | nil =>
    intro us r i v h
    cases r
    cases h
  | cons k ks ih =>
    intro us r i v h
    cases r with
    | cons r1 r2 =>
      cases i with
      | zero =>
        cases h
        exact r1
      | succ i => exact ih r2 i v h
/-- set(xs) -/
theorem call_set_keys {l : Addr} {items : Array Value} {ks : List Key} {Q : Value → Shared → Prop} (calm : A.handled = none) (hl : s.heap.IsList l items) (rv : Vals (ks.map kV) items.toList) (room : items.size + 1 < scanBound)
    (k : ∀ (h2 : Heap) (tk : Nat), h2.SetOf (mixKind P w) s.heap.objs.size (inK (metK (fun i => ks.getD i (.inl 0)) items.size)) (metK (fun i => ks.getD i (.inl 0)) items.size).length → (∀ c o, c < s.heap.objs.size → s.heap.get? c = some o → h2.get? c = some o) → Q (.ref s.heap.objs.size) { s with heap := h2, toks := tk }) :
    wpAny (model P w) A (call (.type "set") [.ref l]) Q E s := by
  have cs := PySem.F.called_set
  obtain ⟨c, tl, y1⟩ := cs.mro
  have y2 := cs.made
  have y3 := cs.sub
  have y4 := cs.notType
  have y5 := cs.canCreate
  have y6 := PySem.F.typeCall_set_1 (.ref l)
  refine wpAny_call (codeAny_of_tree (?_ : wpAny _ _ (callAny (.type "set") _) _ _ _))
  refine wpAny_pure ⟨Code.quiet_builtin _ (by decide +kernel), codeAny_builtin PySem.F.entry_type_call ?_⟩
  rw [Around.under_plain (weight_type_call_type "set" [.ref l] []) rfl]
  repeat (any_goals (first | assumption | wp_step))
  refine codeAny_mono (code_set_new_1 (.ref l) (E := E) (Q₁ := fun v t => ∃ b : Bool, v = .ref s.heap.objs.size ∧ t = { s with heap := s.heap.push (bare b) }) fun b => ⟨b, rfl, rfl⟩) fun r t hr => ?_
  match r, hr with
  | .error e, hr => exact hr
  | .ok (.ret obj), hr =>
    obtain ⟨b, rfl, rfl⟩ := hr
    have g1 : (s.heap.push (bare b)).get? s.heap.objs.size = some (bare b) := Heap.get?_push_size _ rfl
    have g2 : Shared.TypeIs { s with heap := s.heap.push (bare b) } (.ref s.heap.objs.size) "set" := ⟨_, g1, rfl⟩
    have g3 := cs.init.lookup
    have g4 := cs.init.bind (.ref s.heap.objs.size)
    repeat (any_goals (first | assumption | wp_step))
    refine codeAny_mono (codeAny_call_builtin (R := wants (fun v t => v = .none ∧ ∃ h2 tk, t = { s with heap := h2, toks := tk } ∧ h2.SetOf (mixKind P w) s.heap.objs.size (inK (metK (fun i => ks.getD i (.inl 0)) items.size)) (metK (fun i => ks.getD i (.inl 0)) items.size).length ∧
      ∀ c o, c < s.heap.objs.size → s.heap.get? c = some o → h2.get? c = some o) E) cs.init.plain PySem.F.entry_set_init (check_set_init_1 g2 ?_)) fun r2 t2 hr2 => ?_
    · have hl1 : (s.heap.push (bare b)).IsList l items := hl.push _
      obtain ⟨ob, lo, lc, ln, ld⟩ := id hl
      have lt : l < s.heap.objs.size := Heap.lt_size lo
      have n1 : l ≠ (s.heap.push (bare b)).objs.size := by
        rw [Heap.size_push]
        exact Nat.ne_of_lt (.step lt)
      have n2 : s.heap.objs.size ∉ [(s.heap.push (bare b)).objs.size, l] := by
        rw [Heap.size_push]
        intro q
        rcases List.mem_cons.mp q with q | q
        · exact absurd q (Nat.ne_of_lt (Nat.lt_succ_self _))
        · rw [List.mem_singleton.mp q] at lt
          exact Nat.lt_irrefl _ lt
      obtain ⟨q1, q2, q3, q4⟩ := ob
      obtain rfl : q1 = .type "list" := lc
      obtain rfl : q3 = .seq items ln := ld
      have lo1 : (s.heap.push (bare b)).get? l = some ⟨.type "list", q2, .seq items ln, q4⟩ := Heap.get?_push_of_some _ lo
      have z1 := PySem.F.sub_list_set
      have z2 := PySem.F.sub_list_frozenset
      have z3 : (Value.type "list" == Value.type "dict") = false := by decide
      unfold Builtin.«set.__init__» noKeywords Builtin.Frozenset.updateFrom
      generalize hI : pyIter = I
      wp_walk
      subst hI
      refine wpAny_pyIter_list hl1 (wpAny_bind (wpAny_runValue ?_))
      have calm3 : A.in1.in1.in1.handled = none := by simp [calm]
      refine set_loop ((Walks.list calm3 _ l n1 items).toS) s.heap.objs.size n2 (fun i => ks.getD i (.inl 0)) (fun i v e => vals_key rv i v (by rw [Array.getElem?_toList]; exact e)) room items.size 0 _ (Nat.sub_zero _) (Nat.zero_le _) ⟨⟨_, Heap.get?_push_size _ rfl, rfl, rfl⟩, hl1.push _⟩ (bare_of (b := b) (Heap.get?_push_of_some _ g1)) fun t mv q => ?_
      obtain ⟨h2, t2, t3, tk, t5⟩ := t
      obtain rfl : t2 = s.gens := mv.gens
      obtain rfl : t3 = s.drawn := mv.drawn
      obtain rfl : t5 = s.os := mv.os
      refine wpAny_pure (wpAny_pure ⟨rfl, h2, tk, rfl, q, fun c o lc e => ?_⟩)
      refine mv.heap c o (fun m => ?_) (Heap.get?_push_of_some _ (Heap.get?_push_of_some _ e))
      rcases List.mem_cons.mp m with m | m
      · exact Nat.lt_irrefl _ (m ▸ lc)
      · have m2 := List.mem_singleton.mp m
        rw [Heap.size_push] at m2
        exact Nat.lt_irrefl _ (Nat.lt_trans (m2 ▸ lc) (Nat.lt_succ_self _))
    · match r2, hr2 with
      | .error e, hr2 => exact hr2
      | .ok (.ret v), hr2 =>
        obtain ⟨rfl, h2, tk, rfl, q1, q2⟩ := hr2
        repeat (any_goals (first | assumption | wp_step))
        exact k _ _ q1 q2
      | .ok .next, hr2 => exact hr2.elim
      | .ok .brk, hr2 => exact hr2.elim
      | .ok .cont, hr2 => exact hr2.elim
  | .ok .next, hr => exact hr.elim
  | .ok .brk, hr => exact hr.elim
  | .ok .cont, hr => exact hr.elim
end
/-! ### len(set(xs)) -/
section
variable {X : Cx} {p p2 q pos : Pos}
def tLenSetK (K : PySem.W.Frag) (ta : TE) : TE := fun σ H Q => ta σ H fun x H1 => ∃ (l : Addr) (ks : List Key), x = .ref l ∧ SqL K H1 l (ks.map kV) ∧ ks.length ≤ 4000 ∧ Q (.int ((metK (fun i => ks.getD i (.inl 0)) ks.length).length : Nat)) H1
theorem pe_lenSetK {a : Expr} {ta : TE} (ha : PE X a ta) (hm : X.mg "len" = none) (hm2 : X.mg "set" = none) (hg : Gl X "len" := by rfl) (hg2 : Gl X "set" := by rfl) (hc : X.calm = true := by rfl)
    (na : starEach [a] X.env = (false, eval a X.env) :: starEach [] X.env := by rfl) : PE X (.Call (.Name "len" p) [.Call (.Name "set" p2) [a] [] q] [] pos) (tLenSetK X.K ta) := by
  refine ⟨fun pins s σ H Q I h => Call_ (ld_blt I hg hm boot_len (PyProof.Rows.callWith_builtin1 (PyProof.Rows.args_cons (Call_ (ld_blt I hg2 hm2 boot_set ?_)) rfl) rfl rfl))⟩
  refine PyProof.Rows.callWith_type1 (PyProof.Rows.args_cons (thn (ha.run pins s σ H _ I h) fun v t ⟨x, H1, I1, rx, l, ks, ex, sq, small, z⟩ => PyProof.Rows.args_nil ?_) na) na rfl
  subst ex
  cases rx
  obtain ⟨its, r, pl, _⟩ := I1.list sq
  have n : its.toArray.size = ks.length := by
    rw [List.size_toArray, ← r.length, List.length_map]
  have lim : (4000 : Nat) + 1 < scanBound := by decide
  refine call_set_keys (ks := ks) (I1.ok.hd hc) pl.isList (by simpa using r) (by omega) fun h2 tk so kp => PyProof.Rows.args_nil ?_
  rw [n] at so
  have le := metK_len (fun i => ks.getD i (.inl 0)) ks.length
  have I2 : Inv X pins σ H1 { t with heap := h2, toks := tk } := I1.kept fun b o e => kp b o (Heap.lt_size e) e
  obtain ⟨o, es, ep, tb, ho, ex, hd, _, _, _, hf, hn⟩ := so
  exact call_len_set ho ex hd hf (by rw [hn]; omega) ⟨.int (metK (fun i => ks.getD i (.inl 0)) ks.length).length, H1, I2.tok _, ⟨_, by rw [hn]⟩, z⟩
end
/-- as many as there are, just if none is there twice -/
theorem met_nodup (ks : List Key) : ∀ i, i ≤ ks.length → (∀ x, x ∈ metK (fun i => ks.getD i (.inl 0)) i ↔ x ∈ ks.take i) ∧ ((metK (fun i => ks.getD i (.inl 0)) i).length = i ↔ (ks.take i).Nodup)
  | 0, _ => ⟨fun x => by simp [metK], by simp [metK]⟩
  | i + 1, hi => by
    obtain ⟨a, b⟩ := met_nodup ks i (by omega)
    have e : ks.getD i (.inl 0) = ks[i] := by
      rw [List.getD_eq_getElem?_getD, List.getElem?_eq_getElem (by omega)]
      rfl
    have t : ks.take (i + 1) = ks.take i ++ [ks[i]] := by
      rw [List.take_add_one, List.getElem?_eq_getElem (by omega)]
      rfl
    have le := metK_len (fun i => ks.getD i (.inl 0)) i
    show (∀ x, x ∈ addK _ (ks.getD i (.inl 0)) ↔ _) ∧ ((addK _ (ks.getD i (.inl 0))).length = i + 1 ↔ _)
    rw [e, t]
    refine ⟨fun x => ?_, ?_⟩
    · rw [← inK_iff, addK_in, Bool.or_eq_true, inK_iff, decide_eq_true_eq, a, List.mem_append, List.mem_singleton]
    · rw [addK_len, List.nodup_append]
      by_cases h : inK (metK (fun i => ks.getD i (.inl 0)) i) ks[i] = true
      · rw [if_pos h]
        rw [inK_iff, a] at h
        constructor
        · intro q
          omega
        · intro q
          exact absurd rfl (q.2.2 _ h _ (List.mem_singleton.mpr rfl))
      · rw [if_neg h]
        rw [inK_iff, a] at h
        constructor
        · intro q
          refine ⟨b.mp (by omega), by simp, fun x hx y hy => ?_⟩
          rw [List.mem_singleton.mp hy]
          exact fun z => h (z ▸ hx)
        · intro q
          rw [b.mpr q.1]
theorem met_all (ks : List Key) : (metK (fun i => ks.getD i (.inl 0)) ks.length).length = ks.length ↔ ks.Nodup := by
  have q := (met_nodup ks ks.length (Nat.le_refl _)).2
  rw [List.take_length] at q
  exact q
end TKS
set_option maxHeartbeats 4000000
/-! Calls with ** of a dict whose keys are texts. -/
namespace TK
open PySem PySem.Spec PyProof.Rows L2
section
variable {prog : Program} {w : World} {K : Type} [DecidableEq K] {knd : KeyKind prog w K} {A : Around} {E : Value → Shared → Prop} {s : Shared}
theorem put_new {d : Addr} {kvs : List (K × Value)} {k : K} {key v : Value} {Q : Unit → Shared → Prop} (hkey : knd.is k key = true) (hm : s.heap.DictOf knd d kvs) (hno : k ∉ kvs.map (·.1))
    (hQ : ∀ h', h'.DictOf knd d (kvs ++ [(k, v)]) → Heap.SameBut d s.heap h' → Q () { s with heap := h' }) (hsz : kvs.length ≤ sizeLine) :
    wpAny (model prog w) A (dictPut d (knd.hash k) key v) Q E s := by
  obtain ⟨o, es, ep, ho, hc, hd, hk, hp, hn⟩ := hm
  have hes : es.size ≤ sizeLine := by
    have e1 := hp.length
    have e2 : es.toList.length = es.size := by simp
    omega
  unfold dictPut
  refine wpAny_bind (wpAny_dictFind_of hkey ho hd hk ?_)
  have hidx : (es.findIdx? fun e => knd.is k e.key) = none := by
    have h1 : (es.findIdx? fun e => knd.is k e.key) = kvs.findIdx? fun kv => decide (kv.1 = k) := by
      rw [← hp.findIdx k]; obtain ⟨l⟩ := es; simp
    rw [h1, List.findIdx?_eq_none_iff]
    intro x hx
    exact decide_eq_false fun e => hno (List.mem_map.mpr ⟨x, hx, e⟩)
  rw [hidx]
  refine wpAny_updateDictKeys (hz := hes) ho hd (hQ _ ⟨_, _, ep + 1, Heap.get?_update_self _ ho (Obj.isFreed_of_dict (Obj.data_mapDictKeys hd _)), hc.mapDictKeys _, Obj.data_mapDictKeys hd _, hk.push hkey _, ?_, ?_⟩ (Heap.SameBut.update ..))
  · have := hp.append hkey (knd.hash k) v
    obtain ⟨l⟩ := es
    simpa using this
  · rw [List.map_append, List.nodup_append]
    refine ⟨hn, by simp, ?_⟩
    intro a ha b hb
    simp only [List.map_cons, List.map_nil, List.mem_singleton] at hb
    subst hb
    exact fun e => hno (e ▸ ha)
theorem find_new {d : Addr} {kvs : List (K × Value)} {k : K} {key : Value} {Q : Option Nat → Shared → Prop} (hkey : knd.is k key = true) (hm : s.heap.DictOf knd d kvs) (hno : k ∉ kvs.map (·.1))
    (hQ : Q none s) : wpAny (model prog w) A (dictFind d key (knd.hash k)) Q E s := by
  obtain ⟨o, es, ep, ho, hc, hd, hk, hp, hn⟩ := hm
  refine wpAny_dictFind_of hkey ho hd hk ?_
  have hidx : (es.findIdx? fun e => knd.is k e.key) = none := by
    have h1 : (es.findIdx? fun e => knd.is k e.key) = kvs.findIdx? fun kv => decide (kv.1 = k) := by
      rw [← hp.findIdx k]; obtain ⟨l⟩ := es; simp
    rw [h1, List.findIdx?_eq_none_iff]
    intro x hx
    exact decide_eq_false fun e => hno (List.mem_map.mpr ⟨x, hx, e⟩)
  rw [hidx]
  exact hQ
theorem merge_new {d o : Addr} {more : List (K × Value)} {Q : Unit → Shared → Prop} (hdo : d ≠ o) (hoS : (o == sysModules) = false)
    (hd : s.heap.DictOf knd d []) (ho : s.heap.DictOf knd o more)
    (hQ : ∀ h', h'.DictOf knd d more → h'.DictOf knd o more → Heap.SameBut d s.heap h' → Q () { s with heap := h' }) (hsz : more.length ≤ sizeLine) :
    wpAny (model prog w) A (mergeMapping d (.ref o) true) Q E s := by
  obtain ⟨od, esd, epd, hod, hcd, hdd, hkd, hpd, hnd⟩ := id hd
  obtain ⟨oo, eso, epo, hoo, hco, hdo', hko, hpo, hno⟩ := id ho
  have hlen : more.length = eso.size := by rw [← hpo.length]; simp
  unfold mergeMapping
  refine wpAny_bind (wpAny_isInstance ho.typeIs isSubtype_dict_dict ?_)
  simp only [if_true]
  refine wpAny_bind (wpAny_specialOf ho.typeIs F.slot_dict_iter.lookup ?_)
  refine wpAny_bind (wpAny_pure ?_)
  simp only [beq_self_eq_true]
  rw [if_neg (by rw [hoS]; exact Bool.false_ne_true)]
  refine wpAny_bind (wpAny_dictEntries hod hdd ?_)
  have h0 : esd.isEmpty = true := by
    have := hpd.length
    rw [Array.isEmpty_iff, ← Array.size_eq_zero_iff]
    simpa using this
  rw [if_pos h0]
  refine wpAny_bind (wpAny_dictEntries hoo hdo' ?_)
  have hloop : (forIn eso PUnit.unit fun e (_ : PUnit) => (match e.key with
      | Value.ref a => do
        let q ← specialOf e.key (Str.ofString "__eq__")
        if (q != some (Value.builtin "object.__eq__")) = true then
            if (Array.filter (fun x => x.hash == e.hash) eso).size > 1 then do
              let _ ← (unsupported "dict.merge-into-an-empty-dict:keys-of-equal-hash" : Sem PUnit)
              pure (ForInStep.yield PUnit.unit)
            else pure (ForInStep.yield PUnit.unit)
          else pure (ForInStep.yield PUnit.unit)
      | x => pure (ForInStep.yield PUnit.unit) : Sem (ForInStep PUnit))) = pure PUnit.unit := by
    rw [← Array.forIn_toList]
    refine forIn_yield_id _ fun e he c => ?_
    obtain ⟨k, hkey, _⟩ := hko e (Array.mem_toList_iff.mp he)
    have hb := knd.byValue k _ hkey
    split
    · rename_i a ea
      rw [ea] at hb
      exact nomatch hb
    · rfl
  refine wpAny_bind (wpAny_of_eq hloop ?_)
  refine wpAny_bind (wpAny_dictEntries hoo hdo' ?_)
  refine wpAny_bind (wpAny_dictEpoch hoo hdo' ?_)
  refine wpAny_bind ?_
  rw [List.range_eq_range']
  refine wpAny_forIn_list _
      (fun rest _ s' => ∃ h' i, s' = { s with heap := h' } ∧ rest = List.range' i (eso.size - i) ∧ i ≤ eso.size ∧ h'.DictOf knd d (more.take i) ∧ h'.get? o = some oo ∧ Heap.SameBut d s.heap h')
      _ ?_ ?_ _ _ ⟨s.heap, 0, rfl, by simp, Nat.zero_le _, by simpa using hd, hoo, Heap.SameBut.refl _ _⟩
  · rintro x rest b s' ⟨h', i, rfl, hr, hi, hd', hoo', hs'⟩
    have hlt : i < eso.size := by
      rcases Nat.lt_or_ge i eso.size with h | h
      · exact h
      · rw [Nat.sub_eq_zero_of_le h] at hr; simp at hr
    obtain ⟨rfl, hrest⟩ : x = i ∧ rest = List.range' (i + 1) (eso.size - (i + 1)) := by
      have e : eso.size - i = (eso.size - (i + 1)) + 1 := by omega
      rw [e, List.range'_succ] at hr
      injection hr with h1 h2
      exact ⟨h1, h2⟩
    refine wpAny_bind (wpAny_dictEntries hoo' hdo' ?_)
    rw [Array.getElem?_eq_getElem hlt]
    have hl2 : x < more.length := by rw [hlen]; exact hlt
    obtain ⟨kv, hkv⟩ : ∃ kv, more[x]? = some kv := ⟨more[x]'hl2, List.getElem?_eq_getElem _⟩
    have hnk : kv.1 ∉ (more.take x).map (·.1) := by
      intro hm
      have e2 : more = more.take x ++ kv :: more.drop (x + 1) := by
        rw [List.getElem?_eq_getElem hl2] at hkv
        injection hkv with e3
        rw [← e3, List.getElem_cons_drop, List.take_append_drop]
      rw [e2, List.map_append, List.nodup_append] at hno
      exact hno.2.2 _ hm _ (List.mem_map.mpr ⟨kv, List.mem_cons_self .., rfl⟩) rfl
    obtain ⟨k, v⟩ := kv
    obtain ⟨hkey, hval⟩ := hpo.get? (e := eso[x]) (by simp [hlt]) hkv
    obtain ⟨k', hkey', hhash⟩ := hko eso[x] (Array.getElem_mem hlt)
    obtain rfl : k' = k := knd.inj _ _ _ hkey' hkey
    dsimp only
    rw [hhash, hval]
    refine wpAny_bind (wpAny_holding (wpAny_bind (find_new hkey hd' hnk ?_)))
    simp only [Option.isSome_none, Bool.false_eq_true, if_false]
    refine put_new hkey hd' hnk (fun h'' hd'' hs'' => ?_) (by rw [List.length_take]; omega)
    have hoo'' : h''.get? o = some oo := (hs''.2 o (Ne.symm hdo)).trans hoo'
    refine wpAny_bind (wpAny_dictEpoch hoo'' hdo' ?_)
    rw [if_neg (by simp)]
    refine wpAny_pure ⟨h'', x + 1, rfl, hrest, hlt, ?_, hoo'', hs'.trans hs''⟩
    rw [List.take_add_one, hkv]
    exact hd''
  · rintro b s' ⟨h', i, rfl, hr, hi, hd', hoo', hs'⟩
    have hin : i = eso.size := by
      rcases Nat.lt_or_ge i eso.size with h | h
      · have e : eso.size - i = (eso.size - (i + 1)) + 1 := by omega
        rw [e, List.range'_succ] at hr; exact nomatch hr
      · exact Nat.le_antisymm hi h
    refine wpAny_pure (hQ h' ?_ ⟨oo, eso, epo, hoo', hco, hdo', hko, hpo, hno⟩ hs')
    rw [hin, ← hlen, List.take_length] at hd'
    exact hd'
end

section
variable {prog : Program} {w : World} {A : Around} {E : Value → Shared → Prop} {s : Shared}
theorem merged_kw {f : Value} {x : Sem Value} {Q : Addr → Shared → Prop}
    (h : wpAny (model prog w) A x (fun v s1 => ∃ (o : Addr) (more : List (Key × Value)), v = .ref o ∧ s.heap.objs.size ≠ o ∧ (o == sysModules) = false ∧ s1.heap.DictOf (mixKind prog w) s.heap.objs.size [] ∧
      s1.heap.DictOf (mixKind prog w) o more ∧ more.length ≤ sizeLine ∧ ∀ h', h'.DictOf (mixKind prog w) s.heap.objs.size more → Heap.SameBut s.heap.objs.size s1.heap h' → Q s.heap.objs.size { s1 with heap := h' })
      E { s with heap := s.heap.push { cls := .type "dict", data := .dict #[] } }) :
    wpAny (model prog w) A (mergedKeywords f [(none, x)]) Q E s := by
  unfold mergedKeywords
  refine wpAny_bind (wpAny_alloc' ?_)
  refine wpAny_bind (wpAny_holding ?_)
  refine wpAny_bind ?_
  rw [List.forIn_cons]
  refine wpAny_bind ?_
  refine wpAny_bind ?_
  refine wpAny_pure (a := ()) ?_
  refine wpAny_bind (wpAny_mono h (fun v s1 h1 => ?_) fun _ _ q => q)
  obtain ⟨o, more, rfl, hne, hS, h0, hm, hz, q⟩ := h1
  refine wpAny_bind (wpAny_onRaise ?_)
  refine wpAny_holding ?_
  refine wpAny_tryCatch ?_
  refine wpAny_onRaise ?_
  refine merge_new hne hS h0 hm (fun h' hd' ho' hs' => ?_) hz
  refine wpAny_pure (a := ForInStep.yield []) ?_
  show wpAny _ _ (forIn ([] : List (Option Str × Sem Value)) _ _) _ _ _
  rw [List.forIn_nil]
  refine wpAny_pure ?_
  refine wpAny_pure (a := ()) ?_
  exact wpAny_pure (q h' hd' hs')
theorem kw_in {f : Value} {d : Addr} {ps : List (Str × Value)} {Q : List (Str × Value) → Shared → Prop} (hd : s.heap.DictOf (mixKind prog w) d (ps.map fun p => (Sum.inr p.1, p.2))) (h : Q ps s) :
    wpAny (model prog w) A (keywordsIn f d) Q E s := by
  obtain ⟨o, es, ep, ho, hc, hdat, hk, hp, hn⟩ := id hd
  unfold keywordsIn
  refine wpAny_bind (wpAny_dictEntries ho hdat ?_)
  refine wpAny_bind ?_
  rw [← Array.forIn_toList]
  refine wpAny_forIn_list _ (fun rest b s' => s' = s ∧ ∃ qs, Pairs (mixKind prog w) rest (qs.map fun p => (Sum.inr p.1, p.2)) ∧ b ++ qs = ps) _ ?_ ?_ _ _ ⟨rfl, ps, hp, rfl⟩
  · rintro e rest b s' ⟨rfl, qs, hq, rfl⟩
    cases qs with
    | nil => exact nomatch hq
    | cons p qs =>
      rw [List.map_cons] at hq
      cases hq with
      | cons h1 h2 h3 =>
        have h1' : keyIs (Sum.inr p.1) e.key = true := h1
        rcases keyIs_shape h1' with ⟨i, t, q, _⟩ | ⟨z, t, q, e1⟩
        · exact nomatch q
        · injection q with q1
          rw [e1]
          refine wpAny_pure ⟨rfl, qs, h3, ?_⟩
          rw [← q1, h2]
          simp
  · rintro b s' ⟨rfl, qs, hq, e⟩
    cases qs with
    | nil =>
      rw [List.append_nil] at e
      rw [e]
      exact wpAny_pure h
    | cons p qs => exact nomatch hq
end
/-! ### the call -/
section
variable {M : Model} {A : Around} {E : Value → Shared → Prop} {s : Shared}
theorem callWith_star {P : Heap → Prop} {args : List (Bool × Sem Value)} {pos : Pos} {f : Value} {first : List Value} {Q : Value → Shared → Prop} {keywords : List (Option Str × Sem Value)} (hst : (args.any (·.1) || keywords.any (·.1.isNone)) = true)
    (hk : ∀ h, P h → ∃ k, (k = Keeper.frame ∨ k = Keeper.machine ∨ k = Keeper.boundFrame) ∧ PySem.W.Looks M h (keeperOf f) k)
    (h : wpAny M A (evalArgs f true args keywords) (fun a s₁ => P s₁.heap ∧ wpAny M A (call f (first ++ a.pos) a.kw) Q E s₁) E s) : wpAny M A (callWith pos f first args keywords) Q E s := by
  unfold callWith
  refine wpAny_bind (wpAny_holding (wpAny_mono h (fun a s₁ h₁ => wpAny_bind (wpAny_standAt ?_)) fun _ _ x => x))
  obtain ⟨k, hk', L⟩ := hk _ h₁.1
  simp only [hst]
  refine wpAny_bind (L.here ?_)
  have tail : ∀ {t : Sem Value}, wpAny M A t Q E s₁ → wpAny M A (t >>= fun r => holding [r] point >>= fun _ => pure r) Q E s₁ :=
    fun ht => wpAny_bind (wpAny_mono ht (fun r s₂ hr => wpAny_bind (wpAny_holding (wpAny_point (wpAny_pure hr)))) fun _ _ x => x)
  have marked (mk : Value) : wpAny M A (callMarked mk f (first ++ a.pos) a.kw) Q E s₁ := by unfold callMarked; exact Calls.wpAny_keep h₁.2
  rcases hk' with rfl | rfl | rfl <;> dsimp only <;> first | exact tail (marked _) | exact tail (wpAny_operateT h₁.2)
theorem args_ss {f : Value} {x : Sem Value} {Q : Args → Shared → Prop}
    (h : wpAny M A (mergedKeywords f [(none, x)]) (fun d s1 => wpAny M A (keywordsIn f d) (fun kw s2 => Q ⟨[], kw⟩ s2) E s1) E s) : wpAny M A (evalArgs f true [] [(none, x)]) Q E s := by
  unfold evalArgs
  show wpAny M A (spliced [] >>= _) Q E s
  refine wpAny_bind (Calls.spliced_nil ?_)
  refine wpAny_bind (wpAny_pure ?_)
  refine wpAny_holding ?_
  rw [if_neg (by simp)]
  refine wpAny_bind (wpAny_mono h (fun d s1 h1 => ?_) fun _ _ q => q)
  refine wpAny_bind (wpAny_pure ?_)
  exact wpAny_bind (wpAny_holding (wpAny_mono h1 (fun kw s2 h2 => wpAny_pure h2) fun _ _ q => q))
end
/-- the dict that stands for the keywords ks with the values zs -/
def dkOf (ks : List Str) (zs : List V) : List (Key × V) := (ks.zip zs).map fun p => (Sum.inr p.1, p.2)
theorem kv_zip : ∀ {ks : List Str} {zs : List V} {vs : List (Key × Value)}, ks.length = zs.length → KV (dkOf ks zs) vs → ∃ ws, Vals zs ws ∧ vs = (ks.zip ws).map fun p => (Sum.inr p.1, p.2)
  | [], [], vs, _, r => by
    cases r
    exact ⟨[], .nil, rfl⟩
  | [], _ :: _, _, h, _ => nomatch h
  | _ :: _, [], _, h, _ => nomatch h
  | k :: ks, z :: zs, vs, h, r => by
    cases r with
    | @cons a b as bs q t =>
      obtain ⟨ws, rw', e⟩ := kv_zip (Nat.succ.inj h) t
      obtain ⟨b1, b2⟩ := b
      have q1 : (Sum.inr k : Key) = b1 := q.1
      subst q1
      exact ⟨b2 :: ws, .cons q.2 rw', by rw [e]; rfl⟩
/-- C(**d): d's keys are the names; a new dict is laid first, then the instance -/
def tMakeSS (C : Addr) (P : List Str → (List V → List V → List V) → Prop) (sp : Sp) (E : XK) (t : TE) : TE := fun σ H Q => ∀ p, H p = none → t σ (upd H p (.dK [])) fun y H1 => H1 p = some (.dK []) ∧ ∃ a ks zs gV, y = .ref a ∧ p ≠ a ∧ Rd H1 a (.dK (dkOf ks zs)) ∧ ks.length = zs.length ∧ P ks gV ∧
  ∀ x dx, upd H1 p (.dK (dkOf ks zs)) x = none → upd H1 p (.dK (dkOf ks zs)) dx = none → dx ≠ x →
    sp (gV [.ref x] zs) (upd (upd (upd H1 p (.dK (dkOf ks zs))) dx (.own x)) x (.ins C dx [])) (fun v H3 => v = .non ∧ Q (.ref x) H3) E
section
variable {X : Cx} {CX : CXT} {k : Nat} {f C : Addr} {fd : FuncData} {ps : List Str} {sp : Sp} {E : XK} {x : Str} {p pos kp : Pos} {e : Expr} {t : TE} {P : List Str → (List V → List V → List V) → Prop}
theorem pe_makeSS (M : Mk X.K C f) (F : FnOk X.prog X.w X.K X.mg X.base CX k f fd ps sp) (hr : Room (k + 1) X.A) (hg : Gl X x) (hm : X.mg x = some (.ref C)) (hb : ∀ ks gV, P ks gV → ∃ g, KBn X.K fd ps 1 ks g gV) (hx : Passes CX X E) (he : PE X e t)
    (hdb : (x == ("__debug__" : Str)) = false := by decide) : PE X (.Call (.Name x p) [] [⟨none, e, kp⟩] pos) (tMakeSS C P sp E t) := by
  refine ⟨fun pins s σ H Q I h => ?_⟩
  refine wpAny_Call_Name_kw (ld_glob I hg hm ?_ hdb)
  refine callWith_star (P := X.K.In) rfl (PySem.W.keeps_K M.kp) ?_
  have hn := I.hok.fresh (Nat.le_refl s.heap.objs.size)
  have I1 := I.laid (a := s.heap.objs.size) (o := .dK []) (h' := s.heap.push { cls := .type "dict", data := .dict #[] }) (t' := s.toks) (fun _ _ q => Heap.get?_push_of_some _ q) (Nat.le_refl _) (dk_empty s.heap I.big)
  refine args_ss (merged_kw ?_)
  show wpAny _ _ (eval e X.env >>= fun v => standAt pos >>= fun _ => pure v) _ _ _
  refine wpAny_bind (thn (he.run pins _ σ _ _ I1 (h _ hn)) fun u s2 ⟨y, H2, I2, ry, e0, a, ks, zs, gV, ey, hpa, ha, hl, hP, q⟩ => ?_)
  refine wpAny_bind (wpAny_standAt (wpAny_pure ?_))
  subst ey
  cases ry
  obtain ⟨z, hd, vs, rel, dd⟩ := dk_rd I2.hok ha
  obtain ⟨ws, rz, ev⟩ := kv_zip hl rel
  subst ev
  obtain ⟨z0, hd0, vs0, r0, dd0⟩ := dk_of I2.hok e0
  cases r0
  refine ⟨a, _, rfl, hpa, hd, dd0, dd, by rw [← rel.length]; exact z, fun h' dd' hs' => ?_⟩
  have he : ∃ q, h'.get? s.heap.objs.size = some q := let ⟨q, _, _, hq, _⟩ := dd'; ⟨q, hq⟩
  have I3 := d_write (t' := s2.toks) I2 (by rw [e0]; exact True.intro) hs' he (dk_new z hd0 rel dd')
  refine kw_in dd' ⟨I3.kIn, ?_⟩
  obtain ⟨g, hbn⟩ := hb ks gV hP
  exact run_makeK (us := []) (vs := []) M F hr hbn hx I3 .nil rz rfl hl.symm q
end

/-! ### d.update(e) -/
/-- d.update(e): both with keys ints and texts -/
def tDUpd (td te : TE) : TE := fun σ H Q => td σ H fun x H1 => ∃ a, x = .ref a ∧ IsD H1 a ∧ te σ H1 fun y H2 => ∃ b kvs more, y = .ref b ∧ a ≠ b ∧ H2 a = some (.dK kvs) ∧ Rd H2 b (.dK more) ∧ kvs.length + more.length ≤ sizeLine ∧
  Q .non (upd H2 a (.dK (mergeK kvs more)))
section
variable {X : Cx} {o e : Expr} {apos cpos : Pos} {td te : TE}
theorem pe_dupd (ho : PE X o td) (he : PE X e te) (m : M1 X o "update" apos e cpos) : PE X (.Call (.Attribute o "update" apos) [e] [] cpos) (tDUpd td te) := by
  refine ⟨fun pins s σ H Q I h => ?_⟩
  refine wpAny_Call_method m.base m.few m.line PySem.F.plainAttrs_dict PySem.F.slot_dict_update PySem.F.type_dict_update (thn (ho.run pins s σ H _ I h) fun u s1 ⟨x, H1, I1, rx, a, ex, d, q1⟩ => ?_)
  subst ex
  obtain rfl : u = Value.ref a := rx
  obtain ⟨t1, t2, _⟩ := isD_at I1 d
  refine ⟨t1, t2, ?_⟩
  rw [m.trees]
  refine Calls.callWith_builtin rfl (Calls.evalArgs_plain (Calls.spliced_cons (thn (he.run pins s1 σ H1 _ I1 q1) fun iv s2 ⟨y, H2, I2, ry, b, kvs, more, ey, hab, ea, eb, hz, q2⟩ => Calls.spliced_nil ?_)))
  subst ey
  obtain rfl : iv = Value.ref b := ry
  obtain ⟨z, hd, vs, rel, dd⟩ := dk_of I2.hok ea
  obtain ⟨zb, hb, ws, relb, db⟩ := dk_rd I2.hok eb
  show wpAny (model X.prog X.w) _ (call (.builtin "dict.update") [.ref a, .ref b]) _ _ _
  refine call_meetsIn PySem.F.slot_dict_update dd.typeIs PySem.F.entry_dict_update (PySem.F.args_dict_update_2 _ _) (meets_dict_update (mixKind X.prog X.w) a b hab hb) ⟨vs, ws, dd, db, by rw [← rel.length, ← relb.length]; exact hz, fun h' dd' _ hs => ?_⟩
  have he : ∃ q, h'.get? a = some q := let ⟨q, _, _, hq, _⟩ := dd'; ⟨q, hq⟩
  exact ⟨.non, _, d_write (t' := s2.toks) I2 (by rw [ea]; exact True.intro) hs he (dk_new (Nat.le_trans (length_mergeK more kvs) hz) hd (relb.merge rel) dd'), rfl, q2⟩
end
end TK
set_option maxHeartbeats 4000000
/-! The binding of C(**d) where all defaults are None: by names, whatever d's keys are. -/
namespace TK
open PySem PySem.Spec PyProof.Rows L2
open PySem.W (Looks)
theorem lookup_app {n : Str} {t : Sl} {v : Value} : ∀ {l : Sl}, l.lookup n = some v → (l ++ t).lookup n = some v
  | [], h => by cases h
  | (a, b) :: r, h => by
    rw [List.cons_append, List.lookup_cons]
    rw [List.lookup_cons] at h
    by_cases e : (n == a) = true
    · rw [e] at h ⊢
      exact h
    · rw [show (n == a) = false by simpa using e] at h ⊢
      exact lookup_app h
theorem lookup_snoc {n : Str} {v : Value} : ∀ {l : Sl}, l.lookup n = none → (l ++ [(n, v)]).lookup n = some v
  | [], _ => by rw [List.nil_append, List.lookup_cons, beq_self_eq_true]
  | (a, b) :: r, h => by
    rw [List.cons_append, List.lookup_cons]
    rw [List.lookup_cons] at h
    by_cases e : (n == a) = true
    · rw [e] at h
      cases h
    · rw [show (n == a) = false by simpa using e] at h ⊢
      exact lookup_snoc h
theorem lookup_snoc_ne {n m : Str} {v : Value} (hne : n ≠ m) : ∀ {l : Sl}, (l ++ [(m, v)]).lookup n = l.lookup n
  | [] => by
    rw [List.nil_append, List.lookup_cons, show (n == m) = false by simpa using hne]
  | (a, b) :: r => by
    rw [List.cons_append, List.lookup_cons, List.lookup_cons, lookup_snoc_ne hne]
theorem fold_look {dv : Str → Value} {n : Str} : ∀ (L : List Str) (s : Sl × List Str), (L.foldl (g2 dv) s).1.lookup n = match s.1.lookup n with
    | some v => some v
    | none => if n ∈ L then some (dv n) else none
  | [], s => by
    rw [List.foldl_nil]
    cases s.1.lookup n <;> rfl
  | m :: L, s => by
    rw [List.foldl_cons, fold_look L]
    unfold g2
    by_cases hm : (s.1.lookup m).isNone = true
    · rw [if_pos hm]
      by_cases e : n = m
      · subst e
        rw [Option.isNone_iff_eq_none] at hm
        rw [hm]
        show (match (s.1 ++ [(n, dv n)]).lookup n with | some v => some v | none => _) = _
        rw [lookup_snoc hm]
        simp
      · show (match (s.1 ++ [(m, dv m)]).lookup n with | some v => some v | none => _) = _
        rw [lookup_snoc_ne e]
        cases s.1.lookup n with
        | some v => rfl
        | none => simp [e]
    · rw [if_neg hm]
      show (match s.1.lookup n with | some v => some v | none => _) = _
      cases q : s.1.lookup n with
      | some v => rfl
      | none =>
        have e : n ≠ m := fun e => by rw [← e, q] at hm; exact hm rfl
        simp [e]
def byName (L ks : List Str) (ws : List Value) : List Value := L.map fun n => ((ks.zip ws).lookup n).getD .none
def byNameV (L ks : List Str) (zs : List V) : List V := L.map fun n => ((ks.zip zs).lookup n).getD .non
theorem bindR_eq {self : Str} {L : List Str} {u : Value} {kw : Sl} (hs : self ∉ L) :
    bindR self L u kw (fun _ => .none) = (self :: L).zip (u :: L.map fun n => (kw.lookup n).getD .none) := by
  have e0 : ∀ n, ((L.foldl (g2 fun _ => Value.none) ((self, u) :: kw, [])).1.lookup n) = match ((self, u) :: kw).lookup n with
    | some v => some v
    | none => if n ∈ L then some .none else none := fun n => fold_look L _
  unfold bindR
  rw [List.singleton_append, List.filterMap_cons, List.zip_cons_cons]
  have e1 : ((L.foldl (g2 fun _ => Value.none) ((self, u) :: kw, [])).1.lookup self) = some u := by
    rw [e0, List.lookup_cons, beq_self_eq_true]
  rw [e1]
  show (self, u) :: _ = _
  congr 1
  have e2 : ∀ M : List Str, (∀ n ∈ M, n ∈ L) → M.filterMap (fun n => ((L.foldl (g2 fun _ => Value.none) ((self, u) :: kw, [])).1.lookup n).map fun x => (n, x)) = M.zip (M.map fun n => (kw.lookup n).getD .none) := by
    intro M
    induction M with
    | nil => intro _; rfl
    | cons n M ih =>
      intro h
      have hn := h n (List.mem_cons_self ..)
      have hne : (n == self) = false := by
        rw [beq_eq_false_iff_ne]
        intro e
        exact hs (e ▸ hn)
      have e3 : ((L.foldl (g2 fun _ => Value.none) ((self, u) :: kw, [])).1.lookup n) = some ((kw.lookup n).getD .none) := by
        rw [e0, List.lookup_cons, hne]
        cases kw.lookup n with
        | some v => rfl
        | none => rw [if_pos hn]; rfl
      rw [List.filterMap_cons, e3, List.map_cons, List.zip_cons_cons, ih fun m hm => h m (List.mem_cons_of_mem _ hm)]
      rfl
  exact e2 L fun _ h => h
theorem rel_look {n : Str} : ∀ {ks : List Str} {zs : List V} {ws : List Value}, Vals zs ws → RelV (((ks.zip zs).lookup n).getD .non) (((ks.zip ws).lookup n).getD .none)
  | [], _, _, _ => rfl
  | _ :: _, _, _, .nil => rfl
  | k :: ks, _, _, .cons h t => by
    rw [List.zip_cons_cons, List.zip_cons_cons, List.lookup_cons, List.lookup_cons]
    by_cases e : (n == k) = true
    · rw [e]
      exact h
    · rw [show (n == k) = false by simpa using e]
      exact rel_look t
theorem rel_byName {ks : List Str} {zs : List V} {ws : List Value} (r : Vals zs ws) : ∀ L : List Str, Vals (byNameV L ks zs) (byName L ks ws)
  | [] => .nil
  | _ :: L => .cons (rel_look r) (rel_byName r L)
/-- the keys that C(**d) may have, and what comes to the parameters -/
def SsOk (self : Str) (L need : List Str) (ks : List Str) (gV : List V → List V → List V) : Prop := (self :: ks).Nodup ∧ (∀ k ∈ ks, k ∈ L) ∧ (∀ k ∈ need, k ∈ ks) ∧ gV = fun vs zs => vs ++ byNameV L ks zs
theorem kbn_ss {K : PySem.W.Frag} {x qual : Str} {params : Arguments} {body : List Stmt} {scope : Scope} {kws : List (Str × V)} {f : Addr} {fd : FuncData} {L need : List Str} {self : Str} (F : FunD K x qual params body scope [] kws f fd) (hkws : kws ≠ [])
    (hnon : ∀ q ∈ kws, q.2 = .non) (h1 : params.posonlyargs.map (·.arg) = []) (h2 : params.args.map (·.arg) = [self]) (h3 : params.kwonlyargs.map (·.arg) = L) (h4 : params.vararg = none) (h5 : params.kwarg = none) (hs : self ∉ L)
    (hcov : ∀ n ∈ L, n ∈ need ∨ n ∈ kws.map (·.1)) : ∀ ks gV, SsOk self L need ks gV → ∃ g, KBn K fd (self :: L) 1 ks g gV := by
  rintro ks gV ⟨nd, hin, hnd, rfl⟩
  obtain ⟨oc, od, dV, kV, doc, pm, an, cdv, ct, osl, rfl, lk, hcd, hD, hK⟩ := F.ex
  have edV : dV = .none := by
    rcases hD with ⟨_, e⟩ | ⟨e, _⟩
    · exact e
    · exact absurd rfl e
  subst edV
  rcases hK with e | ⟨D, rfl, hq⟩
  · exact absurd e hkws
  refine ⟨fun us ws => us ++ byName L ks ws, ⟨fun s us ws X l1 l2 => ?_, fun r1 r2 => r1.append (rel_byName r2 L)⟩⟩
  obtain ⟨u, rfl⟩ : ∃ u, us = [u] := by
    cases us with
    | nil => cases l1
    | cons a r =>
      cases r with
      | nil => exact ⟨a, rfl⟩
      | cons b r => cases l1
  refine BindsTo.of_looks fun M => ?_
  show Looks M s.heap _ ((self :: L).zip (u :: byName L ks ws))
  unfold byName
  rw [← bindR_eq hs]
  refine bind_kw X h1 h2 h3 h4 h5 (List.map_fst_zip (by omega)) nd hin _ fun n hn nk => ?_
  rcases hcov n hn with h | h
  · exact absurd (hnd n h) nk
  · obtain ⟨q, hq1, rfl⟩ := List.mem_map.mp h
    obtain ⟨v, e1, e2⟩ := hq q hq1
    rw [hnon q hq1] at e2
    cases (show v = Value.none from e2)
    exact e1
/-- a class that is made by C(**d) -/
structure MakS (P : Program) (w : World) (K : PySem.W.Frag) (mg : Str → Option Value) (base : Heap) (k : Nat) (x : Str) (C : Addr) (sp : Sp) (S : List Str → (List V → List V → List V) → Prop) : Prop where
  ex : ∃ (f : Addr) (fd : FuncData) (ps : List Str), Mk K C f ∧ FnOk P w K mg base L2.CX0 k f fd ps sp ∧ mg x = some (.ref C) ∧ ∀ ks gV, S ks gV → ∃ g, KBn K fd ps 1 ks g gV
section
variable {X : Cx} {k j : Nat} {C : Addr} {sp : Sp} {x : Str} {p pos kp : Pos} {e : Expr} {t : TE} {S : List Str → (List V → List V → List V) → Prop}
theorem pe_mkSS (c : MakS X.prog X.w X.K X.mg X.base k x C sp S) (hr : Room j X.A) (hk : k + 1 ≤ j) (hg : Gl X x) (he : PE X e t) (hdb : (x == ("__debug__" : Str)) = false := by decide) : PE X (.Call (.Name x p) [] [⟨none, e, kp⟩] pos) (tMakeSS C S sp L2.E0 t) := by
  obtain ⟨f, fd, ps, M, F, hm, b⟩ := c.ex
  exact pe_makeSS M F (hr.mono hk) hg hm b L2.pass0 he hdb
end
end TK
set_option maxHeartbeats 2000000
/-! Own exceptions over own classes over ValueError, whose __init__ says super().__init__(text) and keeps one field. -/
namespace TKE
open PySem PySem.Spec PyProof.Rows L2
structure SupTxt (K : PySem.W.Frag) (P : Program) (C fI cda cc : Addr) : Prop where
  oex : OexC K C
  iC : PySem.W.findIn K (.ref C) "__init__" = some (some (.ref fI))
  tI : PySem.W.typeIn K (.ref fI) = some (.type "function")
  sup : PySem.W.ks_superIn K C C "__init__" = some (some (.builtin "ValueError.__init__"))
  subVE : PySem.W.subIn K (.ref C) (.type "ValueError") = some true
  mroC : PySem.W.mroIn K C (.ref C) = some true
  hop : PySem.W.nsIn K cStatics "thirdparty.any" = some none
  code : ∃ ccl cdd vs ccs file tf, K.lookup cda = some ⟨ccl, cdd, .fields vs, ccs⟩ ∧ vs[2]? = some (.str file tf) ∧ ((P.main.file : Str) == file) = true
  cell : ∃ cl cld csl, K.lookup cc = some ⟨cl, cld, .cell (some (.ref C)), csl⟩
section
variable {prog : Program} {w : World} {A : Around} {E : Value → Shared → Prop} {h : Heap} {g : Array GenState} {d : Drawn} {t : Nat} {os : OsState}
/-- the bound ValueError.__init__, called -/
theorem mw_call {nm q : Str} {C N u a t0 : Addr} {bs bm : List Value} {hdct : Bool} {sn : List Str} {sub : List Value} {ab : Bool} {col : Option Bool} {dd : Option Addr} {k0 k1 k2 k3 k5 : Option Value} {rest : List Value} {Q : Value → Shared → Prop}
    (hC : h.get? C = some (excClassObj nm q C N bs bm hdct sn sub ab col dd k0 k1 k2 k3 k5 "ValueError.__new__"))
    (he : h.get? a = some ({ cls := .ref C, dict := none, data := .fields #[.ref t0, .none, .none, .none, .bool false, .none] } : Obj)) (hu : h.get? u = some (PySem.W.kxs_mw "ValueError.__init__" a)) (hz : rest.length ≤ sizeLine)
    (hq : ∀ h' t', (∀ b o, b ≠ a → h.get? b = some o → h'.get? b = some o) → h'.get? a = some ({ cls := .ref C, dict := none, data := .fields #[.ref t', .none, .none, .none, .bool false, .none] } : Obj) → Q .none ⟨h', g, d, t, os⟩) :
    wpAny (model prog w) A (call (.ref u) rest) Q E ⟨h, g, d, t, os⟩ := by
  have FB := F.excBase_ValueError
  refine wpAny_call (codeAny_of_tree ?_)
  change wpAny _ A.in1 (callAny (.ref u) ⟨rest, []⟩) _ _ _
  simp only [callAny]
  refine wpAny_bind (wpAny_load hu ?_)
  have em : (Value.type "method-wrapper" == Value.type "method" || Value.type "method-wrapper" == Value.type "builtin_function_or_method" || Value.type "method-wrapper" == Value.type "method-wrapper") = true := by decide
  simp only [PySem.W.kxs_mw, em, if_true]
  refine PySem.W.KFB.if_so (by decide) ?_
  refine wpAny_bind (PySem.W.check_bound_init FB.toExcCallFacts hC he rfl (wpAny_bind (wpAny_pure (wpAny_pure ?_))))
  refine ⟨plainId_quiet FB.init.plain _, codeAny_builtin FB.initEntry (PySem.W.exc_init_tree (t0 := t0) (cls := .ref C) (dv := none) (c2 := .none) (c3 := .none) (b4 := .bool false) he hz fun h' k e' _ => hq h' _ k e')⟩
end
theorem boot_super : bootBuiltins "super" = some (.type "super") := by first | boot_by_name | rfl | kernel_rfl
section
variable {X : Cx} {pins : List (Addr × Obj)} {σ : L2.St} {H : Hp} {s : Shared} {C fI cda cc a : Addr} {body : List Stmt} {p0 p1 apos pos pos' : Pos} {e : Expr} {te : TE} {pl : Sem Bool} {fd : FuncData} {ar : Arg} {Q' : Hp → Prop} {oc : Value} {od : Option Addr} {osl : Array (Option Value)}
theorem sup_stmt (T : SupTxt X.K X.prog C fI cda cc) (hfu : X.env.func = some fI) (hf : X.K.lookup fI = some ⟨oc, od, .func fd, osl⟩) (hp : (fd.params.posonlyargs ++ fd.params.args).head? = some ar) (hco : X.env.code = .ref cda)
    (hks : X.env.kindOf "super" = some .globalImplicit) (hkc : X.env.kindOf "__class__" = some .free) (hcl : X.env.cells.lookup ("__class__" : Str) = some cc) (hka : X.env.kindOf ar.arg = some .local) (hN : X.N[0]? = some ar.arg)
    (hm : X.mg "super" = none) (htop : (X.prog.main.scope.names.lookup ("super" : Str)).isSome = false)
    (I : Inv X pins σ H s) (hσ : σ[0]? = some (some (.ref a))) (ha : H a = some (exo a C none)) (he : PE X e te) (h : te σ H fun v H1 => H1 a = some (exo a C none) ∧ Q' H1 ∧ [v].length = 1)
    (hev : eval (.Call (.Attribute (.Call (.Name "super" p0) [] [] p1) "__init__" apos) [e] [] pos) X.env = (do
      let ov ← attributeBase (.Call (.Name "super" p0) [] [] p1) "__init__" X.env (eval (.Call (.Name "super" p0) [] [] p1) X.env)
      standAt apos.atName
      let (f, first) ← holding [ov] (getMethod ov "__init__" pl)
      callWith pos f first (backTo pos (starEach [e] X.env)) []))
    (hi : interactive X.env = false) (hsw : swapsWith (.Call (.Attribute (.Call (.Name "super" p0) [] [] p1) "__init__" apos) [e] [] pos) none pos'.line X.env = pure false)
    (hst : starEach [e] X.env = (false, eval e X.env) :: starEach [] X.env) :
    _root_.PySem.wpAt (model X.prog X.w) X.A (.func body X.env) (exec (.Expr (.Call (.Attribute (.Call (.Name "super" p0) [] [] p1) "__init__" apos) [e] [] pos) pos') X.env) (fun fl s' => fl = .next ∧ ∃ H1, Inv X pins σ H1 s' ∧ Q' H1) X.xe s := by
  have KX := I.kIn
  refine ks_wpAt_Expr_any (ks_wpAt_MethodCall (pl := pl) ?_ hev) hi hsw
  obtain ⟨ccl, cdd, vs, ccs, file, tf, hcd, hvs, hfile⟩ := T.code
  obtain ⟨cl, cld, csl, hcc⟩ := T.cell
  refine ks_wpAt_super_base hks hkc (by decide) hfu (KX _ _ hf) rfl hp hco (KX _ _ hcd) rfl hvs hfile htop ?_
  obtain ⟨mb, hb1, hb2⟩ := I.mod.blt
  refine PySem.W.ks_loadName_global I.ok.kind hks (Calls.loadGlobal_builtin (by rw [I.ok.glob]; exact I.mod.glob.keeps I.bk) hm (by rw [I.ok.blt]; exact hb1.keeps I.bk) ((hb2 _ (by decide)).trans boot_super) ⟨rfl, ?_⟩)
  refine wpAny_loadName_free I.ok.kind hkc hcl ⟨_, KX _ _ hcc, rfl⟩ ?_
  obtain ⟨m, hns, hloc⟩ := I.loc
  obtain ⟨u, ru, hlk⟩ := hloc 0 ar.arg (.ref a) hN hσ (.inl hka)
  obtain rfl : u = Value.ref a := ru
  have hv : m ar.arg = some (.ref a) := by
    rcases hlk with ⟨_, z⟩ | ⟨z, _⟩
    · exact z
    · rw [hka] at z
      rcases z with z | z <;> cases z
  refine wpAny_loadName_local I.ok.kind hka hns hv ?_
  obtain ⟨nm, q, N, bs, bm, sn, sub, ab, col, dd, k0, k1, k2, k3, k5, hC, hbm⟩ := T.oex.cls
  obtain ⟨t1, ho⟩ := exo_at I.hok ha
  have hkC := KX _ _ hC
  obtain ⟨hp0, g, d, t, os⟩ := s
  refine ks_wpAny_isType_cls hkC rfl ⟨rfl, ?_⟩
  refine ks_wpAny_call_super hkC rfl ho rfl (fun c z => nomatch z) (PySem.W.looks_mroIn KX T.mroC) (fun h1 e1 kk => ?_)
  have I1 : Inv X pins σ H ⟨h1, g, d, t, os⟩ := I.kept (t' := t) kk
  have ho1 := kk _ _ ho
  have aC : a ≠ C := fun z => by
    rw [z] at ho
    have := ho.symm.trans hkC
    cases this
  have hcls : PySem.W.clsIn X.K C = some { name := nm, bases := bs, mro := .ref C :: bm, ns := N, qualname := q, hasDict := true, slotNames := sn, subclasses := sub, abstract := ab, collection := col, hasDel := false } := by unfold PySem.W.clsIn; rw [hC] <;> rfl
  have hsup := T.sup
  unfold PySem.W.ks_superIn at hsup
  rw [hcls] at hsup
  have II : PySem.W.InstAt h1 a ({ cls := .ref C, dict := none, data := .fields #[.ref t1, .none, .none, .none, .bool false, .none] } : Obj) C none := ⟨ho1, rfl, rfl, trivial⟩
  refine PySem.W.kxs_getMethod PySem.W.kxs_ValueError e1 (PySem.W.looks_opaque I1.kIn T.hop) (fun A Q E s k q => wpAny_bind ((PySem.W.looks_clsIn I1.kIn hcls) A _ E s k (wpAny_pure q))) rfl I1.kIn hsup (II.type.andThen (PySem.W.looks_subIn I1.kIn T.subVE)) aC (by decide) ?_
  have I2 : Inv X ((h1.objs.size, PySem.W.kxs_mw "ValueError.__init__" a) :: pins) σ H ⟨h1.push (PySem.W.kxs_mw "ValueError.__init__" a), g, d, t + 1, os⟩ :=
    ClX.pin_new I1 (fun b o z => Heap.get?_push_of_some _ z) (Nat.le_refl _) (Heap.get?_push_at rfl rfl) (fun v z => nomatch z)
  refine PySem.W.kxs_callWith (i := "ValueError.__init__") (x := a) (by rw [hst]; rfl) ?_
  rw [hst]
  refine Calls.evalArgs_plain ?_
  have hpa := (pa_cons he pa_nil hst).run pos _ _ σ H (fun vs H1 => H1 a = some (exo a C none) ∧ Q' H1 ∧ vs.length = 1) I2 h
  rw [hst] at hpa
  refine thn hpa fun us s2 ⟨vs2, H2, I3, r, q1, q2, q3⟩ => ?_
  obtain ⟨t2, ho2⟩ := exo_at I3.hok q1
  refine ⟨ClX.pin_at I3, ?_⟩
  obtain ⟨hp2, g2, d2, t2', os2⟩ := s2
  refine mw_call (I3.kIn _ _ hC) ho2 (ClX.pin_at I3) (by show us.length ≤ sizeLine; rw [← r.length, q3]; decide) fun h' t' k' e' => ⟨rfl, H2, ?_, q2⟩
  have J := (ClX.unpin I3).write (t' := t2') (x := a) (e := a) (o := exo a C none) (by rw [q1]; exact True.intro) (.inl rfl) k' ⟨_, e'⟩ (exo_ok e')
  have eu : upd H2 a (exo a C none) = H2 := by
    funext b
    by_cases hb : b = a
    · rw [hb, upd_same, q1]
    · rw [upd_ne hb]
  rw [eu] at J
  exact J
end
end TKE
set_option maxHeartbeats 2000000
set_option pp.maxSteps 300
/-! The __init__ of such an exception as a def; raising it; makers that may raise; isinstance of a caught one. -/
namespace TKE
open PySem PySem.Spec PyProof.Rows L2 NdefX
section
variable {P : Program} {w : World} {K : PySem.W.Frag} {mg : Str → Option Value} {base : Heap}
abbrev supN (x : Str) : List Str := ["self", x, "__class__"]
abbrev supF (qual : Str) (params : Arguments) (body : List Stmt) (scope : Scope) (cda cc : Addr) : NF := ⟨"__init__", qual, params, body, scope, [("__class__", cc)], cda⟩
theorem fnok_sup {C fI cda cc : Addr} {qual x : Str} {params : Arguments} {body : List Stmt} {scope : Scope} {doc pm ct : Value} {an : Option Addr} {oc : Value} {od : Option Addr} {osl : Array (Option Value)} {sp : Sp}
    {p0 p1 apos pos pos' : Pos} {e : Expr} {rest : List Stmt} {ar : Arg} {pl : Sem Bool}
    (T : SupTxt K P C fI cda cc)
    (hK : K.lookup fI = some ⟨oc, od, .func (PySem.W.fnX "__init__" qual params body scope [("__class__", cc)] .none .none doc pm an (.ref cda) ct), osl⟩) (hcd : PySem.W.codeIn K (.ref cda) qual = true)
    (S : NScope (supN x) ["self", x] ["__class__"] scope) (hsup : scope.names.lookup ("super" : Str) = some .globalImplicit) (hcls : scope.names.lookup ("__class__" : Str) = some .free)
    (hp : (params.posonlyargs ++ params.args).head? = some ar) (har : ar.arg = "self")
    (hbody : body = .Expr (.Call (.Attribute (.Call (.Name "super" p0) [] [] p1) "__init__" apos) [e] [] pos) pos' :: rest)
    (hm : mg "super" = none) (htop : (P.main.scope.names.lookup ("super" : Str)).isSome = false)
    (len : ∀ vs H Q E, sp vs H Q E → vs.length = 2)
    (hb : ∀ (A : Around) (outer : List Env) (s : Shared) (H : Hp) (vs : List V) (Q : VK) (E : XK), sp vs H Q E → ∃ (a : Addr) (y : V) (te : TE) (t2 : TS), vs = [.ref a, y] ∧ H a = some (exo a C none) ∧
      PE (ncx CX0 P w K mg base (supN x) (supF qual params body scope cda cc) fI A outer s H E) e te ∧ PSs (ncx CX0 P w K mg base (supN x) (supF qual params body scope cda cc) fI A outer s H E) rest t2 ∧
      te (startF (supN x) vs [none]) H fun v H1 => H1 a = some (exo a C none) ∧ t2 { nx := fun _ H' => Q .non H', rt := Q } (startF (supN x) vs [none]) H1 ∧ [v].length = 1)
    (hev : ∀ (A : Around) (outer : List Env) (s : Shared) (H : Hp) (E : XK), eval (.Call (.Attribute (.Call (.Name "super" p0) [] [] p1) "__init__" apos) [e] [] pos) (ncx CX0 P w K mg base (supN x) (supF qual params body scope cda cc) fI A outer s H E).env = (do
      let ov ← attributeBase (.Call (.Name "super" p0) [] [] p1) "__init__" (ncx CX0 P w K mg base (supN x) (supF qual params body scope cda cc) fI A outer s H E).env (eval (.Call (.Name "super" p0) [] [] p1) (ncx CX0 P w K mg base (supN x) (supF qual params body scope cda cc) fI A outer s H E).env)
      standAt apos.atName
      let (f, first) ← holding [ov] (getMethod ov "__init__" pl)
      callWith pos f first (backTo pos (starEach [e] (ncx CX0 P w K mg base (supN x) (supF qual params body scope cda cc) fI A outer s H E).env)) []))
    (hi : ∀ (A : Around) (outer : List Env) (s : Shared) (H : Hp) (E : XK), interactive (ncx CX0 P w K mg base (supN x) (supF qual params body scope cda cc) fI A outer s H E).env = false)
    (hsw : ∀ (A : Around) (outer : List Env) (s : Shared) (H : Hp) (E : XK), swapsWith (.Call (.Attribute (.Call (.Name "super" p0) [] [] p1) "__init__" apos) [e] [] pos) none pos'.line (ncx CX0 P w K mg base (supN x) (supF qual params body scope cda cc) fI A outer s H E).env = pure false)
    (hst : ∀ (A : Around) (outer : List Env) (s : Shared) (H : Hp) (E : XK), starEach [e] (ncx CX0 P w K mg base (supN x) (supF qual params body scope cda cc) fI A outer s H E).env = (false, eval e (ncx CX0 P w K mg base (supN x) (supF qual params body scope cda cc) fI A outer s H E).env) :: starEach [] (ncx CX0 P w K mg base (supN x) (supF qual params body scope cda cc) fI A outer s H E).env) :
    FnOk P w K mg base CX0 1 fI (PySem.W.fnX "__init__" qual params body scope [("__class__", cc)] .none .none doc pm an (.ref cda) ct) ["self", x] sp := by
  refine ⟨len, fun A outer s H args us vs Q E hr e0 hbi r hsp => ?_⟩
  have KX : K.In s.heap := e0.mod.kin.keeps fun b o z => (e0.bs b o z).1
  have lim : s.heap.NoLimit := e0.mod.nolimit.keeps fun b o z => (e0.bs b o z).1
  have hl : vs.length = (["self", x] : List Str).length := len _ _ _ _ hsp
  obtain ⟨cl, cld, csl, hcc⟩ := T.cell
  have cat : CellsAt [("__class__", cc)] ["__class__"] [none] s.heap H := by
    have hcell : s.heap.IsCell cc (some (.ref C)) := ⟨_, KX _ _ hcc, rfl⟩
    have hnone : H cc = none := (e0.bs cc _ (e0.mod.kin _ _ hcc)).2
    have key : ∀ (y : Str) (c : Addr), List.lookup y [(("__class__" : Str), cc)] = some c → c = cc ∧ y = "__class__" := by
      intro y c hy
      rw [List.lookup_cons] at hy
      by_cases q : (y == ("__class__" : Str)) = true
      · rw [q] at hy
        exact ⟨(Option.some.inj hy).symm, beq_iff_eq.mp q⟩
      · rw [show (y == ("__class__" : Str)) = false by simpa using q] at hy
        cases hy
    refine ⟨rfl, fun y c hy => ?_, fun y z c h1 h2 => ?_, fun i y hy => ?_⟩
    · obtain ⟨rfl, _⟩ := key y c hy
      exact ⟨hnone, _, hcell⟩
    · rw [(key y c h1).2, (key z c h2).2]
    · refine ⟨cc, ?_, fun v hv => ?_⟩
      · match i, hy with
        | 0, hy =>
          cases hy
          rfl
      · match i, hv with
        | 0, hv => cases hv
  obtain ⟨a, y, te, t2, ev, ha, he, h2, hq⟩ := hb A outer s H vs Q E hsp
  refine ks_codeAny_call_defAt (fd := PySem.W.fnX "__init__" qual params body scope [("__class__", cc)] .none .none doc pm an (.ref cda) ct) (body := body) (binds := (["self", x] : List Str).zip us) hr.depth (KX _ _ hK) rfl lim (PySem.W.codeRec_of KX hcd) rfl hbi S.nocell
    (fun ⟨n, _⟩ hy => S.par n (List.of_mem_zip hy).1) (fun h₁ hns kp => ?_) S.co S.gen S.kind
  have I : Inv (ncx CX0 P w K mg base (supN x) (supF qual params body scope cda cc) fI A outer s H E) [] (startF (supN x) vs [none]) H { s with heap := h₁, toks := s.toks + ((["self", x] : List Str).zip us).length } := inv_startN S hr.hd e0 hl r cat hns kp
  have hT : SupTxt (ncx CX0 P w K mg base (supN x) (supF qual params body scope cda cc) fI A outer s H E).K (ncx CX0 P w K mg base (supN x) (supF qual params body scope cda cc) fI A outer s H E).prog C fI cda cc := T
  have q1 := sup_stmt (body := body) (pl := pl) (ar := ar) hT rfl hK hp rfl hsup hcls rfl (by rw [har]; exact S.par _ (List.mem_cons_self ..)) (by rw [har]; rfl) hm htop I (by rw [ev]; rfl) ha he hq (hev A outer s H E) (hi A outer s H E) (hsw A outer s H E) (hst A outer s H E)
  have fin : ∀ {σ' : L2.St} {H' : Hp} {v : V} {u : Value} {s' : Shared}, Inv (ncx CX0 P w K mg base (supN x) (supF qual params body scope cda cc) fI A outer s H E) [] σ' H' s' → RelV v u → Q v H' → CE outer P w H s Q u s' := fun {σ' H' v u s'} J rv q => ⟨v, H', J.os, J.bare, J.base, J.hok, rv, q⟩
  rw [hbody] at q1 ⊢
  refine ks_wpAt_execs_cons (ks_wpAt_mono q1 (fun fl s' hfl => ?_) fun e s' z => z)
  obtain ⟨rfl, H1, I1, q⟩ := hfl
  refine wpAt_of_wpAny (wpAny_mono (h2.run [] _ _ H1 _ I1 q) (fun fl s' hs => ?_) fun e s' z => z)
  cases fl with
  | ret u =>
    obtain ⟨v, σ', H', J, rv, q⟩ := hs
    exact fin J rv q
  | next =>
    obtain ⟨σ', H', J, q⟩ := hs
    exact fin (v := V.non) (u := Value.none) J rfl q
  | brk =>
    obtain ⟨_, _, _, z⟩ := hs
    exact False.elim z
  | cont =>
    obtain ⟨_, _, _, z⟩ := hs
    exact False.elim z
end
end TKE
set_option maxHeartbeats 2000000
set_option pp.maxSteps 300
/-! Raising such an exception; makers that may raise; isinstance of a caught one. -/
namespace TKE
open PySem PySem.Spec PyProof.Rows L2 NdefX TK
/-- the promise of its __init__ -/
def spExc (C : Addr) (fld : Str) (ok : V → Prop) : Sp := fun vs H Q _ => ∃ (a : Addr) (y : V), vs = [.ref a, y] ∧ ok y ∧ H a = some (exo a C none) ∧ ∀ dx, H dx = none → dx ≠ a → Q .non (upd (upd H dx (exd dx [(fld, y)])) a (exo a C (some dx)))
section
variable {P : Program} {w : World} {K : PySem.W.Frag} {mg : Str → Option Value} {base : Heap}
structure ExcMk (P : Program) (w : World) (K : PySem.W.Frag) (mg : Str → Option Value) (base : Heap) (x : Str) (C : Addr) (fld : Str) (ok : V → Prop) : Prop where
  ex : ∃ (fI : Addr) (fd : FuncData) (ps : List Str), OexC K C ∧ PySem.W.findIn K (.ref C) "__init__" = some (some (.ref fI)) ∧ PySem.W.typeIn K (.ref fI) = some (.type "function") ∧ FnOk P w K mg base CX0 1 fI fd ps (spExc C fld ok) ∧ Binds K fd ps [] ∧ mg x = some (.ref C)
end
section
variable {X : Cx} {W : WX} {C : Addr} {x fld : Str} {ok : V → Prop} {p pos pos' : Pos} {e : Expr} {es : List Expr} {te : TE} {j : Nat}
theorem ps_raiseE (c : ExcMk X.prog X.w X.K X.mg X.base x C fld ok) (hc : X.calm = true) (tk : Takes X W) (hr : Room j X.A) (hk : 2 ≤ j) (hg : Gl X x) (he : PE X e te)
    (hdb : (x == ("__debug__" : Str)) = false := by decide) (hs : starEach (e :: es) X.env = (false, eval e X.env) :: starEach es X.env := by rfl) (hes : es = [] := by rfl) (hpl : (backTo pos (starEach es X.env)).any (·.1) = false := by rfl) :
    PS X (.Raise (some (.Call (.Name x p) (e :: es) [] pos)) none pos') (fun _ σ H => te σ H fun y H1 => ok y ∧ ∀ d, H1 d = none → W (.ref C) (some d) σ (upd H1 d (.xd [(fld, y)]))) := by
  subst hes
  obtain ⟨fI, fd, ps, T, iC, tI, F1, hb, hm⟩ := c.ex
  refine ⟨fun pins s σ H D I h => ?_⟩
  refine (ps_raise hc tk (pmk_oex T iC tI F1 (hr.mono hk) hb .nil (fun _ _ _ _ _ _ _ z => z.elim) hg hm (pa_cons (pe_cut he) pa_nil hs) hdb hs hpl)).run pins s σ H D I ?_
  refine ⟨_, h, fun y H1 hy => ⟨by show 1 ≤ 1000; decide, fun a ha => ⟨a, y, rfl, hy.1, upd_same, fun dx hdx hne => ⟨rfl, dx, [(fld, y)], upd_same, ?_, ?_, ?_⟩⟩⟩⟩
  · rw [upd_ne hne, upd_same]
  · rw [upd_ne hne] at hdx
    exact hdx
  · have hd1 : H1 dx = none := by
      rw [upd_ne hne] at hdx
      exact hdx
    have q := hy.2 dx hd1
    have eh : upd (L2.del (upd (upd (upd H1 a (exo a C none)) dx (exd dx [(fld, y)])) a (exo a C (some dx))) a) dx (.xd [(fld, y)]) = upd H1 dx (.xd [(fld, y)]) := by
      funext b
      by_cases h1 : b = dx
      · rw [h1, upd_same, upd_same]
      · rw [upd_ne h1, upd_ne h1]
        by_cases h2 : b = a
        · rw [h2, L2.del_same, ha]
        · rw [L2.del_ne h2, upd_ne h2, upd_ne h1, upd_ne h2]
    rw [eh]
    exact q
end
/-! ### makers that may raise -/
section
variable {P : Program} {w : World} {K : PySem.W.Frag} {mg : Str → Option Value} {base : Heap}
structure MakX (P : Program) (w : World) (K : PySem.W.Frag) (mg : Str → Option Value) (base : Heap) (k : Nat) (x : Str) (C : Addr) (sp : Sp) (n : Nat) (ks : List Str) (gV : List V → List V → List V) : Prop where
  ex : ∃ (f : Addr) (fd : FuncData) (ps : List Str) (g : List Value → List Value → List Value), Mk K C f ∧ FnOk P w K mg base (L2.CX P w) k f fd ps sp ∧ mg x = some (.ref C) ∧ KBn K fd ps (n + 1) ks g gV
/-- C(e, ..) as an expression: at σ, what it lets out is WE W σ -/
def tMakX (C : Addr) (n m : Nat) (sp : Sp) (gV : List V → List V → List V) (E : L2.St → XK) (t tk : TA) : TE := fun σ H Q => t σ H fun vs H1 => tk σ H1 fun zs H2 => vs.length = n ∧ zs.length = m ∧ ∀ x dx, H2 x = none → H2 dx = none → dx ≠ x →
  sp (gV (.ref x :: vs) zs) (upd (upd H2 dx (.own x)) x (.ins C dx [])) (fun v H3 => v = .non ∧ Q (.ref x) H3) (E σ)
end
section
variable {X : Cx} {W : WX} {k j n : Nat} {f C : Addr} {fd : FuncData} {ps ks : List Str} {sp : Sp} {x : Str} {p pos : Pos} {e : Expr} {es : List Expr} {kws : List Keyword} {t tk : TA} {g : List Value → List Value → List Value} {gV : List V → List V → List V}
theorem run_makX {pins : List (Addr × Obj)} {σ : L2.St} {H : Hp} {s : Shared} {Q : VK} {us ws : List Value} {vs zs : List V} {E : XK} (M : Mk X.K C f) (F : FnOk X.prog X.w X.K X.mg X.base (L2.CX X.prog X.w) k f fd ps sp) (hr : Room (k + 1) X.A) (hb : KBn X.K fd ps (n + 1) ks g gV) (hx : PassesAt (L2.CX X.prog X.w) X σ E)
    (I : Inv X pins σ H s) (r : Vals vs us) (rz : Vals zs ws) (l1 : vs.length = n) (l2 : zs.length = ks.length)
    (h : ∀ x dx, H x = none → H dx = none → dx ≠ x → sp (gV (.ref x :: vs) zs) (upd (upd H dx (.own x)) x (.ins C dx [])) (fun v H2 => v = .non ∧ Q (.ref x) H2) E) :
    wpAny (model X.prog X.w) X.A (call (.ref C) us (ks.zip ws)) (EP X pins σ Q) X.xe s := by
  let q := s.heap.objs.size
  have fr1 : H (q + 1) = none := I.hok.fresh (Nat.le_succ q)
  have fr2 : H q = none := I.hok.fresh (Nat.le_refl q)
  have told := h (q + 1) q fr1 fr2 (Nat.ne_of_lt (Nat.lt_succ_self q))
  have J := Inv.made (C := C) I
  have ra : Vals (V.ref (q + 1) :: vs) (Value.ref (q + 1) :: us) := .cons rfl r
  have na : (Value.ref (q + 1) :: us).length = n + 1 := by
    have := ra.length
    rw [← this, List.length_cons, l1]
  have run := F.run _ X.stack _ _ ⟨Value.ref (q + 1) :: us, ks.zip ws⟩ (g (Value.ref (q + 1) :: us) ws) _ _ E (hr.make C us (ks.zip ws)) (J.env0.make C us (ks.zip ws)) (hb.to _ (Value.ref (q + 1) :: us) ws J.kIn na (rz.length.symm.trans l2)) (hb.rel ra rz) told
  refine wpAny_call (make_map (f := f) I.kIn M.makes M.init (beq_iff_eq.mp M.fn) (codeAny_mono run fun o s' ho => ?_))
  match o, ho with
  | .error e, ho => exact hx pins _ _ e s' J ho
  | .ok (.ret u), ho =>
    obtain ⟨v, H', I3, rv, ev, q3⟩ := J.after ho
    subst ev
    exact ⟨rv, ⟨V.ref (q + 1), H', I3, rfl, q3⟩⟩
  | .ok .next, ho => exact False.elim ho
  | .ok .brk, ho => exact False.elim ho
  | .ok .cont, ho => exact False.elim ho
theorem pe_makX {E : L2.St → XK} (c : MakX X.prog X.w X.K X.mg X.base k x C sp n [] gV) (hr : Room j X.A) (hk : k + 1 ≤ j) (hx : ∀ σ, PassesAt (L2.CX X.prog X.w) X σ (E σ)) (hg : Gl X x) (ha : PA X (e :: es) t)
    (hdb : (x == ("__debug__" : Str)) = false := by decide) (he : starEach (e :: es) X.env = (false, eval e X.env) :: starEach es X.env := by rfl) (hpl : (backTo pos (starEach es X.env)).any (·.1) = false := by rfl) :
    PE X (.Call (.Name x p) (e :: es) [] pos) (tMakX C n 0 sp gV E t tNil) := by
  obtain ⟨f, fd, ps, g, M, F, hm, b⟩ := c.ex
  refine ⟨fun pins s σ H Q I h => ?_⟩
  refine wpAny_Call_Name_kw (ld_glob I hg hm ?_ hdb)
  refine PySem.W.callWith_K (h₀ := X.base) I.ok.mod.kin M.kp (thn (ha.run pos pins s σ H _ I h) fun us s1 ⟨vs, H1, I1, r, l1, l2, q⟩ => ⟨I1.kIn, ?_⟩) he hpl
  exact run_makX (zs := []) (ws := []) M F (hr.mono hk) b (hx σ) I1 r .nil l1 rfl q
theorem pe_makXK {E : L2.St → XK} (c : MakX X.prog X.w X.K X.mg X.base k x C sp 0 ks gV) (hr : Room j X.A) (hk : k + 1 ≤ j) (hx : ∀ σ, PassesAt (L2.CX X.prog X.w) X σ (E σ)) (hg : Gl X x) (hkw : PK X kws tk)
    (hall : (backToKw pos (keywordEach kws X.env)).all (·.1.isSome) = true := by rfl) (hks : (backToKw pos (keywordEach kws X.env)).filterMap (·.1) = ks := by rfl) (hdb : (x == ("__debug__" : Str)) = false := by decide)
    (hpl : ((backTo pos (starEach [] X.env)).any (·.1) || (backToKw pos (keywordEach kws X.env)).any (·.1.isNone)) = false := by rfl) :
    PE X (.Call (.Name x p) [] kws pos) (tMakX C 0 ks.length sp gV E tNil tk) := by
  obtain ⟨f, fd, ps, g, M, F, hm, b⟩ := c.ex
  refine ⟨fun pins s σ H Q I h => ?_⟩
  refine wpAny_Call_Name_kw (ld_glob I hg hm ?_ hdb)
  refine PySem.W.callWith_KW0 (h₀ := X.base) I.ok.mod.kin M.kp hall ?_ hpl
  refine thn (hkw.run pos pins s σ H _ I h) fun ws s2 ⟨zs, H2, I2, rz, l1, l2, q2⟩ => ⟨I2.kIn, ?_⟩
  rw [hks]
  exact run_makX (us := []) (vs := []) M F (hr.mono hk) b (hx σ) I2 .nil rz rfl l2 q2
/-- nothing is let out here -/
theorem none_out {X : Cx} : ∀ σ : L2.St, PassesAt (L2.CX X.prog X.w) X σ E0 := fun _ _ _ _ _ _ _ z => by
  obtain ⟨_, _, _, _, _, _, _, _, _, _, _, _, y⟩ := z
  exact y.elim
end
end TKE
set_option maxHeartbeats 2000000
set_option pp.maxSteps 300
/-! isinstance of a caught exception that has its dict; what is to be looked up of such a class; a hook with such defs. -/
namespace TKE
open PySem PySem.Spec PyProof.Rows L2 NdefX TK
def rIsD (K : PySem.W.Frag) (D a : Addr) (cls : Value) (d : Option Addr) : List V → Hp → VK → Prop := fun xs H Q => ∃ (c : V) (cv : Value) (b : Bool) (dd : Addr) (fs : List (Str × V)), xs = [.ref a, c] ∧ (∀ u, RelV c u → u = cv) ∧ PySem.W.kitOne K (.ref D) cv = some b ∧ cls = .ref D ∧ d = some dd ∧ H dd = some (.xd fs) ∧ Q (.bl b) H
theorem call_isD {X : Cx} {a D : Addr} {oe : Obj} {cls : Value} {d : Option Addr} {pn : List (Addr × Obj)} (C : ExcC X.K D) (hz : Zc cls d oe) (hf : ∃ vs, oe.data = .fields vs) : CallR (X.suite a ((a, oe) :: pn)) (.builtin "isinstance") (rIsD X.K D a cls d) := by
  intro pins s σ H xs us Q I r h
  obtain ⟨c, cv, b, dd, fs, rfl, hcv, e, rfl, rfl, ed, q⟩ := h
  obtain ⟨u1, u2, rfl, rx, rt⟩ : ∃ u1 u2, us = [u1, u2] ∧ RelV (.ref a) u1 ∧ RelV c u2 := by
    cases r with
    | cons h1 t1 =>
      cases t1 with
      | cons h2 t2 =>
        cases t2
        exact ⟨_, _, rfl, h1, h2⟩
  obtain rfl : u1 = Value.ref a := rx
  obtain rfl := hcv _ rt
  obtain ⟨hget, _⟩ := I.pin (a, oe) (List.mem_append.mpr (.inl List.mem_cons_self))
  obtain ⟨vs, hv⟩ := hf
  have ob : ObjOk X.prog X.w H s.heap dd (.xd fs) := I.hok dd _ ed
  obtain ⟨mA, ⟨od, es, ep, ho, hr2⟩, hr⟩ := ob
  have J : PySem.W.InstAt s.heap a oe D (some od) := ⟨hget, hz.1, by unfold PySem.W.notCls; rw [hv] <;> rfl, by rw [hz.2]; exact ho⟩
  have hcl : (PySem.W.clsIn X.K D).isSome = true := by
    obtain ⟨cd, hc, _⟩ := PySem.W.any_some C.hd
    rw [hc]
    rfl
  exact PySem.W.kia_one (PySem.W.kitx_exc hcl C.hg C.hk C.hs C.ha C.hn C.ht C.hm) I.kIn J e (fun z => nomatch z) fun tk => ⟨.bl b, H, I.kept (t' := tk) fun _ _ z => z, rfl, q⟩
end TKE
set_option maxHeartbeats 2000000
set_option pp.maxSteps 300
/-! What the heap behind the top says of such classes: a check, what it gives, a hook with their __init__. -/
namespace TKE
open PySem PySem.Spec PyProof.Rows L2 NdefX TK
open He (ga ma)
def clsB (K : PySem.W.Frag) (C : Addr) : Bool := match K.lookup C with
  | some ⟨.type "type", _, .cls cd, sl⟩ => (match cd.mro, sl.toList with
    | .ref C' :: bm, [_, _, _, _, some (.builtin n), _] => C' == C && (n == "ValueError.__new__" && (!cd.hasDel && (cd.hasDict && PySem.HandSPX.refsVE bm)))
    | _, _ => false)
  | _ => false
theorem clsB_ok {K : PySem.W.Frag} {C : Addr} (q : clsB K C = true) : ∃ nm q N bs bm sn sub ab col dd k0 k1 k2 k3 k5, K.lookup C = some (excClassObj nm q C N bs bm true sn sub ab col dd k0 k1 k2 k3 k5 "ValueError.__new__") ∧ PySem.HandSPX.refsVE bm = true := by
  unfold clsB at q
  split at q
  · rename_i dd cd sl ho
    split at q
    · rename_i C' bm k0 k1 k2 k3 n k5 hm hs
      simp only [Bool.and_eq_true, beq_iff_eq, Bool.not_eq_true'] at q
      obtain ⟨rfl, rfl, hdel, hd, ht⟩ := q
      obtain ⟨nm, bs, mro, ns, qn, hd', sn, sub, ab, col, del⟩ := cd
      dsimp only at hm hdel hd
      subst hm hdel hd
      have hsl : sl = #[k0, k1, k2, k3, some (.builtin "ValueError.__new__"), k5] := by
        obtain ⟨l⟩ := sl
        simp only at hs
        rw [hs]
      subst hsl
      exact ⟨nm, qn, ns, bs, bm, sn, sub, ab, col, dd, k0, k1, k2, k3, k5, ho, ht⟩
    · cases q
  · cases q
def cellB (K : PySem.W.Frag) (cc C : Addr) : Bool := match K.lookup cc with
  | some ⟨_, _, .cell (some (.ref C')), _⟩ => C' == C
  | _ => false
theorem cellB_ok {K : PySem.W.Frag} {cc C : Addr} (q : cellB K cc C = true) : ∃ cl cld csl, K.lookup cc = some ⟨cl, cld, .cell (some (.ref C)), csl⟩ := by
  unfold cellB at q
  split at q
  · rename_i cl cld C' csl ho
    obtain rfl := beq_iff_eq.mp q
    exact ⟨_, _, _, ho⟩
  · cases q
def fileB (K : PySem.W.Frag) (cda : Addr) (file : Str) : Bool := match K.lookup cda with
  | some ⟨_, _, .fields vs, _⟩ => (match (vs[2]? : Option Value) with
    | some (Value.str f _) => file == f
    | _ => false)
  | _ => false
theorem fileB_ok {K : PySem.W.Frag} {cda : Addr} {file : Str} (q : fileB K cda file = true) : ∃ ccl cdd vs ccs f tf, K.lookup cda = some ⟨ccl, cdd, .fields vs, ccs⟩ ∧ vs[2]? = some (.str f tf) ∧ (file == f) = true := by
  unfold fileB at q
  split at q
  · rename_i cl cld vs csl ho
    split at q
    · rename_i f tf hv
      exact ⟨_, _, _, _, _, _, ho, hv, q⟩
    · cases q
  · cases q
def fnB (K : PySem.W.Frag) (f C : Addr) (qual file : Str) : Bool := match K.lookup f with
  | some ⟨_, _, .func fd, _⟩ => (match fd.closure, fd.code, fd.defaults, fd.kwdefaults with
    | [(n, cc)], .ref cda, .none, .none => n == "__class__" && (PySem.W.codeIn K (.ref cda) qual && (cellB K cc C && fileB K cda file))
    | _, _, _, _ => false)
  | _ => false
def fnC (K : PySem.W.Frag) (p : Str × Option Str) : He.FnW := match K.lookup (He.fAd K p) with
  | some ⟨_, _, .func fd, _⟩ => some (fd.name, fd.qualname, fd.params, fd.body, fd.scope, fd.globals, [], fd.builtins)
  | _ => none
theorem fnB_ok {K : PySem.W.Frag} {p : Str × Option Str} {C : Addr} {nm qual file : Str} {params : Arguments} {body : List Stmt} {scope : Scope} (e : fnC K p = He.DefD.val ⟨p, nm, qual, params, body, scope, [], []⟩) (q : fnB K (He.fAd K p) C qual file = true) :
    ∃ cda cc oc od doc pm an ct osl, K.lookup (He.fAd K p) = some ⟨oc, od, .func (PySem.W.fnX nm qual params body scope [("__class__", cc)] .none .none doc pm an (.ref cda) ct), osl⟩ ∧ PySem.W.codeIn K (.ref cda) qual = true ∧ cellB K cc C = true ∧ fileB K cda file = true := by
  unfold fnB at q
  unfold fnC at e
  split at q
  · rename_i oc od fd osl ho
    rw [ho] at e
    split at q
    · rename_i n cc cda h1 h2 h3 h4
      simp only [Bool.and_eq_true, beq_iff_eq] at q
      obtain ⟨rfl, q1, q2, q3⟩ := q
      obtain ⟨n1, n2, n3, n4, n5, n6, n7, n8, n9, n10, n11, n12, n13, n14, n15⟩ := fd
      dsimp only at h1 h2 h3 h4
      subst h1 h2 h3 h4
      have e2 : (some (n1, n2, n3, n4, n5, n6, [], n15) : He.FnW) = some (nm, qual, params, .stmts body, scope, mainGlobals, [], builtinsNs) := e
      simp only [Option.some.injEq, Prod.mk.injEq] at e2
      obtain ⟨h1, h2, h3, h4, h5, h6, h7, h8⟩ := e2
      subst h1 h2 h3 h4 h5 h6 h8
      exact ⟨cda, cc, oc, od, _, _, _, _, osl, ho, q1, q2, q3⟩
    · cases q
  · cases q
/-- the class named x, its field fld, its __init__'s qualified name, the text's file -/
def excB (K : PySem.W.Frag) (x fld qual file : Str) : List Bool := [clsB K (ga K x),
  decide (PySem.W.findIn K (.ref (ga K x)) "__setattr__" = some (some (.builtin "object.__setattr__"))), decide (PySem.W.subIn K (.ref (ga K x)) (.type "BaseException") = some true), decide (PySem.W.typeIn K (.ref (ga K x)) = some (.type "type")), PySem.W.keepIn K (.ref (ga K x)),
  decide (PySem.W.findIn K (.ref (ga K x)) "__init__" = some (some (.ref (ma K (ga K x) "__init__")))), decide (PySem.W.typeIn K (.ref (ma K (ga K x) "__init__")) = some (.type "function")), decide (PySem.W.ks_superIn K (ga K x) (ga K x) "__init__" = some (some (.builtin "ValueError.__init__"))),
  decide (PySem.W.subIn K (.ref (ga K x)) (.type "ValueError") = some true), decide (PySem.W.mroIn K (ga K x) (.ref (ga K x)) = some true), decide (PySem.W.nsIn K cStatics "thirdparty.any" = some none),
  fnB K (ma K (ga K x) "__init__") (ga K x) qual file, decide (PySem.W.findIn K (.ref (ga K x)) fld = some none),
  decide (PySem.W.findIn K (.ref (ga K x)) "__getattribute__" = some (some (.builtin "BaseException.__getattribute__"))), decide (PySem.W.findIn K (.ref (ga K x)) "__getattr__" = some none), PySem.W.hasDictIn K (ga K x),
  decide (PySem.W.findIn K (.ref (ga K x)) "__class__" = some (some (.builtin "object.__class__"))), decide (PySem.W.specialIn K (.builtin "object.__class__") "__get__" = some (some (.builtin "getset_descriptor.__get__"))),
  decide (PySem.W.takesIn K (.builtin "object.__class__") = some true), decide (PySem.W.mroIn K (ga K x) (.type "object") = some true)]
def excAll (K : PySem.W.Frag) (x fld qual file : Str) : Bool := (excB K x fld qual file).all id
structure ExTxt (K : PySem.W.Frag) (P : Program) (x fld qual : Str) (params : Arguments) (body : List Stmt) (scope : Scope) : Prop where
  ex : ∃ cda cc oc od doc pm an ct osl, SupTxt K P (ga K x) (ma K (ga K x) "__init__") cda cc ∧ K.lookup (ma K (ga K x) "__init__") = some ⟨oc, od, .func (PySem.W.fnX "__init__" qual params body scope [("__class__", cc)] .none .none doc pm an (.ref cda) ct), osl⟩ ∧ PySem.W.codeIn K (.ref cda) qual = true
  no : PySem.W.findIn K (.ref (ga K x)) fld = some none
  ec : ExcC K (ga K x)
  xf : XfC K (ga K x)
theorem exTxt_of {K : PySem.W.Frag} {P : Program} {x fld qual file : Str} {params : Arguments} {body : List Stmt} {scope : Scope} (h : excAll K x fld qual file = true) (hP : P.main.file = file)
    (e : fnC K (x, some "__init__") = He.DefD.val ⟨(x, some "__init__"), "__init__", qual, params, body, scope, [], []⟩) : ExTxt K P x fld qual params body scope := by
  have a : ∀ (i : Nat) (b : Bool), (excB K x fld qual file)[i]? = some b → b = true := fun i b hi => exAt h i hi
  obtain ⟨cda, cc, oc, od, doc, pm, an, ct, osl, hl, hcd, hcell, hfile⟩ := fnB_ok (C := ga K x) (file := file) e (a 11 _ rfl)
  have h2 := of_decide_eq_true (a 2 _ rfl)
  have h13 := of_decide_eq_true (a 13 _ rfl)
  have h14 := of_decide_eq_true (a 14 _ rfl)
  have oex : OexC K (ga K x) := ⟨clsB_ok (a 0 _ rfl), of_decide_eq_true (a 1 _ rfl), h2, of_decide_eq_true (a 3 _ rfl), a 4 _ rfl⟩
  refine ⟨⟨cda, cc, oc, od, doc, pm, an, ct, osl, ⟨oex, of_decide_eq_true (a 5 _ rfl), of_decide_eq_true (a 6 _ rfl), of_decide_eq_true (a 7 _ rfl), of_decide_eq_true (a 8 _ rfl), of_decide_eq_true (a 9 _ rfl), of_decide_eq_true (a 10 _ rfl), ?_, cellB_ok hcell⟩, hl, hcd⟩, of_decide_eq_true (a 12 _ rfl),
    ⟨h13, h14, h2, a 15 _ rfl, of_decide_eq_true (a 16 _ rfl), of_decide_eq_true (a 17 _ rfl), of_decide_eq_true (a 18 _ rfl), of_decide_eq_true (a 19 _ rfl)⟩, ⟨h13, h14, h2, a 15 _ rfl⟩⟩
  rw [hP]
  obtain ⟨ccl, cdd, vs, ccs, f, tf, z⟩ := fileB_ok hfile
  exact ⟨ccl, cdd, vs, ccs, f, tf, z⟩
/-! ### the hook -/
def asE (g : Addr → Option Obj) (n : Nat) (es : List He.DefD) : List Addr :=
  He.asD g n ++ (cStatics :: es.flatMap fun d => match (He.frG g (He.asD g n)).lookup (He.fAd (He.frG g (He.asD g n)) d.at_) with
    | some ⟨_, _, .func fd, _⟩ => fd.closure.map (·.2)
    | _ => [])
abbrev AlE : Type := He.AlD × List He.FnW
def obsE (n : Nat) (fa : List He.Fa) (fn : List He.DefD) (ex : PySem.W.Frag → List Bool) (es : List He.DefD) (g : Addr → Option Obj) : AlE :=
  let K := He.frG g (asE g n es)
  (((He.obsD fa fn K).1 && (ex K).all id, (He.obsD fa fn K).2), es.map fun d => fnC K d.at_)
def hookE (n : Nat) (fa : List He.Fa) (fn : List He.DefD) (ex : PySem.W.Frag → List Bool) (es : List He.DefD) : PySem.W.Hook where
  α := AlE
  obs s := obsE n fa fn ex es s.heap.get?
  val _ := (He.valD fn, es.map He.DefD.val)
  says _ h := ∃ K : PySem.W.Frag, K.In h ∧ He.SaysD fa fn K ∧ (ex K).all id = true ∧ es.map (fun d => fnC K d.at_) = es.map He.DefD.val
  of _ _ e := by
    have e0 := congrArg (fun z : AlE => z.1) e
    have e1 := congrArg (fun z : He.AlD => z.1) e0
    have e2 := congrArg (fun z : He.AlD => z.2) e0
    have e3 := congrArg (fun z : AlE => z.2) e
    obtain ⟨a, b⟩ := Bool.and_eq_true_iff.mp e1
    exact ⟨_, He.frG_in, Prod.ext a e2, b, e3⟩
  keeps _ _ _ c k := let ⟨K, hK, c⟩ := c; ⟨K, PySem.W.Frag.In.keeps hK k, c⟩
theorem obsE_eq {n : Nat} {fa : List He.Fa} {fn : List He.DefD} {ex : PySem.W.Frag → List Bool} {es : List He.DefD} {g : Addr → Option Obj} {s : Shared} (h : ∀ a, g a = s.heap.get? a) : obsE n fa fn ex es g = (hookE n fa fn ex es).obs s := by
  obtain rfl : g = s.heap.get? := funext h
  rfl
theorem fnC_at {K : PySem.W.Frag} {es : List He.DefD} (h : es.map (fun d => fnC K d.at_) = es.map He.DefD.val) (i : Nat) {d : He.DefD} (hd : es[i]? = some d) : fnC K d.at_ = d.val := by
  have e2 : (es.map fun d => fnC K d.at_)[i]? = (es.map He.DefD.val)[i]? := by rw [h]
  rw [List.getElem?_map, List.getElem?_map, hd] at e2
  exact Option.some.inj e2
end TKE
set_option maxHeartbeats 2000000
set_option pp.maxSteps 300
/-! Texts with such classes: the pieces that the generated terms name. -/
namespace TKE
open PySem PySem.Spec PyProof.Rows L2 NdefX TK
def isS : V → Prop := fun y => ∃ z : Str, y = .str z ∧ z.length ≤ 1000
def isI : V → Prop := fun y => ∃ z : Int, y = .int z ∧ z.natAbs.log2 < 1920 ∧ (toString z : Str).length ≤ 1000
theorem ex_l1 {z : Str} (hz : z.length ≤ 1000) : z.length ≤ sizeLine := Nat.le_trans hz (by decide)
theorem ex_l2 {p z : Str} (hp : p.length ≤ 200) (hz : z.length ≤ 1000) : (p ++ z).length ≤ sizeLine := by
  rw [cat_len, sizeLine_eq]
  omega
theorem ex_l3 {p z q : Str} (hp : p.length ≤ 200) (hq : q.length ≤ 200) (hz : z.length ≤ 1000) : (p ++ z ++ q).length ≤ sizeLine := by
  rw [cat_len, cat_len, sizeLine_eq]
  omega
theorem pg_tupK {X : Cx} (K : PySem.W.Frag) (e : X.K = K) {es : List Expr} {k : Nat} {t : TGs} {n : Nat} {pos : Pos} (hc : X.calm = true) (h : PGs X es t)
    (hn : (assignEach es X.env).length = n := by rfl) (hst : (assignEach es X.env).findIdx? (·.1) = none := by rfl) : PG X (.Tuple es k pos) (gTup K n t) := by
  subst e
  exact pg_tup hc h hn hst
def rTupOf (K : PySem.W.Frag) : List V → Hp → VK → Prop := fun xs H Q => ∃ p ys, xs = [.ref p] ∧ ((SqL K H p ys ∧ ∀ l, H l = none → Q (.ref l) (upd H l (.tup ys))) ∨ (SqT K H p ys ∧ Q (.ref p) H))
theorem tupOfK {X : Cx} (K : PySem.W.Frag) (e : X.K = K) : CallR X (.type "tuple") (rTupOf K) := by
  subst e
  exact call_tuple_of
section
variable {P : Program} {w : World} {K : PySem.W.Frag} {mg : Str → Option Value} {base : Heap}
theorem makX_of {x qual : Str} {C f : Addr} {params : Arguments} {body : List Stmt} {scope : Scope} {fd : FuncData} {ps : List Str} {k n : Nat} {sp : Sp} (M : Mk K C f) (hm : mg x = some (.ref C)) (F : FunD K "__init__" qual params body scope [] [] f fd) (G : FnOk P w K mg base (L2.CX P w) k f fd ps sp) (hn : ps.length = n + 1)
    (h : ∀ (kV doc pm : Value) (an : Option Addr) (cdv ct : Value) (us : List Value), us.length = ps.length → bindArgs (PySem.W.fnOf "__init__" qual params body scope .none kV doc pm an cdv ct) ⟨us, []⟩ = pure (ps.zip us)) : MakX P w K mg base k x C sp n [] (fun vs _ => vs) :=
  ⟨f, fd, ps, fun us _ => us, M, G, hm, ⟨fun s us ws _ h1 _ => F.bindsA h s us (h1.trans hn.symm), fun r _ => r⟩⟩
end
end TKE
set_option maxHeartbeats 2000000
/-! A def that may raise, called by its name: inside try and outside. -/
namespace TKE
open PySem PySem.Spec PyProof.Rows L2 NdefX TK
structure CalX (P : Program) (w : World) (K : PySem.W.Frag) (mg : Str → Option Value) (base : Heap) (k : Nat) (x : Str) (sp : Sp) : Prop where
  ex : ∃ (f : Addr) (fd : FuncData) (ps : List Str), FnOk P w K mg base (L2.CX P w) k f fd ps sp ∧ mg x = some (.ref f) ∧ PySem.W.keepIn K (.ref f) = true ∧ Binds K fd ps []
section
variable {X : Cx} {k j : Nat} {x : Str} {sp : Sp} {p pos : Pos} {e : Expr} {es : List Expr} {t : TA}
theorem pe_cX {E : L2.St → XK} (c : CalX X.prog X.w X.K X.mg X.base k x sp) (hr : Room j X.A) (hk : k ≤ j) (hx : ∀ σ, PassesAt (L2.CX X.prog X.w) X σ (E σ)) (hg : Gl X x) (ha : PA X (e :: es) t)
    (hdb : (x == ("__debug__" : Str)) = false := by decide) (he : starEach (e :: es) X.env = (false, eval e X.env) :: starEach es X.env := by rfl) (hpl : (backTo pos (starEach es X.env)).any (·.1) = false := by rfl) :
    PE X (.Call (.Name x p) (e :: es) [] pos) (tCallS sp E t) := by
  obtain ⟨f, fd, ps, F, hm, kp, b⟩ := c.ex
  exact pe_callS F (hr.mono hk) hg hm kp b hx ha hdb he hpl
end
section
variable {P : Program} {w : World} {K : PySem.W.Frag} {mg : Str → Option Value} {base : Heap}
theorem calX_of {x qual : Str} {params : Arguments} {body : List Stmt} {scope : Scope} {f : Addr} {fd : FuncData} {ps : List Str} {k : Nat} {sp : Sp} (F : FunD K x qual params body scope [] [] f fd) (G : FnOk P w K mg base (L2.CX P w) k f fd ps sp) (hm : mg x = some (.ref f))
    (h : ∀ (kV doc pm : Value) (an : Option Addr) (cdv ct : Value) (us : List Value), us.length = ps.length → bindArgs (PySem.W.fnOf x qual params body scope .none kV doc pm an cdv ct) ⟨us, []⟩ = pure (ps.zip us)) : CalX P w K mg base k x sp :=
  ⟨f, fd, ps, G, hm, F.kp, F.bindsN h⟩
end
end TKE
set_option maxHeartbeats 4000000
namespace K4
open PySem PySem.Spec PyProof.Rows L2 SX TK TKS NdefX
open C8 (pe_c)
def top (i : Nat) : Stmt := PySem.Challenge.pw_trunkland_k04_texts_that_are_no_letters.main.body.getD i (.Pass ⟨0, 0, 0, 0⟩)
abbrev s_is_name : Stmt := top 10
abbrev s_is_tag : Stmt := top 11
abbrev s_is_address : Stmt := top 12
abbrev s_read_number : Stmt := top 13
abbrev s_split_address : Stmt := top 14
abbrev s_consists_of : Stmt := top 15
abbrev s_read_offer : Stmt := top 20
abbrev s_write_offer : Stmt := top 21
abbrev s_read_formats : Stmt := top 22
abbrev s_Letter___init : Stmt := inClass (top 31) 0
abbrev s_Letter_parts : Stmt := inClass (top 31) 1
abbrev s_Letter_reply : Stmt := inClass (top 31) 2
abbrev s_write : Stmt := top 32
abbrev s_read : Stmt := top 33
abbrev s_write_head : Stmt := top 34
abbrev s_read_head : Stmt := top 35
abbrev s_read_line : Stmt := top 36
abbrev s_read_origin : Stmt := top 37
abbrev s_read_target : Stmt := top 38
abbrev s_read_single : Stmt := top 39
abbrev s_law_state : Stmt := top 41
abbrev s_law_draw : Stmt := top 42
abbrev s_law_pick : Stmt := top 43
abbrev s_law_tag : Stmt := top 44
abbrev s_law_name : Stmt := top 45
abbrev s_law_address : Stmt := top 46
abbrev s_law_offer : Stmt := top 47
abbrev s_law_parts : Stmt := top 48
abbrev s_law_text : Stmt := top 49
abbrev s_law_only : Stmt := top 50
abbrev s_law_is_name : Stmt := top 51
abbrev s_law_is_tag : Stmt := top 52
abbrev s_law_is_address : Stmt := top 53
abbrev s_law_is_number : Stmt := top 54
abbrev s_law_is_offer : Stmt := top 55
abbrev s_law_stands : Stmt := top 56
abbrev s_law_fault : Stmt := top 57
abbrev s_law_changed : Stmt := top 58
abbrev s_law : Stmt := top 59
abbrev si_LetterError : Stmt := inClass (top 2) 0
theorem sc_is_name : FnScope ["word"] ["word"] (defScope s_is_name) := ⟨rfl, rfl, rfl, by decide +kernel, rfl, by decide +kernel, by decide +kernel⟩
theorem sc_is_tag : FnScope ["word"] ["word"] (defScope s_is_tag) := ⟨rfl, rfl, rfl, by decide +kernel, rfl, by decide +kernel, by decide +kernel⟩
theorem sc_is_address : FnScope ["word"] ["word"] (defScope s_is_address) := ⟨rfl, rfl, rfl, by decide +kernel, rfl, by decide +kernel, by decide +kernel⟩
theorem sc_read_number : FnScope ["word", "most", "number"] ["word", "most"] (defScope s_read_number) := ⟨rfl, rfl, rfl, by decide +kernel, rfl, by decide +kernel, by decide +kernel⟩
theorem sc_split_address : FnScope ["word", "parts", "user", "host"] ["word"] (defScope s_split_address) := ⟨rfl, rfl, rfl, by decide +kernel, rfl, by decide +kernel, by decide +kernel⟩
theorem sc_consists_of : FnScope ["word", "marks", "longest", "mark"] ["word", "marks", "longest"] (defScope s_consists_of) := ⟨rfl, rfl, rfl, by decide +kernel, rfl, by decide +kernel, by decide +kernel⟩
theorem sc_read_offer : FnScope ["words", "port", "mode", "formats"] ["words"] (defScope s_read_offer) := ⟨rfl, rfl, rfl, by decide +kernel, rfl, by decide +kernel, by decide +kernel⟩
theorem sc_write_offer : FnScope ["offer", "port", "mode", "formats"] ["offer"] (defScope s_write_offer) := ⟨rfl, rfl, rfl, by decide +kernel, rfl, by decide +kernel, by decide +kernel⟩
theorem sc_read_formats : FnScope ["word", "names", "name"] ["word"] (defScope s_read_formats) := ⟨rfl, rfl, rfl, by decide +kernel, rfl, by decide +kernel, by decide +kernel⟩
theorem sc_Letter___init : FnScope ["self", "verb", "call", "origin", "origin_tag", "target", "target_tag", "seq", "way", "code", "offer", "stay", "goal"] ["self", "verb", "call", "origin", "origin_tag", "target", "target_tag", "seq", "way", "code", "offer", "stay", "goal"] (defScope s_Letter___init) := ⟨rfl, rfl, rfl, by decide +kernel, rfl, by decide +kernel, by decide +kernel⟩
theorem sc_Letter_parts : FnScope ["self"] ["self"] (defScope s_Letter_parts) := ⟨rfl, rfl, rfl, by decide +kernel, rfl, by decide +kernel, by decide +kernel⟩
theorem sc_Letter_reply : FnScope ["self", "code", "tag", "offer", "stay"] ["self", "code", "tag", "offer", "stay"] (defScope s_Letter_reply) := ⟨rfl, rfl, rfl, by decide +kernel, rfl, by decide +kernel, by decide +kernel⟩
theorem sc_write : FnScope ["letter", "lines", "line"] ["letter"] (defScope s_write) := ⟨rfl, rfl, rfl, by decide +kernel, rfl, by decide +kernel, by decide +kernel⟩
theorem sc_read : FnScope ["text", "lines", "rest", "parts", "number", "key", "part"] ["text"] (defScope s_read) := ⟨rfl, rfl, rfl, by decide +kernel, rfl, by decide +kernel, by decide +kernel⟩
theorem sc_write_head : FnScope ["letter"] ["letter"] (defScope s_write_head) := ⟨rfl, rfl, rfl, by decide +kernel, rfl, by decide +kernel, by decide +kernel⟩
theorem sc_read_head : FnScope ["words"] ["words"] (defScope s_read_head) := ⟨rfl, rfl, rfl, by decide +kernel, rfl, by decide +kernel, by decide +kernel⟩
theorem sc_read_line : FnScope ["key", "line", "words", "offer"] ["key", "line"] (defScope s_read_line) := ⟨rfl, rfl, rfl, by decide +kernel, rfl, by decide +kernel, by decide +kernel⟩
theorem sc_read_origin : FnScope ["words"] ["words"] (defScope s_read_origin) := ⟨rfl, rfl, rfl, by decide +kernel, rfl, by decide +kernel, by decide +kernel⟩
theorem sc_read_target : FnScope ["words"] ["words"] (defScope s_read_target) := ⟨rfl, rfl, rfl, by decide +kernel, rfl, by decide +kernel, by decide +kernel⟩
theorem sc_read_single : FnScope ["key", "word", "number", "is_right"] ["key", "word"] (defScope s_read_single) := ⟨rfl, rfl, rfl, by decide +kernel, rfl, by decide +kernel, by decide +kernel⟩
theorem sc_law_state : FnScope ["script", "seed", "cell"] ["script"] (defScope s_law_state) := ⟨rfl, rfl, rfl, by decide +kernel, rfl, by decide +kernel, by decide +kernel⟩
theorem sc_law_draw : FnScope ["state", "many", "cells", "value", "mixed"] ["state", "many"] (defScope s_law_draw) := ⟨rfl, rfl, rfl, by decide +kernel, rfl, by decide +kernel, by decide +kernel⟩
theorem sc_law_pick : FnScope ["state", "row"] ["state", "row"] (defScope s_law_pick) := ⟨rfl, rfl, rfl, by decide +kernel, rfl, by decide +kernel, by decide +kernel⟩
theorem sc_law_tag : FnScope ["state", "letters", "many", "k"] ["state"] (defScope s_law_tag) := ⟨rfl, rfl, rfl, by decide +kernel, rfl, by decide +kernel, by decide +kernel⟩
theorem sc_law_name : FnScope ["state", "small", "many", "k"] ["state"] (defScope s_law_name) := ⟨rfl, rfl, rfl, by decide +kernel, rfl, by decide +kernel, by decide +kernel⟩
theorem sc_law_address : FnScope ["state"] ["state"] (defScope s_law_address) := ⟨rfl, rfl, rfl, by decide +kernel, rfl, by decide +kernel, by decide +kernel⟩
theorem sc_law_offer : FnScope ["state", "formats", "k", "name", "mode"] ["state"] (defScope s_law_offer) := ⟨rfl, rfl, rfl, by decide +kernel, rfl, by decide +kernel, by decide +kernel⟩
theorem sc_law_parts : FnScope ["state", "verb", "code", "tag", "seq", "extras", "first"] ["state"] (defScope s_law_parts) := ⟨rfl, rfl, rfl, by decide +kernel, rfl, by decide +kernel, by decide +kernel⟩
theorem sc_law_text : FnScope ["p", "lines", "to", "line"] ["p"] (defScope s_law_text) := ⟨rfl, rfl, rfl, by decide +kernel, rfl, by decide +kernel, by decide +kernel⟩
theorem sc_law_only : FnScope ["word", "chars", "char"] ["word", "chars"] (defScope s_law_only) := ⟨rfl, rfl, rfl, by decide +kernel, rfl, by decide +kernel, by decide +kernel⟩
theorem sc_law_is_name : FnScope ["word", "small"] ["word"] (defScope s_law_is_name) := ⟨rfl, rfl, rfl, by decide +kernel, rfl, by decide +kernel, by decide +kernel⟩
theorem sc_law_is_tag : FnScope ["word"] ["word"] (defScope s_law_is_tag) := ⟨rfl, rfl, rfl, by decide +kernel, rfl, by decide +kernel, by decide +kernel⟩
theorem sc_law_is_address : FnScope ["word", "at"] ["word"] (defScope s_law_is_address) := ⟨rfl, rfl, rfl, by decide +kernel, rfl, by decide +kernel, by decide +kernel⟩
theorem sc_law_is_number : FnScope ["word", "most"] ["word", "most"] (defScope s_law_is_number) := ⟨rfl, rfl, rfl, by decide +kernel, rfl, by decide +kernel, by decide +kernel⟩
theorem sc_law_is_offer : FnScope ["words", "names", "name"] ["words"] (defScope s_law_is_offer) := ⟨rfl, rfl, rfl, by decide +kernel, rfl, by decide +kernel, by decide +kernel⟩
theorem sc_law_stands : FnScope ["name", "words", "verbs", "codes"] ["name", "words"] (defScope s_law_stands) := ⟨rfl, rfl, rfl, by decide +kernel, rfl, by decide +kernel, by decide +kernel⟩
theorem sc_law_fault : FnScope ["text", "lines", "due", "more", "k", "words", "names"] ["text"] (defScope s_law_fault) := ⟨rfl, rfl, rfl, by decide +kernel, rfl, by decide +kernel, by decide +kernel⟩
theorem sc_law_changed : FnScope ["state", "text", "chars", "at", "kind", "lines", "k", "line"] ["state", "text"] (defScope s_law_changed) := ⟨rfl, rfl, rfl, by decide +kernel, rfl, by decide +kernel, by decide +kernel⟩
theorem sc_law : FnScope ["script", "state", "k", "text", "due", "e", "letter"] ["script"] (defScope s_law) := ⟨rfl, rfl, rfl, by decide +kernel, rfl, by decide +kernel, by decide +kernel⟩
structure Tx (K : PySem.W.Frag) (mg : Str → Option Value) : Prop where
  g_CODES : mg "CODES" = some (.ref (He.ga K "CODES"))
  v_CODES : ∀ H : Hp, SqT K H (He.ga K "CODES") [.int 18, .int 20, .int 41, .int 43, .int 44, .int 45, .int 46, .int 48, .int 50]
  g_DIGITS : ∃ t, mg "DIGITS" = some (.str "0123456789" t)
  g_GREATEST_CODE : ∃ t, mg "GREATEST_CODE" = some (.int 99 t)
  g_GREATEST_PORT : ∃ t, mg "GREATEST_PORT" = some (.int 65535 t)
  g_GREATEST_SEQ : ∃ t, mg "GREATEST_SEQ" = some (.int 999999 t)
  g_LONGEST_NUMBER : ∃ t, mg "LONGEST_NUMBER" = some (.int 9 t)
  g_LONGEST_STAY : ∃ t, mg "LONGEST_STAY" = some (.int 9999 t)
  g_LONGEST_WORD : ∃ t, mg "LONGEST_WORD" = some (.int 16 t)
  g_MODES : mg "MODES" = some (.ref (He.ga K "MODES"))
  v_MODES : ∀ H : Hp, SqT K H (He.ga K "MODES") [.str "both", .str "send", .str "take", .str "none"]
  g_MOST_FORMATS : ∃ t, mg "MOST_FORMATS" = some (.int 6 t)
  g_NAME_MARKS : ∃ t, mg "NAME_MARKS" = some (.str "abcdefghijklmnopqrstuvwxyz0123456789" t)
  g_NEEDED : mg "NEEDED" = some (.ref (He.ga K "NEEDED"))
  v_NEEDED : ∀ H : Hp, SqT K H (He.ga K "NEEDED") [.str "call", .str "from", .str "to", .str "seq", .str "way"]
  g_POSSIBLE : mg "POSSIBLE" = some (.ref (He.ga K "POSSIBLE"))
  v_POSSIBLE : ∀ H : Hp, SqT K H (He.ga K "POSSIBLE") [.str "offer", .str "stay", .str "goal"]
  g_SMALL_LETTERS : ∃ t, mg "SMALL_LETTERS" = some (.str "abcdefghijklmnopqrstuvwxyz" t)
  g_TAG_MARKS : ∃ t, mg "TAG_MARKS" = some (.str "ABCDEFGHIJKLMNOPQRSTUVWXYZabcdefghijklmnopqrstuvwxyz0123456789" t)
  g_VERBS : mg "VERBS" = some (.ref (He.ga K "VERBS"))
  v_VERBS : ∀ H : Hp, SqT K H (He.ga K "VERBS") [.str "CALL", .str "KEEP", .str "STOP", .str "END", .str "TURN", .str "MOVE", .str "LIVE", .str "SIGN"]
  f_abs : mg "abs" = none
  f_all : mg "all" = none
  f_bool : mg "bool" = none
  f_int : mg "int" = none
  f_isinstance : mg "isinstance" = none
  f_len : mg "len" = none
  f_min : mg "min" = none
  f_range : mg "range" = none
  f_set : mg "set" = none
  f_str : mg "str" = none
  f_super : mg "super" = none
  f_tuple : mg "tuple" = none
  cl_Letter : Cls K (He.ga K "Letter")
  na_Letter_verb : NoAttr K (He.ga K "Letter") "verb"
  na_Letter_code : NoAttr K (He.ga K "Letter") "code"
  na_Letter_call : NoAttr K (He.ga K "Letter") "call"
  na_Letter_origin : NoAttr K (He.ga K "Letter") "origin"
  na_Letter_origin_tag : NoAttr K (He.ga K "Letter") "origin_tag"
  na_Letter_target : NoAttr K (He.ga K "Letter") "target"
  na_Letter_target_tag : NoAttr K (He.ga K "Letter") "target_tag"
  na_Letter_seq : NoAttr K (He.ga K "Letter") "seq"
  na_Letter_way : NoAttr K (He.ga K "Letter") "way"
  na_Letter_offer : NoAttr K (He.ga K "Letter") "offer"
  na_Letter_stay : NoAttr K (He.ga K "Letter") "stay"
  na_Letter_goal : NoAttr K (He.ga K "Letter") "goal"
  g_TrunklandError : mg "TrunklandError" = some (.ref (He.ga K "TrunklandError"))
  g_LetterError : mg "LetterError" = some (.ref (He.ga K "LetterError"))
  xf_LetterError : XfC K (He.ga K "LetterError")
  ec_LetterError : ExcC K (He.ga K "LetterError")
  no_LetterError : PySem.W.findIn K (.ref (He.ga K "LetterError")) "line" = some none
  te_LetterError_LetterError : PySem.W.exmOne K (.ref (He.ga K "LetterError")) (.ref (He.ga K "LetterError")) = some true
  ki_LetterError_TrunklandError : PySem.W.kitOne K (.ref (He.ga K "LetterError")) (.ref (He.ga K "TrunklandError")) = some true
theorem ok_exc_LetterError {P : Program} {w : World} {K : PySem.W.Frag} {mg : Str → Option Value} {base : Heap} (hm : mg "super" = none) (htop : (P.main.scope.names.lookup ("super" : Str)).isSome = false) (hg : mg "LetterError" = some (.ref (He.ga K "LetterError")))
    (T : TKE.ExTxt K P "LetterError" "line" "LetterError.__init__" (defArgs si_LetterError) (defBody si_LetterError) (defScope si_LetterError)) : TKE.ExcMk P w K mg base "LetterError" (He.ga K "LetterError") "line" TKE.isI := by
  obtain ⟨cda, cc, oc, od, doc, pm, an, ct, osl, S, hl, hcd⟩ := T.ex
  refine ⟨_, _, ["self", "line"], S.oex, S.iC, S.tI, TKE.fnok_sup S hl hcd (nscope_by (by decide +kernel)) rfl rfl rfl rfl rfl hm htop (fun vs H Q E h => ?_) (fun A outer s H vs Q E h => ?_) (fun _ _ _ _ _ => rfl) (fun _ _ _ _ _ => rfl) (fun _ _ _ _ _ => rfl) (fun _ _ _ _ _ => rfl), .all (fun us hl => match us, hl with | [_, _], _ => rfl), hg⟩
  · obtain ⟨a, y, rfl, _⟩ := h
    rfl
  · obtain ⟨a, y, rfl, ⟨z, rfl, hl, hz⟩, ha, k⟩ := h
    refine ⟨a, _, _, _, rfl, ha, pe_joined (PJ.cons pe_str (PJ.cons (pe_fmt (pv 1)) (PJ.cons pe_str PJ.nil))), pss_one (ps_ost (pv 0) (pv 1)), _, rfl, by decide +kernel, _, rfl, ?_⟩
    refine .inr ⟨z, rfl, hl, _, rfl, TKE.ex_l2 (by decide +kernel) hz, _, rfl, TKE.ex_l3 (by decide +kernel) (by decide +kernel) hz, ?_⟩
    exact ⟨ha, ⟨_, rfl, _, rfl, a, _, rfl, S.oex, T.no, .inl ⟨ha, k⟩⟩, rfl⟩
/-! ### what the program's defs answer -/
def consL (l m : List Nat) (n : Int) : Bool := (decide ((1 : Int) ≤ (l.length : Int)) && decide ((l.length : Int) ≤ n)) && l.all fun c => decide (c ∈ m)
def consB (z m : Str) (n : Int) : Bool := consL (TL.tl z) (TL.tl m) n
theorem consB_len {z m : Str} {n : Int} (h : consB z m n = true) : 0 < (TL.tl z).length ∧ ((TL.tl z).length : Int) ≤ n ∧ ∀ c ∈ TL.tl z, c ∈ TL.tl m := by
  unfold consB consL at h
  rw [Bool.and_eq_true, Bool.and_eq_true, decide_eq_true_eq, decide_eq_true_eq] at h
  refine ⟨by omega, h.1.2, fun c hc => ?_⟩
  exact of_decide_eq_true (List.all_eq_true.mp h.2 c hc)
def spCons : Sp := fun vs H Q _ => ∃ (z m : Str) (n : Int), vs = [.str z, .str m, .int n] ∧ z.length ≤ 1000 ∧ ∀ H', Same H H' → Q (.bl (consB z m n)) H'
theorem ok_consists_of {P : Program} {w : World} {K : PySem.W.Frag} {mg : Str → Option Value} {base : Heap} {f : Addr} {fd : FuncData} (T : Tx K mg) 
    (F : FunD K "_consists_of" "_consists_of" (defArgs s_consists_of) (defBody s_consists_of) (defScope s_consists_of) [] [] f fd) : FnOk P w K mg base CX0 1 f fd ["word", "marks", "longest"] spCons := by
  refine F.ok sc_consists_of (fun vs H Q E h => ?_) (fun cdv A outer s H vs Q E hr h => ?_)
  · obtain ⟨z, m, n, rfl, _⟩ := h
    rfl
  · obtain ⟨z, m, n, rfl, hz, k⟩ := h
    have hz2 : z.length ≤ sizeLine := Nat.le_trans hz (by decide)
    have eB : consB z m n = ((decide ((1 : Int) ≤ (z.length : Int)) && decide ((z.length : Int) ≤ n)) && (TL.tl z).all fun c => decide (c ∈ TL.tl m)) := by
      unfold consB consL
      rw [len_eq]
    refine ⟨_, PSs.nox (pss_one (ps_ret (pe_and (pe_chain op_le op_le pe_int (pe_callB call_len_str rfl T.f_len PySem.boot_len (pa_cons (pv 0) pa_nil)) (pv 2)) (pe_one (pe_callB (cr_all rfl) rfl T.f_all (by decide +kernel) (pa_cons (pe_lc (own := [("mark", 3)]) (g := gName 3) rfl sc_consists_of.nd (pi_str (pv 0)) (blkOk_by (own := [("mark", 3)]) (N := ["word", "marks", "longest", "mark"]) (sc := defScope s_consists_of) (by decide +kernel)) (fun _ _ _ _ _ => pg_name (i := 3) sc_consists_of.nd rfl (Or.inl rfl)) (fun _ _ _ _ _ => pts_nil) (fun _ _ _ _ _ => (pe_cmpR op_in_sign (pv 3) (pv 1) (by with_unfolding_all rfl)))) pa_nil)))))), ?_⟩
    refine ⟨_, rfl, _, rfl, hz2, _, _, rfl, rfl, _, rfl, ?_⟩
    refine ite2 (fun h1 => ?_) (fun h1 => ?_)
    · refine ⟨_, rfl, _, _, rfl, rfl, _, rfl, ?_⟩
      refine ite2 (fun h2 => ?_) (fun h2 => ?_)
      · refine ⟨_, rfl, _, rfl, fun D hD => ?_⟩
        have hn : z.cps.size ≤ sizeLine := by
          rw [size_tl, ← len_eq]
          exact hz2
        refine lc_pureN walk_str (fun i => V.bl (decide ((TL.tl z).getD i 0 ∈ TL.tl m))) hn (fun _ _ => trivial) (fun i x H' kk hi y q => ?_) ?_
        · obtain ⟨rfl, c, hc, rfl⟩ := y
          refine ⟨rfl, _, rfl, _, rfl, _, _, rfl, rfl, ?_⟩
          have e : (TL.tl z).getD i 0 = c := by
            have h5 : (TL.tl z)[i]? = some c := by
              show z.cps.toList[i]? = some c
              rw [Array.getElem?_toList]
              exact hc
            rw [List.getD_eq_getElem?_getD, h5]
            rfl
          rw [← e]
          exact q
        · refine ⟨D, (TL.tl z).map fun c => decide (c ∈ TL.tl m), rfl, SqL.of ?_, ?_⟩
          · rw [upd_same, size_tl, List.map_map]
            exact congrArg (fun l => some (HO.lst l)) (range_map_getD (TL.tl z) 0 fun c => V.bl (decide (c ∈ TL.tl m)))
          · have e : (List.map (fun c => decide (c ∈ TL.tl m)) (TL.tl z)).all id = consB z m n := by
              rw [eB, h1, h2, List.all_map]
              rfl
            rw [e]
            exact k _ (same_upd hD)
      · have e : consB z m n = false := by
          rw [eB, ef h2, Bool.and_false, Bool.false_and]
        have q := k H (Same.refl H)
        rw [e] at q
        exact q
    · have e : consB z m n = false := by
        rw [eB, ef h1, Bool.false_and, Bool.false_and]
      refine ⟨false, rfl, iteF ?_⟩
      have q := k H (Same.refl H)
      rw [e] at q
      exact q

/-! ### names, tags -/
abbrev zSM : Str := "abcdefghijklmnopqrstuvwxyz"
abbrev zNM : Str := "abcdefghijklmnopqrstuvwxyz0123456789"
abbrev zTM : Str := "ABCDEFGHIJKLMNOPQRSTUVWXYZabcdefghijklmnopqrstuvwxyz0123456789"
abbrev zDG : Str := "0123456789"
def nameB (z : Str) : Bool := consB z zNM 16 && decide ((TL.tl z).getD 0 0 ∈ TL.tl zSM)
def spName : Sp := fun vs H Q _ => ∃ z : Str, vs = [.str z] ∧ z.length ≤ 1000 ∧ ∀ H', Same H H' → Q (.bl (nameB z)) H'
theorem ok_is_name {P : Program} {w : World} {K : PySem.W.Frag} {mg : Str → Option Value} {base : Heap} {f : Addr} {fd : FuncData} (T : Tx K mg) (c_consists_of : C8.Cal P w K mg base 1 "_consists_of" spCons [])
    (F : FunD K "is_name" "is_name" (defArgs s_is_name) (defBody s_is_name) (defScope s_is_name) [] [] f fd) : FnOk P w K mg base CX0 2 f fd ["word"] spName := by
  refine F.ok sc_is_name (fun vs H Q E h => ?_) (fun cdv A outer s H vs Q E hr h => ?_)
  · obtain ⟨z, rfl, _⟩ := h
    rfl
  · obtain ⟨z, rfl, hz, k⟩ := h
    have hz2 : z.length ≤ sizeLine := Nat.le_trans hz (by decide)
    refine ⟨_, PSs.nox (pss_one (ps_ret (pe_and (pe_c c_consists_of hr (by decide) rfl (pa_cons (pv 0) (pa_cons (pgS T.g_NAME_MARKS) (pa_cons (pgI T.g_LONGEST_WORD) pa_nil)))) (pe_one (pe_cmpR op_in_sign (pe_ix ix_str (pv 0) pe_int (fun _ _ => rfl)) (pgS T.g_SMALL_LETTERS) (by with_unfolding_all rfl)))))), ?_⟩
    refine ⟨_, rfl, z, zNM, 16, rfl, hz, fun H1 s1 => ⟨_, rfl, ?_⟩⟩
    refine ite2 (fun h1 => ?_) (fun h1 => ?_)
    · refine ⟨_, rfl, _, 0, _, rfl, rfl, hz2, at0 0 (consB_len h1).1, _, _, rfl, rfl, ?_⟩
      have e : decide ((TL.tl z).getD 0 0 ∈ TL.tl zSM) = nameB z := by
        unfold nameB
        rw [h1, Bool.true_and]
      have q := k H1 s1
      rw [← e] at q
      exact q
    · have e : nameB z = false := by
        unfold nameB
        rw [ef h1, Bool.false_and]
      have q := k H1 s1
      rw [e] at q
      exact q

def tagB (z : Str) : Bool := consB z zTM 16
def spTag : Sp := fun vs H Q _ => ∃ z : Str, vs = [.str z] ∧ z.length ≤ 1000 ∧ ∀ H', Same H H' → Q (.bl (tagB z)) H'
theorem ok_is_tag {P : Program} {w : World} {K : PySem.W.Frag} {mg : Str → Option Value} {base : Heap} {f : Addr} {fd : FuncData} (T : Tx K mg) (c_consists_of : C8.Cal P w K mg base 1 "_consists_of" spCons [])
    (F : FunD K "is_tag" "is_tag" (defArgs s_is_tag) (defBody s_is_tag) (defScope s_is_tag) [] [] f fd) : FnOk P w K mg base CX0 2 f fd ["word"] spTag := by
  refine F.ok sc_is_tag (fun vs H Q E h => ?_) (fun cdv A outer s H vs Q E hr h => ?_)
  · obtain ⟨z, rfl, _⟩ := h
    rfl
  · obtain ⟨z, rfl, hz, k⟩ := h
    refine ⟨_, PSs.nox (pss_one (ps_ret (pe_c c_consists_of hr (by decide) rfl (pa_cons (pv 0) (pa_cons (pgS T.g_TAG_MARKS) (pa_cons (pgI T.g_LONGEST_WORD) pa_nil)))))), ?_⟩
    exact ⟨_, rfl, z, zTM, 16, rfl, hz, fun H1 s1 => k H1 s1⟩

/-! ### numbers -/
def numV (z : Str) (most : Int) : V :=
  if consB z zDG 9 = true then
    (if (decide (V.str (S [(TL.tl z).getD 0 0]) = V.str "0") && !decide (V.str z = V.str "0")) = true then .non
     else if ((NumText.digitsVal (TL.tl z) : Nat) : Int) ≤ most then .int (NumText.digitsVal (TL.tl z) : Nat) else .non)
  else .non
theorem digits_of {z : Str} (h : ∀ c ∈ TL.tl z, c ∈ TL.tl zDG) : ∀ c ∈ TL.tl z, 48 ≤ c ∧ c ≤ 57 := fun c hc => by
  have h1 := h c hc
  have h2 : ∀ c ∈ TL.tl zDG, 48 ≤ c ∧ c ≤ 57 := by decide +kernel
  exact h2 c h1
def spNum : Sp := fun vs H Q _ => ∃ (z : Str) (m : Int), vs = [.str z, .int m] ∧ z.length ≤ 1000 ∧ ∀ H', Same H H' → Q (numV z m) H'
theorem ok_read_number {P : Program} {w : World} {K : PySem.W.Frag} {mg : Str → Option Value} {base : Heap} {f : Addr} {fd : FuncData} (T : Tx K mg) (c_consists_of : C8.Cal P w K mg base 1 "_consists_of" spCons [])
    (F : FunD K "read_number" "read_number" (defArgs s_read_number) (defBody s_read_number) (defScope s_read_number) [] [] f fd) : FnOk P w K mg base CX0 2 f fd ["word", "most"] spNum := by
  refine F.ok sc_read_number (fun vs H Q E h => ?_) (fun cdv A outer s H vs Q E hr h => ?_)
  · obtain ⟨z, m, rfl, _⟩ := h
    rfl
  · obtain ⟨z, m, rfl, hz, k⟩ := h
    have hz2 : z.length ≤ sizeLine := Nat.le_trans hz (by decide)
    refine ⟨_, PSs.nox (C8.pss_cut (ps_if (pt_not (pt_val (pe_c c_consists_of hr (by decide) rfl (pa_cons (pv 0) (pa_cons (pgS T.g_DIGITS) (pa_cons (pgI T.g_LONGEST_NUMBER) pa_nil)))))) (pss_one (ps_ret pe_non)) pss_nil) (C8.pss_cut (ps_if (PW.pt (pw_and (pt_cmpR op_eq (pe_ix ix_str (pv 0) pe_int (fun _ _ => rfl)) pe_str (nomark _)) (pw_and1 (pt_cmpR op_ne (pv 0) pe_str (nomark _))))) (pss_one (ps_ret pe_non)) pss_nil) (pss_cons (ps_set (i := 2) sc_read_number.nd rfl (Or.inl rfl) (pe_callTy call_int_str rfl T.f_int (by decide +kernel) (pa_cons (pv 0) pa_nil))) (pss_one (ps_ret (pe_ifExp (pt_cmpR op_le (pv 2) (pv 1) (nomark _)) (pv 2) pe_non)))))), ?_⟩
    refine ⟨fun σ' H' => σ' = [some (.str z), some (.int m), none] ∧ Same H H' ∧ consB z zDG 9 = true, ?_, ?_⟩
    · refine ⟨_, rfl, z, zDG, 9, rfl, hz, fun H1 s1 => ⟨_, rfl, ?_⟩⟩
      have q := k H1 s1
      unfold numV at q
      by_cases h1 : consB z zDG 9 = true
      · rw [h1]
        exact iteF ⟨rfl, s1, rfl⟩
      · rw [if_neg h1] at q
        rw [ef h1]
        exact iteT q
    · rintro σ' H1 ⟨rfl, s1, h1⟩
      have q := k H1 s1
      unfold numV at q
      rw [if_pos h1] at q
      have hl := consB_len h1
      by_cases h2 : (decide (V.str (S [(TL.tl z).getD 0 0]) = V.str "0") && !decide (V.str z = V.str "0")) = true
      · rw [if_pos h2] at q
        rw [Bool.and_eq_true] at h2
        refine ⟨fun σ' H' => False, ?_, fun _ _ z => z.elim⟩
        refine ⟨_, rfl, _, 0, _, rfl, rfl, hz2, at0 0 hl.1, rfl, _, rfl, ?_⟩
        refine ite2 (fun _ => ?_) (fun h3 => absurd h2.1 h3)
        refine ⟨_, rfl, rfl, _, rfl, ?_⟩
        refine ite2 (fun _ => q) (fun h3 => absurd h2.2 h3)
      · rw [if_neg h2] at q
        refine ⟨fun σ' H' => σ' = [some (.str z), some (.int m), none] ∧ H' = H1, ?_, ?_⟩
        · refine ⟨_, rfl, _, 0, _, rfl, rfl, hz2, at0 0 hl.1, rfl, _, rfl, ?_⟩
          refine ite2 (fun h3 => ?_) (fun h3 => iteF ⟨rfl, rfl⟩)
          refine ⟨_, rfl, rfl, _, rfl, ?_⟩
          refine ite2 (fun h4 => absurd (Bool.and_eq_true_iff.mpr ⟨h3, h4⟩) h2) (fun _ => ⟨rfl, rfl⟩)
        · rintro σ' H' ⟨rfl, rfl⟩
          refine ⟨_, rfl, z, _, rfl, PySem.intText_digits (x := z) (digits_of hl.2.2) (List.length_pos_iff.mp hl.1) (by rw [len_eq]; omega), by rw [len_eq]; omega, ?_⟩
          refine ⟨_, rfl, _, rfl, _, _, rfl, rfl, _, rfl, ?_⟩
          by_cases h5 : ((NumText.digitsVal (TL.tl z) : Nat) : Int) ≤ m
          · rw [if_pos h5] at q
            rw [decide_eq_true h5]
            exact iteT ⟨_, rfl, q⟩
          · rw [if_neg h5] at q
            rw [decide_eq_false h5]
            exact iteF q

/-! ### addresses -/
def splitO : List Str → Option (Str × Str)
  | [u, h] => if (nameB u && nameB h) = true then some (u, h) else none
  | _ => none
def splitB (z : Str) : Option (Str × Str) := splitO (Txt.split z "@")
/-- None, or a tuple of two texts -/
def PairV (H : Hp) (x : V) : Option (Str × Str) → Prop
  | none => x = .non
  | some (u, h) => ∃ p, x = .ref p ∧ H p = some (.tup [.str u, .str h])
theorem at_len : ("@" : Str) = S [64] := by decide +kernel
theorem split_parts {z u h : Str} (e : Txt.split z "@" = [u, h]) : TL.tl z = TL.tl u ++ 64 :: TL.tl h ∧ 64 ∉ TL.tl u ∧ 64 ∉ TL.tl h := by
  rw [at_len] at e
  have j := StrLaws.join_split z (S [64])
  rw [e] at j
  have f := StrLaws.split_free z 64
  refine ⟨?_, f u (by rw [e]; simp), f h (by rw [e]; simp)⟩
  have e2 := TL.tl_join (S [64]) [u, h]
  rw [← j, e2]
  rfl
theorem split_two {z : Str} {a b : List Nat} (e : TL.tl z = a ++ 64 :: b) (ha : 64 ∉ a) (hb : 64 ∉ b) : Txt.split z "@" = [S a, S b] := by
  rw [at_len]
  have e1 : z = S (a ++ 64 :: b) := by
    rw [← e]
  rw [e1, split_S (by simp) (by decide)]
  have e2 : a ++ 64 :: b = TL.joinL [64] [a, b] := rfl
  rw [e2, spl_join (by simp) (by
    intro p hp
    rcases List.mem_cons.mp hp with z | z
    · rw [z]; exact ha
    · rw [List.mem_singleton.mp z]; exact hb)]
  rfl
def spSplit : Sp := fun vs H Q _ => ∃ z : Str, vs = [.str z] ∧ z.length ≤ 1000 ∧ ∀ x H', Same H H' → PairV H' x (splitB z) → Q x H'
theorem ok_split_address {P : Program} {w : World} {K : PySem.W.Frag} {mg : Str → Option Value} {base : Heap} {f : Addr} {fd : FuncData} (T : Tx K mg) (c_is_name : C8.Cal P w K mg base 2 "is_name" spName [])
    (F : FunD K "split_address" "split_address" (defArgs s_split_address) (defBody s_split_address) (defScope s_split_address) [] [] f fd) : FnOk P w K mg base CX0 3 f fd ["word"] spSplit := by
  refine F.ok sc_split_address (fun vs H Q E h => ?_) (fun cdv A outer s H vs Q E hr h => ?_)
  · obtain ⟨z, rfl, _⟩ := h
    rfl
  · obtain ⟨z, rfl, hz, k⟩ := h
    have hz2 : z.length + 2 ≤ sizeLine := Nat.le_trans (Nat.add_le_add_right hz 2) (by decide)
    refine ⟨_, PSs.nox (pss_cons (ps_set (i := 1) sc_split_address.nd rfl (Or.inl rfl) (pe_split (pv 0) pe_str)) (C8.pss_cut (ps_if (pt_cmpR op_ne (pe_callB call_len_seq rfl T.f_len PySem.boot_len (pa_cons (pv 1) pa_nil)) pe_int (nomark _)) (pss_one (ps_ret pe_non)) pss_nil) (pss_cons (ps_asg (pv 1) (pg_unl rfl (pgs_cons (pg_name (i := 2) sc_split_address.nd rfl (Or.inl rfl)) (pgs_cons (pg_name (i := 3) sc_split_address.nd rfl (Or.inl rfl)) pgs_nil)))) (pss_one (ps_ret (pe_ifExp (PW.pt (pw_and (pt_val (pe_c c_is_name hr (by decide) rfl (pa_cons (pv 2) pa_nil))) (pw_and1 (pt_val (pe_c c_is_name hr (by decide) rfl (pa_cons (pv 3) pa_nil)))))) (pe_tup (pa_cons (pv 2) (pa_cons (pv 3) pa_nil))) pe_non)))))), ?_⟩
    refine ⟨_, rfl, ⟨_, rfl⟩, z, "@", rfl, rfl, by decide +kernel, hz2, fun p hp => ?_⟩
    have s1 := same_upd (o := .lst ((Txt.split z "@").map V.str)) hp
    generalize eY : Txt.split z "@" = ys at *
    refine ⟨fun σ' H' => σ' = [some (.str z), some (.ref p), none, none] ∧ H' = upd H p (.lst (ys.map V.str)) ∧ ys.length = 2, ?_, ?_⟩
    · refine ⟨_, rfl, p, _, rfl, .inl (SqL.of upd_same), rfl, _, rfl, ?_⟩
      rw [List.length_map]
      by_cases h2 : ys.length = 2
      · rw [h2]
        exact iteF ⟨rfl, rfl, rfl⟩
      · have e : decide (V.int (ys.length : Nat) = V.int 2) = false := decide_eq_false fun q => h2 (by
          have := V.int.inj q
          omega)
        rw [e]
        refine iteT ?_
        refine k _ _ s1 ?_
        unfold splitB
        rw [eY]
        unfold splitO
        split
        · exact absurd rfl h2
        · rfl
    · rintro σ' H' ⟨rfl, rfl, h2⟩
      obtain ⟨u, ys, rfl⟩ : ∃ u r, ys = u :: r := by
        cases ys with
        | nil => cases h2
        | cons u r => exact ⟨u, r, rfl⟩
      obtain ⟨h, ys, rfl⟩ : ∃ u r, ys = u :: r := by
        cases ys with
        | nil => cases h2
        | cons u r => exact ⟨u, r, rfl⟩
      obtain rfl : ys = [] := List.length_eq_zero_iff.mp (by
        rw [List.length_cons, List.length_cons] at h2
        omega)
      obtain ⟨ez, _, _⟩ := split_parts eY
      have el := congrArg List.length ez
      rw [List.length_append, List.length_cons, ← len_eq, ← len_eq, ← len_eq] at el
      refine ⟨_, rfl, p, _, rfl, SqL.of upd_same, rfl, _, _, rfl, _, _, rfl, rfl, ?_⟩
      refine ⟨_, rfl, u, rfl, by omega, fun H2 s2 => ⟨_, rfl, ?_⟩⟩
      have eB : splitB z = if (nameB u && nameB h) = true then some (u, h) else none := by
        unfold splitB
        rw [eY]
        rfl
      by_cases h3 : nameB u = true
      · rw [h3]
        refine iteT ⟨_, rfl, h, rfl, by omega, fun H3 s3 => ⟨_, rfl, ?_⟩⟩
        by_cases h4 : nameB h = true
        · rw [h4]
          refine iteT ⟨_, rfl, _, rfl, by show 2 ≤ sizeLine; decide, fun t ht => ?_⟩
          refine k _ _ (((s1.trans s2).trans s3).trans (same_upd ht)) ?_
          rw [eB, h3, h4]
          exact ⟨t, rfl, upd_same⟩
        · rw [ef h4]
          refine iteF (k _ _ ((s1.trans s2).trans s3) ?_)
          rw [eB, h3, ef h4]
          rfl
      · rw [ef h3]
        refine iteF (iteF (k _ _ (s1.trans s2) ?_))
        rw [eB, ef h3]
        rfl
def spIsAddr : Sp := fun vs H Q _ => ∃ z : Str, vs = [.str z] ∧ z.length ≤ 1000 ∧ ∀ H', Same H H' → Q (.bl (splitB z).isSome) H'
theorem PairV.none_iff {H : Hp} {x : V} {o : Option (Str × Str)} (h : PairV H x o) : (!decide (x = .non)) = o.isSome := by
  cases o with
  | none =>
    cases (show x = .non from h)
    rfl
  | some q =>
    obtain ⟨u, w⟩ := q
    obtain ⟨p, rfl, _⟩ := h
    rfl
theorem ok_is_address {P : Program} {w : World} {K : PySem.W.Frag} {mg : Str → Option Value} {base : Heap} {f : Addr} {fd : FuncData} (T : Tx K mg) (c_split_address : C8.Cal P w K mg base 3 "split_address" spSplit [])
    (F : FunD K "is_address" "is_address" (defArgs s_is_address) (defBody s_is_address) (defScope s_is_address) [] [] f fd) : FnOk P w K mg base CX0 4 f fd ["word"] spIsAddr := by
  refine F.ok sc_is_address (fun vs H Q E h => ?_) (fun cdv A outer s H vs Q E hr h => ?_)
  · obtain ⟨z, rfl, _⟩ := h
    rfl
  · obtain ⟨z, rfl, hz, k⟩ := h
    refine ⟨_, PSs.nox (pss_one (ps_ret (pe_cmpR op_notN (pe_c c_split_address hr (by decide) rfl (pa_cons (pv 0) pa_nil)) pe_non (nomark _)))), ?_⟩
    refine ⟨_, rfl, z, rfl, hz, fun x H1 s1 hp => ⟨rfl, ?_⟩⟩
    rw [hp.none_iff]
    exact k H1 s1

end K4
set_option maxHeartbeats 4000000
namespace K4
open PySem PySem.Spec PyProof.Rows L2 SX TK TKS
open C8 (pe_c)
/-! ### offers -/
structure Off where
  port : Int
  mode : Str
  fs : List Str
/-- an offer stands at x -/
def OffAt (H : Hp) (x : V) (o : Off) : Prop := ∃ p f, x = .ref p ∧ H p = some (.tup [.int o.port, .str o.mode, .ref f]) ∧ H f = some (.tup (o.fs.map V.str))
theorem OffAt.same {H H' : Hp} {x : V} {o : Off} (h : OffAt H x o) (s : Same H H') : OffAt H' x o := by
  obtain ⟨p, f, rfl, e1, e2⟩ := h
  exact ⟨p, f, rfl, s _ _ e1, s _ _ e2⟩
theorem OffAt.keep {H H' : Hp} {x : V} {o : Off} {s c : Addr} (h : OffAt H x o) (st : StAt H s c) (k : Keep H H' s c) : OffAt H' x o := by
  obtain ⟨p, f, rfl, e1, e2⟩ := h
  obtain ⟨_, ⟨n, g1⟩, ns, g2, _⟩ := st
  exact ⟨p, f, rfl, k _ _ e1 (ne_of e1 g1 (by intro z; cases z)) (ne_of e1 g2 (by intro z; cases z)), k _ _ e2 (ne_of e2 g1 (by intro z; cases z)) (ne_of e2 g2 (by intro z; cases z))⟩
/-- a text within a list of texts -/
theorem inV_strs (z : Str) : ∀ l : List Str, inV (.str z) (l.map V.str) = decide (z ∈ l)
  | [] => rfl
  | a :: l => by
    have ih := inV_strs z l
    unfold inV at ih ⊢
    rw [List.map_cons, List.any_cons, ih]
    show ((a == z) || decide (z ∈ l)) = decide (z ∈ a :: l)
    by_cases e : a = z
    · subst e
      simp
    · have h1 : (a == z) = false := by simpa using e
      rw [h1, Bool.false_or]
      exact decide_eq_decide.mpr ⟨fun h => List.mem_cons_of_mem _ h, fun h => by
        rcases List.mem_cons.mp h with q | q
        · exact absurd q.symm e
        · exact q⟩
theorem flat_strs : ∀ l : List Str, (l.map V.str).all flatV = true
  | [] => rfl
  | _ :: l => by
    rw [List.map_cons, List.all_cons, flat_strs l]
    rfl
/-- None, or an offer -/
def OffO (H : Hp) (x : V) : Option Off → Prop
  | none => x = .non
  | some o => OffAt H x o
theorem OffO.same {H H' : Hp} {x : V} {o : Option Off} (h : OffO H x o) (s : Same H H') : OffO H' x o := by
  cases o with
  | none => exact h
  | some o => exact OffAt.same h s
theorem OffO.none_iff {H : Hp} {x : V} {o : Option Off} (h : OffO H x o) : (!decide (x = .non)) = o.isSome := by
  cases o with
  | none =>
    cases (show x = .non from h)
    rfl
  | some o =>
    obtain ⟨p, f, rfl, _⟩ := h
    rfl

/-! ### offers as words -/
def wordsS (o : Off) : Str := Txt.join " " [Str.ofString (toString o.port), o.mode, Txt.join "," o.fs]
structure OffOk (o : Off) : Prop where
  p0 : 0 ≤ o.port
  p1 : o.port ≤ 65535
  m : o.mode.length ≤ 16
  n : o.fs.length ≤ 6
  f : ∀ z ∈ o.fs, z.length ≤ 16
theorem comma_len : ("," : Str).length = 1 := by decide +kernel
theorem blank_len : (" " : Str).length = 1 := by decide +kernel
theorem OffOk.join {o : Off} (h : OffOk o) : (o.fs.map (·.length)).sum + o.fs.length * ("," : Str).length ≤ 102 ∧ (Txt.join "," o.fs).length ≤ 102 := by
  have a := sum_le h.f
  have b := join_len "," o.fs
  have n := h.n
  rw [comma_len] at b ⊢
  omega
theorem OffOk.str {o : Off} (h : OffOk o) : (Str.ofString (toString o.port)).length ≤ 5 ∧ o.port.natAbs.log2 < 1920 := by
  have p0 := h.p0
  have p1 := h.p1
  refine ⟨PyProof.Rows.toString_length_le p0 (k := 5) (by decide) (by omega), log_small ?_⟩
  have : o.port.natAbs ≤ 65535 := by omega
  exact Nat.lt_of_le_of_lt this (Nat.lt_of_lt_of_le (by decide : 65535 < 2 ^ 16) (Nat.pow_le_pow_right (by decide) (by decide)))
def spWrite : Sp := fun vs H Q _ => ∃ x o, vs = [x] ∧ OffAt H x o ∧ OffOk o ∧ ∀ H', Same H H' → Q (.str (wordsS o)) H'
theorem ok_write_offer {P : Program} {w : World} {K : PySem.W.Frag} {mg : Str → Option Value} {base : Heap} {f : Addr} {fd : FuncData} (T : Tx K mg) 
    (F : FunD K "write_offer" "write_offer" (defArgs s_write_offer) (defBody s_write_offer) (defScope s_write_offer) [] [] f fd) : FnOk P w K mg base CX0 1 f fd ["offer"] spWrite := by
  refine F.ok sc_write_offer (fun vs H Q E h => ?_) (fun cdv A outer s H vs Q E hr h => ?_)
  · obtain ⟨x, o, rfl, _⟩ := h
    rfl
  · obtain ⟨x, o, rfl, ⟨p, f, rfl, e1, e2⟩, ok, k⟩ := h
    obtain ⟨j1, j2⟩ := ok.join
    obtain ⟨t1, t2⟩ := ok.str
    have lm := ok.m
    refine ⟨_, PSs.nox (pss_cons (ps_asg (pv 0) (pg_tup rfl (pgs_cons (pg_name (i := 1) sc_write_offer.nd rfl (Or.inl rfl)) (pgs_cons (pg_name (i := 2) sc_write_offer.nd rfl (Or.inl rfl)) (pgs_cons (pg_name (i := 3) sc_write_offer.nd rfl (Or.inl rfl)) pgs_nil))))) (pss_one (ps_ret (pe_join pe_str (pe_lst (pa_cons (pe_callTy call_str_int rfl T.f_str (by decide +kernel) (pa_cons (pv 1) pa_nil)) (pa_cons (pv 2) (pa_cons (pe_join pe_str (pv 3)) pa_nil)))))))), ?_⟩
    refine ⟨_, rfl, p, _, rfl, SqT.of e1, rfl, _, _, rfl, _, _, rfl, _, _, rfl, rfl, ?_⟩
    refine ⟨⟨_, rfl⟩, _, rfl, _, rfl, t2, _, rfl, ⟨_, rfl⟩, _, rfl, ",", f, o.fs, rfl, rfl, .inr (SqT.of e2), by omega, by show 3 ≤ sizeLine; decide, fun q hq => ?_⟩
    refine ⟨" ", q, [Str.ofString (toString o.port), o.mode, Txt.join "," o.fs], rfl, rfl, .inl (SqL.of upd_same), ?_, k _ (same_upd hq)⟩
    rw [blank_len]
    show (Str.ofString (toString o.port)).length + (o.mode.length + ((Txt.join "," o.fs).length + 0)) + 3 * 1 ≤ 16777216
    omega
def fmtO (z : Str) : Option (List Str) :=
  if (Txt.split z ",").length ≤ 6 ∧ (Txt.split z ",").Nodup then (if (Txt.split z ",").all nameB = true then some (Txt.split z ",") else none) else none
/-- None, or a tuple of texts -/
def TupO (H : Hp) (x : V) : Option (List Str) → Prop
  | none => x = .non
  | some l => ∃ f, x = .ref f ∧ H f = some (.tup (l.map V.str))
def spFmt : Sp := fun vs H Q _ => ∃ z : Str, vs = [.str z] ∧ z.length ≤ 1000 ∧ ∀ x H', Same H H' → TupO H' x (fmtO z) → Q x H'
theorem ok_read_formats {P : Program} {w : World} {K : PySem.W.Frag} {mg : Str → Option Value} {base : Heap} {f : Addr} {fd : FuncData} (T : Tx K mg) (c_is_name : C8.Cal P w K mg base 2 "is_name" spName [])
    (F : FunD K "_read_formats" "_read_formats" (defArgs s_read_formats) (defBody s_read_formats) (defScope s_read_formats) [] [] f fd) : FnOk P w K mg base CX0 3 f fd ["word"] spFmt := by
  refine F.ok sc_read_formats (fun vs H Q E h => ?_) (fun cdv A outer s H vs Q E hr h => ?_)
  · obtain ⟨z, rfl, _⟩ := h
    rfl
  · obtain ⟨z, rfl, hz, k⟩ := h
    have hz2 : z.length + 2 ≤ sizeLine := Nat.le_trans (Nat.add_le_add_right hz 2) (by decide)
    have hp0 : ∀ y ∈ Txt.split z ",", y.length ≤ 1000 := fun y hy => Nat.le_trans (part_len hy) hz
    have eF : fmtO z = if (Txt.split z ",").length ≤ 6 ∧ (Txt.split z ",").Nodup then (if (Txt.split z ",").all nameB = true then some (Txt.split z ",") else none) else none := rfl
    have hy1 : (Txt.split z ",").length ≤ 1002 := Nat.le_trans (PyProof.Rows.split_le z ",") (by omega)
    refine ⟨_, PSs.nox (pss_cons (ps_set (i := 1) sc_read_formats.nd rfl (Or.inl rfl) (pe_split (pv 0) pe_str)) (C8.pss_cut (ps_if (PW.pt (pw_or (pt_cmpR op_gt (pe_callB call_len_seq rfl T.f_len PySem.boot_len (pa_cons (pv 1) pa_nil)) (pgI T.g_MOST_FORMATS) (nomark _)) (pw_or1 (pt_cmpR op_lt (TKS.pe_lenSetK (pv 1) T.f_len T.f_set) (pe_callB call_len_seq rfl T.f_len PySem.boot_len (pa_cons (pv 1) pa_nil)) (nomark _))))) (pss_one (ps_ret pe_non)) pss_nil) (pss_one (ps_ret (pe_ifExp (pt_val (pe_callB (cr_all rfl) rfl T.f_all (by decide +kernel) (pa_cons (pe_lc (own := [("name", 2)]) (g := gName 2) rfl sc_read_formats.nd (pi_list (pv 1)) (blkOk_by (own := [("name", 2)]) (N := ["word", "names", "name"]) (sc := defScope s_read_formats) (by decide +kernel)) (fun _ _ _ _ _ => pg_name (i := 2) sc_read_formats.nd rfl (Or.inl rfl)) (fun _ _ _ _ _ => pts_nil) (fun _ _ _ _ _ => (pe_c c_is_name hr (by decide) rfl (pa_cons (pv 2) pa_nil)))) pa_nil))) (pe_callTy call_tuple_of rfl T.f_tuple (by decide +kernel) (pa_cons (pv 1) pa_nil)) pe_non))))), ?_⟩
    refine ⟨_, rfl, ⟨_, rfl⟩, z, ",", rfl, rfl, by decide +kernel, hz2, fun p hp => ?_⟩
    have s1 := same_upd (o := .lst ((Txt.split z ",").map V.str)) hp
    generalize Txt.split z "," = ys at hp0 eF hy1 s1 ⊢
    refine ⟨fun σ' H' => σ' = [some (.str z), some (.ref p), none] ∧ H' = upd H p (.lst (ys.map V.str)) ∧ ys.length ≤ 6 ∧ ys.Nodup, ?_, ?_⟩
    · refine ⟨_, rfl, p, _, rfl, .inl (SqL.of upd_same), _, _, rfl, rfl, _, rfl, ?_⟩
      rw [List.length_map]
      by_cases h6 : ys.length ≤ 6
      · rw [decide_eq_false (by omega)]
        refine iteF ⟨_, rfl, p, ys.map Sum.inr, rfl, SqL.of (by rw [upd_same, key_strs]), by rw [List.length_map]; omega, _, rfl, p, _, rfl, .inl (SqL.of upd_same), _, _, rfl, rfl, _, rfl, ?_⟩
        have le := metK_len (fun i => (ys.map (Sum.inr : Str → Key)).getD i (.inl 0)) (ys.map (Sum.inr : Str → Key)).length
        have nd := met_all (ys.map (Sum.inr : Str → Key))
        rw [nodup_inr] at nd
        rw [List.length_map] at le nd ⊢
        by_cases hn : ys.Nodup
        · rw [nd.mpr hn, List.length_map, decide_eq_false (by omega)]
          exact iteF ⟨rfl, rfl, h6, hn⟩
        · have ne : (metK (fun i => (ys.map (Sum.inr : Str → Key)).getD i (.inl 0)) ys.length).length ≠ ys.length := fun q => hn (nd.mp q)
          rw [List.length_map, decide_eq_true (by omega)]
          refine iteT (k _ _ s1 ?_)
          rw [eF, if_neg (fun q => hn q.2)]
          rfl
      · rw [decide_eq_true (by omega)]
        refine iteT (iteT (k _ _ s1 ?_))
        rw [eF, if_neg (fun q => h6 q.1)]
        rfl
    · rintro σ' H' ⟨rfl, rfl, h6, hn⟩
      rw [if_pos ⟨h6, hn⟩] at eF
      refine ⟨_, rfl, p, rfl, ⟨_, SqL.of upd_same⟩, fun D hD => ?_⟩
      have hpD : p ≠ D := fun e => by
        rw [e, upd_same] at hD
        cases hD
      have hD0 : H D = none := by
        rw [upd_ne hpD.symm] at hD
        exact hD
      refine lc_itN (walk_list (xs := ys.map V.str)) (fun i H' => Same (upd H p (.lst (ys.map V.str))) H' ∧ H' D = some (.lst ((ys.take i).map fun y => V.bl (nameB y)))) ⟨same_upd hD, upd_same⟩ (fun i H1 hi q => SqL.of (q.1 _ _ upd_same)) (fun i v H1 H2 hi q yy => ?_) (fun H1 q => ?_)
      · obtain ⟨sm, ed⟩ := q
        obtain ⟨rfl, ev⟩ := yy
        rw [List.getElem?_map] at ev
        obtain ⟨w, ew, rfl⟩ := Option.map_eq_some_iff.mp ev
        rw [List.length_map] at hi
        refine ⟨rfl, _, rfl, w, rfl, hp0 w (List.mem_of_getElem? ew), fun H3 s3 => ⟨_, s3 _ _ ed, ?_, same_upd2 (sm.trans s3) hD, ?_⟩⟩
        · rw [List.length_map, List.length_take]
          exact Nat.lt_of_le_of_lt (show min i ys.length ≤ 6 by omega) (by decide)
        · rw [upd_same, List.take_add_one, ew, List.map_append]
          rfl
      · obtain ⟨sm, ed⟩ := q
        rw [List.length_map, List.take_length] at ed
        refine ⟨D, ys.map nameB, rfl, SqL.of (by rw [ed, List.map_map]; rfl), _, rfl, ?_⟩
        have eA : (ys.map nameB).all id = ys.all nameB := by
          rw [List.all_map]
          rfl
        rw [eA]
        by_cases hA : ys.all nameB = true
        · rw [if_pos hA] at eF
          rw [hA]
          refine iteT ⟨_, rfl, p, _, rfl, .inl ⟨SqL.of (sm _ _ upd_same), fun t ht => k _ _ ((s1.trans sm).trans (same_upd ht)) ?_⟩⟩
          rw [eF]
          exact ⟨t, rfl, upd_same⟩
        · rw [if_neg hA] at eF
          rw [ef hA]
          refine iteF (k _ _ (s1.trans sm) ?_)
          rw [eF]
          rfl
def modesL : List Str := ["both", "send", "take", "none"]
/-- the offer that three words write -/
def readP : V → Str → Option (List Str) → Option Off
  | .int p, b, some fs => if b ∈ modesL then some ⟨p, b, fs⟩ else none
  | _, _, _ => none
def readO : List Str → Option Off
  | [a, b, c] => readP (numV a 65535) b (fmtO c)
  | _ => none
theorem readP_ok (p : Int) (b : Str) (fs : List Str) : readP (.int p) b (some fs) = if b ∈ modesL then some ⟨p, b, fs⟩ else none := rfl
theorem readO_eq (a b c : Str) : readO [a, b, c] = readP (numV a 65535) b (fmtO c) := rfl
theorem readO_len {ws : List Str} (h : ws.length ≠ 3) : readO ws = none := by
  unfold readO
  split
  · exact absurd rfl h
  · rfl
theorem numV_cases (z : Str) (m : Int) : numV z m = .non ∨ ∃ i, numV z m = .int i := by
  unfold numV
  split
  · split
    · exact .inl rfl
    · split
      · exact .inr ⟨_, rfl⟩
      · exact .inl rfl
  · exact .inl rfl
def spRead : Sp := fun vs H Q _ => ∃ l ws, vs = [.ref l] ∧ H l = some (.lst (ws.map V.str)) ∧ (∀ z ∈ ws, z.length ≤ 1000) ∧ ws.length ≤ 1000 ∧ ∀ x H', Same H H' → OffO H' x (readO ws) → Q x H'
theorem ok_read_offer {P : Program} {w : World} {K : PySem.W.Frag} {mg : Str → Option Value} {base : Heap} {f : Addr} {fd : FuncData} (T : Tx K mg) (c_read_number : C8.Cal P w K mg base 2 "read_number" spNum []) (c_read_formats : C8.Cal P w K mg base 3 "_read_formats" spFmt [])
    (F : FunD K "read_offer" "read_offer" (defArgs s_read_offer) (defBody s_read_offer) (defScope s_read_offer) [] [] f fd) : FnOk P w K mg base CX0 4 f fd ["words"] spRead := by
  refine F.ok sc_read_offer (fun vs H Q E h => ?_) (fun cdv A outer s H vs Q E hr h => ?_)
  · obtain ⟨l, ws, rfl, _⟩ := h
    rfl
  · obtain ⟨l, ws, rfl, hl, hw, hn, k⟩ := h
    refine ⟨_, PSs.nox (C8.pss_cut (ps_if (pt_cmpR op_ne (pe_callB call_len_seq rfl T.f_len PySem.boot_len (pa_cons (pv 0) pa_nil)) pe_int (nomark _)) (pss_one (ps_ret pe_non)) pss_nil) (pss_cons (ps_set (i := 1) sc_read_offer.nd rfl (Or.inl rfl) (pe_c c_read_number hr (by decide) rfl (pa_cons (pe_ix ix_list (pv 0) pe_int (fun _ _ => rfl)) (pa_cons (pgI T.g_GREATEST_PORT) pa_nil)))) (pss_cons (ps_set (i := 2) sc_read_offer.nd rfl (Or.inl rfl) (pe_ix ix_list (pv 0) pe_int (fun _ _ => rfl))) (pss_cons (ps_set (i := 3) sc_read_offer.nd rfl (Or.inl rfl) (pe_c c_read_formats hr (by decide) rfl (pa_cons (pe_ix ix_list (pv 0) pe_int (fun _ _ => rfl)) pa_nil))) (C8.pss_cut (ps_if (PW.pt (pw_or (pt_cmpR op_isN (pv 1) pe_non (nomark _)) (pw_or (pt_cmpR op_notIn_seq (pv 2) (pgR T.g_MODES) (by with_unfolding_all rfl)) (pw_or1 (pt_cmpR op_isN (pv 3) pe_non (nomark _)))))) (pss_one (ps_ret pe_non)) pss_nil) (pss_one (ps_ret (pe_tup (pa_cons (pv 1) (pa_cons (pv 2) (pa_cons (pv 3) pa_nil))))))))))), ?_⟩
    refine ⟨fun σ' H' => σ' = [some (.ref l), none, none, none] ∧ H' = H ∧ ws.length = 3, ?_, ?_⟩
    · refine ⟨_, rfl, l, _, rfl, .inl (SqL.of hl), rfl, _, rfl, ?_⟩
      rw [List.length_map]
      by_cases h3 : ws.length = 3
      · rw [h3]
        exact iteF ⟨rfl, rfl, rfl⟩
      · have e : decide (V.int (ws.length : Nat) = V.int 3) = false := decide_eq_false fun q => h3 (by
          have := V.int.inj q
          omega)
        rw [e]
        refine iteT (k _ _ (Same.refl H) ?_)
        rw [readO_len h3]
        rfl
    · rintro σ' H' ⟨rfl, rfl, h3⟩
      obtain ⟨a, b, c, rfl⟩ : ∃ a b c, ws = [a, b, c] := by
        cases ws with
        | nil => cases h3
        | cons a r => cases r with
          | nil => cases h3
          | cons b r => cases r with
            | nil => cases h3
            | cons c r => cases r with
              | nil => exact ⟨a, b, c, rfl⟩
              | cons d r => simp at h3
      refine ⟨_, rfl, l, _, 0, _, rfl, rfl, SqL.of hl, rfl, a, 65535, rfl, hw a (by simp), fun H1 s1 => ?_⟩
      refine ⟨_, rfl, l, _, 1, _, rfl, rfl, SqL.of (s1 _ _ hl), rfl, ?_⟩
      refine ⟨_, rfl, l, _, 2, _, rfl, rfl, SqL.of (s1 _ _ hl), rfl, c, rfl, hw c (by simp), fun x H2 s2 hx => ?_⟩
      have s12 := s1.trans s2
      refine ⟨fun σ' H' => σ' = [some (.ref l), some (numV a 65535), some (.str b), some x] ∧ H' = H2 ∧ (∃ p, numV a 65535 = .int p) ∧ b ∈ modesL ∧ ∃ fs, fmtO c = some fs, ?_, ?_⟩
      · refine ⟨_, rfl, rfl, _, rfl, ?_⟩
        rcases numV_cases a 65535 with e | ⟨p, e⟩
        · rw [e]
          refine iteT (iteT (k _ _ s12 ?_))
          rw [readO_eq, e]
          rfl
        · rw [e]
          refine iteF ⟨_, rfl, _, modesL.map V.str, rfl, .inr (T.v_MODES H2), rfl, rfl, _, rfl, ?_⟩
          rw [inV_strs]
          by_cases hb : b ∈ modesL
          · rw [decide_eq_true hb]
            refine iteF ⟨_, rfl, rfl, _, rfl, ?_⟩
            cases ef : fmtO c with
            | none =>
              rw [ef] at hx
              cases (show x = .non from hx)
              refine iteT (k _ _ s12 ?_)
              rw [readO_eq, e, ef]
              rfl
            | some fs =>
              rw [ef] at hx
              obtain ⟨f, rfl, _⟩ := hx
              exact iteF ⟨rfl, rfl, ⟨p, rfl⟩, hb, fs, rfl⟩
          · rw [decide_eq_false hb]
            refine iteT (iteT (k _ _ s12 ?_))
            rw [readO_eq, e]
            cases fmtO c with
            | none => rfl
            | some fs =>
              rw [readP_ok, if_neg hb]
              rfl
      · rintro σ' H3 ⟨rfl, rfl, ⟨p, e⟩, hb, fs, ef⟩
        rw [ef] at hx
        obtain ⟨f, rfl, e2⟩ := hx
        rw [e]
        refine ⟨_, rfl, _, rfl, _, rfl, by show 3 ≤ sizeLine; decide, fun q hq => k _ _ (s12.trans (same_upd hq)) ?_⟩
        rw [readO_eq, e, ef]
        rw [readP_ok, if_pos hb]
        exact ⟨q, f, rfl, upd_same, (same_upd hq) _ _ e2⟩

end K4
set_option maxHeartbeats 4000000
namespace K4
open PySem PySem.Spec PyProof.Rows L2 SX TK TKS
open C8 (pe_c)
/-! ### letters -/
structure Ltr where
  verb : Str
  call : Str
  origin : Str
  otag : Str
  target : Str
  ttag : Str
  seq : Int
  way : Str
  code : V
  offer : V
  stay : V
  goal : V
def Ltr.fl (L : Ltr) : List (Str × V) := [("verb", .str L.verb), ("code", L.code), ("call", .str L.call), ("origin", .str L.origin), ("origin_tag", .str L.otag), ("target", .str L.target), ("target_tag", .str L.ttag), ("seq", .int L.seq), ("way", .str L.way), ("offer", L.offer), ("stay", L.stay), ("goal", L.goal)]
def LetAt (K : PySem.W.Frag) (H : Hp) (a : Addr) (L : Ltr) : Prop := ∃ dx, H a = some (.ins (He.ga K "Letter") dx L.fl)
theorem LetAt.same {K : PySem.W.Frag} {H H' : Hp} {a : Addr} {L : Ltr} (h : LetAt K H a L) (s : Same H H') : LetAt K H' a L := by
  obtain ⟨dx, e⟩ := h
  exact ⟨dx, s _ _ e⟩
def Ltr.args (L : Ltr) : List V := [.str L.verb, .str L.call, .str L.origin, .str L.otag, .str L.target, .str L.ttag, .int L.seq, .str L.way, L.code, L.offer, L.stay, L.goal]
def spLetInit (K : PySem.W.Frag) : Sp := fun vs H Q _ => ∃ (p dx : Addr) (L : Ltr), vs = .ref p :: L.args ∧ H p = some (.ins (He.ga K "Letter") dx []) ∧ Q .non (upd H p (.ins (He.ga K "Letter") dx L.fl))
theorem ok_Letter___init {P : Program} {w : World} {K : PySem.W.Frag} {mg : Str → Option Value} {base : Heap} {f : Addr} {fd : FuncData} (T : Tx K mg) 
    (F : FunD K "__init__" "Letter.__init__" (defArgs s_Letter___init) (defBody s_Letter___init) (defScope s_Letter___init) [] [("code", (V.non)), ("offer", (V.non)), ("stay", (V.non)), ("goal", (V.non))] f fd) : FnOk P w K mg base CX0 1 f fd ["self", "verb", "call", "origin", "origin_tag", "target", "target_tag", "seq", "way", "code", "offer", "stay", "goal"] (spLetInit K) := by
  refine F.ok sc_Letter___init (fun vs H Q E h => ?_) (fun cdv A outer s H vs Q E hr h => ?_)
  · obtain ⟨p, dx, L, rfl, _⟩ := h
    rfl
  · obtain ⟨p, dx, L, rfl, hp, k⟩ := h
    refine ⟨_, PSs.nox (pss_cons (ps_fldC rfl T.cl_Letter T.na_Letter_verb (pv 0) (pv 1) rfl) (pss_cons (ps_fldC rfl T.cl_Letter T.na_Letter_code (pv 0) (pv 9) rfl) (pss_cons (ps_fldC rfl T.cl_Letter T.na_Letter_call (pv 0) (pv 2) rfl) (pss_cons (ps_fldC rfl T.cl_Letter T.na_Letter_origin (pv 0) (pv 3) rfl) (pss_cons (ps_fldC rfl T.cl_Letter T.na_Letter_origin_tag (pv 0) (pv 4) rfl) (pss_cons (ps_fldC rfl T.cl_Letter T.na_Letter_target (pv 0) (pv 5) rfl) (pss_cons (ps_fldC rfl T.cl_Letter T.na_Letter_target_tag (pv 0) (pv 6) rfl) (pss_cons (ps_fldC rfl T.cl_Letter T.na_Letter_seq (pv 0) (pv 7) rfl) (pss_cons (ps_fldC rfl T.cl_Letter T.na_Letter_way (pv 0) (pv 8) rfl) (pss_cons (ps_fldC rfl T.cl_Letter T.na_Letter_offer (pv 0) (pv 10) rfl) (pss_cons (ps_fldC rfl T.cl_Letter T.na_Letter_stay (pv 0) (pv 11) rfl) (pss_one (ps_fldC rfl T.cl_Letter T.na_Letter_goal (pv 0) (pv 12) rfl))))))))))))), ?_⟩
    refine ⟨_, rfl, _, rfl, p, dx, _, rfl, hp, sm, ?_⟩
    refine ⟨_, rfl, _, rfl, p, dx, _, rfl, upd_same, sm, ?_⟩
    refine ⟨_, rfl, _, rfl, p, dx, _, rfl, upd_same, sm, ?_⟩
    refine ⟨_, rfl, _, rfl, p, dx, _, rfl, upd_same, sm, ?_⟩
    refine ⟨_, rfl, _, rfl, p, dx, _, rfl, upd_same, sm, ?_⟩
    refine ⟨_, rfl, _, rfl, p, dx, _, rfl, upd_same, sm, ?_⟩
    refine ⟨_, rfl, _, rfl, p, dx, _, rfl, upd_same, sm, ?_⟩
    refine ⟨_, rfl, _, rfl, p, dx, _, rfl, upd_same, sm, ?_⟩
    refine ⟨_, rfl, _, rfl, p, dx, _, rfl, upd_same, sm, ?_⟩
    refine ⟨_, rfl, _, rfl, p, dx, _, rfl, upd_same, sm, ?_⟩
    refine ⟨_, rfl, _, rfl, p, dx, _, rfl, upd_same, sm, ?_⟩
    refine ⟨_, rfl, _, rfl, p, dx, _, rfl, upd_same, sm, ?_⟩
    simp only [upd_upd]
    exact k
def Ltr.partsV (L : Ltr) : List V := [.str L.verb, L.code, .str L.call, .str L.origin, .str L.otag, .str L.target, .str L.ttag, .int L.seq, .str L.way, L.offer, L.stay, L.goal]
def spParts (K : PySem.W.Frag) : Sp := fun vs H Q _ => ∃ (a : Addr) (L : Ltr), vs = [.ref a] ∧ LetAt K H a L ∧ ∀ t, H t = none → Q (.ref t) (upd H t (.tup L.partsV))
theorem ok_Letter_parts {P : Program} {w : World} {K : PySem.W.Frag} {mg : Str → Option Value} {base : Heap} {f : Addr} {fd : FuncData} (T : Tx K mg) 
    (F : FunD K "parts" "Letter.parts" (defArgs s_Letter_parts) (defBody s_Letter_parts) (defScope s_Letter_parts) [] [] f fd) : FnOk P w K mg base CX0 1 f fd ["self"] (spParts K) := by
  refine F.ok sc_Letter_parts (fun vs H Q E h => ?_) (fun cdv A outer s H vs Q E hr h => ?_)
  · obtain ⟨p, L, rfl, _⟩ := h
    rfl
  · obtain ⟨p, L, rfl, ⟨dx, hp⟩, k⟩ := h
    refine ⟨_, PSs.nox (pss_one (ps_ret (pe_tup (pa_cons (pe_fldC rfl T.cl_Letter T.na_Letter_verb (pv 0) rfl) (pa_cons (pe_fldC rfl T.cl_Letter T.na_Letter_code (pv 0) rfl) (pa_cons (pe_fldC rfl T.cl_Letter T.na_Letter_call (pv 0) rfl) (pa_cons (pe_fldC rfl T.cl_Letter T.na_Letter_origin (pv 0) rfl) (pa_cons (pe_fldC rfl T.cl_Letter T.na_Letter_origin_tag (pv 0) rfl) (pa_cons (pe_fldC rfl T.cl_Letter T.na_Letter_target (pv 0) rfl) (pa_cons (pe_fldC rfl T.cl_Letter T.na_Letter_target_tag (pv 0) rfl) (pa_cons (pe_fldC rfl T.cl_Letter T.na_Letter_seq (pv 0) rfl) (pa_cons (pe_fldC rfl T.cl_Letter T.na_Letter_way (pv 0) rfl) (pa_cons (pe_fldC rfl T.cl_Letter T.na_Letter_offer (pv 0) rfl) (pa_cons (pe_fldC rfl T.cl_Letter T.na_Letter_stay (pv 0) rfl) (pa_cons (pe_fldC rfl T.cl_Letter T.na_Letter_goal (pv 0) rfl) pa_nil))))))))))))))), ?_⟩
    refine ⟨_, rfl, p, dx, _, _, rfl, hp, rfl, _, rfl, p, dx, _, _, rfl, hp, rfl, _, rfl, p, dx, _, _, rfl, hp, rfl, _, rfl, p, dx, _, _, rfl, hp, rfl, _, rfl, p, dx, _, _, rfl, hp, rfl, _, rfl, p, dx, _, _, rfl, hp, rfl, ?_⟩
    refine ⟨_, rfl, p, dx, _, _, rfl, hp, rfl, _, rfl, p, dx, _, _, rfl, hp, rfl, _, rfl, p, dx, _, _, rfl, hp, rfl, _, rfl, p, dx, _, _, rfl, hp, rfl, _, rfl, p, dx, _, _, rfl, hp, rfl, _, rfl, p, dx, _, _, rfl, hp, rfl, ?_⟩
    exact ⟨by show 12 ≤ sizeLine; decide, k⟩
def Ltr.reply (L : Ltr) (code : V) (tag : Str) (offer stay : V) : Ltr := ⟨L.verb, L.call, L.origin, L.otag, L.target, tag, L.seq, L.way, code, offer, stay, .non⟩
def spLReply (K : PySem.W.Frag) : Sp := fun vs H Q _ => ∃ (a : Addr) (L : Ltr) (code : V) (tag : Str) (offer stay : V), vs = [.ref a, code, .str tag, offer, stay] ∧ LetAt K H a L ∧ ∀ b H', Same H H' → H b = none → LetAt K H' b (L.reply code tag offer stay) → Q (.ref b) H'
theorem ok_Letter_reply {P : Program} {w : World} {K : PySem.W.Frag} {mg : Str → Option Value} {base : Heap} {f : Addr} {fd : FuncData} (T : Tx K mg) (c_mk_Letter_b : MakK P w K mg base 1 "Letter" (He.ga K "Letter") (spLetInit K) 0 ["verb", "code", "call", "origin", "origin_tag", "target", "target_tag", "seq", "way", "offer", "stay"] (fun vs zs => vs ++ ((((zs.drop 0).take 1) ++ (((zs.drop 2).take 7) ++ (((zs.drop 1).take 1) ++ (((zs.drop 9).take 2) ++ ((([(V.non)] : List V).drop 0).take 1))))))))
    (F : FunD K "reply" "Letter.reply" (defArgs s_Letter_reply) (defBody s_Letter_reply) (defScope s_Letter_reply) [(V.non), (V.non)] [] f fd) : FnOk P w K mg base CX0 3 f fd ["self", "code", "tag", "offer", "stay"] (spLReply K) := by
  refine F.ok sc_Letter_reply (fun vs H Q E h => ?_) (fun cdv A outer s H vs Q E hr h => ?_)
  · obtain ⟨p, L, code, tag, offer, stay, rfl, _⟩ := h
    rfl
  · obtain ⟨p, L, code, tag, offer, stay, rfl, ⟨dx, hp⟩, k⟩ := h
    refine ⟨_, PSs.nox (pss_one (ps_ret (pe_mkK0 c_mk_Letter_b hr (by decide) rfl (pk_cons (pe_fldC rfl T.cl_Letter T.na_Letter_verb (pv 0) rfl) (pk_cons (pv 1) (pk_cons (pe_fldC rfl T.cl_Letter T.na_Letter_call (pv 0) rfl) (pk_cons (pe_fldC rfl T.cl_Letter T.na_Letter_origin (pv 0) rfl) (pk_cons (pe_fldC rfl T.cl_Letter T.na_Letter_origin_tag (pv 0) rfl) (pk_cons (pe_fldC rfl T.cl_Letter T.na_Letter_target (pv 0) rfl) (pk_cons (pv 2) (pk_cons (pe_fldC rfl T.cl_Letter T.na_Letter_seq (pv 0) rfl) (pk_cons (pe_fldC rfl T.cl_Letter T.na_Letter_way (pv 0) rfl) (pk_cons (pv 3) (pk_cons (pv 4) pk_nil)))))))))))))), ?_⟩
    refine ⟨_, rfl, p, dx, _, _, rfl, hp, rfl, _, rfl, _, rfl, p, dx, _, _, rfl, hp, rfl, _, rfl, p, dx, _, _, rfl, hp, rfl, _, rfl, p, dx, _, _, rfl, hp, rfl, _, rfl, p, dx, _, _, rfl, hp, rfl, _, rfl, _, rfl, p, dx, _, _, rfl, hp, rfl, _, rfl, p, dx, _, _, rfl, hp, rfl, _, rfl, _, rfl, rfl, rfl, ?_⟩
    intro x dy hx hdy hne
    refine ⟨x, dy, L.reply code tag offer stay, rfl, upd_same, rfl, ?_⟩
    rw [upd_upd]
    exact k x _ (same_own hx hdy) hx ⟨dy, upd_same⟩

end K4
set_option maxHeartbeats 4000000
namespace K4
open PySem PySem.Spec PyProof.Rows L2 SX TK TKS
open C8 (pe_c)
/-! ### the text of a letter without offer, stay and goal -/
theorem emp_len : Str.empty.length = 0 := rfl
theorem k_request : ("request " : Str).length = 8 := by decide +kernel
theorem k_reply : ("reply " : Str).length = 6 := by decide +kernel
theorem k_blank : (" " : Str).length = 1 := by decide +kernel
theorem k_call : ("call " : Str).length = 5 := by decide +kernel
theorem k_from : ("from " : Str).length = 5 := by decide +kernel
theorem k_to : ("to " : Str).length = 3 := by decide +kernel
theorem k_seq : ("seq " : Str).length = 4 := by decide +kernel
theorem k_way : ("way " : Str).length = 4 := by decide +kernel
theorem k_nl : ("\n" : Str).length = 1 := by decide +kernel
def TxOk (z : Str) : Prop := PyData.strOk z = true
structure LOk (L : Ltr) : Prop where
  oks : TxOk L.verb ∧ TxOk L.call ∧ TxOk L.origin ∧ TxOk L.otag ∧ TxOk L.target ∧ TxOk L.ttag ∧ TxOk L.way
  seq0 : 0 ≤ L.seq
  verb : L.verb.length ≤ 1000
  call : L.call.length ≤ 1000
  origin : L.origin.length ≤ 1000
  otag : L.otag.length ≤ 1000
  target : L.target.length ≤ 1000
  ttag : L.ttag.length ≤ 1000
  seq : L.seq.natAbs < 1000000000
  way : L.way.length ≤ 1000
  code : L.code = .non ∨ ∃ c : Int, L.code = .int c ∧ 0 ≤ c ∧ c.natAbs < 1000000000
def headS (L : Ltr) : Str := match L.code with
  | .int c => Str.empty ++ "reply " ++ numS c ++ " " ++ L.verb
  | _ => Str.empty ++ "request " ++ L.verb
theorem headS_len {L : Ltr} (g : LOk L) : (headS L).length ≤ 2000 := by
  have := g.verb
  rcases g.code with e | ⟨c, e, hc0, hc⟩
  · have q : headS L = Str.empty ++ "request " ++ L.verb := by unfold headS; rw [e]
    rw [q, cat_len, cat_len, emp_len, k_request]
    omega
  · have q : headS L = Str.empty ++ "reply " ++ numS c ++ " " ++ L.verb := by unfold headS; rw [e]
    have := numS_len hc
    rw [q, cat_len, cat_len, cat_len, cat_len, emp_len, k_reply, k_blank]
    omega
def spHead (K : PySem.W.Frag) : Sp := fun vs H Q _ => ∃ (a : Addr) (L : Ltr), vs = [.ref a] ∧ LetAt K H a L ∧ LOk L ∧ Q (.str (headS L)) H
theorem ok_write_head {P : Program} {w : World} {K : PySem.W.Frag} {mg : Str → Option Value} {base : Heap} {f : Addr} {fd : FuncData} (T : Tx K mg) 
    (F : FunD K "_write_head" "_write_head" (defArgs s_write_head) (defBody s_write_head) (defScope s_write_head) [] [] f fd) : FnOk P w K mg base CX0 1 f fd ["letter"] (spHead K) := by
  refine F.ok sc_write_head (fun vs H Q E h => ?_) (fun cdv A outer s H vs Q E hr h => ?_)
  · obtain ⟨a, L, rfl, _⟩ := h
    rfl
  · obtain ⟨a, L, rfl, ⟨dx, hp⟩, g, k⟩ := h
    have g1 := g.verb
    refine ⟨_, PSs.nox (C8.pss_cut (ps_if (pt_cmpR op_isN (pe_fldC rfl T.cl_Letter T.na_Letter_code (pv 0) rfl) pe_non (nomark _)) (pss_one (ps_ret (pe_joined (PJ.cons pe_str (PJ.cons (pe_fmt (pe_fldC rfl T.cl_Letter T.na_Letter_verb (pv 0) rfl)) PJ.nil))))) pss_nil) (pss_one (ps_ret (pe_joined (PJ.cons pe_str (PJ.cons (pe_fmt (pe_fldC rfl T.cl_Letter T.na_Letter_code (pv 0) rfl)) (PJ.cons pe_str (PJ.cons (pe_fmt (pe_fldC rfl T.cl_Letter T.na_Letter_verb (pv 0) rfl)) PJ.nil)))))))), ?_⟩
    rcases g.code with e | ⟨c, e, hc0, hc⟩
    · have q : headS L = Str.empty ++ "request " ++ L.verb := by unfold headS; rw [e]
      rw [q] at k
      refine ⟨fun _ _ => False, ?_, fun _ _ z => z.elim⟩
      refine ⟨_, rfl, a, dx, _, _, rfl, hp, rfl, rfl, _, rfl, ?_⟩
      rw [e]
      refine iteT ⟨_, rfl, szl (by rw [cat_len, emp_len, k_request]; omega), _, rfl, a, dx, _, _, rfl, hp, rfl, .inl ⟨_, rfl, szl (by omega), _, rfl, szl (by rw [cat_len, cat_len, emp_len, k_request]; omega), k⟩⟩
    · have q : headS L = Str.empty ++ "reply " ++ numS c ++ " " ++ L.verb := by unfold headS; rw [e]
      have := numS_len hc
      rw [q] at k
      refine ⟨fun σ' H' => σ' = [some (.ref a)] ∧ H' = H, ?_, ?_⟩
      · refine ⟨_, rfl, a, dx, _, _, rfl, hp, rfl, rfl, _, rfl, ?_⟩
        rw [e]
        exact iteF ⟨rfl, rfl⟩
      · rintro σ' H' ⟨rfl, rfl⟩
        refine ⟨_, rfl, szl (by rw [cat_len, emp_len, k_reply]; omega), _, rfl, a, dx, _, _, rfl, hp, rfl, .inr ⟨c, e, numS_log hc, ?_⟩⟩
        refine ⟨_, rfl, szl (by show (_ ++ _ ++ numS c).length ≤ _; rw [cat_len, cat_len, emp_len, k_reply]; omega), ?_⟩
        refine ⟨_, rfl, szl (by show (_ ++ _ ++ numS c ++ _).length ≤ _; rw [cat_len, cat_len, cat_len, emp_len, k_reply, k_blank]; omega), ?_⟩
        exact ⟨_, rfl, a, dx, _, _, rfl, hp, rfl, .inl ⟨_, rfl, szl (by omega), _, rfl, szl (by show (_ ++ _ ++ numS c ++ _ ++ _).length ≤ _; rw [cat_len, cat_len, cat_len, cat_len, emp_len, k_reply, k_blank]; omega), k⟩⟩
def toS (L : Ltr) : Str := if ((L.ttag.length : Int) != 0) = true then Str.empty ++ "to " ++ L.target ++ " " ++ L.ttag else Str.empty ++ "to " ++ L.target
def linesS (L : Ltr) : List Str := [headS L, Str.empty ++ "call " ++ L.call, Str.empty ++ "from " ++ L.origin ++ " " ++ L.otag, toS L, Str.empty ++ "seq " ++ numS L.seq, Str.empty ++ "way " ++ L.way]
def textOf (l : List Str) : Str := Txt.join "" (l.map fun z => z ++ "\n")
theorem toS_len {L : Ltr} (g : LOk L) : (toS L).length ≤ 3000 := by
  have := g.target
  have := g.ttag
  unfold toS
  split
  · rw [cat_len, cat_len, cat_len, cat_len, emp_len, k_to, k_blank]
    omega
  · rw [cat_len, cat_len, emp_len, k_to]
    omega
theorem linesS_len {L : Ltr} (g : LOk L) : ∀ z ∈ linesS L, z.length ≤ 3000 := by
  intro z hz
  have := g.call
  have := g.origin
  have := g.otag
  have := g.way
  have := numS_len g.seq
  simp only [linesS, List.mem_cons, List.not_mem_nil, or_false] at hz
  rcases hz with rfl | rfl | rfl | rfl | rfl | rfl
  · exact Nat.le_trans (headS_len g) (by decide)
  · rw [cat_len, cat_len, emp_len, k_call]; omega
  · rw [cat_len, cat_len, cat_len, cat_len, emp_len, k_from, k_blank]; omega
  · exact toS_len g
  · rw [cat_len, cat_len, emp_len, k_seq]; omega
  · rw [cat_len, cat_len, emp_len, k_way]; omega
theorem textOf_fits {l : List Str} (h : ∀ z ∈ l, z.length ≤ 3000) (hn : l.length ≤ 100) : ((l.map fun z => z ++ ("\n" : Str)).map (·.length)).sum + (l.map fun z => z ++ ("\n" : Str)).length * ("" : Str).length ≤ 1000000 := by
  have e0 : ("" : Str).length = 0 := rfl
  rw [e0, Nat.mul_zero, Nat.add_zero]
  refine Nat.le_trans (sum_le (m := 3001) fun z hz => ?_) ?_
  · obtain ⟨y, hy, rfl⟩ := List.mem_map.mp hz
    rw [cat_len, k_nl]
    exact Nat.succ_le_succ (h y hy)
  · rw [List.length_map]
    omega
theorem linesS_ok {L : Ltr} (g : LOk L) : ∀ z ∈ linesS L, PyData.strOk z = true := by
  obtain ⟨h1, h2, h3, h4, h5, h6, h7⟩ := g.oks
  have q : PyData.strOk Str.empty = true := by decide +kernel
  have e1 := ok_num g.seq0
  intro z hz
  simp only [linesS, List.mem_cons, List.not_mem_nil, or_false] at hz
  rcases hz with rfl | rfl | rfl | rfl | rfl | rfl
  · rcases g.code with e | ⟨c, e, hc0, hc⟩
    · have e2 : headS L = Str.empty ++ "request " ++ L.verb := by unfold headS; rw [e]
      rw [e2]
      exact ok_cat (ok_cat q (by decide +kernel)) h1
    · have e2 : headS L = Str.empty ++ "reply " ++ numS c ++ " " ++ L.verb := by unfold headS; rw [e]
      rw [e2]
      exact ok_cat (ok_cat (ok_cat (ok_cat q (by decide +kernel)) (ok_num hc0)) (by decide +kernel)) h1
  · exact ok_cat (ok_cat q (by decide +kernel)) h2
  · exact ok_cat (ok_cat (ok_cat (ok_cat q (by decide +kernel)) h3) (by decide +kernel)) h4
  · unfold toS
    split
    · exact ok_cat (ok_cat (ok_cat (ok_cat q (by decide +kernel)) h5) (by decide +kernel)) h6
    · exact ok_cat (ok_cat q (by decide +kernel)) h5
  · exact ok_cat (ok_cat q (by decide +kernel)) e1
  · exact ok_cat (ok_cat q (by decide +kernel)) h7
theorem textOf_ok {l : List Str} (h : ∀ z ∈ l, PyData.strOk z = true) : PyData.strOk (textOf l) = true :=
  ok_join (by decide +kernel) fun z hz => by
    obtain ⟨y, hy, rfl⟩ := List.mem_map.mp hz
    exact ok_cat (h y hy) (by decide +kernel)

/-! ### the text of any letter -/
theorem k_offer : ("offer " : Str).length = 6 := by decide +kernel
theorem k_stay : ("stay " : Str).length = 5 := by decide +kernel
theorem k_goal : ("goal " : Str).length = 5 := by decide +kernel
def offL : Option Off → List Str
  | none => []
  | some o => [Str.empty ++ "offer " ++ wordsS o]
def stayL : V → List Str
  | .int n => [Str.empty ++ "stay " ++ numS n]
  | _ => []
def goalL : V → List Str
  | .str z => [Str.empty ++ "goal " ++ z]
  | _ => []
def linesX (L : Ltr) (o : Option Off) : List Str := linesS L ++ offL o ++ stayL L.stay ++ goalL L.goal
structure XOk (L : Ltr) (o : Option Off) : Prop where
  off : ∀ u, o = some u → OffOk u
  offT : ∀ u, o = some u → TxOk (wordsS u)
  stay : L.stay = .non ∨ ∃ c : Int, L.stay = .int c ∧ 0 ≤ c ∧ c.natAbs < 1000000000
  goal : L.goal = .non ∨ ∃ z : Str, L.goal = .str z ∧ TxOk z ∧ z.length ≤ 1000
theorem wordsS_len {o : Off} (ok : OffOk o) : (wordsS o).length ≤ 130 := by
  obtain ⟨j1, j2⟩ := ok.join
  obtain ⟨t1, t2⟩ := ok.str
  have lm := ok.m
  have b := join_len " " [Str.ofString (toString o.port), o.mode, Txt.join "," o.fs]
  rw [blank_len] at b
  unfold wordsS
  refine Nat.le_trans b ?_
  show (Str.ofString (toString o.port)).length + (o.mode.length + ((Txt.join "," o.fs).length + 0)) + 3 * 1 ≤ 130
  omega
theorem linesX_n (L : Ltr) (o : Option Off) : (linesX L o).length ≤ 9 := by
  unfold linesX
  rw [List.length_append, List.length_append, List.length_append]
  have : (offL o).length ≤ 1 := by cases o <;> simp [offL]
  have : (stayL L.stay).length ≤ 1 := by unfold stayL; split <;> simp
  have : (goalL L.goal).length ≤ 1 := by unfold goalL; split <;> simp
  show 6 + _ + _ + _ ≤ 9
  omega
theorem linesX_len {L : Ltr} {o : Option Off} (g : LOk L) (xk : XOk L o) : ∀ z ∈ linesX L o, z.length ≤ 3000 := by
  intro z hz
  unfold linesX at hz
  rw [List.mem_append, List.mem_append, List.mem_append] at hz
  rcases hz with ((hz | hz) | hz) | hz
  · exact linesS_len g z hz
  · cases o with
    | none => cases hz
    | some o =>
      have := wordsS_len (xk.off o rfl)
      rw [List.mem_singleton.mp hz, cat_len, cat_len, emp_len, k_offer]
      omega
  · rcases xk.stay with e | ⟨c, e, hc0, hc⟩
    · rw [e] at hz
      cases hz
    · have := numS_len hc
      rw [e] at hz
      rw [List.mem_singleton.mp hz, cat_len, cat_len, emp_len, k_stay]
      omega
  · rcases xk.goal with e | ⟨y, e, hz0, hy⟩
    · rw [e] at hz
      cases hz
    · rw [e] at hz
      rw [List.mem_singleton.mp hz, cat_len, cat_len, emp_len, k_goal]
      omega
theorem linesX_ok {L : Ltr} {o : Option Off} (g : LOk L) (xk : XOk L o) : ∀ z ∈ linesX L o, PyData.strOk z = true := by
  have q : PyData.strOk Str.empty = true := by decide +kernel
  intro z hz
  unfold linesX at hz
  rw [List.mem_append, List.mem_append, List.mem_append] at hz
  rcases hz with ((hz | hz) | hz) | hz
  · exact linesS_ok g z hz
  · cases o with
    | none => cases hz
    | some o =>
      rw [List.mem_singleton.mp hz]
      exact ok_cat (ok_cat q (by decide +kernel)) (xk.offT o rfl)
  · rcases xk.stay with e | ⟨c, e, hc0, hc⟩
    · rw [e] at hz
      cases hz
    · rw [e] at hz
      rw [List.mem_singleton.mp hz]
      exact ok_cat (ok_cat q (by decide +kernel)) (ok_num hc0)
  · rcases xk.goal with e | ⟨y, e, hz0, hy⟩
    · rw [e] at hz
      cases hz
    · rw [e] at hz
      rw [List.mem_singleton.mp hz]
      exact ok_cat (ok_cat q (by decide +kernel)) hz0
def spWrite1 (K : PySem.W.Frag) : Sp := fun vs H Q _ => ∃ (a : Addr) (L : Ltr), vs = [.ref a] ∧ LetAt K H a L ∧ LOk L ∧ (∃ o, OffO H L.offer o ∧ XOk L o ∧ ∀ H', Same H H' → Q (.str (textOf (linesX L o))) H')
theorem ok_write {P : Program} {w : World} {K : PySem.W.Frag} {mg : Str → Option Value} {base : Heap} {f : Addr} {fd : FuncData} (T : Tx K mg) (c_write_head : C8.Cal P w K mg base 1 "_write_head" (spHead K) []) (c_write_offer : C8.Cal P w K mg base 1 "write_offer" spWrite [])
    (F : FunD K "write" "write" (defArgs s_write) (defBody s_write) (defScope s_write) [] [] f fd) : FnOk P w K mg base CX0 2 f fd ["letter"] (spWrite1 K) := by
  refine F.ok sc_write (fun vs H Q E h => ?_) (fun cdv A outer s H vs Q E hr h => ?_)
  · obtain ⟨a, L, rfl, _⟩ := h
    rfl
  · obtain ⟨a, L, rfl, hl, g, o, ho, xk, k⟩ := h
    obtain ⟨dx, hp⟩ := id hl
    have g1 := g.call
    have g2 := g.origin
    have g3 := g.otag
    have g4 := g.target
    have g5 := g.ttag
    have g6 := g.way
    have g7 := numS_len g.seq
    refine ⟨_, PSs.nox (pss_cons (ps_set (i := 1) sc_write.nd rfl (Or.inl rfl) (pe_lst (pa_cons (pe_c c_write_head hr (by decide) rfl (pa_cons (pv 0) pa_nil)) (pa_cons (pe_joined (PJ.cons pe_str (PJ.cons (pe_fmt (pe_fldC rfl T.cl_Letter T.na_Letter_call (pv 0) rfl)) PJ.nil))) (pa_cons (pe_joined (PJ.cons pe_str (PJ.cons (pe_fmt (pe_fldC rfl T.cl_Letter T.na_Letter_origin (pv 0) rfl)) (PJ.cons pe_str (PJ.cons (pe_fmt (pe_fldC rfl T.cl_Letter T.na_Letter_origin_tag (pv 0) rfl)) PJ.nil))))) pa_nil))))) (pss_cons (ps_expr (pe_bm PySem.F.plainAttrs_list PySem.F.slot_list_append PySem.F.type_list_append mt_append (pv 1) (pa_cons (pe_cut (pe_ifExp (pt_truth (pe_fldC rfl T.cl_Letter T.na_Letter_target_tag (pv 0) rfl) (fun _ => rfl)) (pe_joined (PJ.cons pe_str (PJ.cons (pe_fmt (pe_fldC rfl T.cl_Letter T.na_Letter_target (pv 0) rfl)) (PJ.cons pe_str (PJ.cons (pe_fmt (pe_fldC rfl T.cl_Letter T.na_Letter_target_tag (pv 0) rfl)) PJ.nil))))) (pe_joined (PJ.cons pe_str (PJ.cons (pe_fmt (pe_fldC rfl T.cl_Letter T.na_Letter_target (pv 0) rfl)) PJ.nil))))) pa_nil))) (pss_cons (ps_expr (pe_bm PySem.F.plainAttrs_list PySem.F.slot_list_extend PySem.F.type_list_extend mt_extend (pv 1) (pa_cons (pe_lst (pa_cons (pe_joined (PJ.cons pe_str (PJ.cons (pe_fmt (pe_fldC rfl T.cl_Letter T.na_Letter_seq (pv 0) rfl)) PJ.nil))) (pa_cons (pe_joined (PJ.cons pe_str (PJ.cons (pe_fmt (pe_fldC rfl T.cl_Letter T.na_Letter_way (pv 0) rfl)) PJ.nil))) pa_nil))) pa_nil))) (C8.pss_cut (ps_if (pt_cmpR op_notN (pe_fldC rfl T.cl_Letter T.na_Letter_offer (pv 0) rfl) pe_non (nomark _)) (pss_one (ps_expr (pe_bm PySem.F.plainAttrs_list PySem.F.slot_list_append PySem.F.type_list_append mt_append (pv 1) (pa_cons (pe_joined (PJ.cons pe_str (PJ.cons (pe_fmt (pe_c c_write_offer hr (by decide) rfl (pa_cons (pe_fldC rfl T.cl_Letter T.na_Letter_offer (pv 0) rfl) pa_nil))) PJ.nil))) pa_nil)))) pss_nil) (C8.pss_cut (ps_if (pt_cmpR op_notN (pe_fldC rfl T.cl_Letter T.na_Letter_stay (pv 0) rfl) pe_non (nomark _)) (pss_one (ps_expr (pe_bm PySem.F.plainAttrs_list PySem.F.slot_list_append PySem.F.type_list_append mt_append (pv 1) (pa_cons (pe_joined (PJ.cons pe_str (PJ.cons (pe_fmt (pe_fldC rfl T.cl_Letter T.na_Letter_stay (pv 0) rfl)) PJ.nil))) pa_nil)))) pss_nil) (C8.pss_cut (ps_if (pt_cmpR op_notN (pe_fldC rfl T.cl_Letter T.na_Letter_goal (pv 0) rfl) pe_non (nomark _)) (pss_one (ps_expr (pe_bm PySem.F.plainAttrs_list PySem.F.slot_list_append PySem.F.type_list_append mt_append (pv 1) (pa_cons (pe_joined (PJ.cons pe_str (PJ.cons (pe_fmt (pe_fldC rfl T.cl_Letter T.na_Letter_goal (pv 0) rfl)) PJ.nil))) pa_nil)))) pss_nil) (pss_one (ps_ret (pe_join pe_str (pe_lc (own := [("line", 2)]) (g := gName 2) rfl sc_write.nd (pi_list (pv 1)) (blkOk_by (own := [("line", 2)]) (N := ["letter", "lines", "line"]) (sc := defScope s_write) (by decide +kernel)) (fun _ _ _ _ _ => pg_name (i := 2) sc_write.nd rfl (Or.inl rfl)) (fun _ _ _ _ _ => pts_nil) (fun _ _ _ _ _ => (pe_op op_add_str (pv 2) pe_str)))))))))))), ?_⟩
    refine ⟨_, rfl, a, L, rfl, hl, g, ?_⟩
    refine ⟨_, rfl, szl (by rw [cat_len, emp_len, k_call]; omega), _, rfl, a, dx, _, _, rfl, hp, rfl, .inl ⟨_, rfl, szl (by omega), _, rfl, szl (by rw [cat_len, cat_len, emp_len, k_call]; omega), ?_⟩⟩
    refine ⟨_, rfl, szl (by rw [cat_len, emp_len, k_from]; omega), _, rfl, a, dx, _, _, rfl, hp, rfl, .inl ⟨_, rfl, szl (by omega), _, rfl, szl (by rw [cat_len, cat_len, emp_len, k_from]; omega), ?_⟩⟩
    refine ⟨_, rfl, szl (by rw [cat_len, cat_len, cat_len, emp_len, k_from, k_blank]; omega), _, rfl, a, dx, _, _, rfl, hp, rfl, .inl ⟨_, rfl, szl (by omega), _, rfl, szl (by rw [cat_len, cat_len, cat_len, cat_len, emp_len, k_from, k_blank]; omega), ?_⟩⟩
    refine ⟨by show 3 ≤ sizeLine; decide, fun l hnl => ?_⟩
    have al : a ≠ l := ne_of_none hp hnl
    -- lines.append(to)
    refine ⟨_, rfl, .inl ⟨rfl, _, SqL.of upd_same⟩, fun v H' => v = .str (toS L) ∧ H' = upd H l (.lst [.str (headS L), .str (Str.empty ++ "call " ++ L.call), .str (Str.empty ++ "from " ++ L.origin ++ " " ++ L.otag)]), ?_, ?_⟩
    · have hp1 : ∀ o, (upd H l o) a = some (.ins (He.ga K "Letter") dx L.fl) := fun o => by rw [upd_ne al]; exact hp
      refine ⟨_, rfl, a, dx, _, .str L.ttag, rfl, hp1 _, rfl, _, ⟨szl (by omega), rfl⟩, ?_⟩
      cases e : ((L.ttag.length : Int) != 0) with
      | true =>
        have q : toS L = Str.empty ++ "to " ++ L.target ++ " " ++ L.ttag := by unfold toS; rw [e]; rfl
        rw [q]
        refine iteT ⟨_, rfl, szl (by rw [cat_len, emp_len, k_to]; omega), _, rfl, a, dx, _, _, rfl, hp1 _, rfl, .inl ⟨_, rfl, szl (by omega), _, rfl, szl (by rw [cat_len, cat_len, emp_len, k_to]; omega), ?_⟩⟩
        exact ⟨_, rfl, szl (by rw [cat_len, cat_len, cat_len, emp_len, k_to, k_blank]; omega), _, rfl, a, dx, _, _, rfl, hp1 _, rfl, .inl ⟨_, rfl, szl (by omega), _, rfl, szl (by rw [cat_len, cat_len, cat_len, cat_len, emp_len, k_to, k_blank]; omega), rfl, rfl⟩⟩
      | false =>
        have q : toS L = Str.empty ++ "to " ++ L.target := by unfold toS; rw [e]; rfl
        rw [q]
        exact iteF ⟨_, rfl, szl (by rw [cat_len, emp_len, k_to]; omega), _, rfl, a, dx, _, _, rfl, hp1 _, rfl, .inl ⟨_, rfl, szl (by omega), _, rfl, szl (by rw [cat_len, cat_len, emp_len, k_to]; omega), rfl, rfl⟩⟩
    rintro v H' ⟨rfl, rfl⟩
    refine ⟨l, _, _, rfl, rfl, upd_same, by show 3 < sizeLine; decide, ?_⟩
    rw [upd_upd]
    -- lines.extend([seq, way])
    have hp1 : ∀ o, (upd H l o) a = some (.ins (He.ga K "Letter") dx L.fl) := fun o => by rw [upd_ne al]; exact hp
    refine ⟨_, rfl, .inl ⟨rfl, _, SqL.of upd_same⟩, _, rfl, szl (by rw [cat_len, emp_len, k_seq]; omega), _, rfl, a, dx, _, _, rfl, hp1 _, rfl, .inr ⟨_, rfl, numS_log g.seq, ?_⟩⟩
    refine ⟨_, rfl, szl (by show (_ ++ _ ++ numS L.seq).length ≤ _; rw [cat_len, cat_len, emp_len, k_seq]; omega), ?_⟩
    refine ⟨_, rfl, szl (by rw [cat_len, emp_len, k_way]; omega), _, rfl, a, dx, _, _, rfl, hp1 _, rfl, .inl ⟨_, rfl, szl (by omega), _, rfl, szl (by rw [cat_len, cat_len, emp_len, k_way]; omega), ?_⟩⟩
    refine ⟨by show 2 ≤ sizeLine; decide, fun l2 hn2 => ?_⟩
    have l2l : l ≠ l2 := fun e => by rw [← e, upd_same] at hn2; cases hn2
    have hn20 : H l2 = none := by rw [upd_ne l2l.symm] at hn2; exact hn2
    refine ⟨l, l2, _, _, rfl, rfl, (by rw [upd_ne l2l]; exact upd_same), upd_same, by show 6 ≤ sizeLine; decide, ?_⟩
    have sH : Same H (upd (upd (upd H l (.lst [.str (headS L), .str (Str.empty ++ "call " ++ L.call), .str (Str.empty ++ "from " ++ L.origin ++ " " ++ L.otag), .str (toS L)])) l2 (.lst [.str (Str.empty ++ "seq " ++ numS L.seq), .str (Str.empty ++ "way " ++ L.way)])) l (.lst ((linesS L).map V.str))) := TK.Same.upd_of ((same_upd hnl).trans (same_upd hn2)) hnl
    -- the offer, the stay, the goal
    have app : ∀ {H1 : Hp} {l1 : List Str} {z : Str}, H1 l = some (.lst (l1.map V.str)) → upd H1 l (.lst (l1.map V.str ++ [.str z])) = upd H1 l (.lst ((l1 ++ [z]).map V.str)) := fun _ => by rw [List.map_append]; rfl
    refine ⟨fun σ' H' => σ' = [some (.ref a), some (.ref l), none] ∧ Same H H' ∧ H' l = some (.lst ((linesS L ++ offL o).map V.str)), ?_, ?_⟩
    · refine ⟨_, rfl, a, dx, _, _, rfl, sH _ _ hp, rfl, rfl, _, rfl, ?_⟩
      rw [ho.none_iff]
      cases o with
      | none =>
        refine iteF ⟨rfl, sH, ?_⟩
        rw [show offL none = [] from rfl, List.append_nil]
        exact upd_same
      | some o =>
        have ok := xk.off o rfl
        have wl := wordsS_len ok
        refine iteT ⟨_, rfl, .inl ⟨rfl, _, SqL.of upd_same⟩, _, rfl, szl (by rw [cat_len, emp_len, k_offer]; omega), ?_⟩
        refine ⟨_, rfl, a, dx, _, _, rfl, sH _ _ hp, rfl, _, o, rfl, ho.same sH, ok, fun H2 s2 => .inl ⟨_, rfl, szl (by omega), _, rfl, szl (by rw [cat_len, cat_len, emp_len, k_offer]; omega), ?_⟩⟩
        have h2 := s2 _ _ (show (upd _ l _) l = some (.lst ((linesS L).map V.str)) from upd_same)
        refine ⟨l, _, _, rfl, rfl, h2, by show 6 < sizeLine; decide, ?_⟩
        refine ⟨rfl, TK.Same.upd_of (sH.trans s2) hnl, ?_⟩
        rw [upd_same, List.map_append]
        rfl
    rintro σ' H1 ⟨rfl, sH, hl1⟩
    have n1 : (linesS L ++ offL o).length ≤ 7 := by
      rw [List.length_append]
      have : (offL o).length ≤ 1 := by cases o <;> simp [offL]
      show 6 + _ ≤ 7
      omega
    have zl1 := linesX_len (L := L) (o := o) g xk
    unfold linesX at zl1
    refine ⟨fun σ' H' => σ' = [some (.ref a), some (.ref l), none] ∧ Same H H' ∧ H' l = some (.lst ((linesS L ++ offL o ++ stayL L.stay).map V.str)), ?_, ?_⟩
    · refine ⟨_, rfl, a, dx, _, _, rfl, sH _ _ hp, rfl, rfl, _, rfl, ?_⟩
      rcases xk.stay with e | ⟨c, e, hc0, hc⟩
      · rw [e]
        refine iteF ⟨rfl, sH, ?_⟩
        rw [show stayL V.non = [] from rfl, List.append_nil]
        exact hl1
      · have := numS_len hc
        rw [e]
        refine iteT ⟨_, rfl, .inl ⟨rfl, _, SqL.of hl1⟩, _, rfl, szl (by rw [cat_len, emp_len, k_stay]; omega), ?_⟩
        refine ⟨_, rfl, a, dx, _, _, rfl, sH _ _ hp, rfl, .inr ⟨c, e, numS_log hc, ?_⟩⟩
        refine ⟨_, rfl, szl (by show (_ ++ _ ++ numS c).length ≤ _; rw [cat_len, cat_len, emp_len, k_stay]; omega), ?_⟩
        refine ⟨l, _, _, rfl, rfl, hl1, by rw [List.length_map]; exact Nat.lt_of_le_of_lt n1 (by decide), ?_⟩
        refine ⟨rfl, TK.Same.upd_of sH hnl, ?_⟩
        rw [upd_same, List.map_append (l₂ := stayL _)]
        rfl
    rintro σ' H2 ⟨rfl, sH, hl1⟩
    have n2 : (linesS L ++ offL o ++ stayL L.stay).length ≤ 8 := by
      rw [List.length_append]
      have : (stayL L.stay).length ≤ 1 := by unfold stayL; split <;> simp
      omega
    refine ⟨fun σ' H' => σ' = [some (.ref a), some (.ref l), none] ∧ Same H H' ∧ H' l = some (.lst ((linesX L o).map V.str)), ?_, ?_⟩
    · refine ⟨_, rfl, a, dx, _, _, rfl, sH _ _ hp, rfl, rfl, _, rfl, ?_⟩
      unfold linesX
      rcases xk.goal with e | ⟨z, e, hz0, hz⟩
      · rw [e]
        refine iteF ⟨rfl, sH, ?_⟩
        rw [show goalL V.non = [] from rfl, List.append_nil]
        exact hl1
      · rw [e]
        refine iteT ⟨_, rfl, .inl ⟨rfl, _, SqL.of hl1⟩, _, rfl, szl (by rw [cat_len, emp_len, k_goal]; omega), ?_⟩
        refine ⟨_, rfl, a, dx, _, _, rfl, sH _ _ hp, rfl, .inl ⟨z, e, szl (by omega), _, rfl, szl (by rw [cat_len, cat_len, emp_len, k_goal]; omega), ?_⟩⟩
        refine ⟨l, _, _, rfl, rfl, hl1, by rw [List.length_map]; exact Nat.lt_of_le_of_lt n2 (by decide), ?_⟩
        refine ⟨rfl, TK.Same.upd_of sH hnl, ?_⟩
        rw [upd_same, List.map_append (l₂ := goalL _)]
        rfl
    rintro σ' H3 ⟨rfl, sH, hl1⟩
    have n3 := linesX_n L o
    -- the join
    refine ⟨⟨_, rfl⟩, _, rfl, l, rfl, ⟨_, SqL.of hl1⟩, fun D hD => ?_⟩
    have hS2 : ∀ u, SqL K (upd H3 D u) l ((linesX L o).map V.str) := fun o => SqL.of ((same_upd hD) _ _ hl1)
    have hfit := textOf_fits (linesX_len g xk) (Nat.le_trans n3 (by decide))
    refine lc_pureN walk_list (fun i => V.str ((linesX L o).getD i "" ++ "\n")) (by rw [List.length_map]; exact Nat.le_trans n3 (by show 9 ≤ sizeLine; decide)) (fun _ _ => hS2 _) (fun i x H4 kk hi y q => ?_) ?_
    · obtain ⟨rfl, hx⟩ := y
      rw [List.length_map] at hi
      rw [List.getElem?_map, List.getElem?_eq_getElem hi] at hx
      obtain rfl := Option.some.inj hx
      refine ⟨rfl, _, rfl, _, _, rfl, rfl, Nat.le_trans (Nat.add_le_add (linesX_len g xk _ (List.getElem_mem hi)) (Nat.le_of_eq k_nl)) (by decide), ?_⟩
      rw [List.getD_eq_getElem?_getD, List.getElem?_eq_getElem hi] at q
      exact q
    · rw [List.length_map, range_map_getD (linesX L o) "" fun z => V.str (z ++ "\n")]
      refine ⟨_, D, (linesX L o).map fun z => z ++ "\n", rfl, rfl, .inl (SqL.of ?_), ?_, ?_⟩
      · rw [List.map_map]
        exact upd_same
      · exact Nat.le_trans hfit (by decide)
      · exact k _ (sH.trans (same_upd hD))

end K4
set_option maxHeartbeats 4000000
namespace K4
open PySem PySem.Spec PyProof.Rows L2 SX TK TKS
open C8 (pe_c)
/-! ### an offer's words, read back -/
theorem numL_zero : ∀ n : Nat, (TL.numL n).getD 0 0 = 48 → n = 0 := by
  intro n
  induction n using Nat.strongRecOn with
  | _ n ih =>
    intro h
    by_cases h1 : n < 10
    · rw [TL.numL_lt h1] at h
      have : 48 + n = 48 := h
      omega
    · have h2 : 10 ≤ n := by omega
      rw [TL.numL_step h2] at h
      have h3 : (TL.numL (n / 10)).getD 0 0 = 48 := by
        cases e : TL.numL (n / 10) with
        | nil => exact absurd e (TL.numL_ne _)
        | cons a r =>
          rw [e] at h
          exact h
      have := ih (n / 10) (by omega) h3
      omega
theorem digits_in : ∀ c, 48 ≤ c → c ≤ 57 → c ∈ TL.tl zDG := by
  intro c h1 h2
  have e : TL.tl zDG = [48, 49, 50, 51, 52, 53, 54, 55, 56, 57] := by decide +kernel
  rw [e]
  simp only [List.mem_cons, List.not_mem_nil, or_false]
  omega
theorem num_back {i m : Int} (h0 : 0 ≤ i) (h1 : i ≤ m) (h2 : i ≤ 999999999) : numV (Str.ofString (toString i)) m = .int i := by
  obtain ⟨n, rfl⟩ := Int.eq_ofNat_of_zero_le h0
  rw [num_S]
  have hl : (TL.numL n).length ≤ 9 := TL.numL_len (by decide) (by omega)
  have hp : 0 < (TL.numL n).length := List.length_pos_iff.mpr (TL.numL_ne n)
  have hd := TL.numL_digits n
  have c1 : consB (S (TL.numL n)) zDG 9 = true := by
    unfold consB consL
    rw [Bool.and_eq_true, Bool.and_eq_true, decide_eq_true_eq, decide_eq_true_eq, List.all_eq_true]
    refine ⟨⟨?_, ?_⟩, fun c hc => decide_eq_true (digits_in c (hd c hc).1 (hd c hc).2)⟩
    · show (1 : Int) ≤ ((TL.numL n).length : Int)
      omega
    · show ((TL.numL n).length : Int) ≤ 9
      omega
  have c2 : (decide (V.str (S [(TL.tl (S (TL.numL n))).getD 0 0]) = V.str "0") && !decide (V.str (S (TL.numL n)) = V.str "0")) = false := by
    by_cases e : (TL.numL n).getD 0 0 = 48
    · have e0 := numL_zero n e
      subst e0
      decide +kernel
    · have e1 : decide (V.str (S [(TL.tl (S (TL.numL n))).getD 0 0]) = V.str "0") = false := decide_eq_false fun q => e (by
        have q2 := V.str.inj q
        rw [show ("0" : Str) = S [48] by decide +kernel] at q2
        exact (List.cons.inj (S_inj q2)).1)
      rw [e1]
      rfl
  unfold numV
  rw [if_pos c1, if_neg (by rw [c2]; exact Bool.false_ne_true)]
  show (if ((NumText.digitsVal (TL.numL n) : Nat) : Int) ≤ m then V.int (NumText.digitsVal (TL.numL n) : Nat) else .non) = _
  rw [TL.numL_val, if_pos h1]
theorem modes_plain : ∀ z ∈ modesL, 32 ∉ TL.tl z := by decide +kernel
theorem joinL_free {c : Nat} {s : List Nat} (hs : c ∉ s) : ∀ l : List (List Nat), (∀ p ∈ l, c ∉ p) → c ∉ TL.joinL s l
  | [], _ => by simp [TL.joinL]
  | [p], h => h p (by simp)
  | p :: q :: r, h => by
    show c ∉ p ++ (s ++ TL.joinL s (q :: r))
    rw [List.mem_append, List.mem_append]
    rintro (z | z | z)
    · exact h p (by simp) z
    · exact hs z
    · exact joinL_free hs (q :: r) (fun x hx => h x (List.mem_cons_of_mem _ hx)) z
theorem str_noblank {i : Int} (h0 : 0 ≤ i) : 32 ∉ TL.tl (Str.ofString (toString i)) := by
  obtain ⟨n, rfl⟩ := Int.eq_ofNat_of_zero_le h0
  rw [TL.tl_num]
  exact TL.numL_free (by omega)

/-! ### a text that is read as a number is that number's text -/
theorem numV_int {w : Str} {m i : Int} (h : numV w m = .int i) : numS i = w ∧ 0 ≤ i ∧ i ≤ m := by
  unfold numV at h
  split at h
  · rename_i h1
    split at h
    · cases h
    · rename_i h2
      split at h
      · rename_i h3
        have hl := consB_len h1
        have hd := digits_of hl.2.2
        obtain rfl := V.int.inj h
        refine ⟨?_, Int.natCast_nonneg _, h3⟩
        show Str.ofString (toString (((NumText.digitsVal (TL.tl w) : Nat)) : Int)) = w
        rw [num_S]
        obtain ⟨k, hk⟩ : ∃ k, (TL.tl w).length = k + 1 := ⟨(TL.tl w).length - 1, by omega⟩
        have e := NumText.toDigits_digitsVal k (TL.tl w) hk hd (by
          by_cases k0 : k = 0
          · exact .inl k0
          · right
            cases q : TL.tl w with
            | nil => rw [q] at hk; cases hk
            | cons c r =>
              refine ⟨c, r, rfl, ?_⟩
              have hc := hd c (by rw [q]; exact List.mem_cons_self ..)
              by_cases c48 : c = 48
              · exfalso
                apply h2
                rw [q, c48]
                rw [Bool.and_eq_true]
                refine ⟨decide_eq_true (by rw [show ("0" : Str) = S [48] by decide +kernel]; rfl), ?_⟩
                rw [Bool.not_eq_true', decide_eq_false_iff_not]
                intro z
                have z2 := V.str.inj z
                rw [z2] at hk
                have : (TL.tl ("0" : Str)).length = 1 := by decide +kernel
                omega
              · omega)
        apply TL.ext_tl
        show TL.numL (NumText.digitsVal (TL.tl w)) = TL.tl w
        unfold TL.numL
        rw [e, List.map_map]
        have e2 : ∀ l : List Nat, (∀ c ∈ l, 48 ≤ c ∧ c ≤ 57) → l.map (Char.toNat ∘ Char.ofNat) = l := fun l hl => by
          conv => rhs; rw [← List.map_id l]
          refine List.map_congr_left fun c hc => ?_
          have := hl c hc
          show (Char.ofNat c).toNat = c
          exact (by decide : ∀ c : Fin 58, (Char.ofNat c.1).toNat = c.1) ⟨c, by omega⟩
        exact e2 _ hd
      · cases h
  · cases h

/-! ### dicts of parts -/
theorem mergeK_app : ∀ (more kvs : List (Key × V)), ((kvs ++ more).map (·.1)).Nodup → mergeK kvs more = kvs ++ more
  | [], kvs, _ => by
    rw [List.append_nil]
    rfl
  | kv :: more, kvs, h => by
    have e : mergeK kvs (kv :: more) = mergeK (putK kvs kv.1 kv.2) more := rfl
    have hv : valV kvs kv.1 = none := by
      have h1 := valV_any kv.1 kvs
      have h2 : (kvs.any fun q => decide (q.1 = kv.1)) = false := by
        rw [Bool.eq_false_iff]
        intro z
        obtain ⟨q, hq, e⟩ := List.any_eq_true.mp z
        rw [List.map_append, List.map_cons, List.nodup_append] at h
        exact h.2.2 q.1 (List.mem_map.mpr ⟨q, hq, rfl⟩) kv.1 (List.mem_cons_self ..) (of_decide_eq_true e)
      rw [h2] at h1
      cases q : valV kvs kv.1 with
      | none => rfl
      | some x => rw [q] at h1; cases h1
    rw [e, putK_new _ hv, mergeK_app more _ (by simpa using h)]
    simp
theorem dkOf_keys : ∀ {ks : List Str} {zs : List V}, ks.length = zs.length → (dkOf ks zs).map (·.1) = ks.map Sum.inr
  | [], _, _ => rfl
  | _ :: _, [], h => nomatch h
  | k :: ks, z :: zs, h => by
    show Sum.inr k :: (dkOf ks zs).map (·.1) = _
    rw [dkOf_keys (Nat.succ.inj h)]
    rfl
theorem dkOf_app : ∀ {ks ks' : List Str} {zs zs' : List V}, ks.length = zs.length → dkOf ks zs ++ dkOf ks' zs' = dkOf (ks ++ ks') (zs ++ zs')
  | [], _, [], _, _ => rfl
  | [], _, _ :: _, _, h => nomatch h
  | _ :: _, _, [], _, h => nomatch h
  | k :: ks, _, z :: zs, _, h => congrArg (List.cons (Sum.inr k, z)) (dkOf_app (Nat.succ.inj h))
theorem nd_inr {ks : List Str} (h : ks.Nodup) : (ks.map (Sum.inr : Str → Key)).Nodup := List.Pairwise.map _ (fun _ _ q e => q (Sum.inr.inj e)) h
theorem merge_dk {ks ks' : List Str} {zs zs' : List V} (hl : ks.length = zs.length) (hl' : ks'.length = zs'.length) (nd : (ks ++ ks').Nodup) : mergeK (dkOf ks zs) (dkOf ks' zs') = dkOf (ks ++ ks') (zs ++ zs') := by
  rw [mergeK_app, dkOf_app hl]
  rw [List.map_append, dkOf_keys hl, dkOf_keys hl', ← List.map_append]
  exact nd_inr nd
theorem merge_dk0 {ks : List Str} {zs : List V} (hl : ks.length = zs.length) (nd : ks.Nodup) : mergeK [] (dkOf ks zs) = dkOf ks zs := merge_dk (ks := []) (zs := []) rfl hl nd
/-! ### the head of a letter, read -/
def verbsL : List Str := ["CALL", "KEEP", "STOP", "END", "TURN", "MOVE", "LIVE", "SIGN"]
def codesL : List Int := [18, 20, 41, 43, 44, 45, 46, 48, 50]
theorem verbs_v : ([.str "CALL", .str "KEEP", .str "STOP", .str "END", .str "TURN", .str "MOVE", .str "LIVE", .str "SIGN"] : List V) = verbsL.map V.str := rfl
theorem verbs_len : ∀ z ∈ verbsL, z.length ≤ 16 := by decide +kernel
def headW (v : Str) : Option Int → List Str
  | none => ["request", v]
  | some c => ["reply", numS c, v]
def headK : Option Int → List Str
  | none => ["verb"]
  | some _ => ["verb", "code"]
def headZ (v : Str) : Option Int → List V
  | none => [.str v]
  | some c => [.str v, .int c]
theorem code_num : ∀ c ∈ codesL, numV (numS c) 99 = .int c := fun c hc => by
  have h : 0 ≤ c ∧ c ≤ 99 := (by decide : ∀ c ∈ codesL, 0 ≤ c ∧ c ≤ 99) c hc
  exact num_back h.1 h.2 (by omega)
theorem code_in : ∀ c ∈ codesL, inV (.int c) [.int 18, .int 20, .int 41, .int 43, .int 44, .int 45, .int 46, .int 48, .int 50] = true := by decide
theorem code_int : ∀ c ∈ codesL, PySem.intText? (numS c) = some c := fun c hc => by
  have h : 0 ≤ c ∧ c ≤ 99 := (by decide : ∀ c ∈ codesL, 0 ≤ c ∧ c ≤ 99) c hc
  obtain ⟨n, rfl⟩ := Int.eq_ofNat_of_zero_le h.1
  have e : numS (n : Int) = S (TL.numL n) := num_S _
  rw [e, PySem.intText_digits (x := S (TL.numL n)) (fun c hc => TL.numL_digits n c hc) (TL.numL_ne n) (by
    show (TL.numL n).length ≤ 4300
    have := TL.numL_len (n := n) (k := 9) (by decide) (by omega)
    omega)]
  show some (((NumText.digitsVal (TL.numL n) : Nat) : Int)) = _
  rw [TL.numL_val]
def spHeadR (vs : List V) (H : Hp) (Q : VK) : Prop := ∃ l v c, vs = [.ref l] ∧ H l = some (.lst ((headW v c).map V.str)) ∧ v ∈ verbsL ∧ (∀ n, c = some n → n ∈ codesL) ∧ ∀ d H', Same H H' → H d = none → H' d = some (.dK (dkOf (headK c) (headZ v c))) → Q (.ref d) H'
/-- words that are no head -/
def NoHead (ws : List Str) : Prop := ∀ v c, v ∈ verbsL → (∀ n, c = some n → n ∈ codesL) → ws ≠ headW v c
def spHeadN (vs : List V) (H : Hp) (Q : VK) : Prop := ∃ (l : Addr) (ws : List Str), vs = [.ref l] ∧ H l = some (.lst (ws.map V.str)) ∧ ws ≠ [] ∧ (∀ z ∈ ws, z.length ≤ 1000) ∧ NoHead ws ∧ ∀ H', Same H H' → Q .non H'
def spReadHead : Sp := fun vs H Q _ => spHeadR vs H Q ∨ spHeadN vs H Q
theorem at_last (r : List Str) (w : Str) : atI ((r ++ [w]).map V.str) (-1) = some (.str w) := by
  unfold atI ixN
  have hl : ((r ++ [w]).map V.str).length = r.length + 1 := by simp
  rw [hl, if_neg (by decide), if_pos (by omega)]
  show ((r ++ [w]).map V.str)[((-1 : Int) + ((r.length + 1 : Nat) : Int)).toNat]? = _
  rw [show ((-1 : Int) + ((r.length + 1 : Nat) : Int)).toNat = r.length by omega, List.map_append]
  simp
theorem numV_ni (z : Str) (m : Int) : numV z m = .non ∨ ∃ i, numV z m = .int i := by
  unfold numV
  split
  · split
    · exact .inl rfl
    · split
      · exact .inr ⟨_, rfl⟩
      · exact .inl rfl
  · exact .inl rfl
theorem numV_flat (z : Str) (m : Int) : flatV (numV z m) = true := by
  rcases numV_ni z m with e | ⟨i, e⟩ <;> rw [e] <;> rfl
theorem codes_inv {x : V} (h : inV x [.int 18, .int 20, .int 41, .int 43, .int 44, .int 45, .int 46, .int 48, .int 50] = true) (q : x = .non ∨ ∃ i, x = .int i) : ∃ i, x = .int i ∧ i ∈ codesL := by
  rcases q with rfl | ⟨i, rfl⟩
  · exact absurd h (by decide)
  · refine ⟨i, rfl, ?_⟩
    unfold inV at h
    obtain ⟨y, hy, e⟩ := List.any_eq_true.mp h
    simp only [List.mem_cons, List.not_mem_nil, or_false] at hy
    rcases hy with rfl | rfl | rfl | rfl | rfl | rfl | rfl | rfl | rfl <;> (have e2 := of_decide_eq_true e; cases e2; decide)
theorem ok_read_head {P : Program} {w : World} {K : PySem.W.Frag} {mg : Str → Option Value} {base : Heap} {f : Addr} {fd : FuncData} (T : Tx K mg) (c_read_number : C8.Cal P w K mg base 2 "read_number" spNum [])
    (F : FunD K "_read_head" "_read_head" (defArgs s_read_head) (defBody s_read_head) (defScope s_read_head) [] [] f fd) : FnOk P w K mg base CX0 3 f fd ["words"] spReadHead := by
  refine F.ok sc_read_head (fun vs H Q E h => ?_) (fun cdv A outer s H vs Q E hr h => ?_)
  · rcases h with ⟨l, v, c, rfl, _⟩ | ⟨l, ws, rfl, _⟩ <;> rfl
  rcases h with h | h
  · obtain ⟨l, v, c, rfl, hl, hv, hc, k⟩ := h
    have lv := verbs_len v hv
    have inv : inV (.str v) (verbsL.map V.str) = true := by rw [inV_strs]; exact decide_eq_true hv
    refine ⟨_, PSs.nox (C8.pss_cut (ps_if (pt_cmpR op_notIn_seq (pe_ix ix_list (pv 0) (pe_un un_neg pe_int) (fun _ _ => rfl)) (pgR T.g_VERBS) (by with_unfolding_all rfl)) (pss_one (ps_ret pe_non)) pss_nil) (C8.pss_cut (ps_if (PW.pt (pw_and (pt_cmpR op_eq (pe_callB call_len_seq rfl T.f_len PySem.boot_len (pa_cons (pv 0) pa_nil)) pe_int (nomark _)) (pw_and1 (pt_cmpR op_eq (pe_ix ix_list (pv 0) pe_int (fun _ _ => rfl)) pe_str (nomark _))))) (pss_one (ps_ret (pe_disp (pps_cons pe_str (pe_ix ix_list (pv 0) pe_int (fun _ _ => rfl)) pps_nil) rfl rfl (by simp) (by decide)))) pss_nil) (C8.pss_cut (ps_if (PW.pt (pw_and (pt_cmpR op_eq (pe_callB call_len_seq rfl T.f_len PySem.boot_len (pa_cons (pv 0) pa_nil)) pe_int (nomark _)) (pw_and (pt_cmpR op_eq (pe_ix ix_list (pv 0) pe_int (fun _ _ => rfl)) pe_str (nomark _)) (pw_and1 (pt_cmpR op_in_seq (pe_c c_read_number hr (by decide) rfl (pa_cons (pe_ix ix_list (pv 0) pe_int (fun _ _ => rfl)) (pa_cons (pgI T.g_GREATEST_CODE) pa_nil))) (pgR T.g_CODES) (by with_unfolding_all rfl)))))) (pss_one (ps_ret (pe_disp (pps_cons pe_str (pe_ix ix_list (pv 0) pe_int (fun _ _ => rfl)) (pps_cons pe_str (pe_callTy call_int_str rfl T.f_int (by decide +kernel) (pa_cons (pe_ix ix_list (pv 0) pe_int (fun _ _ => rfl)) pa_nil)) pps_nil)) rfl rfl (by simp) (by decide)))) pss_nil) (pss_one (ps_ret pe_non))))), ?_⟩
    refine ⟨fun σ' H' => σ' = [some (.ref l)] ∧ H' = H, ?_, ?_⟩
    · cases c with
      | none =>
        refine ⟨_, rfl, 1, rfl, l, _, -1, _, rfl, rfl, SqL.of hl, rfl, _, verbsL.map V.str, rfl, .inr (T.v_VERBS H), rfl, flat_strs _, _, rfl, ?_⟩
        rw [inv]
        exact iteF ⟨rfl, rfl⟩
      | some n =>
        refine ⟨_, rfl, 1, rfl, l, _, -1, _, rfl, rfl, SqL.of hl, rfl, _, verbsL.map V.str, rfl, .inr (T.v_VERBS H), rfl, flat_strs _, _, rfl, ?_⟩
        rw [inv]
        exact iteF ⟨rfl, rfl⟩
    rintro σ' H' ⟨rfl, rfl⟩
    cases c with
    | none =>
      refine ⟨fun _ _ => False, ?_, fun _ _ z => z.elim⟩
      refine ⟨_, rfl, l, _, rfl, .inl (SqL.of hl), rfl, _, rfl, iteT ⟨_, rfl, l, _, 0, _, rfl, rfl, SqL.of hl, rfl, rfl, _, rfl, iteT fun p hp => ?_⟩⟩
      refine ⟨_, rfl, l, _, 1, _, rfl, rfl, SqL.of ((same_upd hp) _ _ hl), rfl, upd_same, dkOf ["verb"] [.str v], rfl, by show 1 ≤ 15; decide, ?_⟩
      rw [upd_upd, merge_dk0 rfl (by decide +kernel)]
      exact k p _ (same_upd hp) hp upd_same
    | some n =>
      have hn := hc n rfl
      refine ⟨fun σ' H2 => σ' = [some (.ref l)] ∧ H2 = H', ⟨_, rfl, l, _, rfl, .inl (SqL.of hl), rfl, _, rfl, iteF ⟨rfl, rfl⟩⟩, ?_⟩
      rintro σ' H2 ⟨rfl, rfl⟩
      refine ⟨fun _ _ => False, ?_, fun _ _ z => z.elim⟩
      have zn : (numS n).length ≤ 10 := numS_len (by have : 0 ≤ n ∧ n ≤ 99 := (by decide : ∀ c ∈ codesL, 0 ≤ c ∧ c ≤ 99) n hn; omega)
      refine ⟨_, rfl, l, _, rfl, .inl (SqL.of hl), rfl, _, rfl, iteT ⟨_, rfl, l, _, 0, _, rfl, rfl, SqL.of hl, rfl, rfl, _, rfl, iteT ?_⟩⟩
      refine ⟨_, rfl, l, _, 1, _, rfl, rfl, SqL.of hl, rfl, numS n, 99, rfl, Nat.le_trans zn (by decide), fun H3 s3 => ?_⟩
      rw [code_num n hn]
      refine ⟨_, _, rfl, .inr (T.v_CODES H3), rfl, rfl, _, rfl, ?_⟩
      rw [code_in n hn]
      refine iteT fun p hp => ?_
      have hl3 : ∀ o, (upd H3 p o) l = some (.lst ((["reply", numS n, v] : List Str).map V.str)) := fun o => (same_upd hp) _ _ (s3 _ _ hl)
      have hb := code_int n hn
      refine ⟨_, rfl, l, _, 2, _, rfl, rfl, SqL.of (hl3 _), rfl, _, rfl, l, _, 1, _, rfl, rfl, SqL.of (hl3 _), rfl, numS n, n, rfl, hb, Nat.le_trans zn (by decide), ?_⟩
      refine ⟨upd_same, dkOf ["verb", "code"] [.str v, .int n], rfl, by show 2 ≤ 15; decide, ?_⟩
      rw [upd_upd, merge_dk0 rfl (by decide +kernel)]
      exact k p _ (s3.trans (same_upd hp)) (by
        cases q : H2 p with
        | none => rfl
        | some u =>
          have := s3 _ _ q
          rw [hp] at this
          cases this) upd_same
  · obtain ⟨l, ws, rfl, hl, hne, hz, hno, k⟩ := h
    refine ⟨_, PSs.nox (C8.pss_cut (ps_if (pt_cmpR op_notIn_seq (pe_ix ix_list (pv 0) (pe_un un_neg pe_int) (fun _ _ => rfl)) (pgR T.g_VERBS) (by with_unfolding_all rfl)) (pss_one (ps_ret pe_non)) pss_nil) (C8.pss_cut (ps_if (PW.pt (pw_and (pt_cmpR op_eq (pe_callB call_len_seq rfl T.f_len PySem.boot_len (pa_cons (pv 0) pa_nil)) pe_int (nomark _)) (pw_and1 (pt_cmpR op_eq (pe_ix ix_list (pv 0) pe_int (fun _ _ => rfl)) pe_str (nomark _))))) (pss_one (ps_ret (pe_disp (pps_cons pe_str (pe_ix ix_list (pv 0) pe_int (fun _ _ => rfl)) pps_nil) rfl rfl (by simp) (by decide)))) pss_nil) (C8.pss_cut (ps_if (PW.pt (pw_and (pt_cmpR op_eq (pe_callB call_len_seq rfl T.f_len PySem.boot_len (pa_cons (pv 0) pa_nil)) pe_int (nomark _)) (pw_and (pt_cmpR op_eq (pe_ix ix_list (pv 0) pe_int (fun _ _ => rfl)) pe_str (nomark _)) (pw_and1 (pt_cmpR op_in_seq (pe_c c_read_number hr (by decide) rfl (pa_cons (pe_ix ix_list (pv 0) pe_int (fun _ _ => rfl)) (pa_cons (pgI T.g_GREATEST_CODE) pa_nil))) (pgR T.g_CODES) (by with_unfolding_all rfl)))))) (pss_one (ps_ret (pe_disp (pps_cons pe_str (pe_ix ix_list (pv 0) pe_int (fun _ _ => rfl)) (pps_cons pe_str (pe_callTy call_int_str rfl T.f_int (by decide +kernel) (pa_cons (pe_ix ix_list (pv 0) pe_int (fun _ _ => rfl)) pa_nil)) pps_nil)) rfl rfl (by simp) (by decide)))) pss_nil) (pss_one (ps_ret pe_non))))), ?_⟩
    have ln : ∀ n : Int, decide (V.int ((ws.map V.str).length : Nat) = V.int n) = ((ws.length : Int) == n) := fun n => by rw [List.length_map, dec_int]
    have vs1 : ∀ a b : Str, decide (V.str a = V.str b) = decide (a = b) := fun a b => by
      by_cases h : a = b
      · rw [h, decide_eq_true rfl, decide_eq_true rfl]
      · rw [decide_eq_false h, decide_eq_false fun e => h (V.str.inj e)]
    obtain ⟨r, w, e⟩ : ∃ r w, ws = r ++ [w] := ⟨ws.dropLast, ws.getLast hne, (List.dropLast_concat_getLast hne).symm⟩
    have hat : atI (ws.map V.str) (-1) = some (.str w) := by rw [e]; exact at_last r w
    refine ⟨fun σ' H' => σ' = [some (.ref l)] ∧ H' = H ∧ w ∈ verbsL, ?_, ?_⟩
    · refine ⟨_, rfl, 1, rfl, l, _, -1, _, rfl, rfl, SqL.of hl, hat, _, verbsL.map V.str, rfl, .inr (T.v_VERBS H), rfl, flat_strs _, _, rfl, ?_⟩
      rw [inV_strs]
      by_cases hv : w ∈ verbsL
      · rw [decide_eq_true hv]
        exact iteF ⟨rfl, rfl, hv⟩
      · rw [decide_eq_false hv]
        exact iteT (k _ (Same.refl H))
    rintro σ' H' ⟨rfl, e9, hv⟩
    obtain rfl : H = H' := e9.symm
    refine ⟨fun σ' H' => σ' = [some (.ref l)] ∧ H' = H, ?_, ?_⟩
    · refine ⟨_, rfl, l, _, rfl, .inl (SqL.of hl), rfl, _, rfl, ?_⟩
      rw [ln]
      by_cases h2 : ws.length = 2
      · obtain ⟨a, rfl⟩ : ∃ a, r = [a] := by
          rw [e, List.length_append] at h2
          match r, h2 with
          | [a], _ => exact ⟨a, rfl⟩
        subst e
        refine iteT ⟨_, rfl, l, _, 0, .str a, rfl, rfl, SqL.of hl, rfl, rfl, _, rfl, ?_⟩
        rw [vs1, decide_eq_false fun q => hno w none hv (fun n h => nomatch h) (by rw [q]; rfl)]
        exact iteF ⟨rfl, rfl⟩
      · rw [show ((ws.length : Int) == 2) = false by simp only [beq_eq_false_iff_ne]; omega]
        exact iteF ⟨rfl, rfl⟩
    rintro σ' H' ⟨rfl, e9⟩
    obtain rfl : H = H' := e9.symm
    refine ⟨fun σ' H' => σ' = [some (.ref l)] ∧ Same H H', ?_, ?_⟩
    · refine ⟨_, rfl, l, _, rfl, .inl (SqL.of hl), rfl, _, rfl, ?_⟩
      rw [ln]
      by_cases h3 : ws.length = 3
      · obtain ⟨a, b, rfl⟩ : ∃ a b, r = [a, b] := by
          rw [e, List.length_append] at h3
          match r, h3 with
          | [a, b], _ => exact ⟨a, b, rfl⟩
        subst e
        refine iteT ⟨_, rfl, l, _, 0, .str a, rfl, rfl, SqL.of hl, rfl, rfl, _, rfl, ?_⟩
        rw [vs1]
        by_cases ha : a = "reply"
        · rw [decide_eq_true ha]
          refine iteT ⟨_, rfl, l, _, 1, .str b, rfl, rfl, SqL.of hl, rfl, b, 99, rfl, hz b (by simp), fun H3 s3 => ?_⟩
          refine ⟨_, _, rfl, .inr (T.v_CODES H3), numV_flat _ _, rfl, _, rfl, ?_⟩
          cases q : inV (numV b 99) [.int 18, .int 20, .int 41, .int 43, .int 44, .int 45, .int 46, .int 48, .int 50] with
          | false => exact iteF ⟨rfl, s3⟩
          | true =>
            exfalso
            obtain ⟨i, e1, e2⟩ := codes_inv q (numV_ni _ _)
            obtain ⟨e3, _⟩ := numV_int e1
            refine hno w (some i) hv (fun n h => ?_) ?_
            · rw [← Option.some.inj h]
              exact e2
            · show [a, b, w] = [("reply" : Str), numS i, w]
              rw [ha, e3]
        · rw [decide_eq_false ha]
          exact iteF ⟨rfl, Same.refl H⟩
      · rw [show ((ws.length : Int) == 3) = false by simp only [beq_eq_false_iff_ne]; omega]
        exact iteF ⟨rfl, Same.refl H⟩
    rintro σ' H' ⟨rfl, s9⟩
    exact k _ s9
end K4
set_option maxHeartbeats 4000000
namespace K4
open PySem PySem.Spec PyProof.Rows L2 SX TK TKS
open C8 (pe_c)
/-! ### the lines of a letter, read -/
theorem fresh_of {H H1 : Hp} {p : Addr} (s : Same H H1) (h : H1 p = none) : H p = none := by
  cases q : H p with
  | none => rfl
  | some u =>
    have := s _ _ q
    rw [h] at this
    cases this
def spOriginR (vs : List V) (H : Hp) (Q : VK) : Prop := ∃ l o t, vs = [.ref l] ∧ H l = some (.lst [.str o, .str t]) ∧ o.length ≤ 1000 ∧ t.length ≤ 1000 ∧ (splitB o).isSome = true ∧ tagB t = true ∧ ∀ d H', Same H H' → H d = none → H' d = some (.dK (dkOf ["origin", "origin_tag"] [.str o, .str t])) → Q (.ref d) H'
def spOriginN (vs : List V) (H : Hp) (Q : VK) : Prop := ∃ (l : Addr) (ws : List Str), vs = [.ref l] ∧ H l = some (.lst (ws.map V.str)) ∧ (∀ z ∈ ws, z.length ≤ 1000) ∧ (∀ o t, ws = [o, t] → (splitB o).isSome = true → tagB t = true → False) ∧ ∀ H', Same H H' → Q .non H'
def spOrigin : Sp := fun vs H Q _ => spOriginR vs H Q ∨ spOriginN vs H Q
theorem ok_read_origin {P : Program} {w : World} {K : PySem.W.Frag} {mg : Str → Option Value} {base : Heap} {f : Addr} {fd : FuncData} (T : Tx K mg) (c_is_address : C8.Cal P w K mg base 4 "is_address" spIsAddr []) (c_is_tag : C8.Cal P w K mg base 2 "is_tag" spTag [])
    (F : FunD K "_read_origin" "_read_origin" (defArgs s_read_origin) (defBody s_read_origin) (defScope s_read_origin) [] [] f fd) : FnOk P w K mg base CX0 5 f fd ["words"] spOrigin := by
  refine F.ok sc_read_origin (fun vs H Q E h => ?_) (fun cdv A outer s H vs Q E hr h => ?_)
  · rcases h with ⟨l, o, t, rfl, _⟩ | ⟨l, ws, rfl, _⟩ <;> rfl
  rcases h with h | h
  · obtain ⟨l, o, t, rfl, hl, lo, lt, ho, ht, k⟩ := h
    refine ⟨_, PSs.nox (C8.pss_cut (ps_if (PW.pt (pw_and (pt_cmpR op_eq (pe_callB call_len_seq rfl T.f_len PySem.boot_len (pa_cons (pv 0) pa_nil)) pe_int (nomark _)) (pw_and (pt_val (pe_c c_is_address hr (by decide) rfl (pa_cons (pe_ix ix_list (pv 0) pe_int (fun _ _ => rfl)) pa_nil))) (pw_and1 (pt_val (pe_c c_is_tag hr (by decide) rfl (pa_cons (pe_ix ix_list (pv 0) pe_int (fun _ _ => rfl)) pa_nil))))))) (pss_one (ps_ret (pe_disp (pps_cons pe_str (pe_ix ix_list (pv 0) pe_int (fun _ _ => rfl)) (pps_cons pe_str (pe_ix ix_list (pv 0) pe_int (fun _ _ => rfl)) pps_nil)) rfl rfl (by simp) (by decide)))) pss_nil) (pss_one (ps_ret pe_non))), ?_⟩
    refine ⟨fun _ _ => False, ?_, fun _ _ z => z.elim⟩
    refine ⟨_, rfl, l, _, rfl, .inl (SqL.of hl), rfl, _, rfl, iteT ⟨_, rfl, l, _, 0, _, rfl, rfl, SqL.of hl, rfl, o, rfl, lo, fun H1 s1 => ⟨_, rfl, ?_⟩⟩⟩
    rw [ho]
    refine iteT ⟨_, rfl, l, _, 1, _, rfl, rfl, SqL.of (s1 _ _ hl), rfl, t, rfl, lt, fun H2 s2 => ⟨_, rfl, ?_⟩⟩
    rw [ht]
    refine iteT fun p hp => ?_
    have h3 := (s1.trans s2).trans (same_upd (o := .dK []) hp)
    refine ⟨_, rfl, l, _, 0, _, rfl, rfl, SqL.of (h3 _ _ hl), rfl, _, rfl, l, _, 1, _, rfl, rfl, SqL.of (h3 _ _ hl), rfl, upd_same, dkOf ["origin", "origin_tag"] [.str o, .str t], rfl, by show 2 ≤ 15; decide, ?_⟩
    rw [upd_upd, merge_dk0 rfl (by decide +kernel)]
    exact k p _ ((s1.trans s2).trans (same_upd hp)) (fresh_of (s1.trans s2) hp) upd_same
  · obtain ⟨l, ws, rfl, hl, hz, hno, k⟩ := h
    refine ⟨_, PSs.nox (C8.pss_cut (ps_if (PW.pt (pw_and (pt_cmpR op_eq (pe_callB call_len_seq rfl T.f_len PySem.boot_len (pa_cons (pv 0) pa_nil)) pe_int (nomark _)) (pw_and (pt_val (pe_c c_is_address hr (by decide) rfl (pa_cons (pe_ix ix_list (pv 0) pe_int (fun _ _ => rfl)) pa_nil))) (pw_and1 (pt_val (pe_c c_is_tag hr (by decide) rfl (pa_cons (pe_ix ix_list (pv 0) pe_int (fun _ _ => rfl)) pa_nil))))))) (pss_one (ps_ret (pe_disp (pps_cons pe_str (pe_ix ix_list (pv 0) pe_int (fun _ _ => rfl)) (pps_cons pe_str (pe_ix ix_list (pv 0) pe_int (fun _ _ => rfl)) pps_nil)) rfl rfl (by simp) (by decide)))) pss_nil) (pss_one (ps_ret pe_non))), ?_⟩
    refine ⟨fun σ' H' => σ' = [some (.ref l)] ∧ Same H H', ?_, ?_⟩
    · refine ⟨_, rfl, l, _, rfl, .inl (SqL.of hl), rfl, _, rfl, ?_⟩
      rw [List.length_map, dec_int]
      by_cases h2 : ws.length = 2
      · obtain ⟨o, t, rfl⟩ : ∃ o t, ws = [o, t] := by
          match ws, h2 with
          | [a, b], _ => exact ⟨a, b, rfl⟩
        refine iteT ⟨_, rfl, l, _, 0, .str o, rfl, rfl, SqL.of hl, rfl, o, rfl, hz o (by simp), fun H1 s1 => ⟨_, rfl, ?_⟩⟩
        cases q : (splitB o).isSome with
        | false => exact iteF ⟨rfl, s1⟩
        | true =>
          refine iteT ⟨_, rfl, l, _, 1, .str t, rfl, rfl, SqL.of (s1 _ _ hl), rfl, t, rfl, hz t (by simp), fun H2 s2 => ⟨_, rfl, ?_⟩⟩
          rw [ef fun q2 => hno o t rfl q q2]
          exact iteF ⟨rfl, s1.trans s2⟩
      · rw [show ((ws.length : Int) == 2) = false by simp only [beq_eq_false_iff_ne]; omega]
        exact iteF ⟨rfl, Same.refl H⟩
    rintro σ' H' ⟨rfl, s9⟩
    exact k _ s9
def tgW (t g : Str) : List Str := if g.length = 0 then [t] else [t, g]
def spTargetR (vs : List V) (H : Hp) (Q : VK) : Prop := ∃ l t g, vs = [.ref l] ∧ H l = some (.lst ((tgW t g).map V.str)) ∧ t.length ≤ 1000 ∧ g.length ≤ 1000 ∧ (splitB t).isSome = true ∧ (g = "" ∨ (g.length ≠ 0 ∧ tagB g = true)) ∧ ∀ d H', Same H H' → H d = none → H' d = some (.dK (dkOf ["target", "target_tag"] [.str t, .str g])) → Q (.ref d) H'
def spTargetN (vs : List V) (H : Hp) (Q : VK) : Prop := ∃ (l : Addr) (ws : List Str), vs = [.ref l] ∧ H l = some (.lst (ws.map V.str)) ∧ (∀ z ∈ ws, z.length ≤ 1000) ∧ (∀ t, ws = [t] → (splitB t).isSome = false) ∧ (∀ t g, ws = [t, g] → (splitB t).isSome = true → tagB g = true → False) ∧ ∀ H', Same H H' → Q .non H'
def spTarget : Sp := fun vs H Q _ => spTargetR vs H Q ∨ spTargetN vs H Q
theorem ok_read_target {P : Program} {w : World} {K : PySem.W.Frag} {mg : Str → Option Value} {base : Heap} {f : Addr} {fd : FuncData} (T : Tx K mg) (c_is_address : C8.Cal P w K mg base 4 "is_address" spIsAddr []) (c_is_tag : C8.Cal P w K mg base 2 "is_tag" spTag [])
    (F : FunD K "_read_target" "_read_target" (defArgs s_read_target) (defBody s_read_target) (defScope s_read_target) [] [] f fd) : FnOk P w K mg base CX0 5 f fd ["words"] spTarget := by
  refine F.ok sc_read_target (fun vs H Q E h => ?_) (fun cdv A outer s H vs Q E hr h => ?_)
  · rcases h with ⟨l, t, g, rfl, _⟩ | ⟨l, ws, rfl, _⟩ <;> rfl
  rcases h with h | h
  · obtain ⟨l, t, g, rfl, hl, lt, lg, ht, hg, k⟩ := h
    refine ⟨_, PSs.nox (C8.pss_cut (ps_if (PW.pt (pw_and (pt_cmpR op_eq (pe_callB call_len_seq rfl T.f_len PySem.boot_len (pa_cons (pv 0) pa_nil)) pe_int (nomark _)) (pw_and1 (pt_val (pe_c c_is_address hr (by decide) rfl (pa_cons (pe_ix ix_list (pv 0) pe_int (fun _ _ => rfl)) pa_nil)))))) (pss_one (ps_ret (pe_disp (pps_cons pe_str (pe_ix ix_list (pv 0) pe_int (fun _ _ => rfl)) (pps_cons pe_str pe_str pps_nil)) rfl rfl (by simp) (by decide)))) pss_nil) (C8.pss_cut (ps_if (PW.pt (pw_and (pt_cmpR op_eq (pe_callB call_len_seq rfl T.f_len PySem.boot_len (pa_cons (pv 0) pa_nil)) pe_int (nomark _)) (pw_and (pt_val (pe_c c_is_address hr (by decide) rfl (pa_cons (pe_ix ix_list (pv 0) pe_int (fun _ _ => rfl)) pa_nil))) (pw_and1 (pt_val (pe_c c_is_tag hr (by decide) rfl (pa_cons (pe_ix ix_list (pv 0) pe_int (fun _ _ => rfl)) pa_nil))))))) (pss_one (ps_ret (pe_disp (pps_cons pe_str (pe_ix ix_list (pv 0) pe_int (fun _ _ => rfl)) (pps_cons pe_str (pe_ix ix_list (pv 0) pe_int (fun _ _ => rfl)) pps_nil)) rfl rfl (by simp) (by decide)))) pss_nil) (pss_one (ps_ret pe_non)))), ?_⟩
    unfold tgW at hl
    rcases hg with rfl | ⟨hg, hg2⟩
    · rw [if_pos (show ("" : Str).length = 0 from rfl)] at hl
      refine ⟨fun _ _ => False, ?_, fun _ _ z => z.elim⟩
      refine ⟨_, rfl, l, _, rfl, .inl (SqL.of hl), rfl, _, rfl, iteT ⟨_, rfl, l, _, 0, _, rfl, rfl, SqL.of hl, rfl, t, rfl, lt, fun H1 s1 => ⟨_, rfl, ?_⟩⟩⟩
      rw [ht]
      refine iteT fun p hp => ?_
      have h3 := s1.trans (same_upd (o := .dK []) hp)
      refine ⟨_, rfl, l, _, 0, _, rfl, rfl, SqL.of (h3 _ _ hl), rfl, upd_same, dkOf ["target", "target_tag"] [.str t, .str ""], rfl, by show 2 ≤ 15; decide, ?_⟩
      rw [upd_upd, merge_dk0 rfl (by decide +kernel)]
      exact k p _ (s1.trans (same_upd hp)) (fresh_of s1 hp) upd_same
    · rw [if_neg hg] at hl
      refine ⟨fun σ' H' => σ' = [some (.ref l)] ∧ H' = H, ⟨_, rfl, l, _, rfl, .inl (SqL.of hl), rfl, _, rfl, iteF ⟨rfl, rfl⟩⟩, ?_⟩
      rintro σ' H' ⟨rfl, rfl⟩
      refine ⟨fun _ _ => False, ?_, fun _ _ z => z.elim⟩
      refine ⟨_, rfl, l, _, rfl, .inl (SqL.of hl), rfl, _, rfl, iteT ⟨_, rfl, l, _, 0, _, rfl, rfl, SqL.of hl, rfl, t, rfl, lt, fun H1 s1 => ⟨_, rfl, ?_⟩⟩⟩
      rw [ht]
      refine iteT ⟨_, rfl, l, _, 1, _, rfl, rfl, SqL.of (s1 _ _ hl), rfl, g, rfl, lg, fun H2 s2 => ⟨_, rfl, ?_⟩⟩
      rw [hg2]
      refine iteT fun p hp => ?_
      have h3 := (s1.trans s2).trans (same_upd (o := .dK []) hp)
      refine ⟨_, rfl, l, _, 0, _, rfl, rfl, SqL.of (h3 _ _ hl), rfl, _, rfl, l, _, 1, _, rfl, rfl, SqL.of (h3 _ _ hl), rfl, upd_same, dkOf ["target", "target_tag"] [.str t, .str g], rfl, by show 2 ≤ 15; decide, ?_⟩
      rw [upd_upd, merge_dk0 rfl (by decide +kernel)]
      exact k p _ ((s1.trans s2).trans (same_upd hp)) (fresh_of (s1.trans s2) hp) upd_same
  · obtain ⟨l, ws, rfl, hl, hz, hn1, hn2, k⟩ := h
    refine ⟨_, PSs.nox (C8.pss_cut (ps_if (PW.pt (pw_and (pt_cmpR op_eq (pe_callB call_len_seq rfl T.f_len PySem.boot_len (pa_cons (pv 0) pa_nil)) pe_int (nomark _)) (pw_and1 (pt_val (pe_c c_is_address hr (by decide) rfl (pa_cons (pe_ix ix_list (pv 0) pe_int (fun _ _ => rfl)) pa_nil)))))) (pss_one (ps_ret (pe_disp (pps_cons pe_str (pe_ix ix_list (pv 0) pe_int (fun _ _ => rfl)) (pps_cons pe_str pe_str pps_nil)) rfl rfl (by simp) (by decide)))) pss_nil) (C8.pss_cut (ps_if (PW.pt (pw_and (pt_cmpR op_eq (pe_callB call_len_seq rfl T.f_len PySem.boot_len (pa_cons (pv 0) pa_nil)) pe_int (nomark _)) (pw_and (pt_val (pe_c c_is_address hr (by decide) rfl (pa_cons (pe_ix ix_list (pv 0) pe_int (fun _ _ => rfl)) pa_nil))) (pw_and1 (pt_val (pe_c c_is_tag hr (by decide) rfl (pa_cons (pe_ix ix_list (pv 0) pe_int (fun _ _ => rfl)) pa_nil))))))) (pss_one (ps_ret (pe_disp (pps_cons pe_str (pe_ix ix_list (pv 0) pe_int (fun _ _ => rfl)) (pps_cons pe_str (pe_ix ix_list (pv 0) pe_int (fun _ _ => rfl)) pps_nil)) rfl rfl (by simp) (by decide)))) pss_nil) (pss_one (ps_ret pe_non)))), ?_⟩
    refine ⟨fun σ' H' => σ' = [some (.ref l)] ∧ Same H H', ?_, ?_⟩
    · refine ⟨_, rfl, l, _, rfl, .inl (SqL.of hl), rfl, _, rfl, ?_⟩
      rw [List.length_map, dec_int]
      by_cases h1 : ws.length = 1
      · obtain ⟨t, rfl⟩ : ∃ t, ws = [t] := by
          match ws, h1 with
          | [a], _ => exact ⟨a, rfl⟩
        refine iteT ⟨_, rfl, l, _, 0, .str t, rfl, rfl, SqL.of hl, rfl, t, rfl, hz t (by simp), fun H1 s1 => ⟨_, rfl, ?_⟩⟩
        rw [hn1 t rfl]
        exact iteF ⟨rfl, s1⟩
      · rw [show ((ws.length : Int) == 1) = false by simp only [beq_eq_false_iff_ne]; omega]
        exact iteF ⟨rfl, Same.refl H⟩
    rintro σ' H1 ⟨rfl, s1⟩
    have hl1 := s1 _ _ hl
    refine ⟨fun σ' H' => σ' = [some (.ref l)] ∧ Same H H', ?_, ?_⟩
    · refine ⟨_, rfl, l, _, rfl, .inl (SqL.of hl1), rfl, _, rfl, ?_⟩
      rw [List.length_map, dec_int]
      by_cases h2 : ws.length = 2
      · obtain ⟨o, t, rfl⟩ : ∃ o t, ws = [o, t] := by
          match ws, h2 with
          | [a, b], _ => exact ⟨a, b, rfl⟩
        refine iteT ⟨_, rfl, l, _, 0, .str o, rfl, rfl, SqL.of hl1, rfl, o, rfl, hz o (by simp), fun H2 s2 => ⟨_, rfl, ?_⟩⟩
        cases q : (splitB o).isSome with
        | false => exact iteF ⟨rfl, s1.trans s2⟩
        | true =>
          refine iteT ⟨_, rfl, l, _, 1, .str t, rfl, rfl, SqL.of (s2 _ _ hl1), rfl, t, rfl, hz t (by simp), fun H3 s3 => ⟨_, rfl, ?_⟩⟩
          rw [ef fun q2 => hn2 o t rfl q q2]
          exact iteF ⟨rfl, (s1.trans s2).trans s3⟩
      · rw [show ((ws.length : Int) == 2) = false by simp only [beq_eq_false_iff_ne]; omega]
        exact iteF ⟨rfl, s1⟩
    rintro σ' H' ⟨rfl, s9⟩
    exact k _ s9
/-- what a line of one word says -/
inductive Sing : Str → Str → V → Prop
  | seq {w : Str} {n : Int} (h : numV w 999999 = .int n) : Sing "seq" w (.int n)
  | stay {w : Str} {n : Int} (h : numV w 9999 = .int n) : Sing "stay" w (.int n)
  | goal {w : Str} (h : (splitB w).isSome = true) : Sing "goal" w (.str w)
  | call {w : Str} (h : tagB w = true) : Sing "call" w (.str w)
  | way {w : Str} (h : tagB w = true) : Sing "way" w (.str w)
def spSingleR (vs : List V) (H : Hp) (Q : VK) : Prop := ∃ key w x, vs = [.str key, .str w] ∧ w.length ≤ 1000 ∧ Sing key w x ∧ ∀ d H', Same H H' → H d = none → H' d = some (.dK (dkOf [key] [x])) → Q (.ref d) H'
def spSingleN (vs : List V) (H : Hp) (Q : VK) : Prop := ∃ key w, vs = [.str key, .str w] ∧ w.length ≤ 1000 ∧ key ∈ ([("seq" : Str), "stay", "goal", "call", "way"] : List Str) ∧ (∀ x, ¬ Sing key w x) ∧ ∀ H', Same H H' → Q .non H'
def spSingle : Sp := fun vs H Q _ => spSingleR vs H Q ∨ spSingleN vs H Q
theorem ok_read_single {P : Program} {w : World} {K : PySem.W.Frag} {mg : Str → Option Value} {base : Heap} {f : Addr} {fd : FuncData} (T : Tx K mg) (c_is_address : C8.Cal P w K mg base 4 "is_address" spIsAddr []) (c_is_tag : C8.Cal P w K mg base 2 "is_tag" spTag []) (c_read_number : C8.Cal P w K mg base 2 "read_number" spNum [])
    (F : FunD K "_read_single" "_read_single" (defArgs s_read_single) (defBody s_read_single) (defScope s_read_single) [] [] f fd) : FnOk P w K mg base CX0 5 f fd ["key", "word"] spSingle := by
  refine F.ok sc_read_single (fun vs H Q E h => ?_) (fun cdv A outer s H vs Q E hr h => ?_)
  · rcases h with ⟨key, w, x, rfl, _⟩ | ⟨key, w, rfl, _⟩ <;> rfl
  rcases h with h | h
  · obtain ⟨key, w, x, rfl, lw, hs, k⟩ := h
    refine ⟨_, PSs.nox (C8.pss_cut (ps_if (PW.pt (pw_or (pt_cmpR op_eq (pv 0) pe_str (nomark _)) (pw_or1 (pt_cmpR op_eq (pv 0) pe_str (nomark _))))) (pss_cons (ps_set (i := 2) sc_read_single.nd rfl (Or.inl rfl) (pe_c c_read_number hr (by decide) rfl (pa_cons (pv 1) (pa_cons (pe_ifExp (pt_cmpR op_eq (pv 0) pe_str (nomark _)) (pgI T.g_GREATEST_SEQ) (pgI T.g_LONGEST_STAY)) pa_nil)))) (pss_one (ps_ret (pe_ifExp (pt_cmpR op_notN (pv 2) pe_non (nomark _)) (pe_disp (pps_cons (pv 0) (pv 2) pps_nil) rfl rfl (by simp) (by decide)) pe_non)))) pss_nil) (pss_cons (ps_set (i := 3) sc_read_single.nd rfl (Or.inl rfl) (pe_ifExp (pt_cmpR op_eq (pv 0) pe_str (nomark _)) (pe_c c_is_address hr (by decide) rfl (pa_cons (pv 1) pa_nil)) (pe_c c_is_tag hr (by decide) rfl (pa_cons (pv 1) pa_nil)))) (pss_one (ps_ret (pe_ifExp (pt_val (pv 3)) (pe_disp (pps_cons (pv 0) (pv 1) pps_nil) rfl rfl (by simp) (by decide)) pe_non))))), ?_⟩
    cases hs with
    | @seq _ n h =>
      refine ⟨fun _ _ => False, ?_, fun _ _ z => z.elim⟩
      refine ⟨_, rfl, rfl, _, rfl, iteT ⟨_, rfl, _, rfl, rfl, _, rfl, iteT ⟨w, 999999, rfl, lw, fun H1 s1 => ?_⟩⟩⟩
      rw [h]
      refine ⟨_, rfl, rfl, _, rfl, iteT fun p hp => ⟨_, rfl, _, rfl, upd_same, dkOf ["seq"] [.int n], rfl, by show 1 ≤ 15; decide, ?_⟩⟩
      rw [upd_upd, merge_dk0 rfl (by decide +kernel)]
      exact k p _ (s1.trans (same_upd hp)) (fresh_of s1 hp) upd_same
    | @stay _ n h =>
      refine ⟨fun _ _ => False, ?_, fun _ _ z => z.elim⟩
      refine ⟨_, rfl, rfl, _, rfl, iteF ⟨_, rfl, rfl, _, rfl, iteT ⟨_, rfl, _, rfl, rfl, _, rfl, iteF ⟨w, 9999, rfl, lw, fun H1 s1 => ?_⟩⟩⟩⟩
      rw [h]
      refine ⟨_, rfl, rfl, _, rfl, iteT fun p hp => ⟨_, rfl, _, rfl, upd_same, dkOf ["stay"] [.int n], rfl, by show 1 ≤ 15; decide, ?_⟩⟩
      rw [upd_upd, merge_dk0 rfl (by decide +kernel)]
      exact k p _ (s1.trans (same_upd hp)) (fresh_of s1 hp) upd_same
    | goal h =>
      refine ⟨fun σ' H' => σ' = [some (.str "goal"), some (.str w), none, none] ∧ H' = H, ⟨_, rfl, rfl, _, rfl, iteF ⟨_, rfl, rfl, _, rfl, iteF ⟨rfl, rfl⟩⟩⟩, ?_⟩
      rintro σ' H' ⟨rfl, rfl⟩
      refine ⟨_, rfl, rfl, _, rfl, iteT ⟨_, rfl, w, rfl, lw, fun H1 s1 => ?_⟩⟩
      rw [h]
      refine ⟨_, rfl, _, rfl, iteT fun p hp => ⟨_, rfl, _, rfl, upd_same, dkOf ["goal"] [.str w], rfl, by show 1 ≤ 15; decide, ?_⟩⟩
      rw [upd_upd, merge_dk0 rfl (by decide +kernel)]
      exact k p _ (s1.trans (same_upd hp)) (fresh_of s1 hp) upd_same
    | call h =>
      refine ⟨fun σ' H' => σ' = [some (.str "call"), some (.str w), none, none] ∧ H' = H, ⟨_, rfl, rfl, _, rfl, iteF ⟨_, rfl, rfl, _, rfl, iteF ⟨rfl, rfl⟩⟩⟩, ?_⟩
      rintro σ' H' ⟨rfl, rfl⟩
      refine ⟨_, rfl, rfl, _, rfl, iteF ⟨_, rfl, w, rfl, lw, fun H1 s1 => ?_⟩⟩
      rw [h]
      refine ⟨_, rfl, _, rfl, iteT fun p hp => ⟨_, rfl, _, rfl, upd_same, dkOf ["call"] [.str w], rfl, by show 1 ≤ 15; decide, ?_⟩⟩
      rw [upd_upd, merge_dk0 rfl (by decide +kernel)]
      exact k p _ (s1.trans (same_upd hp)) (fresh_of s1 hp) upd_same
    | way h =>
      refine ⟨fun σ' H' => σ' = [some (.str "way"), some (.str w), none, none] ∧ H' = H, ⟨_, rfl, rfl, _, rfl, iteF ⟨_, rfl, rfl, _, rfl, iteF ⟨rfl, rfl⟩⟩⟩, ?_⟩
      rintro σ' H' ⟨rfl, rfl⟩
      refine ⟨_, rfl, rfl, _, rfl, iteF ⟨_, rfl, w, rfl, lw, fun H1 s1 => ?_⟩⟩
      rw [h]
      refine ⟨_, rfl, _, rfl, iteT fun p hp => ⟨_, rfl, _, rfl, upd_same, dkOf ["way"] [.str w], rfl, by show 1 ≤ 15; decide, ?_⟩⟩
      rw [upd_upd, merge_dk0 rfl (by decide +kernel)]
      exact k p _ (s1.trans (same_upd hp)) (fresh_of s1 hp) upd_same
  · obtain ⟨key, w, rfl, lw, hk, hno, k⟩ := h
    refine ⟨_, PSs.nox (C8.pss_cut (ps_if (PW.pt (pw_or (pt_cmpR op_eq (pv 0) pe_str (nomark _)) (pw_or1 (pt_cmpR op_eq (pv 0) pe_str (nomark _))))) (pss_cons (ps_set (i := 2) sc_read_single.nd rfl (Or.inl rfl) (pe_c c_read_number hr (by decide) rfl (pa_cons (pv 1) (pa_cons (pe_ifExp (pt_cmpR op_eq (pv 0) pe_str (nomark _)) (pgI T.g_GREATEST_SEQ) (pgI T.g_LONGEST_STAY)) pa_nil)))) (pss_one (ps_ret (pe_ifExp (pt_cmpR op_notN (pv 2) pe_non (nomark _)) (pe_disp (pps_cons (pv 0) (pv 2) pps_nil) rfl rfl (by simp) (by decide)) pe_non)))) pss_nil) (pss_cons (ps_set (i := 3) sc_read_single.nd rfl (Or.inl rfl) (pe_ifExp (pt_cmpR op_eq (pv 0) pe_str (nomark _)) (pe_c c_is_address hr (by decide) rfl (pa_cons (pv 1) pa_nil)) (pe_c c_is_tag hr (by decide) rfl (pa_cons (pv 1) pa_nil)))) (pss_one (ps_ret (pe_ifExp (pt_val (pv 3)) (pe_disp (pps_cons (pv 0) (pv 1) pps_nil) rfl rfl (by simp) (by decide)) pe_non))))), ?_⟩
    simp only [List.mem_cons, List.not_mem_nil, or_false] at hk
    rcases hk with rfl | rfl | rfl | rfl | rfl
    · have hn : numV w 999999 = .non := (numV_ni w 999999).resolve_right fun ⟨n, e⟩ => hno _ (.seq e)
      refine ⟨fun _ _ => False, ?_, fun _ _ z => z.elim⟩
      refine ⟨_, rfl, rfl, _, rfl, iteT ⟨_, rfl, _, rfl, rfl, _, rfl, iteT ⟨w, 999999, rfl, lw, fun H1 s1 => ?_⟩⟩⟩
      rw [hn]
      exact ⟨_, rfl, rfl, _, rfl, iteF (k _ s1)⟩
    · have hn : numV w 9999 = .non := (numV_ni w 9999).resolve_right fun ⟨n, e⟩ => hno _ (.stay e)
      refine ⟨fun _ _ => False, ?_, fun _ _ z => z.elim⟩
      refine ⟨_, rfl, rfl, _, rfl, iteF ⟨_, rfl, rfl, _, rfl, iteT ⟨_, rfl, _, rfl, rfl, _, rfl, iteF ⟨w, 9999, rfl, lw, fun H1 s1 => ?_⟩⟩⟩⟩
      rw [hn]
      exact ⟨_, rfl, rfl, _, rfl, iteF (k _ s1)⟩
    · refine ⟨fun σ' H' => σ' = [some (.str "goal"), some (.str w), none, none] ∧ H' = H, ⟨_, rfl, rfl, _, rfl, iteF ⟨_, rfl, rfl, _, rfl, iteF ⟨rfl, rfl⟩⟩⟩, ?_⟩
      rintro σ' H' ⟨rfl, rfl⟩
      refine ⟨_, rfl, rfl, _, rfl, iteT ⟨_, rfl, w, rfl, lw, fun H1 s1 => ?_⟩⟩
      rw [ef fun q => hno _ (.goal q)]
      exact ⟨_, rfl, _, rfl, iteF (k _ s1)⟩
    · refine ⟨fun σ' H' => σ' = [some (.str "call"), some (.str w), none, none] ∧ H' = H, ⟨_, rfl, rfl, _, rfl, iteF ⟨_, rfl, rfl, _, rfl, iteF ⟨rfl, rfl⟩⟩⟩, ?_⟩
      rintro σ' H' ⟨rfl, rfl⟩
      refine ⟨_, rfl, rfl, _, rfl, iteF ⟨_, rfl, w, rfl, lw, fun H1 s1 => ?_⟩⟩
      rw [ef fun q => hno _ (.call q)]
      exact ⟨_, rfl, _, rfl, iteF (k _ s1)⟩
    · refine ⟨fun σ' H' => σ' = [some (.str "way"), some (.str w), none, none] ∧ H' = H, ⟨_, rfl, rfl, _, rfl, iteF ⟨_, rfl, rfl, _, rfl, iteF ⟨rfl, rfl⟩⟩⟩, ?_⟩
      rintro σ' H' ⟨rfl, rfl⟩
      refine ⟨_, rfl, rfl, _, rfl, iteF ⟨_, rfl, w, rfl, lw, fun H1 s1 => ?_⟩⟩
      rw [ef fun q => hno _ (.way q)]
      exact ⟨_, rfl, _, rfl, iteF (k _ s1)⟩
end K4
set_option maxHeartbeats 4000000
namespace K4
open PySem PySem.Spec PyProof.Rows L2 SX TK TKS
open C8 (pe_c)
/-! ### a line of a letter, read -/
theorem cutV_1 (x : V) (xs : List V) : cutV (x :: xs) (some 1) none = xs := by
  unfold cutV
  have a : HT.sIx (x :: xs).length 0 (some 1) = 1 := by
    unfold HT.sIx
    simp
  have b : HT.sIx (x :: xs).length (x :: xs).length none = (x :: xs).length := by rfl
  rw [a, b]
  simp
theorem at_hd (x : Str) (l : List Str) : atI ((x :: l).map V.str) 0 = some (.str x) := atC (V.str x) _
/-- the words behind a line's first one are wrong -/
def WrongL (key : Str) (r : List Str) : Prop :=
  (key = "from" ∧ ∀ o t, r = [o, t] → (splitB o).isSome = true → tagB t = true → False)
  ∨ (key = "to" ∧ (∀ t, r = [t] → (splitB t).isSome = false) ∧ ∀ t g, r = [t, g] → (splitB t).isSome = true → tagB g = true → False)
  ∨ (key = "offer" ∧ readO r = none)
  ∨ (key ∈ ([("seq" : Str), "stay", "goal", "call", "way"] : List Str) ∧ ∀ w x, r = [w] → ¬ Sing key w x)
def spLine : Sp := fun vs H Q _ => ∃ (key line : Str) (ws : List Str), vs = [.str key, .str line] ∧ Txt.split line " " = ws ∧ line.length ≤ 3000 ∧ (∀ z ∈ ws, z.length ≤ 1000) ∧ ws.length ≤ 1000 ∧
  ((∃ w r, ws = w :: r ∧ w ≠ key ∧ ∀ H', Same H H' → Q .non H')
  ∨ (∃ o t, key = "from" ∧ ws = ([("from" : Str), o, t] : List Str) ∧ (splitB o).isSome = true ∧ tagB t = true ∧ ∀ d H', Same H H' → H d = none → H' d = some (.dK (dkOf ["origin", "origin_tag"] [.str o, .str t])) → Q (.ref d) H')
  ∨ (∃ t g, key = "to" ∧ ws = (("to" : Str) :: tgW t g : List Str) ∧ (splitB t).isSome = true ∧ (g = "" ∨ (g.length ≠ 0 ∧ tagB g = true)) ∧ ∀ d H', Same H H' → H d = none → H' d = some (.dK (dkOf ["target", "target_tag"] [.str t, .str g])) → Q (.ref d) H')
  ∨ (∃ r o, key = "offer" ∧ ws = (("offer" : Str) :: r : List Str) ∧ readO r = some o ∧ ∀ d x H', Same H H' → H d = none → OffAt H' x o → H' d = some (.dK (dkOf ["offer"] [x])) → Q (.ref d) H')
  ∨ (∃ w x, ws = [key, w] ∧ Sing key w x ∧ ∀ d H', Same H H' → H d = none → H' d = some (.dK (dkOf [key] [x])) → Q (.ref d) H')
  ∨ (∃ r, ws = key :: r ∧ WrongL key r ∧ ∀ H', Same H H' → Q .non H'))
theorem ok_read_line {P : Program} {w : World} {K : PySem.W.Frag} {mg : Str → Option Value} {base : Heap} {f : Addr} {fd : FuncData} (T : Tx K mg) (c_read_origin : C8.Cal P w K mg base 5 "_read_origin" spOrigin []) (c_read_target : C8.Cal P w K mg base 5 "_read_target" spTarget []) (c_read_single : C8.Cal P w K mg base 5 "_read_single" spSingle []) (c_read_offer : C8.Cal P w K mg base 4 "read_offer" spRead [])
    (F : FunD K "_read_line" "_read_line" (defArgs s_read_line) (defBody s_read_line) (defScope s_read_line) [] [] f fd) : FnOk P w K mg base CX0 6 f fd ["key", "line"] spLine := by
  refine F.ok sc_read_line (fun vs H Q E h => ?_) (fun cdv A outer s H vs Q E hr h => ?_)
  · obtain ⟨key, line, ws, rfl, _⟩ := h
    rfl
  · obtain ⟨key, line, ws, rfl, ew, ll, lw, lz, k⟩ := h
    have hz2 : line.length + 2 ≤ sizeLine := Nat.le_trans (Nat.add_le_add_right ll 2) (by decide)
    refine ⟨_, PSs.nox (pss_cons (ps_set (i := 2) sc_read_line.nd rfl (Or.inl rfl) (pe_split (pv 1) pe_str)) (C8.pss_cut (ps_if (pt_cmpR op_ne (pe_ix ix_list (pv 2) pe_int (fun _ _ => rfl)) (pv 0) (nomark _)) (pss_one (ps_ret pe_non)) pss_nil) (C8.pss_cut (ps_if (pt_cmpR op_eq (pv 0) pe_str (nomark _)) (pss_one (ps_ret (pe_c c_read_origin hr (by decide) rfl (pa_cons (pe_slice sl_list (pv 2) (po_some pe_int) po_none) pa_nil)))) pss_nil) (C8.pss_cut (ps_if (pt_cmpR op_eq (pv 0) pe_str (nomark _)) (pss_one (ps_ret (pe_c c_read_target hr (by decide) rfl (pa_cons (pe_slice sl_list (pv 2) (po_some pe_int) po_none) pa_nil)))) pss_nil) (C8.pss_cut (ps_if (pt_cmpR op_eq (pv 0) pe_str (nomark _)) (pss_cons (ps_set (i := 3) sc_read_line.nd rfl (Or.inl rfl) (pe_c c_read_offer hr (by decide) rfl (pa_cons (pe_slice sl_list (pv 2) (po_some pe_int) po_none) pa_nil))) (pss_one (ps_ret (pe_ifExp (pt_cmpR op_notN (pv 3) pe_non (nomark _)) (pe_disp (pps_cons pe_str (pv 3) pps_nil) rfl rfl (by simp) (by decide)) pe_non)))) pss_nil) (pss_one (ps_ret (pe_ifExp (pt_cmpR op_eq (pe_callB call_len_seq rfl T.f_len PySem.boot_len (pa_cons (pv 2) pa_nil)) pe_int (nomark _)) (pe_c c_read_single hr (by decide) rfl (pa_cons (pv 0) (pa_cons (pe_ix ix_list (pv 2) pe_int (fun _ _ => rfl)) pa_nil))) pe_non)))))))), ?_⟩
    refine ⟨_, rfl, ⟨_, rfl⟩, line, " ", rfl, rfl, by decide +kernel, hz2, fun p hp => ?_⟩
    rw [ew]
    have s1 := same_upd (o := .lst (ws.map V.str)) hp
    have e1 : (upd H p (.lst (ws.map V.str))) p = some (.lst (ws.map V.str)) := upd_same
    generalize (upd H p (.lst (ws.map V.str))) = H1 at *
    rcases k with ⟨w, r, rfl, hw, k⟩ | ⟨o, t, rfl, rfl, ho, ht, k⟩ | ⟨t, g, rfl, rfl, ht, hg, k⟩ | ⟨r, o, rfl, rfl, ho, k⟩ | ⟨w, x, rfl, hs, k⟩ | ⟨r, rfl, hw, k⟩
    · refine ⟨fun _ _ => False, ?_, fun _ _ z => z.elim⟩
      refine ⟨_, rfl, p, _, 0, .str w, rfl, rfl, SqL.of e1, at_hd _ _, _, rfl, rfl, _, rfl, ?_⟩
      rw [decide_eq_false (show ¬ V.str w = V.str key from fun q => hw (V.str.inj q))]
      exact iteT (k _ s1)
    · refine ⟨fun σ' H' => σ' = [some (.str "from"), some (.str line), some (.ref p), none] ∧ H' = H1, ⟨_, rfl, p, _, 0, .str "from", rfl, rfl, SqL.of e1, rfl, _, rfl, rfl, _, rfl, iteF ⟨rfl, rfl⟩⟩, ?_⟩
      rintro σ' H2 ⟨rfl, e⟩
      obtain rfl : H1 = H2 := e.symm
      refine ⟨fun _ _ => False, ?_, fun _ _ z => z.elim⟩
      refine ⟨_, rfl, rfl, _, rfl, iteT ⟨_, rfl, 1, rfl, p, _, rfl, SqL.of e1, fun q hq => ?_⟩⟩
      refine .inl ⟨q, o, t, rfl, ?_, lw o (by simp), lw t (by simp), ho, ht, fun d H2 s2 hd e2 => k d H2 ((s1.trans (same_upd hq)).trans s2) (fresh_of (s1.trans (same_upd hq)) hd) e2⟩
      rw [upd_same]
      exact congrArg (fun z => some (HO.lst z)) (cutV_1 _ _)
    · refine ⟨fun σ' H' => σ' = [some (.str "to"), some (.str line), some (.ref p), none] ∧ H' = H1, ⟨_, rfl, p, _, 0, .str "to", rfl, rfl, SqL.of e1, at_hd _ _, _, rfl, rfl, _, rfl, iteF ⟨rfl, rfl⟩⟩, ?_⟩
      rintro σ' H2 ⟨rfl, e⟩
      obtain rfl : H1 = H2 := e.symm
      refine ⟨fun σ' H' => σ' = [some (.str "to"), some (.str line), some (.ref p), none] ∧ H' = H1, ⟨_, rfl, rfl, _, rfl, iteF ⟨rfl, rfl⟩⟩, ?_⟩
      rintro σ' H2 ⟨rfl, e⟩
      obtain rfl : H1 = H2 := e.symm
      refine ⟨fun _ _ => False, ?_, fun _ _ z => z.elim⟩
      refine ⟨_, rfl, rfl, _, rfl, iteT ⟨_, rfl, 1, rfl, p, _, rfl, SqL.of e1, fun q hq => ?_⟩⟩
      refine .inl ⟨q, t, g, rfl, ?_, lw t (by unfold tgW; split <;> simp), ?_, ht, hg, fun d H2 s2 hd e2 => k d H2 ((s1.trans (same_upd hq)).trans s2) (fresh_of (s1.trans (same_upd hq)) hd) e2⟩
      · rw [upd_same]
        exact congrArg (fun z => some (HO.lst z)) (cutV_1 _ _)
      · rcases hg with rfl | ⟨hg, _⟩
        · decide
        · exact lw g (by unfold tgW; rw [if_neg hg]; simp)
    · refine ⟨fun σ' H' => σ' = [some (.str "offer"), some (.str line), some (.ref p), none] ∧ H' = H1, ⟨_, rfl, p, _, 0, .str "offer", rfl, rfl, SqL.of e1, at_hd _ _, _, rfl, rfl, _, rfl, iteF ⟨rfl, rfl⟩⟩, ?_⟩
      rintro σ' H2 ⟨rfl, e⟩
      obtain rfl : H1 = H2 := e.symm
      refine ⟨fun σ' H' => σ' = [some (.str "offer"), some (.str line), some (.ref p), none] ∧ H' = H1, ⟨_, rfl, rfl, _, rfl, iteF ⟨rfl, rfl⟩⟩, ?_⟩
      rintro σ' H2 ⟨rfl, e⟩
      obtain rfl : H1 = H2 := e.symm
      refine ⟨fun σ' H' => σ' = [some (.str "offer"), some (.str line), some (.ref p), none] ∧ H' = H1, ⟨_, rfl, rfl, _, rfl, iteF ⟨rfl, rfl⟩⟩, ?_⟩
      rintro σ' H2 ⟨rfl, e⟩
      obtain rfl : H1 = H2 := e.symm
      refine ⟨fun _ _ => False, ?_, fun _ _ z => z.elim⟩
      refine ⟨_, rfl, rfl, _, rfl, iteT ⟨_, rfl, 1, rfl, p, _, rfl, SqL.of e1, fun q hq => ?_⟩⟩
      refine ⟨q, r, rfl, ?_, fun z hz => lw z (List.mem_cons_of_mem _ hz), by rw [List.length_cons] at lz; omega, fun x H2 s2 hx => ?_⟩
      · rw [upd_same]
        exact congrArg (fun z => some (HO.lst z)) (cutV_1 _ _)
      · rw [ho] at hx
        have hx2 : OffAt H2 x o := hx
        obtain ⟨b, f, rfl, _⟩ := id hx2
        have s3 := (s1.trans (same_upd hq)).trans s2
        refine ⟨_, rfl, rfl, _, rfl, iteT fun y hy => ⟨_, rfl, upd_same, dkOf ["offer"] [.ref b], rfl, by show 1 ≤ 15; decide, ?_⟩⟩
        rw [upd_upd, merge_dk0 rfl (by decide +kernel)]
        exact k y _ _ (s3.trans (same_upd hy)) (fresh_of s3 hy) (hx2.same (same_upd hy)) upd_same
    · have hk : key ≠ "from" ∧ key ≠ "to" ∧ key ≠ "offer" := by
        cases hs <;> decide +kernel
      have d1 : ∀ z : Str, key ≠ z → decide (V.str key = V.str z) = false := fun z h => decide_eq_false fun q => h (V.str.inj q)
      refine ⟨fun σ' H' => σ' = [some (.str key), some (.str line), some (.ref p), none] ∧ H' = H1, ⟨_, rfl, p, _, 0, .str key, rfl, rfl, SqL.of e1, rfl, _, rfl, rfl, _, rfl, ?_⟩, ?_⟩
      · rw [decide_eq_true rfl]
        exact iteF ⟨rfl, rfl⟩
      rintro σ' H2 ⟨rfl, e⟩
      obtain rfl : H1 = H2 := e.symm
      refine ⟨fun σ' H' => σ' = [some (.str key), some (.str line), some (.ref p), none] ∧ H' = H1, ⟨_, rfl, rfl, _, rfl, ?_⟩, ?_⟩
      · rw [d1 _ hk.1]
        exact iteF ⟨rfl, rfl⟩
      rintro σ' H2 ⟨rfl, e⟩
      obtain rfl : H1 = H2 := e.symm
      refine ⟨fun σ' H' => σ' = [some (.str key), some (.str line), some (.ref p), none] ∧ H' = H1, ⟨_, rfl, rfl, _, rfl, ?_⟩, ?_⟩
      · rw [d1 _ hk.2.1]
        exact iteF ⟨rfl, rfl⟩
      rintro σ' H2 ⟨rfl, e⟩
      obtain rfl : H1 = H2 := e.symm
      refine ⟨fun σ' H' => σ' = [some (.str key), some (.str line), some (.ref p), none] ∧ H' = H1, ⟨_, rfl, rfl, _, rfl, ?_⟩, ?_⟩
      · rw [d1 _ hk.2.2]
        exact iteF ⟨rfl, rfl⟩
      rintro σ' H2 ⟨rfl, e⟩
      obtain rfl : H1 = H2 := e.symm
      refine ⟨_, rfl, p, _, rfl, .inl (SqL.of e1), rfl, _, rfl, iteT ⟨_, rfl, _, rfl, p, _, 1, _, rfl, rfl, SqL.of e1, rfl, ?_⟩⟩
      exact .inl ⟨key, w, x, rfl, lw w (by simp), hs, fun d H2 s2 hd e2 => k d H2 (s1.trans s2) (fresh_of s1 hd) e2⟩
    · have vs1 : ∀ a b : Str, decide (V.str a = V.str b) = decide (a = b) := fun a b => by
        by_cases h : a = b
        · rw [h, decide_eq_true rfl, decide_eq_true rfl]
        · rw [decide_eq_false h, decide_eq_false fun e => h (V.str.inj e)]
      have hrz : ∀ z ∈ r, z.length ≤ 1000 := fun z hz => lw z (List.mem_cons_of_mem _ hz)
      refine ⟨fun σ' H' => σ' = [some (.str key), some (.str line), some (.ref p), none] ∧ H' = H1, ⟨_, rfl, p, _, 0, .str key, rfl, rfl, SqL.of e1, at_hd _ _, _, rfl, rfl, _, rfl, ?_⟩, ?_⟩
      · rw [decide_eq_true rfl]
        exact iteF ⟨rfl, rfl⟩
      rintro σ' H2 ⟨rfl, e⟩
      obtain rfl : H1 = H2 := e.symm
      rcases hw with ⟨rfl, hw⟩ | ⟨rfl, hw1, hw2⟩ | ⟨rfl, hw⟩ | ⟨hk5, hw⟩
      · refine ⟨fun _ _ => False, ?_, fun _ _ z => z.elim⟩
        refine ⟨_, rfl, rfl, _, rfl, iteT ⟨_, rfl, 1, rfl, p, _, rfl, SqL.of e1, fun q hq => ?_⟩⟩
        refine .inr ⟨q, r, rfl, ?_, hrz, hw, fun H2 s2 => k H2 ((s1.trans (same_upd hq)).trans s2)⟩
        rw [upd_same]
        exact congrArg (fun z => some (HO.lst z)) (cutV_1 _ _)
      · refine ⟨fun σ' H' => σ' = [some (.str "to"), some (.str line), some (.ref p), none] ∧ H' = H1, ⟨_, rfl, rfl, _, rfl, iteF ⟨rfl, rfl⟩⟩, ?_⟩
        rintro σ' H2 ⟨rfl, e⟩
        obtain rfl : H1 = H2 := e.symm
        refine ⟨fun _ _ => False, ?_, fun _ _ z => z.elim⟩
        refine ⟨_, rfl, rfl, _, rfl, iteT ⟨_, rfl, 1, rfl, p, _, rfl, SqL.of e1, fun q hq => ?_⟩⟩
        refine .inr ⟨q, r, rfl, ?_, hrz, hw1, hw2, fun H2 s2 => k H2 ((s1.trans (same_upd hq)).trans s2)⟩
        rw [upd_same]
        exact congrArg (fun z => some (HO.lst z)) (cutV_1 _ _)
      · refine ⟨fun σ' H' => σ' = [some (.str "offer"), some (.str line), some (.ref p), none] ∧ H' = H1, ⟨_, rfl, rfl, _, rfl, iteF ⟨rfl, rfl⟩⟩, ?_⟩
        rintro σ' H2 ⟨rfl, e⟩
        obtain rfl : H1 = H2 := e.symm
        refine ⟨fun σ' H' => σ' = [some (.str "offer"), some (.str line), some (.ref p), none] ∧ H' = H1, ⟨_, rfl, rfl, _, rfl, iteF ⟨rfl, rfl⟩⟩, ?_⟩
        rintro σ' H2 ⟨rfl, e⟩
        obtain rfl : H1 = H2 := e.symm
        refine ⟨fun _ _ => False, ?_, fun _ _ z => z.elim⟩
        refine ⟨_, rfl, rfl, _, rfl, iteT ⟨_, rfl, 1, rfl, p, _, rfl, SqL.of e1, fun q hq => ?_⟩⟩
        refine ⟨q, r, rfl, ?_, hrz, by rw [List.length_cons] at lz; omega, fun x H2 s2 hx => ?_⟩
        · rw [upd_same]
          exact congrArg (fun z => some (HO.lst z)) (cutV_1 _ _)
        · rw [hw] at hx
          cases (show x = .non from hx)
          exact ⟨_, rfl, rfl, _, rfl, iteF (k _ ((s1.trans (same_upd hq)).trans s2))⟩
      · have hk : key ≠ "from" ∧ key ≠ "to" ∧ key ≠ "offer" := by
          simp only [List.mem_cons, List.not_mem_nil, or_false] at hk5
          rcases hk5 with rfl | rfl | rfl | rfl | rfl <;> decide +kernel
        refine ⟨fun σ' H' => σ' = [some (.str key), some (.str line), some (.ref p), none] ∧ H' = H1, ⟨_, rfl, rfl, _, rfl, ?_⟩, ?_⟩
        · rw [vs1, decide_eq_false hk.1]
          exact iteF ⟨rfl, rfl⟩
        rintro σ' H2 ⟨rfl, e⟩
        obtain rfl : H1 = H2 := e.symm
        refine ⟨fun σ' H' => σ' = [some (.str key), some (.str line), some (.ref p), none] ∧ H' = H1, ⟨_, rfl, rfl, _, rfl, ?_⟩, ?_⟩
        · rw [vs1, decide_eq_false hk.2.1]
          exact iteF ⟨rfl, rfl⟩
        rintro σ' H2 ⟨rfl, e⟩
        obtain rfl : H1 = H2 := e.symm
        refine ⟨fun σ' H' => σ' = [some (.str key), some (.str line), some (.ref p), none] ∧ H' = H1, ⟨_, rfl, rfl, _, rfl, ?_⟩, ?_⟩
        · rw [vs1, decide_eq_false hk.2.2]
          exact iteF ⟨rfl, rfl⟩
        rintro σ' H2 ⟨rfl, e⟩
        obtain rfl : H1 = H2 := e.symm
        refine ⟨_, rfl, p, _, rfl, .inl (SqL.of e1), rfl, _, rfl, ?_⟩
        rw [List.length_map, dec_int, List.length_cons]
        by_cases h1 : r.length = 1
        · obtain ⟨w, rfl⟩ : ∃ w, r = [w] := by
            match r, h1 with
            | [a], _ => exact ⟨a, rfl⟩
          exact iteT ⟨_, rfl, _, rfl, p, _, 1, .str w, rfl, rfl, SqL.of e1, rfl, .inr ⟨key, w, rfl, lw w (by simp), hk5, fun x => hw w x rfl, fun H2 s2 => k H2 (s1.trans s2)⟩⟩
        · rw [show (((r.length + 1 : Nat) : Int) == 2) = false by simp only [beq_eq_false_iff_ne]; omega]
          exact iteF (k _ s1)
end K4
set_option maxHeartbeats 4000000
namespace K4
open PySem PySem.Spec PyProof.Rows L2 SX TK TKS
open C8 (pe_c)
/-! ### a letter that can be read -/
def codeV : Option Int → V
  | none => .non
  | some c => .int c
structure GLet (L : Ltr) (o : Option Off) (c : Option Int) : Prop where
  verb : L.verb ∈ verbsL
  code : L.code = codeV c
  codeOk : ∀ n, c = some n → n ∈ codesL
  call : tagB L.call = true
  origin : (splitB L.origin).isSome = true
  otag : tagB L.otag = true
  target : (splitB L.target).isSome = true
  ttag : L.ttag = "" ∨ (L.ttag.length ≠ 0 ∧ tagB L.ttag = true)
  seq0 : 0 ≤ L.seq
  seq1 : L.seq ≤ 999999
  way : tagB L.way = true
  off : ∀ u, o = some u → readO (Txt.split (wordsS u) " ") = some u ∧ OffOk u ∧ 10 ∉ TL.tl (wordsS u) ∧ PyData.strOk (wordsS u) = true ∧ (∀ z ∈ Txt.split (wordsS u) " ", z.length ≤ 1000) ∧ (Txt.split (wordsS u) " ").length ≤ 999
  stay : L.stay = .non ∨ ∃ n : Int, L.stay = .int n ∧ 0 ≤ n ∧ n ≤ 9999
  goal : L.goal = .non ∨ ∃ z : Str, L.goal = .str z ∧ (splitB z).isSome = true
theorem tm_free : ∀ c ∈ TL.tl zTM, c ≠ 32 ∧ c ≠ 10 := by decide +kernel
theorem nm_free : ∀ c ∈ TL.tl zNM, c ≠ 32 ∧ c ≠ 10 := by decide +kernel
theorem tag_free {z : Str} (h : tagB z = true) : 32 ∉ TL.tl z ∧ 10 ∉ TL.tl z ∧ z.length ≤ 16 := by
  obtain ⟨_, h2, h3⟩ := consB_len h
  exact ⟨fun m => (tm_free _ (h3 _ m)).1 rfl, fun m => (tm_free _ (h3 _ m)).2 rfl, by rw [len_eq]; omega⟩
theorem name_free {z : Str} (h : nameB z = true) : 32 ∉ TL.tl z ∧ 10 ∉ TL.tl z ∧ z.length ≤ 16 := by
  unfold nameB at h
  rw [Bool.and_eq_true] at h
  obtain ⟨_, h2, h3⟩ := consB_len h.1
  exact ⟨fun m => (nm_free _ (h3 _ m)).1 rfl, fun m => (nm_free _ (h3 _ m)).2 rfl, by rw [len_eq]; omega⟩
theorem addr_free {z : Str} (h : (splitB z).isSome = true) : 32 ∉ TL.tl z ∧ 10 ∉ TL.tl z ∧ z.length ≤ 33 := by
  unfold splitB at h
  cases e : Txt.split z "@" with
  | nil => rw [e] at h; cases h
  | cons u r => cases r with
    | nil => rw [e] at h; cases h
    | cons w r => cases r with
      | cons _ _ => rw [e] at h; cases h
      | nil =>
        rw [e] at h
        obtain ⟨ez, _, _⟩ := split_parts e
        by_cases g : (nameB u && nameB w) = true
        · rw [Bool.and_eq_true] at g
          obtain ⟨a1, a2, a3⟩ := name_free g.1
          obtain ⟨b1, b2, b3⟩ := name_free g.2
          have el := congrArg List.length ez
          rw [List.length_append, List.length_cons, ← len_eq, ← len_eq, ← len_eq] at el
          rw [ez]
          simp only [List.mem_append, List.mem_cons]
          refine ⟨?_, ?_, by omega⟩
          · rintro (q | q | q)
            · exact a1 q
            · cases q
            · exact b1 q
          · rintro (q | q | q)
            · exact a2 q
            · cases q
            · exact b2 q
        · have e2 : splitO [u, w] = none := by
            show (if (nameB u && nameB w) = true then some (u, w) else none) = none
            rw [if_neg g]
          rw [e2] at h
          cases h
theorem num_free {i : Int} (h0 : 0 ≤ i) : 32 ∉ TL.tl (numS i) ∧ 10 ∉ TL.tl (numS i) := by
  rw [numS_tl h0]
  exact ⟨TL.numL_free (by omega), TL.numL_free (by omega)⟩
theorem cut_sp {ws : List Str} (hne : ws ≠ []) (h : ∀ w ∈ ws, 32 ∉ TL.tl w) : Txt.split (Txt.join " " ws) " " = ws :=
  TL.split_join (y := " ") (s := 32) (S := []) (by decide +kernel) (by decide +kernel) hne h
theorem cut_nl {ws : List Str} (hne : ws ≠ []) (h : ∀ w ∈ ws, 10 ∉ TL.tl w) : Txt.split (Txt.join "\n" ws) "\n" = ws :=
  TL.split_join (y := "\n") (s := 10) (S := []) (by decide +kernel) (by decide +kernel) hne h
theorem tl_sp : TL.tl (" " : Str) = [32] := by decide +kernel
theorem tl_nl : TL.tl ("\n" : Str) = [10] := by decide +kernel
theorem tl_e : TL.tl Str.empty = [] := rfl
theorem join2 {a b p : Str} (h : TL.tl p = TL.tl a ++ [32]) : Str.empty ++ p ++ b = Txt.join " " [a, b] := by
  rw [show ∀ l, Txt.join " " l = Str.join " " l from fun l => TL.join_eq _ _]
  apply TL.ext_tl
  rw [TL.tl_join, TL.tl_append, TL.tl_append, tl_e, h, tl_sp]
  simp [TL.joinL]
theorem join3 {a b c p : Str} (h : TL.tl p = TL.tl a ++ [32]) : Str.empty ++ p ++ b ++ " " ++ c = Txt.join " " [a, b, c] := by
  rw [show ∀ l, Txt.join " " l = Str.join " " l from fun l => TL.join_eq _ _]
  apply TL.ext_tl
  rw [TL.tl_join, TL.tl_append, TL.tl_append, TL.tl_append, TL.tl_append, tl_e, h, tl_sp]
  simp [TL.joinL]
theorem text_join : ∀ l : List Str, textOf l = Txt.join "\n" (l ++ [("" : Str)]) := by
  intro l
  unfold textOf
  rw [show ∀ y l, Txt.join y l = Str.join y l from fun y l => TL.join_eq _ _]
  rw [show ∀ y l, Txt.join y l = Str.join y l from fun y l => TL.join_eq _ _]
  apply TL.ext_tl
  rw [TL.tl_join, TL.tl_join, tl_nl, show TL.tl ("" : Str) = [] from rfl]
  induction l with
  | nil => rfl
  | cons a r ih =>
    have e1 : ∀ m : List Str, TL.joinL [] ((a :: m).map fun z => TL.tl (z ++ ("\n" : Str))) = TL.tl a ++ ([10] ++ TL.joinL [] (m.map fun z => TL.tl (z ++ ("\n" : Str)))) := by
      intro m
      cases m with
      | nil =>
        show TL.tl (a ++ ("\n" : Str)) = _
        rw [TL.tl_append, tl_nl]
        rfl
      | cons b m =>
        show TL.tl (a ++ ("\n" : Str)) ++ ([] ++ TL.joinL [] _) = _
        rw [TL.tl_append, tl_nl, List.nil_append, List.append_assoc]
        rfl
    rw [List.map_map] at ih ⊢
    have e2 := e1 r
    refine e2.trans ?_
    have e3 : TL.joinL [10] ((a :: r ++ [("" : Str)]).map TL.tl) = TL.tl a ++ ([10] ++ TL.joinL [10] ((r ++ [("" : Str)]).map TL.tl)) := by
      cases r <;> rfl
    rw [e3]
    exact congrArg (fun z => TL.tl a ++ ([10] ++ z)) ih
theorem text_cut {l : List Str} (h : ∀ w ∈ l, 10 ∉ TL.tl w) : Txt.split (textOf l) "\n" = l ++ [("" : Str)] := by
  rw [text_join]
  refine cut_nl (by simp) fun w hw => ?_
  rcases List.mem_append.mp hw with q | q
  · exact h w q
  · rw [List.mem_singleton.mp q]
    exact List.not_mem_nil
theorem cut2 {a b p : Str} (h : TL.tl p = TL.tl a ++ [32]) (ha : 32 ∉ TL.tl a) (hb : 32 ∉ TL.tl b) : Txt.split (Str.empty ++ p ++ b) " " = [a, b] := by
  rw [join2 h]
  refine cut_sp (by simp) fun w hw => ?_
  simp only [List.mem_cons, List.not_mem_nil, or_false] at hw
  rcases hw with rfl | rfl
  · exact ha
  · exact hb
theorem cut3 {a b c p : Str} (h : TL.tl p = TL.tl a ++ [32]) (ha : 32 ∉ TL.tl a) (hb : 32 ∉ TL.tl b) (hc : 32 ∉ TL.tl c) : Txt.split (Str.empty ++ p ++ b ++ " " ++ c) " " = [a, b, c] := by
  rw [join3 h]
  refine cut_sp (by simp) fun w hw => ?_
  simp only [List.mem_cons, List.not_mem_nil, or_false] at hw
  rcases hw with rfl | rfl | rfl
  · exact ha
  · exact hb
  · exact hc
end K4
set_option maxHeartbeats 4000000
namespace K4
open PySem PySem.Spec PyProof.Rows L2 SX TK TKS
open C8 (pe_c)
theorem tm_ok : ∀ c ∈ TL.tl zTM, c < 0x110000 := by decide +kernel
theorem nm_ok : ∀ c ∈ TL.tl zNM, c < 0x110000 := by decide +kernel
theorem tag_ok {z : Str} (h : tagB z = true) : PyData.strOk z = true := ok_iff.mpr fun c hc => tm_ok _ ((consB_len h).2.2 c hc)
theorem name_okS {z : Str} (h : nameB z = true) : ∀ c ∈ TL.tl z, c < 0x110000 := fun c hc => by
  unfold nameB at h
  rw [Bool.and_eq_true] at h
  exact nm_ok _ ((consB_len h.1).2.2 c hc)
theorem addr_ok {z : Str} (h : (splitB z).isSome = true) : PyData.strOk z = true := by
  rw [ok_iff]
  unfold splitB at h
  cases e : Txt.split z "@" with
  | nil => rw [e] at h; cases h
  | cons u r => cases r with
    | nil => rw [e] at h; cases h
    | cons w r => cases r with
      | cons _ _ => rw [e] at h; cases h
      | nil =>
        rw [e] at h
        obtain ⟨ez, _, _⟩ := split_parts e
        by_cases g : (nameB u && nameB w) = true
        · rw [Bool.and_eq_true] at g
          intro c hc
          rw [ez, List.mem_append, List.mem_cons] at hc
          rcases hc with q | q | q
          · exact name_okS g.1 c q
          · rw [q]; decide
          · exact name_okS g.2 c q
        · have e2 : splitO [u, w] = none := by
            show (if (nameB u && nameB w) = true then some (u, w) else none) = none
            rw [if_neg g]
          rw [e2] at h
          cases h
theorem verbs_ok : ∀ z ∈ verbsL, PyData.strOk z = true ∧ 32 ∉ TL.tl z ∧ 10 ∉ TL.tl z := by decide +kernel
theorem GLet.lok {L : Ltr} {o : Option Off} {c : Option Int} (g : GLet L o c) : LOk L := by
  have a1 := tag_free g.call
  have a2 := addr_free g.origin
  have a3 := tag_free g.otag
  have a4 := addr_free g.target
  have a5 := tag_free g.way
  have a6 := verbs_len _ g.verb
  have s0 := g.seq0
  have s1 := g.seq1
  have tt : PyData.strOk L.ttag = true ∧ L.ttag.length ≤ 16 := by
    rcases g.ttag with e | ⟨_, e⟩
    · rw [e]
      exact ⟨by decide +kernel, by decide +kernel⟩
    · exact ⟨tag_ok e, (tag_free e).2.2⟩
  refine ⟨⟨(verbs_ok _ g.verb).1, tag_ok g.call, addr_ok g.origin, tag_ok g.otag, addr_ok g.target, tt.1, tag_ok g.way⟩, s0, by omega, by omega, by omega, by omega, by omega, by omega, by omega, by omega, ?_⟩
  rw [g.code]
  cases c with
  | none => exact .inl rfl
  | some n =>
    have h : 0 ≤ n ∧ n ≤ 99 := (by decide : ∀ c ∈ codesL, 0 ≤ c ∧ c ≤ 99) n (g.codeOk n rfl)
    exact .inr ⟨n, rfl, h.1, by omega⟩
theorem GLet.xok {L : Ltr} {o : Option Off} {c : Option Int} (g : GLet L o c) : XOk L o := by
  refine ⟨fun u e => (g.off u e).2.1, fun u e => (g.off u e).2.2.2.1, ?_, ?_⟩
  · rcases g.stay with e | ⟨n, e, h0, h1⟩
    · exact .inl e
    · exact .inr ⟨n, e, h0, by omega⟩
  · rcases g.goal with e | ⟨z, e, h⟩
    · exact .inl e
    · have := (addr_free h).2.2
      exact .inr ⟨z, e, addr_ok h, by omega⟩
/-! ### the lines that every letter has -/
def keyI : Nat → Str
  | 0 => "call"
  | 1 => "from"
  | 2 => "to"
  | 3 => "seq"
  | _ => "way"
def lineI (L : Ltr) : Nat → Str
  | 0 => Str.empty ++ "call " ++ L.call
  | 1 => Str.empty ++ "from " ++ L.origin ++ " " ++ L.otag
  | 2 => toS L
  | 3 => Str.empty ++ "seq " ++ numS L.seq
  | _ => Str.empty ++ "way " ++ L.way
def ksI : Nat → List Str
  | 0 => ["call"]
  | 1 => ["origin", "origin_tag"]
  | 2 => ["target", "target_tag"]
  | 3 => ["seq"]
  | _ => ["way"]
def zsI (L : Ltr) : Nat → List V
  | 0 => [.str L.call]
  | 1 => [.str L.origin, .str L.otag]
  | 2 => [.str L.target, .str L.ttag]
  | 3 => [.int L.seq]
  | _ => [.str L.way]
theorem toS_cut {L : Ltr} {o : Option Off} {c : Option Int} (g : GLet L o c) : Txt.split (toS L) " " = (("to" : Str) :: tgW L.target L.ttag : List Str) := by
  have a4 := addr_free g.target
  unfold toS tgW
  rcases g.ttag with e | ⟨h, e⟩
  · rw [e, if_neg (by decide +kernel), if_pos (show ("" : Str).length = 0 from rfl)]
    exact cut2 (by decide +kernel) (by decide +kernel) a4.1
  · rw [if_pos (by simpa using h), if_neg h]
    exact cut3 (by decide +kernel) (by decide +kernel) a4.1 (tag_free e).1
theorem need_line {L : Ltr} {o : Option Off} {c : Option Int} (g : GLet L o c) (i : Nat) {H : Hp} {Q : VK} {E : XK} (k : ∀ d H', Same H H' → H d = none → H' d = some (.dK (dkOf (ksI i) (zsI L i))) → Q (.ref d) H') : spLine [.str (keyI i), .str (lineI L i)] H Q E := by
  have ll := linesS_len g.lok
  have a1 := tag_free g.call
  have a2 := addr_free g.origin
  have a3 := tag_free g.otag
  have a4 := addr_free g.target
  have a5 := tag_free g.way
  have w2 : ∀ (x y : Str), x.length ≤ 1000 → y.length ≤ 1000 → ∀ z ∈ [x, y], z.length ≤ 1000 := by
    intro x y hx hy z hz
    simp only [List.mem_cons, List.not_mem_nil, or_false] at hz
    rcases hz with rfl | rfl
    · exact hx
    · exact hy
  match i, k with
  | 0, k => exact ⟨_, _, ["call", L.call], rfl, cut2 (by decide +kernel) (by decide +kernel) a1.1, ll _ (by simp [linesS, lineI]), w2 _ _ (by decide +kernel) (by omega), by simp, .inr (.inr (.inr (.inr (.inl ⟨_, _, rfl, .call g.call, k⟩))))⟩
  | 1, k => exact ⟨_, _, ["from", L.origin, L.otag], rfl, cut3 (by decide +kernel) (by decide +kernel) a2.1 a3.1, ll _ (by simp [linesS, lineI]), (fun z hz => by
      simp only [List.mem_cons, List.not_mem_nil, or_false] at hz
      rcases hz with rfl | rfl | rfl
      · decide +kernel
      · omega
      · omega), by simp, .inr (.inl ⟨_, _, rfl, rfl, g.origin, g.otag, k⟩)⟩
  | 2, k => exact ⟨_, _, _, rfl, toS_cut g, ll _ (by simp [linesS, lineI]), (fun z hz => by
      unfold tgW at hz
      rcases g.ttag with e | ⟨h, e⟩
      · rw [e, if_pos (show ("" : Str).length = 0 from rfl)] at hz
        exact w2 _ _ (by decide +kernel) (by omega) z hz
      · rw [if_neg h] at hz
        have := (tag_free e).2.2
        simp only [List.mem_cons, List.not_mem_nil, or_false] at hz
        rcases hz with rfl | rfl | rfl
        · decide +kernel
        · omega
        · omega), by unfold tgW; split <;> simp, .inr (.inr (.inl ⟨_, _, rfl, rfl, g.target, g.ttag, k⟩))⟩
  | 3, k => exact ⟨_, _, ["seq", numS L.seq], rfl, cut2 (by decide +kernel) (by decide +kernel) (num_free g.seq0).1, ll _ (by simp [linesS, lineI]), w2 _ _ (by decide +kernel) (Nat.le_trans (numS_len (by have := g.seq0; have := g.seq1; omega)) (by decide)), by simp, .inr (.inr (.inr (.inr (.inl ⟨_, _, rfl, .seq (num_back g.seq0 g.seq1 (by have := g.seq1; omega)), k⟩))))⟩
  | n + 4, k => exact ⟨_, _, ["way", L.way], rfl, cut2 (by decide +kernel) (by decide +kernel) a5.1, ll _ (by simp [linesS, lineI]), w2 _ _ (by decide +kernel) (by omega), by simp, .inr (.inr (.inr (.inr (.inl ⟨_, _, rfl, .way g.way, k⟩))))⟩
/-! ### the lines that a letter may have -/
def keyP : Nat → Str
  | 0 => "offer"
  | 1 => "stay"
  | _ => "goal"
def lineP (L : Ltr) (o : Option Off) : Nat → List Str
  | 0 => offL o
  | 1 => stayL L.stay
  | _ => goalL L.goal
/-- what stands for the part j -/
def XV (L : Ltr) (o : Option Off) (H : Hp) : Nat → V → Prop
  | 0, x => ∃ u, o = some u ∧ OffAt H x u
  | 1, x => x = L.stay
  | _, x => x = L.goal
theorem split_sp_ne (w : Str) : Txt.split w " " ≠ [] := by
  intro e
  have q := congrArg TL.tl (StrLaws.join_split w " ")
  rw [e, TL.tl_join] at q
  have q2 : TL.tl w = [] := q.symm
  have e2 : w = S [] := TL.ext_tl (by rw [q2])
  have e3 : Txt.split (S []) " " = [S []] := by decide +kernel
  rw [e2, e3] at e
  cases e
theorem cut_cons {a p : Str} (w : Str) (h : TL.tl p = TL.tl a ++ [32]) (ha : 32 ∉ TL.tl a) : Txt.split (Str.empty ++ p ++ w) " " = a :: Txt.split w " " := by
  have e1 := StrLaws.join_split w " "
  have e32 : (" " : Str) = S [32] := by decide +kernel
  have f1 : ∀ p ∈ Txt.split w " ", 32 ∉ TL.tl p := by
    rw [e32]
    exact StrLaws.split_free w 32
  have hne : Txt.split w " " ≠ [] := split_sp_ne w
  have e : Str.empty ++ p ++ w = Txt.join " " (a :: Txt.split w " ") := by
    rw [show ∀ l, Txt.join " " l = Str.join " " l from fun l => TL.join_eq _ _]
    apply TL.ext_tl
    rw [TL.tl_join, TL.tl_append, TL.tl_append, tl_e, h, tl_sp]
    have e2 := congrArg TL.tl e1
    rw [TL.tl_join, tl_sp] at e2
    cases q : Txt.split w " " with
    | nil => exact absurd q hne
    | cons b r =>
      rw [q] at e2
      show [] ++ (TL.tl a ++ [32]) ++ TL.tl w = TL.tl a ++ ([32] ++ TL.joinL [32] ((b :: r).map TL.tl))
      rw [e2, List.nil_append, List.append_assoc]
  rw [e]
  refine cut_sp (by simp) fun x hx => ?_
  rcases List.mem_cons.mp hx with rfl | q
  · exact ha
  · exact f1 x q
theorem poss_here {L : Ltr} {o : Option Off} {c : Option Int} (g : GLet L o c) (j : Nat) {z : Str} (hz : lineP L o j = [z]) {H : Hp} {Q : VK} {E : XK}
    (k : ∀ d x H', Same H H' → H d = none → XV L o H' j x → H' d = some (.dK (dkOf [keyP j] [x])) → Q (.ref d) H') : spLine [.str (keyP j), .str z] H Q E := by
  have ll : z.length ≤ 3000 := linesX_len g.lok g.xok z (by
    unfold linesX
    match j, hz with
    | 0, hz => rw [show offL o = [z] from hz]; simp
    | 1, hz => rw [show stayL L.stay = [z] from hz]; simp
    | n + 2, hz => rw [show goalL L.goal = [z] from hz]; simp)
  match j, hz, k with
  | 0, hz, k =>
    cases o with
    | none => cases hz
    | some u =>
      obtain ⟨r1, r2, r3, r4, r5, r6⟩ := g.off u rfl
      obtain rfl : Str.empty ++ "offer " ++ wordsS u = z := (List.cons.inj hz).1
      exact ⟨_, _, _, rfl, cut_cons (a := "offer") _ (by decide +kernel) (by decide +kernel), ll, (fun y hy => by
        rcases List.mem_cons.mp hy with rfl | q
        · decide +kernel
        · exact r5 y q), by rw [List.length_cons]; omega, .inr (.inr (.inr (.inl ⟨_, u, rfl, rfl, r1, fun d x H' s hd hx e => k d x H' s hd ⟨u, rfl, hx⟩ e⟩)))⟩
  | 1, hz, k =>
    rcases g.stay with e | ⟨n, e, h0, h1⟩
    · rw [show lineP L o 1 = stayL L.stay from rfl, e] at hz
      cases hz
    · rw [show lineP L o 1 = stayL L.stay from rfl, e] at hz
      obtain rfl : Str.empty ++ "stay " ++ numS n = z := (List.cons.inj hz).1
      have := numS_len (i := n) (by omega)
      exact ⟨_, _, ["stay", numS n], rfl, cut2 (by decide +kernel) (by decide +kernel) (num_free h0).1, ll, (fun y hy => by
        simp only [List.mem_cons, List.not_mem_nil, or_false] at hy
        rcases hy with rfl | rfl
        · decide +kernel
        · omega), by simp, .inr (.inr (.inr (.inr (.inl ⟨_, .int n, rfl, .stay (num_back h0 h1 (by omega)), fun d H' s hd q => k d _ H' s hd e.symm q⟩))))⟩
  | m + 2, hz, k =>
    rcases g.goal with e | ⟨y, e, h0⟩
    · rw [show lineP L o (m + 2) = goalL L.goal from rfl, e] at hz
      cases hz
    · rw [show lineP L o (m + 2) = goalL L.goal from rfl, e] at hz
      obtain rfl : Str.empty ++ "goal " ++ y = z := (List.cons.inj hz).1
      have ya := addr_free h0
      exact ⟨_, _, ["goal", y], rfl, cut2 (by decide +kernel) (by decide +kernel) ya.1, ll, (fun y hy => by
        simp only [List.mem_cons, List.not_mem_nil, or_false] at hy
        rcases hy with rfl | rfl
        · decide +kernel
        · omega), by simp, .inr (.inr (.inr (.inr (.inl ⟨_, .str y, rfl, .goal h0, fun d H' s hd q => k d _ H' s hd e.symm q⟩))))⟩
/-- the first word of the line j -/
theorem poss_not {L : Ltr} {o : Option Off} {c : Option Int} (g : GLet L o c) (j : Nat) {z key : Str} (hz : lineP L o j = [z]) (hk : keyP j ≠ key) {H : Hp} {Q : VK} {E : XK}
    (k : ∀ H', Same H H' → Q .non H') : spLine [.str key, .str z] H Q E := by
  have ll : z.length ≤ 3000 := linesX_len g.lok g.xok z (by
    unfold linesX
    match j, hz with
    | 0, hz => rw [show offL o = [z] from hz]; simp
    | 1, hz => rw [show stayL L.stay = [z] from hz]; simp
    | n + 2, hz => rw [show goalL L.goal = [z] from hz]; simp)
  match j, hz, hk with
  | 0, hz, hk =>
    cases o with
    | none => cases hz
    | some u =>
      obtain ⟨r1, r2, r3, r4, r5, r6⟩ := g.off u rfl
      obtain rfl : Str.empty ++ "offer " ++ wordsS u = z := (List.cons.inj hz).1
      exact ⟨_, _, _, rfl, cut_cons (a := "offer") _ (by decide +kernel) (by decide +kernel), ll, (fun y hy => by
        rcases List.mem_cons.mp hy with rfl | q
        · decide +kernel
        · exact r5 y q), by rw [List.length_cons]; omega, .inl ⟨_, _, rfl, hk, k⟩⟩
  | 1, hz, hk =>
    rcases g.stay with e | ⟨n, e, h0, h1⟩
    · rw [show lineP L o 1 = stayL L.stay from rfl, e] at hz
      cases hz
    · rw [show lineP L o 1 = stayL L.stay from rfl, e] at hz
      obtain rfl : Str.empty ++ "stay " ++ numS n = z := (List.cons.inj hz).1
      have := numS_len (i := n) (by omega)
      exact ⟨_, _, ["stay", numS n], rfl, cut2 (by decide +kernel) (by decide +kernel) (num_free h0).1, ll, (fun y hy => by
        simp only [List.mem_cons, List.not_mem_nil, or_false] at hy
        rcases hy with rfl | rfl
        · decide +kernel
        · omega), by simp, .inl ⟨_, _, rfl, hk, k⟩⟩
  | m + 2, hz, hk =>
    rcases g.goal with e | ⟨y, e, h0⟩
    · rw [show lineP L o (m + 2) = goalL L.goal from rfl, e] at hz
      cases hz
    · rw [show lineP L o (m + 2) = goalL L.goal from rfl, e] at hz
      obtain rfl : Str.empty ++ "goal " ++ y = z := (List.cons.inj hz).1
      have ya := addr_free h0
      exact ⟨_, _, ["goal", y], rfl, cut2 (by decide +kernel) (by decide +kernel) ya.1, ll, (fun y hy => by
        simp only [List.mem_cons, List.not_mem_nil, or_false] at hy
        rcases hy with rfl | rfl
        · decide +kernel
        · omega), by simp, .inl ⟨_, _, rfl, hk, k⟩⟩
end K4
set_option maxHeartbeats 4000000
namespace K4
open PySem PySem.Spec PyProof.Rows L2 SX TK TKS
open C8 (pe_c)
/-! ### read, of a letter's own text -/
theorem GLet.nonl {L : Ltr} {o : Option Off} {c : Option Int} (g : GLet L o c) : ∀ z ∈ linesX L o, 10 ∉ TL.tl z := by
  have a1 := (tag_free g.call).2.1
  have a2 := (addr_free g.origin).2.1
  have a3 := (tag_free g.otag).2.1
  have a4 := (addr_free g.target).2.1
  have a5 := (tag_free g.way).2.1
  have a6 := (verbs_ok _ g.verb).2.2
  have a7 := (num_free g.seq0).2
  have cat : ∀ {x y : Str}, 10 ∉ TL.tl x → 10 ∉ TL.tl y → 10 ∉ TL.tl (x ++ y) := fun hx hy => by
    rw [TL.tl_append, List.mem_append]
    exact fun h => h.elim hx hy
  have e0 : 10 ∉ TL.tl Str.empty := List.not_mem_nil
  intro z hz
  unfold linesX at hz
  rw [List.mem_append, List.mem_append, List.mem_append] at hz
  rcases hz with ((hz | hz) | hz) | hz
  · simp only [linesS, List.mem_cons, List.not_mem_nil, or_false] at hz
    rcases hz with rfl | rfl | rfl | rfl | rfl | rfl
    · unfold headS
      rw [g.code]
      cases c with
      | none => exact cat (cat e0 (by decide +kernel)) a6
      | some n =>
        have h : 0 ≤ n ∧ n ≤ 99 := (by decide : ∀ c ∈ codesL, 0 ≤ c ∧ c ≤ 99) n (g.codeOk n rfl)
        exact cat (cat (cat (cat e0 (by decide +kernel)) (num_free h.1).2) (by decide +kernel)) a6
    · exact cat (cat e0 (by decide +kernel)) a1
    · exact cat (cat (cat (cat e0 (by decide +kernel)) a2) (by decide +kernel)) a3
    · unfold toS
      split
      · rename_i h
        rcases g.ttag with e | ⟨_, e⟩
        · rw [e] at h
          exact absurd h (by decide +kernel)
        · exact cat (cat (cat (cat e0 (by decide +kernel)) a4) (by decide +kernel)) (tag_free e).2.1
      · exact cat (cat e0 (by decide +kernel)) a4
    · exact cat (cat e0 (by decide +kernel)) a7
    · exact cat (cat e0 (by decide +kernel)) a5
  · cases o with
    | none => cases hz
    | some u =>
      rw [List.mem_singleton.mp hz]
      exact cat (cat e0 (by decide +kernel)) (g.off u rfl).2.2.1
  · rcases g.stay with e | ⟨n, e, h0, _⟩
    · rw [e] at hz
      cases hz
    · rw [e] at hz
      rw [List.mem_singleton.mp hz]
      exact cat (cat e0 (by decide +kernel)) (num_free h0).2
  · rcases g.goal with e | ⟨y, e, h0⟩
    · rw [e] at hz
      cases hz
    · rw [e] at hz
      rw [List.mem_singleton.mp hz]
      exact cat (cat e0 (by decide +kernel)) (addr_free h0).2.1
theorem head_cut {L : Ltr} {o : Option Off} {c : Option Int} (g : GLet L o c) : Txt.split (headS L) " " = headW L.verb c := by
  have a6 := (verbs_ok _ g.verb).2.1
  unfold headS
  rw [g.code]
  cases c with
  | none => exact cut2 (by decide +kernel) (by decide +kernel) a6
  | some n =>
    have h : 0 ≤ n ∧ n ≤ 99 := (by decide : ∀ c ∈ codesL, 0 ≤ c ∧ c ≤ 99) n (g.codeOk n rfl)
    exact cut3 (by decide +kernel) (by decide +kernel) (num_free h.1).1 a6
theorem line_at (L : Ltr) (o : Option Off) (i : Nat) (hi : i < 5) : atI ((linesX L o).map V.str) ((((i : Nat) : Int) + 1 + 1) - 1) = some (.str (lineI L i)) := by
  have hl : 6 ≤ ((linesX L o).map V.str).length := by
    rw [List.length_map]
    unfold linesX
    rw [List.length_append, List.length_append, List.length_append]
    show 6 ≤ 6 + _ + _ + _
    omega
  rw [atN (V.str "") (by omega) (by omega)]
  have e : ((((i : Nat) : Int) + 1 + 1) - 1).toNat = i + 1 := by omega
  rw [e]
  match i, hi with
  | 0, _ => rfl
  | 1, _ => rfl
  | 2, _ => rfl
  | 3, _ => rfl
  | 4, _ => rfl
def hKb : Bool → List Str
  | false => ["verb"]
  | true => ["verb", "code"]
theorem hKb_eq (c : Option Int) : headK c = hKb c.isSome := by cases c <;> rfl
def KK (b : Bool) : Nat → List Str
  | 0 => hKb b
  | i + 1 => KK b i ++ ksI i
def ZZ (L : Ltr) (c : Option Int) : Nat → List V
  | 0 => headZ L.verb c
  | i + 1 => ZZ L c i ++ zsI L i
theorem ksI_len (L : Ltr) : ∀ i, (ksI i).length = (zsI L i).length
  | 0 => rfl
  | 1 => rfl
  | 2 => rfl
  | 3 => rfl
  | _ + 4 => rfl
theorem KK_len (L : Ltr) (c : Option Int) : ∀ i, (KK c.isSome i).length = (ZZ L c i).length
  | 0 => by cases c <;> rfl
  | i + 1 => by
    show (KK c.isSome i ++ ksI i).length = (ZZ L c i ++ zsI L i).length
    rw [List.length_append, List.length_append, KK_len L c i, ksI_len L i]
theorem KK_nd : ∀ b : Bool, ∀ i < 5, (KK b i ++ ksI i).Nodup := by decide +kernel
theorem KK_short : ∀ b : Bool, ∀ i < 6, (KK b i).length ≤ 9 := by decide +kernel
theorem dkOf_len {ks : List Str} {zs : List V} (h : ks.length = zs.length) : (dkOf ks zs).length = ks.length := by
  unfold dkOf
  rw [List.length_map, List.length_zip, h, Nat.min_self]
/-! the parts that a letter may have -/
def tailP (L : Ltr) (o : Option Off) : Nat → List Str
  | 0 => offL o ++ (stayL L.stay ++ goalL L.goal)
  | 1 => stayL L.stay ++ goalL L.goal
  | 2 => goalL L.goal
  | _ => []
def ExtAt (L : Ltr) (o : Option Off) (H : Hp) : Nat → List Str → List V → Prop
  | 0, kx, zx => kx = [] ∧ zx = []
  | j + 1, kx, zx => ∃ k0 z0, ExtAt L o H j k0 z0 ∧ ((lineP L o j = [] ∧ kx = k0 ∧ zx = z0) ∨ ∃ z x, lineP L o j = [z] ∧ XV L o H j x ∧ kx = k0 ++ [keyP j] ∧ zx = z0 ++ [x])
theorem XV.same {L : Ltr} {o : Option Off} {H H' : Hp} (s : Same H H') : ∀ {j : Nat} {x : V}, XV L o H j x → XV L o H' j x
  | 0, _, ⟨u, e, h⟩ => ⟨u, e, h.same s⟩
  | 1, _, h => h
  | _ + 2, _, h => h
theorem ExtAt.same {L : Ltr} {o : Option Off} {H H' : Hp} (s : Same H H') : ∀ {j : Nat} {kx : List Str} {zx : List V}, ExtAt L o H j kx zx → ExtAt L o H' j kx zx
  | 0, _, _, h => h
  | j + 1, _, _, ⟨k0, z0, h, q⟩ => ⟨k0, z0, h.same s, q.imp id fun ⟨z, x, a, b, e⟩ => ⟨z, x, a, b.same s, e⟩⟩
theorem ExtAt.sub {L : Ltr} {o : Option Off} {H : Hp} : ∀ {j : Nat} {kx : List Str} {zx : List V}, ExtAt L o H j kx zx → kx.Sublist ((List.range j).map keyP) ∧ kx.length = zx.length
  | 0, _, _, ⟨e1, e2⟩ => by rw [e1, e2]; exact ⟨List.Sublist.slnil, rfl⟩
  | j + 1, _, _, ⟨k0, z0, h, q⟩ => by
    obtain ⟨a, b⟩ := h.sub
    rw [List.range_succ, List.map_append]
    rcases q with ⟨_, rfl, rfl⟩ | ⟨z, x, _, _, rfl, rfl⟩
    · exact ⟨a.trans (List.sublist_append_left _ _), b⟩
    · exact ⟨a.append (List.Sublist.refl _), by rw [List.length_append, List.length_append, b]; rfl⟩
theorem PK_nd : ∀ b : Bool, ∀ j < 4, (KK b 5 ++ (List.range j).map keyP).Nodup := by decide +kernel
theorem lineP_cases (L : Ltr) (o : Option Off) : ∀ j, lineP L o j = [] ∨ ∃ z, lineP L o j = [z]
  | 0 => by
    show offL o = [] ∨ ∃ z, offL o = [z]
    cases o
    · exact .inl rfl
    · exact .inr ⟨_, rfl⟩
  | 1 => by
    show stayL L.stay = [] ∨ ∃ z, stayL L.stay = [z]
    unfold stayL
    split
    · exact .inr ⟨_, rfl⟩
    · exact .inl rfl
  | _ + 2 => by
    show goalL L.goal = [] ∨ ∃ z, goalL L.goal = [z]
    unfold goalL
    split
    · exact .inr ⟨_, rfl⟩
    · exact .inl rfl
theorem tail_split (L : Ltr) (o : Option Off) : ∀ j < 3, tailP L o j = lineP L o j ++ tailP L o (j + 1)
  | 0, _ => rfl
  | 1, _ => rfl
  | 2, _ => (List.append_nil _).symm
theorem next_line {L : Ltr} {o : Option Off} {z : Str} {r : List Str} : ∀ j < 3, tailP L o (j + 1) = z :: r → ∃ i, lineP L o i = [z] ∧ keyP i ≠ keyP j
  | 0, _, h => by
    have h2 : lineP L o 1 ++ lineP L o 2 = z :: r := h
    rcases lineP_cases L o 1 with e | ⟨y, e⟩
    · rw [e, List.nil_append] at h2
      rcases lineP_cases L o 2 with e3 | ⟨y, e3⟩
      · rw [e3] at h2
        cases h2
      · rw [e3] at h2
        obtain rfl : y = z := (List.cons.inj h2).1
        exact ⟨2, e3, by decide +kernel⟩
    · rw [e] at h2
      obtain rfl : y = z := (List.cons.inj h2).1
      exact ⟨1, e, by decide +kernel⟩
  | 1, _, h => by
    have h2 : lineP L o 2 = z :: r := h
    rcases lineP_cases L o 2 with e3 | ⟨y, e3⟩
    · rw [e3] at h2
      cases h2
    · rw [e3] at h2
      obtain rfl : y = z := (List.cons.inj h2).1
      exact ⟨2, e3, by decide +kernel⟩
  | 2, _, h => nomatch h
theorem drop_at {ls : List Str} {nn : Nat} {z : Str} {r : List Str} (h : ls.drop nn = z :: r) : nn < ls.length ∧ atI (ls.map V.str) ((nn : Nat) : Int) = some (.str z) ∧ ls.drop (nn + 1) = r := by
  have hlt : nn < ls.length := by
    rcases Nat.lt_or_ge nn ls.length with q | q
    · exact q
    · rw [List.drop_eq_nil_of_le q] at h
      cases h
  rw [List.drop_eq_getElem_cons hlt] at h
  obtain ⟨h1, h2⟩ := List.cons.inj h
  refine ⟨hlt, ?_, h2⟩
  rw [atN (V.str "") (by omega) (by rw [List.length_map]; omega), Int.toNat_natCast, List.getD_eq_getElem?_getD, List.getElem?_map, List.getElem?_eq_getElem hlt, h1]
  rfl
theorem XV.updD {L : Ltr} {o : Option Off} {H : Hp} {d : Addr} {kvs kvs' : List (Key × V)} (hd : H d = some (.dK kvs)) : ∀ {j : Nat} {x : V}, XV L o H j x → XV L o (upd H d (.dK kvs')) j x
  | 0, _, ⟨u, e, p, f, e0, e1, e2⟩ => ⟨u, e, p, f, e0, by rw [upd_ne (fun z => by rw [z, hd] at e1; cases e1)]; exact e1, by rw [upd_ne (fun z => by rw [z, hd] at e2; cases e2)]; exact e2⟩
  | 1, _, h => h
  | _ + 2, _, h => h
theorem ExtAt.updD {L : Ltr} {o : Option Off} {H : Hp} {d : Addr} {kvs kvs' : List (Key × V)} (hd : H d = some (.dK kvs)) : ∀ {j : Nat} {kx : List Str} {zx : List V}, ExtAt L o H j kx zx → ExtAt L o (upd H d (.dK kvs')) j kx zx
  | 0, _, _, h => h
  | j + 1, _, _, ⟨k0, z0, h, q⟩ => ⟨k0, z0, h.updD hd, q.imp id fun ⟨z, x, a, b, e⟩ => ⟨z, x, a, b.updD hd, e⟩⟩
end K4
set_option maxHeartbeats 4000000
set_option pp.maxSteps 400
namespace K4
open PySem PySem.Spec PyProof.Rows L2 SX TK TKS
open C8 (pe_c)
/-! ### the law's source of draws -/
def spState (K : PySem.W.Frag) : Sp := fun vs H Q _ => ∃ (a : Addr) (ns : List Int), vs = [.ref a] ∧ SqL K H a (ns.map V.int) ∧ ns.length ≤ 63 ∧ ∀ s c H', Same H H' → H s = none → H c = none → StAt H' s c → Q (.ref s) H'
theorem ok_law_state {P : Program} {w : World} {K : PySem.W.Frag} {mg : Str → Option Value} {base : Heap} {f : Addr} {fd : FuncData} (T : Tx K mg) 
    (F : FunD K "_law_state" "_law_state" (defArgs s_law_state) (defBody s_law_state) (defScope s_law_state) [] [] f fd) : FnOk P w K mg base CX0 1 f fd ["script"] (spState K) := by
  refine F.ok sc_law_state (fun vs H Q E h => ?_) (fun cdv A outer s H vs Q E hr h => ?_)
  · obtain ⟨a, ns, rfl, _⟩ := h
    rfl
  · obtain ⟨a, ns, rfl, hS, hn, k⟩ := h
    refine ⟨_, PSs.nox (pss_cons (ps_set (i := 1) sc_law_state.nd rfl (Or.inl rfl) pe_int) (pss_cons (ps_for PassesOwn.never rfl (pi_list (pv 0)) (pg_name (i := 2) sc_law_state.nd rfl (Or.inl rfl)) (pss_one (ps_set (i := 1) sc_law_state.nd rfl (Or.inl rfl) (pe_op op_mod (pe_callTy call_int1 rfl T.f_int (by decide +kernel) (pa_cons (pe_op op_add (pe_op op_mul (pv 1) pe_int) (pv 2)) pa_nil)) pe_int)))) (pss_one (ps_ret (pe_lst (pa_cons (pe_lc (own := [("cell", 2)]) (g := gName 2) rfl sc_law_state.nd (pi_list (pv 0)) (blkOk_by (own := [("cell", 2)]) (N := ["script", "seed", "cell"]) (sc := defScope s_law_state) (by decide +kernel)) (fun _ _ _ _ _ => pg_name (i := 2) sc_law_state.nd rfl (Or.inl rfl)) (fun _ _ _ _ _ => pts_nil) (fun _ _ _ _ _ => (pe_callB call_abs rfl T.f_abs (by decide +kernel) (pa_cons (pv 2) pa_nil)))) (pa_cons (pe_op op_add (pv 1) pe_int) pa_nil))))))), ?_⟩
    refine ⟨_, rfl, a, rfl, ⟨_, hS⟩, for_list (K := K) (a := a) (xs := ns.map V.int) (fun i σ H' => H' = H ∧ ∃ (n : Int) (v : Option V), σ = [some (.ref a), some (.int n), v]) ⟨rfl, 7, none, rfl⟩ (fun i σ H' _ q => q.1 ▸ hS) ?_ ?_⟩
    · rintro i y σ H' hi ⟨rfl, n, v, rfl⟩
      obtain ⟨z, rfl⟩ : ∃ z, y = V.int z := by
        obtain ⟨z, _, e⟩ := List.mem_map.mp (List.mem_of_getElem? hi)
        exact ⟨z, e.symm⟩
      refine ⟨_, rfl, _, _, rfl, rfl, .inr ⟨by decide, by decide⟩, _, rfl, _, _, rfl, rfl, .inl ⟨_, rfl, _, _, rfl, rfl, (by show (0 : Int) < 1000003; decide), rfl, _, _, rfl⟩⟩
    · rintro σ H' ⟨rfl, n, v, rfl⟩
      refine ⟨_, rfl, a, rfl, ⟨_, hS⟩, fun D hD => ?_⟩
      have hS2 : ∀ o, SqL K (upd H' D o) a (ns.map V.int) := fun o => (same_upd hD).seq hS
      refine lc_pureN walk_list (fun i => V.int (if ns.getD i 0 < 0 then -(ns.getD i 0) else ns.getD i 0)) (by rw [List.length_map]; exact Nat.le_trans hn (by decide)) (fun _ _ => hS2 _) (fun i x H1 kk hi y q => ?_) ?_
      · obtain ⟨rfl, hx⟩ := y
        refine ⟨rfl, _, rfl, ns.getD i 0, ?_, q⟩
        rw [List.getElem?_map] at hx
        rw [List.length_map] at hi
        rw [List.getElem?_eq_getElem hi] at hx
        rw [List.getD_eq_getElem?_getD, List.getElem?_eq_getElem hi]
        exact congrArg (fun v => [v]) (Option.some.inj hx).symm
      · refine ⟨_, rfl, _, _, rfl, rfl, by show 2 ≤ sizeLine; decide, fun p hp => ?_⟩
        have npD : p ≠ D := fun e => by
          rw [e, upd_same] at hp
          cases hp
        have hp0 : H' p = none := by
          rw [upd_ne npD] at hp
          exact hp
        refine k p D _ ((same_upd hD).trans (same_upd hp)) hp0 hD ⟨npD, ⟨_, upd_same⟩, ns.map (fun i => if i < 0 then -i else i), ?_, ?_⟩
        · rw [upd_ne npD.symm, upd_same, List.length_map, List.map_map]
          exact congrArg (fun l => some (HO.lst l)) (range_map_getD ns 0 fun i => V.int (if i < 0 then -i else i))
        · rw [List.length_map]
          exact hn
def spDraw : Sp := fun vs H Q _ => ∃ (s c : Addr) (m : Int), vs = [.ref s, .int m] ∧ StAt H s c ∧ 0 < m ∧ m < 1073741824 ∧ ∀ r H', 0 ≤ r → r < m → StAt H' s c → Keep H H' s c → Q (.int r) H'
theorem ok_law_draw {P : Program} {w : World} {K : PySem.W.Frag} {mg : Str → Option Value} {base : Heap} {f : Addr} {fd : FuncData} (T : Tx K mg) 
    (F : FunD K "_law_draw" "_law_draw" (defArgs s_law_draw) (defBody s_law_draw) (defScope s_law_draw) [] [] f fd) : FnOk P w K mg base CX0 1 f fd ["state", "many"] spDraw := by
  refine F.ok sc_law_draw (fun vs H Q E h => ?_) (fun cdv A outer s0 H vs Q E hr h => ?_)
  · obtain ⟨s, c, m, rfl, _⟩ := h
    rfl
  · obtain ⟨s, c, m, rfl, ⟨ne, ⟨n, h1⟩, ns, h2, h3⟩, hm0, hm1, k⟩ := h
    refine ⟨_, PSs.nox (pss_cons (ps_set (i := 2) sc_law_draw.nd rfl (Or.inl rfl) (pe_ix ix_list (pv 0) pe_int (fun _ _ => rfl))) (C8.pss_cut (ps_while PassesOwn.never (PW.pt (pw_and (pt_cmpR op_gt (pe_callB call_len_seq rfl T.f_len PySem.boot_len (pa_cons (pv 2) pa_nil)) pe_int (nomark _)) (pw_and1 (pt_cmpR op_eq (pe_ix ix_list (pv 2) pe_int (fun _ _ => rfl)) pe_int (nomark _))))) (pss_one (ps_expr (pe_bm PySem.F.plainAttrs_list PySem.F.slot_list_pop PySem.F.type_list_pop mt_popAt (pv 2) (pa_cons pe_int pa_nil))))) (C8.pss_cut (ps_if (pt_cmpR op_gt (pe_callB call_len_seq rfl T.f_len PySem.boot_len (pa_cons (pv 2) pa_nil)) pe_int (nomark _)) (pss_cons (ps_set (i := 3) sc_law_draw.nd rfl (Or.inl rfl) (pe_ix ix_list (pv 2) pe_int (fun _ _ => rfl))) (pss_cons (ps_asg (pe_op op_fdiv (pv 3) (pv 1)) (pg_sub (pv 2) pe_int set_list)) (pss_one (ps_ret (pe_op op_mod (pe_callTy call_int1 rfl T.f_int (by decide +kernel) (pa_cons (pv 3) pa_nil)) (pv 1)))))) pss_nil) (pss_cons (ps_set (i := 4) sc_law_draw.nd rfl (Or.inl rfl) (pe_op op_mod (pe_callTy call_int1 rfl T.f_int (by decide +kernel) (pa_cons (pe_op op_add (pe_op op_mul (pe_ix ix_list (pv 0) pe_int (fun _ _ => rfl)) pe_int) pe_int) pa_nil)) pe_int)) (pss_cons (ps_asg (pv 4) (pg_sub (pv 0) pe_int set_list)) (pss_one (ps_ret (pe_op op_mod (pe_callTy call_int1 rfl T.f_int (by decide +kernel) (pa_cons (pe_op op_fdiv (pv 4) pe_int) pa_nil)) (pv 1))))))))), ?_⟩
    refine ⟨_, rfl, s, _, 0, _, rfl, rfl, SqL.of h1, rfl, ?_⟩
    let I : L2.St → Hp → List Int → Prop := fun σ H' ns' => σ = [some (.ref s), some (.int m), some (.ref c), none, none] ∧ H' s = some (.lst [.ref c, .int n]) ∧ Keep H H' s c ∧ H' c = some (.lst (ns'.map V.int)) ∧ ns'.length ≤ 63
    refine ⟨fun σ H' => ∃ ns', I σ H' ns', ?_, ?_⟩
    · refine ⟨fun l σ H' => ∃ ns', l = ns'.length ∧ I σ H' ns', ⟨ns.length, ns, rfl, rfl, h1, Keep.refl _ _ _, h2, h3⟩, ?_⟩
      rintro l σ H' ⟨ns', rfl, rfl, g1, kp, g2, g3⟩
      refine ⟨_, rfl, c, _, rfl, .inl (SqL.of g2), _, _, rfl, rfl, _, rfl, ?_⟩
      cases ns' with
      | nil => exact iteF (iteF ⟨[], rfl, g1, kp, g2, g3⟩)
      | cons v r =>
        rw [List.length_map, decide_eq_true (by rw [List.length_cons]; omega)]
        refine iteT ?_
        refine ⟨_, rfl, c, _, 0, V.int v, rfl, rfl, SqL.of g2, atC _ _, rfl, _, rfl, ?_⟩
        refine ite2 (fun h5 => ?_) (fun h5 => ⟨v :: r, rfl, g1, kp, g2, g3⟩)
        refine ⟨fun σ' H2 => ∃ l, l < (v :: r).length ∧ ∃ ns', l = ns'.length ∧ I σ' H2 ns', fun _ _ q => q, ?_⟩
        refine ⟨_, rfl, .inl ⟨rfl, _, SqL.of g2⟩, c, _, 0, 0, V.int v, rfl, rfl, g2, by decide, by decide, sqC _ _, rfl, ?_⟩
        refine ⟨r.length, Nat.lt_succ_self _, r, rfl, rfl, ?_, fun b o e q1 q2 => ?_, upd_same, Nat.le_of_succ_le g3⟩
        · rw [upd_ne ne]
          exact g1
        · rw [upd_ne q2]
          exact kp b o e q1 q2
    · rintro σ H' ⟨ns', rfl, g1, kp, g2, g3⟩
      refine ⟨fun σ' H2 => σ' = [some (.ref s), some (.int m), some (.ref c), none, none] ∧ H2 = H', ?_, ?_⟩
      · refine ⟨_, rfl, c, _, rfl, .inl (SqL.of g2), _, _, rfl, rfl, _, rfl, ?_⟩
        cases ns' with
        | nil => exact iteF ⟨rfl, rfl⟩
        | cons v r =>
          rw [List.length_map, decide_eq_true (by rw [List.length_cons]; omega)]
          refine iteT ?_
          refine ⟨_, rfl, c, _, 0, V.int v, rfl, rfl, SqL.of g2, atC _ _, ?_⟩
          refine ⟨_, rfl, _, rfl, _, _, rfl, rfl, ⟨hm0, hm1⟩, _, rfl, c, _, 0, 0, rfl, rfl, g2, ixC _ _, ?_⟩
          refine ⟨_, rfl, .inl ⟨_, rfl, _, rfl, _, _, rfl, rfl, hm0, ?_⟩⟩
          refine k _ _ (Int.emod_nonneg _ (by omega)) (Int.emod_lt_of_pos _ hm0) ⟨ne, ⟨n, ?_⟩, (v / m) :: r, upd_same, g3⟩ (fun b o e q1 q2 => ?_)
          · rw [upd_ne ne]
            exact g1
          · rw [upd_ne q2]
            exact kp b o e q1 q2
      · rintro σ' H2 ⟨rfl, rfl⟩
        refine ⟨_, rfl, s, _, 1, _, rfl, rfl, SqL.of g1, rfl, _, _, rfl, rfl, .inr ⟨by decide, by decide⟩, _, _, rfl, rfl, .inl ⟨_, rfl, _, _, rfl, rfl, (by show (0 : Int) < 2147483647; decide), ?_⟩⟩
        refine ⟨_, rfl, _, rfl, s, _, 1, 1, rfl, rfl, g1, rfl, ?_⟩
        refine ⟨_, rfl, _, _, rfl, rfl, ⟨by decide, by decide⟩, .inl ⟨_, rfl, _, rfl, _, _, rfl, rfl, hm0, ?_⟩⟩
        refine k _ _ (Int.emod_nonneg _ (by omega)) (Int.emod_lt_of_pos _ hm0) ⟨ne, ⟨_, upd_same⟩, ns', ?_, g3⟩ (fun b o e q1 q2 => ?_)
        · rw [upd_ne ne.symm]
          exact g2
        · rw [upd_ne q1]
          exact kp b o e q1 q2
/-- of a text: one of its signs; of a list: one of its items -/
def spPick : Sp := fun vs H Q _ => ∃ (s c : Addr) (x : V), vs = [.ref s, x] ∧ StAt H s c ∧
  ((∃ z : Str, x = .str z ∧ 0 < z.length ∧ z.length ≤ 1000 ∧ ∀ ch H', ch ∈ TL.tl z → StAt H' s c → Keep H H' s c → Q (.str (S [ch])) H') ∨
   (∃ a xs, x = .ref a ∧ H a = some (.lst xs) ∧ a ≠ s ∧ a ≠ c ∧ 0 < xs.length ∧ xs.length ≤ 1000 ∧ ∀ v ∈ xs, ∀ H', StAt H' s c → Keep H H' s c → Q v H'))
theorem ok_law_pick {P : Program} {w : World} {K : PySem.W.Frag} {mg : Str → Option Value} {base : Heap} {f : Addr} {fd : FuncData} (T : Tx K mg) (c_law_draw : C8.Cal P w K mg base 1 "_law_draw" spDraw [])
    (F : FunD K "_law_pick" "_law_pick" (defArgs s_law_pick) (defBody s_law_pick) (defScope s_law_pick) [] [] f fd) : FnOk P w K mg base CX0 2 f fd ["state", "row"] spPick := by
  refine F.ok sc_law_pick (fun vs H Q E h => ?_) (fun cdv A outer s0 H vs Q E hr h => ?_)
  · obtain ⟨s, c, x, rfl, _⟩ := h
    rfl
  · obtain ⟨s, c, x, rfl, hst, h⟩ := h
    refine ⟨_, PSs.nox (pss_one (ps_ret (pe_ix ix_seq (pv 1) (pe_c c_law_draw hr (by decide) rfl (pa_cons (pv 0) (pa_cons (pe_callB call_len rfl T.f_len PySem.boot_len (pa_cons (pv 1) pa_nil)) pa_nil))) (fun _ _ => rfl)))), ?_⟩
    rcases h with ⟨z, rfl, z0, z1, k⟩ | ⟨a, xs, rfl, ha, as, ac, x0, x1, k⟩
    · have hz2 : z.length ≤ sizeLine := Nat.le_trans z1 (by decide)
      refine ⟨_, rfl, _, rfl, _, rfl, _, z.length, rfl, ⟨hz2, rfl⟩, s, c, _, rfl, hst, by omega, by omega, fun r H' r0 r1 st' kp' => ?_⟩
      have hl : r < ((TL.tl z).length : Nat) := by rw [← len_eq]; exact r1
      refine .inr (.inr ⟨z, r, _, rfl, rfl, hz2, atN 0 r0 hl, ?_⟩)
      refine k _ H' ?_ st' kp'
      have hl2 : r.toNat < (TL.tl z).length := by omega
      rw [List.getD_eq_getElem?_getD, List.getElem?_eq_getElem hl2]
      exact List.getElem_mem _
    · have hx2 : xs.length ≤ sizeLine := Nat.le_trans x1 (by decide)
      refine ⟨_, rfl, _, rfl, _, rfl, _, xs.length, rfl, .inl ⟨xs, SqL.of ha, rfl⟩, s, c, _, rfl, hst, by omega, by omega, fun r H' r0 r1 st' kp' => ?_⟩
      refine .inl ⟨a, xs, r, _, rfl, rfl, SqL.of (kp' a _ ha as ac), atN .non r0 r1, ?_⟩
      refine k _ ?_ H' st' kp'
      rw [List.getD_eq_getElem?_getD, List.getElem?_eq_getElem (by omega)]
      exact List.getElem_mem _

/-! ### words that the law draws -/
def spTagL : Sp := fun vs H Q _ => ∃ (s c : Addr), vs = [.ref s] ∧ StAt H s c ∧ ∀ z H', tagB z = true → StAt H' s c → Keep H H' s c → Q (.str z) H'
theorem tagB_of {l : List Nat} (h1 : 0 < l.length) (h2 : l.length ≤ 16) (h3 : ∀ c ∈ l, c ∈ TL.tl zTM) : tagB (S l) = true := by
  unfold tagB consB consL
  rw [show TL.tl (S l) = l from rfl, Bool.and_eq_true, Bool.and_eq_true, decide_eq_true_eq, decide_eq_true_eq, List.all_eq_true]
  exact ⟨⟨by omega, by omega⟩, fun c hc => decide_eq_true (h3 c hc)⟩
theorem join_S : ∀ l : List Nat, Txt.join "" (l.map fun x => S [x]) = S l := by
  intro l
  rw [show ∀ l, Txt.join "" l = Str.join "" l from fun l => TL.join_eq _ _]
  apply TL.ext_tl
  rw [TL.tl_join, show TL.tl ("" : Str) = [] by decide +kernel, joinL_nil, List.map_map]
  show (l.map fun x => TL.tl (S [x])).flatten = l
  induction l with
  | nil => rfl
  | cons a r ih => exact congrArg (List.cons a) ih
theorem ones_len (l : List Nat) : ∀ z ∈ l.map fun x => S [x], z.length = 1 := fun z hz => by
  obtain ⟨x, _, rfl⟩ := List.mem_map.mp hz
  rfl
theorem tag_in : ∀ c ∈ TL.tl ("abcdefghijklmnopqrstuvwxyzABCDEFGHIJKLMNOPQRSTUVWXYZ0123456789" : Str), c ∈ TL.tl zTM := by decide +kernel
theorem ok_law_tag {P : Program} {w : World} {K : PySem.W.Frag} {mg : Str → Option Value} {base : Heap} {f : Addr} {fd : FuncData} (T : Tx K mg) (c_law_draw : C8.Cal P w K mg base 1 "_law_draw" spDraw []) (c_law_pick : C8.Cal P w K mg base 2 "_law_pick" spPick [])
    (F : FunD K "_law_tag" "_law_tag" (defArgs s_law_tag) (defBody s_law_tag) (defScope s_law_tag) [] [] f fd) : FnOk P w K mg base CX0 3 f fd ["state"] spTagL := by
  refine F.ok sc_law_tag (fun vs H Q E h => ?_) (fun cdv A outer s0 H vs Q E hr h => ?_)
  · obtain ⟨s, c, rfl, _⟩ := h
    rfl
  · obtain ⟨s, c, rfl, st, k⟩ := h
    refine ⟨_, PSs.nox (pss_cons (ps_set (i := 1) sc_law_tag.nd rfl (Or.inr rfl) pe_str) (pss_cons (ps_set (i := 2) sc_law_tag.nd rfl (Or.inl rfl) (pe_op op_add pe_int (pe_c c_law_draw hr (by decide) rfl (pa_cons (pv 0) (pa_cons (pe_c c_law_pick hr (by decide) rfl (pa_cons (pv 0) (pa_cons (pe_lst (pa_cons pe_int (pa_cons pe_int pa_nil))) pa_nil))) pa_nil))))) (pss_one (ps_ret (pe_join pe_str (pe_lc (own := [("k", 3)]) (g := gName 3) rfl sc_law_tag.nd (pi_range1 rfl T.f_range (pa_cons (pv 2) pa_nil)) (blkOk_by (own := [("k", 3)]) (N := ["state", "letters", "many", "k"]) (sc := defScope s_law_tag) (by decide +kernel)) (fun _ _ _ _ _ => pg_name (i := 3) sc_law_tag.nd rfl (Or.inl rfl)) (fun _ _ _ _ _ => pts_nil) (fun _ _ _ _ _ => (pe_c c_law_pick hr (by decide) rfl (pa_cons (pv 0) (pa_cons (pv 1) pa_nil)))))))))), ?_⟩
    refine ⟨_, rfl, _, rfl, by show 2 ≤ sizeLine; decide, fun u hu => ?_⟩
    obtain ⟨us, uc⟩ := st.tracked hu
    refine ⟨s, c, _, rfl, st.upd us uc, .inr ⟨u, _, rfl, upd_same, us, uc, by show 0 < 2; decide, by show 2 ≤ 1000; decide, fun v hv H1 st1 kp1 => ?_⟩⟩
    obtain ⟨m, rfl, m0, m1⟩ : ∃ m : Int, v = .int m ∧ 0 < m ∧ m ≤ 16 := by
      simp only [List.mem_cons, List.not_mem_nil, or_false] at hv
      rcases hv with rfl | rfl
      · exact ⟨_, rfl, by decide, by decide⟩
      · exact ⟨_, rfl, by decide, by decide⟩
    have kp1' : Keep H H1 s c := fun b o e h1 h2 => kp1 b o (by rw [upd_ne (ne_of_none e hu)]; exact e) h1 h2
    refine ⟨s, c, m, rfl, st1, m0, by omega, fun r H2 r0 r1 st2 kp2 => ⟨_, _, rfl, rfl, ?_⟩⟩
    have kpA := kp1'.trans kp2
    refine ⟨⟨_, rfl⟩, _, rfl, 1 + r, rfl, by omega, by omega, fun D hD => ?_⟩
    obtain ⟨Ds, Dc⟩ := st2.tracked hD
    refine lc_itN walk_range (fun i H' => StAt H' s c ∧ Keep H2 H' s c ∧ ∃ l : List Nat, H' D = some (.lst ((l.map fun x => S [x]).map V.str)) ∧ l.length = i ∧ ∀ x ∈ l, x ∈ TL.tl zTM) ⟨st2.upd Ds Dc, (Keep.refl _ _ _).upd hD, [], upd_same, rfl, fun _ h => nomatch h⟩ (fun _ _ _ _ => trivial) (fun i x H3 H4 hi p y => ?_) (fun H3 p => ?_)
    · obtain ⟨st3, kp3, l, e1, e2, e3⟩ := p
      obtain ⟨rfl, rfl⟩ := y
      refine ⟨rfl, _, rfl, _, rfl, s, c, _, rfl, st3, .inl ⟨_, rfl, by decide +kernel, by decide +kernel, fun x H5 hx st5 kp5 => ⟨_, kp5 D _ e1 Ds Dc, ?_, st5.upd Ds Dc, (kp3.trans kp5).upd hD, l ++ [x], ?_, ?_, ?_⟩⟩⟩
      · rw [List.length_map, List.length_map, e2]
        exact Nat.lt_of_lt_of_le hi (Nat.le_trans (by omega : (1 + r).toNat ≤ 17) (by decide))
      · rw [upd_same, List.map_append, List.map_append]
        rfl
      · rw [List.length_append, e2]
        rfl
      · intro z hz
        rcases List.mem_append.mp hz with q | q
        · exact e3 z q
        · rw [List.mem_singleton.mp q]
          exact tag_in _ hx
    · obtain ⟨st3, kp3, l, e1, e2, e3⟩ := p
      refine ⟨_, D, l.map fun x => S [x], rfl, rfl, .inl (SqL.of e1), ?_, ?_⟩
      · rw [sum_ones (ones_len l), List.length_map, e2, show ("" : Str).length = 0 by decide +kernel]
        exact Nat.le_trans (by omega : _ ≤ 20) (by decide)
      · rw [join_S]
        refine k _ _ (tagB_of (by omega) (by omega) e3) st3 (kpA.trans kp3)
end K4
set_option maxHeartbeats 4000000
set_option pp.maxSteps 400
namespace K4
open PySem PySem.Spec PyProof.Rows L2 SX TK TKS
open C8 (pe_c)
def spNameL : Sp := fun vs H Q _ => ∃ (s c : Addr), vs = [.ref s] ∧ StAt H s c ∧ ∀ z H', nameB z = true → StAt H' s c → Keep H H' s c → Q (.str z) H'
theorem nameB_of {a : Nat} {l : List Nat} (ha : a ∈ TL.tl zSM) (h2 : l.length ≤ 15) (h3 : ∀ c ∈ l, c ∈ TL.tl zNM) : nameB (S (a :: l)) = true := by
  unfold nameB consB consL
  rw [show TL.tl (S (a :: l)) = a :: l from rfl, Bool.and_eq_true, Bool.and_eq_true, Bool.and_eq_true, decide_eq_true_eq, decide_eq_true_eq, List.all_eq_true, decide_eq_true_eq, List.length_cons]
  refine ⟨⟨⟨by omega, by omega⟩, fun c hc => decide_eq_true ?_⟩, ha⟩
  rcases List.mem_cons.mp hc with rfl | q
  · exact (by decide +kernel : ∀ c ∈ TL.tl zSM, c ∈ TL.tl zNM) c ha
  · exact h3 c q
theorem name_in : ∀ c ∈ TL.tl (("abcdefghijklmnopqrstuvwxyz" : Str) ++ ("0123456789" : Str)), c ∈ TL.tl zNM := by decide +kernel
theorem ok_law_name {P : Program} {w : World} {K : PySem.W.Frag} {mg : Str → Option Value} {base : Heap} {f : Addr} {fd : FuncData} (T : Tx K mg) (c_law_draw : C8.Cal P w K mg base 1 "_law_draw" spDraw []) (c_law_pick : C8.Cal P w K mg base 2 "_law_pick" spPick [])
    (F : FunD K "_law_name" "_law_name" (defArgs s_law_name) (defBody s_law_name) (defScope s_law_name) [] [] f fd) : FnOk P w K mg base CX0 3 f fd ["state"] spNameL := by
  refine F.ok sc_law_name (fun vs H Q E h => ?_) (fun cdv A outer s0 H vs Q E hr h => ?_)
  · obtain ⟨s, c, rfl, _⟩ := h
    rfl
  · obtain ⟨s, c, rfl, st, k⟩ := h
    refine ⟨_, PSs.nox (pss_cons (ps_set (i := 1) sc_law_name.nd rfl (Or.inr rfl) pe_str) (pss_cons (ps_set (i := 2) sc_law_name.nd rfl (Or.inl rfl) (pe_c c_law_draw hr (by decide) rfl (pa_cons (pv 0) (pa_cons (pe_c c_law_pick hr (by decide) rfl (pa_cons (pv 0) (pa_cons (pe_lst (pa_cons pe_int (pa_cons pe_int pa_nil))) pa_nil))) pa_nil)))) (pss_one (ps_ret (pe_op op_add_str (pe_c c_law_pick hr (by decide) rfl (pa_cons (pv 0) (pa_cons (pv 1) pa_nil))) (pe_join pe_str (pe_lc (own := [("k", 3)]) (g := gName 3) rfl sc_law_name.nd (pi_range1 rfl T.f_range (pa_cons (pv 2) pa_nil)) (blkOk_by (own := [("k", 3)]) (N := ["state", "small", "many", "k"]) (sc := defScope s_law_name) (by decide +kernel)) (fun _ _ _ _ _ => pg_name (i := 3) sc_law_name.nd rfl (Or.inl rfl)) (fun _ _ _ _ _ => pts_nil) (fun _ _ _ _ _ => (pe_c c_law_pick hr (by decide) rfl (pa_cons (pv 0) (pa_cons (pe_op op_add_str (pv 1) pe_str) pa_nil))))))))))), ?_⟩
    refine ⟨_, rfl, _, rfl, by show 2 ≤ sizeLine; decide, fun u hu => ?_⟩
    obtain ⟨us, uc⟩ := st.tracked hu
    refine ⟨s, c, _, rfl, st.upd us uc, .inr ⟨u, _, rfl, upd_same, us, uc, by show 0 < 2; decide, by show 2 ≤ 1000; decide, fun v hv H1 st1 kp1 => ?_⟩⟩
    obtain ⟨m, rfl, m0, m1⟩ : ∃ m : Int, v = .int m ∧ 0 < m ∧ m ≤ 16 := by
      simp only [List.mem_cons, List.not_mem_nil, or_false] at hv
      rcases hv with rfl | rfl
      · exact ⟨_, rfl, by decide, by decide⟩
      · exact ⟨_, rfl, by decide, by decide⟩
    have kp1' : Keep H H1 s c := fun b o e h1 h2 => kp1 b o (by rw [upd_ne (ne_of_none e hu)]; exact e) h1 h2
    refine ⟨s, c, m, rfl, st1, m0, by omega, fun r H2 r0 r1 st2 kp2 => ?_⟩
    have kpA := kp1'.trans kp2
    refine ⟨_, rfl, _, rfl, s, c, _, rfl, st2, .inl ⟨_, rfl, by decide +kernel, by decide +kernel, fun a H3 ha st3 kp3 => ?_⟩⟩
    have kpB := kpA.trans kp3
    refine ⟨⟨_, rfl⟩, _, rfl, r, rfl, by omega, by omega, fun D hD => ?_⟩
    obtain ⟨Ds, Dc⟩ := st3.tracked hD
    refine lc_itN walk_range (fun i H' => StAt H' s c ∧ Keep H3 H' s c ∧ ∃ l : List Nat, H' D = some (.lst ((l.map fun x => S [x]).map V.str)) ∧ l.length = i ∧ ∀ x ∈ l, x ∈ TL.tl zNM) ⟨st3.upd Ds Dc, (Keep.refl _ _ _).upd hD, [], upd_same, rfl, fun _ h => nomatch h⟩ (fun _ _ _ _ => trivial) (fun i x H4 H5 hi p y => ?_) (fun H4 p => ?_)
    · obtain ⟨st4, kp4, l, e1, e2, e3⟩ := p
      obtain ⟨rfl, rfl⟩ := y
      refine ⟨rfl, _, rfl, _, rfl, _, _, rfl, rfl, by decide +kernel, s, c, _, rfl, st4, .inl ⟨_, rfl, by decide +kernel, by decide +kernel, fun x H6 hx st6 kp6 => ⟨_, kp6 D _ e1 Ds Dc, ?_, st6.upd Ds Dc, (kp4.trans kp6).upd hD, l ++ [x], ?_, ?_, ?_⟩⟩⟩
      · rw [List.length_map, List.length_map, e2]
        exact Nat.lt_of_lt_of_le hi (Nat.le_trans (by omega : r.toNat ≤ 17) (by decide))
      · rw [upd_same, List.map_append, List.map_append]
        rfl
      · rw [List.length_append, e2]
        rfl
      · intro z hz
        rcases List.mem_append.mp hz with q | q
        · exact e3 z q
        · rw [List.mem_singleton.mp q]
          exact name_in _ hx
    · obtain ⟨st4, kp4, l, e1, e2, e3⟩ := p
      refine ⟨_, D, l.map fun x => S [x], rfl, rfl, .inl (SqL.of e1), ?_, ?_⟩
      · rw [sum_ones (ones_len l), List.length_map, e2, show ("" : Str).length = 0 by decide +kernel]
        exact Nat.le_trans (by omega : _ ≤ 20) (by decide)
      · rw [join_S]
        refine ⟨_, _, rfl, rfl, ?_, ?_⟩
        · rw [show (S [a]).length = 1 from rfl, show (S l).length = l.length from rfl]
          exact Nat.le_trans (by omega : _ ≤ 20) (by decide)
        · have eS : S [a] ++ S l = S (a :: l) := TL.ext_tl (by rw [TL.tl_append]; rfl)
          rw [eS]
          exact k _ _ (nameB_of ha (by omega) e3) st4 (kpB.trans kp4)
def spAddrL : Sp := fun vs H Q _ => ∃ (s c : Addr), vs = [.ref s] ∧ StAt H s c ∧ ∀ z H', (splitB z).isSome = true → StAt H' s c → Keep H H' s c → Q (.str z) H'
theorem addr_of {u w : Str} (hu : nameB u = true) (hw : nameB w = true) : (splitB (u ++ "@" ++ w)).isSome = true := by
  have nm_at : ∀ c ∈ TL.tl zNM, c ≠ 64 := by decide +kernel
  have na : ∀ {z : Str}, nameB z = true → 64 ∉ TL.tl z := fun {z} h m => by
    unfold nameB at h
    rw [Bool.and_eq_true] at h
    exact nm_at _ ((consB_len h.1).2.2 _ m) rfl
  have e : TL.tl (u ++ "@" ++ w) = TL.tl u ++ 64 :: TL.tl w := by
    rw [TL.tl_append, TL.tl_append, show TL.tl ("@" : Str) = [64] by decide +kernel, List.append_assoc]
    rfl
  unfold splitB
  rw [split_two e (na hu) (na hw)]
  show (if (nameB (S (TL.tl u)) && nameB (S (TL.tl w))) = true then some (S (TL.tl u), S (TL.tl w)) else none).isSome = true
  rw [show S (TL.tl u) = u from TL.ext_tl rfl, show S (TL.tl w) = w from TL.ext_tl rfl, hu, hw]
  rfl
theorem ok_law_address {P : Program} {w : World} {K : PySem.W.Frag} {mg : Str → Option Value} {base : Heap} {f : Addr} {fd : FuncData} (T : Tx K mg) (c_law_name : C8.Cal P w K mg base 3 "_law_name" spNameL [])
    (F : FunD K "_law_address" "_law_address" (defArgs s_law_address) (defBody s_law_address) (defScope s_law_address) [] [] f fd) : FnOk P w K mg base CX0 4 f fd ["state"] spAddrL := by
  refine F.ok sc_law_address (fun vs H Q E h => ?_) (fun cdv A outer s0 H vs Q E hr h => ?_)
  · obtain ⟨s, c, rfl, _⟩ := h
    rfl
  · obtain ⟨s, c, rfl, st, k⟩ := h
    refine ⟨_, PSs.nox (pss_one (ps_ret (pe_op op_add_str (pe_op op_add_str (pe_c c_law_name hr (by decide) rfl (pa_cons (pv 0) pa_nil)) pe_str) (pe_c c_law_name hr (by decide) rfl (pa_cons (pv 0) pa_nil))))), ?_⟩
    refine ⟨_, rfl, s, c, rfl, st, fun u H1 hu st1 kp1 => ?_⟩
    have lu := (name_free hu).2.2
    have l1 : ("@" : Str).length = 1 := by decide +kernel
    refine ⟨_, _, rfl, rfl, by rw [l1]; exact Nat.le_trans (by omega : _ ≤ 20) (by decide), ?_⟩
    refine ⟨_, rfl, s, c, rfl, st1, fun w H2 hw st2 kp2 => ?_⟩
    have lw := (name_free hw).2.2
    exact ⟨_, _, rfl, rfl, by rw [cat_len, l1]; exact Nat.le_trans (by omega : _ ≤ 40) (by decide), k _ _ (addr_of hu hw) st2 (kp1.trans kp2)⟩
end K4
set_option maxHeartbeats 4000000
set_option pp.maxSteps 400
namespace K4
open PySem PySem.Spec PyProof.Rows L2 SX TK TKS
open C8 (pe_c)
/-- the offers that the law draws -/
structure GoodO (o : Off) : Prop where
  p0 : 0 ≤ o.port
  p1 : o.port ≤ 65535
  m : o.mode ∈ modesL
  ne : o.fs ≠ []
  n : o.fs.length ≤ 6
  nd : o.fs.Nodup
  f : ∀ z ∈ o.fs, nameB z = true
def spOfferL : Sp := fun vs H Q _ => ∃ s c, vs = [.ref s] ∧ StAt H s c ∧ ∀ x o H', GoodO o → OffAt H' x o → StAt H' s c → Keep H H' s c → Q x H'
theorem ok_law_offer {P : Program} {w : World} {K : PySem.W.Frag} {mg : Str → Option Value} {base : Heap} {f : Addr} {fd : FuncData} (T : Tx K mg) (c_law_draw : C8.Cal P w K mg base 1 "_law_draw" spDraw []) (c_law_pick : C8.Cal P w K mg base 2 "_law_pick" spPick []) (c_law_name : C8.Cal P w K mg base 3 "_law_name" spNameL [])
    (F : FunD K "_law_offer" "_law_offer" (defArgs s_law_offer) (defBody s_law_offer) (defScope s_law_offer) [] [] f fd) : FnOk P w K mg base CX0 4 f fd ["state"] spOfferL := by
  refine F.ok sc_law_offer (fun vs H Q E h => ?_) (fun cdv A outer s0 H vs Q E hr h => ?_)
  · obtain ⟨s, c, rfl, _⟩ := h
    rfl
  · obtain ⟨s, c, rfl, st, k⟩ := h
    refine ⟨_, PSs.nox (pss_cons (ps_set (i := 1) sc_law_offer.nd rfl (Or.inl rfl) (pe_lst pa_nil)) (pss_cons (ps_for PassesOwn.never rfl (pi_range1 rfl T.f_range (pa_cons (pe_op op_add pe_int (pe_c c_law_draw hr (by decide) rfl (pa_cons (pv 0) (pa_cons pe_int pa_nil)))) pa_nil)) (pg_name (i := 2) sc_law_offer.nd rfl (Or.inl rfl)) (pss_cons (ps_set (i := 3) sc_law_offer.nd rfl (Or.inl rfl) (pe_c c_law_name hr (by decide) rfl (pa_cons (pv 0) pa_nil))) (pss_one (ps_if (pt_cmpR op_notIn_seq (pv 3) (pv 1) (by with_unfolding_all rfl)) (pss_one (ps_expr (pe_bm PySem.F.plainAttrs_list PySem.F.slot_list_append PySem.F.type_list_append mt_append (pv 1) (pa_cons (pv 3) pa_nil)))) pss_nil)))) (pss_cons (ps_set (i := 4) sc_law_offer.nd rfl (Or.inl rfl) (pe_c c_law_pick hr (by decide) rfl (pa_cons (pv 0) (pa_cons (pe_lst (pa_cons pe_str (pa_cons pe_str (pa_cons pe_str (pa_cons pe_str pa_nil))))) pa_nil)))) (pss_one (ps_ret (pe_tup (pa_cons (pe_c c_law_draw hr (by decide) rfl (pa_cons (pv 0) (pa_cons pe_int pa_nil))) (pa_cons (pv 4) (pa_cons (pe_callTy call_tuple_of rfl T.f_tuple (by decide +kernel) (pa_cons (pv 1) pa_nil)) pa_nil))))))))), ?_⟩
    refine ⟨by show 0 ≤ sizeLine; decide, fun q hq => ?_⟩
    obtain ⟨qs, qc⟩ := st.tracked hq
    refine ⟨_, rfl, s, c, 6, rfl, st.upd qs qc, by decide, by decide, fun r H1 r0 r1 st1 kp1 => ?_⟩
    have eq1 : H1 q = some (.lst []) := kp1 q _ upd_same qs qc
    have kp0 : Keep H H1 s c := fun b o e h1 h2 => kp1 b o (by rw [upd_ne (ne_of_none e hq)]; exact e) h1 h2
    refine ⟨_, _, rfl, rfl, _, rfl, by omega, by omega, for_it walk_range (fun i σ H' => StAt H' s c ∧ Keep H H' s c ∧ (∃ v3 v4 : Option V, σ = [some (.ref s), some (.ref q), v3, v4, none]) ∧ ∃ fs : List Str, H' q = some (.lst (fs.map V.str)) ∧ fs.length ≤ i ∧ fs.Nodup ∧ (∀ z ∈ fs, nameB z = true) ∧ (0 < i → fs ≠ []))
      ⟨st1, kp0, ⟨none, none, rfl⟩, [], eq1, Nat.le_refl 0, List.nodup_nil, (fun z h => by cases h), fun h => absurd h (Nat.lt_irrefl 0)⟩ (fun _ _ _ _ _ => trivial) ?_ ?_⟩
    · rintro i x σ H2 H3 hi ⟨st2, kp2, ⟨v3, v4, rfl⟩, fs, eq2, l2, n2, f2, z2⟩ ⟨rfl, rfl⟩
      refine ⟨_, rfl, s, c, rfl, st2, fun z H4 hz st4 kp4 => ?_⟩
      have eq4 := kp4 q _ eq2 qs qc
      refine ⟨_, rfl, _, rfl, q, _, rfl, .inl (SqL.of eq4), rfl, flat_strs fs, _, rfl, ?_⟩
      rw [inV_strs]
      by_cases hm : z ∈ fs
      · rw [decide_eq_true hm]
        exact iteF ⟨st4, kp2.trans kp4, ⟨_, _, rfl⟩, fs, eq4, by omega, n2, f2, fun _ e => by rw [e] at hm; cases hm⟩
      · rw [decide_eq_false hm]
        refine iteT ⟨_, rfl, .inl ⟨rfl, _, SqL.of eq4⟩, _, rfl, q, _, _, rfl, rfl, eq4, ?_, ?_⟩
        · rw [List.length_map]
          exact Nat.lt_of_le_of_lt (show fs.length ≤ 6 by omega) (by decide)
        · refine ⟨st4.upd qs qc, (kp2.trans kp4).upd hq, ⟨_, _, rfl⟩, fs ++ [z], ?_, ?_, ?_, ?_, ?_⟩
          · rw [upd_same, List.map_append]
            rfl
          · rw [List.length_append, List.length_singleton]
            omega
          · rw [List.nodup_append]
            refine ⟨n2, by simp, fun a ha b hb e => ?_⟩
            rw [List.mem_singleton.mp hb] at e
            exact hm (e ▸ ha)
          · intro y hy
            rcases List.mem_append.mp hy with h | h
            · exact f2 y h
            · rw [List.mem_singleton.mp h]
              exact hz
          · exact fun _ e => by simp at e
    · rintro σ H2 ⟨st2, kp2, ⟨v3, v4, rfl⟩, fs, eq2, l2, n2, f2, z2⟩
      refine ⟨_, rfl, by show 4 ≤ sizeLine; decide, fun u2 hu2 => ?_⟩
      obtain ⟨us2, uc2⟩ := st2.tracked hu2
      refine ⟨s, c, _, rfl, st2.upd us2 uc2, .inr ⟨u2, modesL.map V.str, rfl, upd_same, us2, uc2, by decide, by decide, fun v hv H5 st5 kp5 => ?_⟩⟩
      obtain ⟨m, hm, rfl⟩ := List.mem_map.mp hv
      have kp45 : Keep H2 H5 s c := fun b o e h1 h2 => kp5 b o (by rw [upd_ne (ne_of_none e hu2)]; exact e) h1 h2
      refine ⟨_, rfl, s, c, 65536, rfl, st5, by decide, by decide, fun t H6 t0 t1 st6 kp6 => ?_⟩
      have eq6 := kp6 q _ (kp45 q _ eq2 qs qc) qs qc
      refine ⟨_, rfl, _, rfl, q, _, rfl, .inl ⟨SqL.of eq6, fun f hf => ⟨by show 3 ≤ sizeLine; decide, fun w hw => ?_⟩⟩⟩
      have fw : f ≠ w := fun e => by
        rw [← e, upd_same] at hw
        cases hw
      have hw0 : H6 w = none := by
        rw [upd_ne fw.symm] at hw
        exact hw
      obtain ⟨fs1, fc1⟩ := st6.tracked hf
      obtain ⟨ws1, wc1⟩ := st6.tracked hw0
      have kpA : Keep H H6 s c := (kp2.trans kp45).trans kp6
      refine k _ ⟨t, m, fs⟩ _ ⟨t0, by show t ≤ 65535; omega, hm, z2 (by omega), by show fs.length ≤ 6; omega, n2, f2⟩ ⟨w, f, rfl, upd_same, by rw [upd_ne fw, upd_same]⟩ ((st6.upd fs1 fc1).upd ws1 wc1) ?_
      exact kpA.trans (Keep.of_same ((same_upd hf).trans (same_upd hw)))
end K4
set_option maxHeartbeats 4000000
set_option pp.maxSteps 400
namespace K4
open PySem PySem.Spec PyProof.Rows L2 SX TK TKS
open C8 (pe_c)
theorem nm_plain : ∀ c ∈ TL.tl zNM, c ≠ 44 := by decide +kernel
theorem name_nocomma {z : Str} (h : nameB z = true) : 44 ∉ TL.tl z := fun m => by
  unfold nameB at h
  rw [Bool.and_eq_true] at h
  exact nm_plain _ ((consB_len h.1).2.2 _ m) rfl
theorem name_ok {z : Str} (h : nameB z = true) : PyData.strOk z = true := ok_iff.mpr (name_okS h)
theorem modes_lenS : ∀ z ∈ modesL, z.length ≤ 16 ∧ 10 ∉ TL.tl z ∧ PyData.strOk z = true := by decide +kernel
theorem GoodO.ok {o : Off} (g : GoodO o) : OffOk o := ⟨g.p0, g.p1, (modes_lenS _ g.m).1, g.n, fun z h => (name_free (g.f z h)).2.2⟩
theorem fmt_goodO {o : Off} (g : GoodO o) : fmtO (Txt.join "," o.fs) = some o.fs := by
  have e : Txt.split (Txt.join "," o.fs) "," = o.fs := TL.split_join (y := ",") (s := 44) (S := []) (by decide +kernel) (by decide +kernel) g.ne fun p hp => name_nocomma (g.f p hp)
  unfold fmtO
  rw [e, if_pos ⟨g.n, g.nd⟩, if_pos (List.all_eq_true.mpr g.f)]
theorem fmt_free {o : Off} (g : GoodO o) : 32 ∉ TL.tl (Txt.join "," o.fs) ∧ 10 ∉ TL.tl (Txt.join "," o.fs) := by
  rw [show Txt.join "," o.fs = Str.join "," o.fs from TL.join_eq _ _, TL.tl_join]
  refine ⟨joinL_free (by decide +kernel) _ fun p hp => ?_, joinL_free (by decide +kernel) _ fun p hp => ?_⟩
  · obtain ⟨z, hz, rfl⟩ := List.mem_map.mp hp
    exact (name_free (g.f z hz)).1
  · obtain ⟨z, hz, rfl⟩ := List.mem_map.mp hp
    exact (name_free (g.f z hz)).2.1
theorem words_cutO {o : Off} (g : GoodO o) : Txt.split (wordsS o) " " = [Str.ofString (toString o.port), o.mode, Txt.join "," o.fs] := by
  refine cut_sp (by simp) fun p hp => ?_
  simp only [List.mem_cons, List.not_mem_nil, or_false] at hp
  rcases hp with rfl | rfl | rfl
  · exact str_noblank g.p0
  · exact modes_plain _ g.m
  · exact (fmt_free g).1
theorem GoodO.off {o : Off} (g : GoodO o) : readO (Txt.split (wordsS o) " ") = some o ∧ OffOk o ∧ 10 ∉ TL.tl (wordsS o) ∧ PyData.strOk (wordsS o) = true ∧ (∀ z ∈ Txt.split (wordsS o) " ", z.length ≤ 1000) ∧ (Txt.split (wordsS o) " ").length ≤ 999 := by
  have p1 := g.p1
  obtain ⟨j1, j2⟩ := g.ok.join
  obtain ⟨t1, t2⟩ := g.ok.str
  obtain ⟨m1, m2, m3⟩ := modes_lenS _ g.m
  rw [words_cutO g]
  refine ⟨by rw [readO_eq, fmt_goodO g, num_back g.p0 g.p1 (by omega), readP_ok, if_pos g.m], g.ok, ?_, ?_, ?_, by simp⟩
  · unfold wordsS
    rw [show ∀ l, Txt.join " " l = Str.join " " l from fun l => TL.join_eq _ _, TL.tl_join]
    refine joinL_free (by decide +kernel) _ fun p hp => ?_
    obtain ⟨z, hz, rfl⟩ := List.mem_map.mp hp
    simp only [List.mem_cons, List.not_mem_nil, or_false] at hz
    rcases hz with rfl | rfl | rfl
    · exact (num_free g.p0).2
    · exact m2
    · exact (fmt_free g).2
  · refine ok_join (by decide +kernel) fun z hz => ?_
    simp only [List.mem_cons, List.not_mem_nil, or_false] at hz
    rcases hz with rfl | rfl | rfl
    · exact ok_num g.p0
    · exact m3
    · exact ok_join (by decide +kernel) fun z hz => name_ok (g.f z hz)
  · intro z hz
    simp only [List.mem_cons, List.not_mem_nil, or_false] at hz
    rcases hz with rfl | rfl | rfl
    · omega
    · omega
    · omega
end K4
set_option maxHeartbeats 4000000
set_option pp.maxSteps 400
namespace K4
open PySem PySem.Spec PyProof.Rows L2 SX TK TKS
open C8 (pe_c)
def optS : Option Str → V
  | none => .non
  | some z => .str z
/-- the parts that the law draws: a letter that can be read, its offer standing at L.offer -/
def spPartsL : Sp := fun vs H Q _ => ∃ s c, vs = [.ref s] ∧ StAt H s c ∧ ∀ t L o cd H', GLet L o cd → OffO H' L.offer o → (∀ u, o = some u → GoodO u) → H t = none → H' t = some (.tup L.partsV) → StAt H' s c → Keep H H' s c → Q (.ref t) H'
theorem OffO.keep {H H' : Hp} {x : V} {o : Option Off} {s c : Addr} (h : OffO H x o) (st : StAt H s c) (k : Keep H H' s c) : OffO H' x o := by
  cases o with
  | none => exact h
  | some o => exact OffAt.keep h st k
theorem OffO.updL {H : Hp} {x : V} {o : Option Off} {a : Addr} {xs ys : List V} (h : OffO H x o) (ha : H a = some (.lst xs)) : OffO (upd H a (.lst ys)) x o := by
  cases o with
  | none => exact h
  | some o =>
    obtain ⟨p, f, rfl, e1, e2⟩ := h
    exact ⟨p, f, rfl, by rw [upd_ne (fun z => by rw [z, ha] at e1; cases e1)]; exact e1, by rw [upd_ne (fun z => by rw [z, ha] at e2; cases e2)]; exact e2⟩
theorem ok_law_parts {P : Program} {w : World} {K : PySem.W.Frag} {mg : Str → Option Value} {base : Heap} {f : Addr} {fd : FuncData} (T : Tx K mg) (c_law_draw : C8.Cal P w K mg base 1 "_law_draw" spDraw []) (c_law_pick : C8.Cal P w K mg base 2 "_law_pick" spPick []) (c_law_tag : C8.Cal P w K mg base 3 "_law_tag" spTagL []) (c_law_address : C8.Cal P w K mg base 4 "_law_address" spAddrL []) (c_law_offer : C8.Cal P w K mg base 4 "_law_offer" spOfferL [])
    (F : FunD K "_law_parts" "_law_parts" (defArgs s_law_parts) (defBody s_law_parts) (defScope s_law_parts) [] [] f fd) : FnOk P w K mg base CX0 5 f fd ["state"] spPartsL := by
  refine F.ok sc_law_parts (fun vs H Q E h => ?_) (fun cdv A outer s0 H vs Q E hr h => ?_)
  · obtain ⟨s, c, rfl, _⟩ := h
    rfl
  · obtain ⟨s, c, rfl, st, k⟩ := h
    refine ⟨_, PSs.nox (pss_cons (ps_set (i := 1) sc_law_parts.nd rfl (Or.inl rfl) (pe_c c_law_pick hr (by decide) rfl (pa_cons (pv 0) (pa_cons (pe_lst (pa_cons pe_str (pa_cons pe_str (pa_cons pe_str (pa_cons pe_str (pa_cons pe_str (pa_cons pe_str (pa_cons pe_str (pa_cons pe_str pa_nil))))))))) pa_nil)))) (pss_cons (ps_set (i := 2) sc_law_parts.nd rfl (Or.inl rfl) (pe_c c_law_pick hr (by decide) rfl (pa_cons (pv 0) (pa_cons (pe_lst (pa_cons pe_non (pa_cons pe_non (pa_cons pe_int (pa_cons pe_int (pa_cons pe_int (pa_cons pe_int (pa_cons pe_int (pa_cons pe_int (pa_cons pe_int (pa_cons pe_int (pa_cons pe_int pa_nil)))))))))))) pa_nil)))) (pss_cons (ps_set (i := 3) sc_law_parts.nd rfl (Or.inl rfl) (pe_c c_law_pick hr (by decide) rfl (pa_cons (pv 0) (pa_cons (pe_lst (pa_cons pe_str (pa_cons (pe_c c_law_tag hr (by decide) rfl (pa_cons (pv 0) pa_nil)) pa_nil))) pa_nil)))) (pss_cons (ps_set (i := 4) sc_law_parts.nd rfl (Or.inl rfl) (pe_c c_law_pick hr (by decide) rfl (pa_cons (pv 0) (pa_cons (pe_lst (pa_cons pe_int (pa_cons pe_int (pa_cons pe_int (pa_cons (pe_c c_law_draw hr (by decide) rfl (pa_cons (pv 0) (pa_cons pe_int pa_nil))) pa_nil))))) pa_nil)))) (pss_cons (ps_set (i := 5) sc_law_parts.nd rfl (Or.inl rfl) (pe_lst (pa_cons pe_non (pa_cons pe_non (pa_cons pe_non pa_nil))))) (C8.pss_cut (ps_if (pt_cmpR op_eq (pe_c c_law_draw hr (by decide) rfl (pa_cons (pv 0) (pa_cons pe_int pa_nil))) pe_int (nomark _)) (pss_one (ps_asg (pe_c c_law_offer hr (by decide) rfl (pa_cons (pv 0) pa_nil)) (pg_sub (pv 5) pe_int set_list))) pss_nil) (C8.pss_cut (ps_if (pt_cmpR op_eq (pe_c c_law_draw hr (by decide) rfl (pa_cons (pv 0) (pa_cons pe_int pa_nil))) pe_int (nomark _)) (pss_one (ps_asg (pe_c c_law_pick hr (by decide) rfl (pa_cons (pv 0) (pa_cons (pe_lst (pa_cons pe_int (pa_cons pe_int (pa_cons (pe_c c_law_draw hr (by decide) rfl (pa_cons (pv 0) (pa_cons pe_int pa_nil))) pa_nil)))) pa_nil))) (pg_sub (pv 5) pe_int set_list))) pss_nil) (C8.pss_cut (ps_if (pt_cmpR op_eq (pe_c c_law_draw hr (by decide) rfl (pa_cons (pv 0) (pa_cons pe_int pa_nil))) pe_int (nomark _)) (pss_one (ps_asg (pe_c c_law_address hr (by decide) rfl (pa_cons (pv 0) pa_nil)) (pg_sub (pv 5) pe_int set_list))) pss_nil) (pss_cons (ps_set (i := 6) sc_law_parts.nd rfl (Or.inl rfl) (pe_lst (pa_cons (pv 1) (pa_cons (pv 2) (pa_cons (pe_c c_law_tag hr (by decide) rfl (pa_cons (pv 0) pa_nil)) (pa_cons (pe_c c_law_address hr (by decide) rfl (pa_cons (pv 0) pa_nil)) (pa_cons (pe_c c_law_tag hr (by decide) rfl (pa_cons (pv 0) pa_nil)) (pa_cons (pe_c c_law_address hr (by decide) rfl (pa_cons (pv 0) pa_nil)) (pa_cons (pv 3) (pa_cons (pv 4) pa_nil)))))))))) (pss_one (ps_ret (pe_callTy call_tuple_of rfl T.f_tuple (by decide +kernel) (pa_cons (pe_op op_cat (pe_op op_cat (pv 6) (pe_lst (pa_cons (pe_c c_law_tag hr (by decide) rfl (pa_cons (pv 0) pa_nil)) pa_nil))) (pv 5)) pa_nil))))))))))))), ?_⟩
    refine ⟨_, rfl, by show 8 ≤ sizeLine; decide, fun u hu => ?_⟩
    obtain ⟨us, uc⟩ := st.tracked hu
    refine ⟨s, c, _, rfl, st.upd us uc, .inr ⟨u, verbsL.map V.str, rfl, upd_same, us, uc, by decide, by decide, fun v hv H1 st1 kp1 => ?_⟩⟩
    obtain ⟨verb, hverb, rfl⟩ := List.mem_map.mp hv
    have kA : Keep H H1 s c := fun b o e h1 h2 => kp1 b o (by rw [upd_ne (ne_of_none e hu)]; exact e) h1 h2
    clear kp1 hu hv
    refine ⟨_, rfl, by show 11 ≤ sizeLine; decide, fun u2 hu2 => ?_⟩
    obtain ⟨us2, uc2⟩ := st1.tracked hu2
    refine ⟨s, c, _, rfl, st1.upd us2 uc2, .inr ⟨u2, _, rfl, upd_same, us2, uc2, by show 0 < 11; decide, by show 11 ≤ 1000; decide, fun v hv H2 st2 kp2 => ?_⟩⟩
    obtain ⟨cd, rfl, hcd⟩ : ∃ cd : Option Int, v = codeV cd ∧ ∀ n, cd = some n → n ∈ codesL := by
      simp only [List.mem_cons, List.not_mem_nil, or_false] at hv
      rcases hv with rfl | rfl | rfl | rfl | rfl | rfl | rfl | rfl | rfl | rfl | rfl
      · exact ⟨none, rfl, fun _ e => nomatch e⟩
      · exact ⟨none, rfl, fun _ e => nomatch e⟩
      all_goals exact ⟨some _, rfl, fun n e => by cases e; decide⟩
    have kB : Keep H H2 s c := kA.trans fun b o e h1 h2 => kp2 b o (by rw [upd_ne (ne_of_none e hu2)]; exact e) h1 h2
    clear kp2 hu2 hv kA
    -- the tag, or none
    refine ⟨_, rfl, _, rfl, s, c, rfl, st2, fun tg H3 htg st3 kp3 => ⟨by show 2 ≤ sizeLine; decide, fun u3 hu3 => ?_⟩⟩
    obtain ⟨us3, uc3⟩ := st3.tracked hu3
    refine ⟨s, c, _, rfl, st3.upd us3 uc3, .inr ⟨u3, _, rfl, upd_same, us3, uc3, by show 0 < 2; decide, by show 2 ≤ 1000; decide, fun v hv H4 st4 kp4 => ?_⟩⟩
    obtain ⟨ttag, rfl, httag⟩ : ∃ z : Str, v = .str z ∧ (z = "" ∨ (z.length ≠ 0 ∧ tagB z = true)) := by
      simp only [List.mem_cons, List.not_mem_nil, or_false] at hv
      rcases hv with rfl | rfl
      · exact ⟨_, rfl, .inl rfl⟩
      · exact ⟨_, rfl, .inr ⟨fun e => by have := (consB_len htg).1; rw [len_eq] at e; omega, htg⟩⟩
    have kC : Keep H H4 s c := (kB.trans kp3).trans fun b o e h1 h2 => kp4 b o (by rw [upd_ne (ne_of_none e hu3)]; exact e) h1 h2
    clear kp4 hu3 hv kB kp3
    -- the sequence number
    refine ⟨_, rfl, _, rfl, s, c, 1000000, rfl, st4, by decide, by decide, fun t H5 t0 t1 st5 kp5 => ⟨by show 4 ≤ sizeLine; decide, fun u4 hu4 => ?_⟩⟩
    obtain ⟨us4, uc4⟩ := st5.tracked hu4
    refine ⟨s, c, _, rfl, st5.upd us4 uc4, .inr ⟨u4, _, rfl, upd_same, us4, uc4, by show 0 < 4; decide, by show 4 ≤ 1000; decide, fun v hv H6 st6 kp6 => ?_⟩⟩
    obtain ⟨seq, rfl, q0, q1⟩ : ∃ n : Int, v = .int n ∧ 0 ≤ n ∧ n ≤ 999999 := by
      simp only [List.mem_cons, List.not_mem_nil, or_false] at hv
      rcases hv with rfl | rfl | rfl | rfl
      · exact ⟨_, rfl, by decide, by decide⟩
      · exact ⟨_, rfl, by decide, by decide⟩
      · exact ⟨_, rfl, by decide, by decide⟩
      · exact ⟨_, rfl, t0, by omega⟩
    have kD : Keep H H6 s c := (kC.trans kp5).trans fun b o e h1 h2 => kp6 b o (by rw [upd_ne (ne_of_none e hu4)]; exact e) h1 h2
    clear kp6 hu4 hv kC kp5
    -- the extras
    refine ⟨by show 3 ≤ sizeLine; decide, fun x hx => ?_⟩
    obtain ⟨xs, xc⟩ := st6.tracked hx
    have hxH : H x = none := by
      cases q : H x with
      | none => rfl
      | some w =>
        obtain ⟨_, ⟨n, g1⟩, ns, g2, _⟩ := st6
        have := kD x w q xs xc
        rw [hx] at this
        cases this
    refine ⟨fun σ' H' => ∃ ox o, σ' = [some (.ref s), some (.str verb), some (codeV cd), some (.str ttag), some (.int seq), some (.ref x), none] ∧ StAt H' s c ∧ Keep H H' s c ∧ H' x = some (.lst [ox, .non, .non]) ∧ OffO H' ox o ∧ ∀ u, o = some u → GoodO u, ?_, ?_⟩
    · refine ⟨_, rfl, s, c, 2, rfl, st6.upd xs xc, by decide, by decide, fun r H7 r0 r1 st7 kp7 => ⟨rfl, _, rfl, ?_⟩⟩
      have ex : H7 x = some (.lst [.non, .non, .non]) := kp7 x _ upd_same xs xc
      have kE : Keep H H7 s c := kD.trans fun b o e h1 h2 => kp7 b o (by rw [upd_ne (ne_of_none e hx)]; exact e) h1 h2
      refine ite2 (fun _ => ?_) (fun _ => ⟨_, none, rfl, st7, kE, ex, rfl, fun _ e => nomatch e⟩)
      refine ⟨_, rfl, s, c, rfl, st7, fun y o H8 go ho st8 kp8 => ?_⟩
      have ex8 := kp8 x _ ex xs xc
      refine ⟨_, rfl, x, _, 0, 0, rfl, rfl, ex8, rfl, y, some o, rfl, st8.upd xs xc, (kE.trans kp8).upd hxH, upd_same, ?_, fun u e => by cases e; exact go⟩
      obtain ⟨p, f, rfl, e1, e2⟩ := ho
      exact ⟨p, f, rfl, by rw [upd_ne (fun z => by rw [z, ex8] at e1; cases e1)]; exact e1, by rw [upd_ne (fun z => by rw [z, ex8] at e2; cases e2)]; exact e2⟩
    rintro σ' H7 ⟨ox, o, rfl, st7, kE, ex, ho, go⟩
    refine ⟨fun σ' H' => ∃ sv, σ' = [some (.ref s), some (.str verb), some (codeV cd), some (.str ttag), some (.int seq), some (.ref x), none] ∧ StAt H' s c ∧ Keep H H' s c ∧ H' x = some (.lst [ox, sv, .non]) ∧ OffO H' ox o ∧ (sv = .non ∨ ∃ n : Int, sv = .int n ∧ 0 ≤ n ∧ n ≤ 9999), ?_, ?_⟩
    · refine ⟨_, rfl, s, c, 3, rfl, st7, by decide, by decide, fun r H8 r0 r1 st8 kp8 => ⟨rfl, _, rfl, ?_⟩⟩
      have ex8 := kp8 x _ ex xs xc
      have ho8 := ho.keep st7 kp8
      refine ite2 (fun _ => ?_) (fun _ => ⟨_, rfl, st8, kE.trans kp8, ex8, ho8, .inl rfl⟩)
      refine ⟨_, rfl, _, rfl, s, c, 10000, rfl, st8, by decide, by decide, fun t H9 t0 t1 st9 kp9 => ⟨by show 3 ≤ sizeLine; decide, fun u5 hu5 => ?_⟩⟩
      obtain ⟨us5, uc5⟩ := st9.tracked hu5
      refine ⟨s, c, _, rfl, st9.upd us5 uc5, .inr ⟨u5, _, rfl, upd_same, us5, uc5, by show 0 < 3; decide, by show 3 ≤ 1000; decide, fun v hv Ha sta kpa => ?_⟩⟩
      have kp9a : Keep H9 Ha s c := fun b o e h1 h2 => kpa b o (by rw [upd_ne (ne_of_none e hu5)]; exact e) h1 h2
      have exa := kp9a x _ (kp9 x _ ex8 xs xc) xs xc
      have hoa := (ho8.keep st8 kp9).keep st9 kp9a
      obtain ⟨n, rfl, n0, n1⟩ : ∃ n : Int, v = .int n ∧ 0 ≤ n ∧ n ≤ 9999 := by
        simp only [List.mem_cons, List.not_mem_nil, or_false] at hv
        rcases hv with rfl | rfl | rfl
        · exact ⟨_, rfl, by decide, by decide⟩
        · exact ⟨_, rfl, by decide, by decide⟩
        · exact ⟨_, rfl, t0, by omega⟩
      exact ⟨_, rfl, x, _, 1, 1, rfl, rfl, exa, rfl, _, rfl, sta.upd xs xc, (((kE.trans kp8).trans kp9).trans kp9a).upd hxH, upd_same, hoa.updL exa, .inr ⟨n, rfl, n0, n1⟩⟩
    rintro σ' H8 ⟨sv, rfl, st8, kF, ex8, ho8, hsv⟩
    refine ⟨fun σ' H' => ∃ gv, σ' = [some (.ref s), some (.str verb), some (codeV cd), some (.str ttag), some (.int seq), some (.ref x), none] ∧ StAt H' s c ∧ Keep H H' s c ∧ H' x = some (.lst [ox, sv, gv]) ∧ OffO H' ox o ∧ (gv = .non ∨ ∃ z : Str, gv = .str z ∧ (splitB z).isSome = true), ?_, ?_⟩
    · refine ⟨_, rfl, s, c, 3, rfl, st8, by decide, by decide, fun r H9 r0 r1 st9 kp9 => ⟨rfl, _, rfl, ?_⟩⟩
      have ex9 := kp9 x _ ex8 xs xc
      have ho9 := ho8.keep st8 kp9
      refine ite2 (fun _ => ?_) (fun _ => ⟨_, rfl, st9, kF.trans kp9, ex9, ho9, .inl rfl⟩)
      refine ⟨_, rfl, s, c, rfl, st9, fun z Ha hz sta kpa => ?_⟩
      have exa := kpa x _ ex9 xs xc
      exact ⟨_, rfl, x, _, 2, 2, rfl, rfl, exa, rfl, _, rfl, sta.upd xs xc, ((kF.trans kp9).trans kpa).upd hxH, upd_same, (ho9.keep st9 kpa).updL exa, .inr ⟨z, rfl, hz⟩⟩
    rintro σ' H9 ⟨gv, rfl, st9, kG, ex9, ho9, hgv⟩
    refine ⟨_, rfl, _, rfl, _, rfl, s, c, rfl, st9, fun call Ha hcall sta kpa => ?_⟩
    refine ⟨_, rfl, s, c, rfl, sta, fun origin Hb horigin stb kpb => ?_⟩
    refine ⟨_, rfl, s, c, rfl, stb, fun otag Hc hotag stc kpc => ?_⟩
    refine ⟨_, rfl, s, c, rfl, stc, fun target Hd htarget std kpd => ?_⟩
    refine ⟨_, rfl, _, rfl, by show 8 ≤ sizeLine; decide, fun y hy => ?_⟩
    have kp9d : Keep H9 Hd s c := ((kpa.trans kpb).trans kpc).trans kpd
    have exd := kp9d x _ ex9 xs xc
    have hod := ho9.keep st9 kp9d
    obtain ⟨ys, yc⟩ := std.tracked hy
    refine ⟨_, rfl, _, rfl, s, c, rfl, std.upd ys yc, fun way He hway ste kpe => ⟨by show 1 ≤ sizeLine; decide, fun w hw => ?_⟩⟩
    have ey := kpe y _ upd_same ys yc
    have kpde : Keep Hd He s c := fun b o e h1 h2 => kpe b o (by rw [upd_ne (ne_of_none e hy)]; exact e) h1 h2
    have exe := kpde x _ exd xs xc
    have hoe := hod.keep std kpde
    obtain ⟨ws, wc⟩ := ste.tracked hw
    have sw : Same He (upd He w (.lst [.str way])) := same_upd hw
    refine ⟨y, w, _, _, rfl, rfl, sw _ _ ey, upd_same, by show 9 ≤ sizeLine; decide, fun z hz => ?_⟩
    have sz := sw.trans (same_upd (o := .lst ([.str verb, codeV cd, .str call, .str origin, .str otag, .str target, .str ttag, .int seq] ++ [.str way])) hz)
    obtain ⟨zs, zc⟩ := (ste.upd (o := .lst [.str way]) ws wc).tracked hz
    refine ⟨_, rfl, z, x, _, _, rfl, rfl, upd_same, sz _ _ exe, by show 12 ≤ sizeLine; decide, fun q hq => ?_⟩
    have sq := sz.trans (same_upd (o := .lst (([.str verb, codeV cd, .str call, .str origin, .str otag, .str target, .str ttag, .int seq] ++ [.str way]) ++ [ox, sv, gv])) hq)
    have stz := (ste.upd (o := .lst [.str way]) ws wc).upd (o := .lst ([.str verb, codeV cd, .str call, .str origin, .str otag, .str target, .str ttag, .int seq] ++ [.str way])) zs zc
    obtain ⟨qs, qc⟩ := stz.tracked hq
    have stq := stz.upd (o := .lst (([.str verb, codeV cd, .str call, .str origin, .str otag, .str target, .str ttag, .int seq] ++ [.str way]) ++ [ox, sv, gv])) qs qc
    refine ⟨q, _, rfl, .inl ⟨SqL.of upd_same, fun f hf => ?_⟩⟩
    have sf := sq.trans (same_upd (o := .tup (([.str verb, codeV cd, .str call, .str origin, .str otag, .str target, .str ttag, .int seq] ++ [.str way]) ++ [ox, sv, gv])) hf)
    obtain ⟨fs, fc⟩ := stq.tracked hf
    have kZ : Keep H He s c := (kG.trans kp9d).trans kpde
    have hfH : H f = none := by
      cases q2 : H f with
      | none => rfl
      | some w2 =>
        have := sq _ _ (kZ f w2 q2 fs fc)
        rw [hf] at this
        cases this
    refine k f ⟨verb, call, origin, otag, target, ttag, seq, way, codeV cd, ox, sv, gv⟩ o cd _ ⟨hverb, rfl, hcd, hcall, horigin, hotag, htarget, httag, q0, q1, hway, fun u e => (go u e).off, hsv, hgv⟩ (hoe.same sf) go hfH upd_same (stq.upd fs fc) (kZ.trans (Keep.of_same sf))
end K4
set_option maxHeartbeats 4000000
set_option pp.maxSteps 400
namespace K4
open PySem PySem.Spec PyProof.Rows L2 SX TK TKS
open C8 (pe_c)
theorem e_app (z : Str) : Str.empty ++ z = z := TL.ext_tl (by rw [TL.tl_append]; rfl)
theorem off_line (o : Off) : ("offer " : Str) ++ numS o.port ++ " " ++ o.mode ++ " " ++ Txt.join "," o.fs = Str.empty ++ "offer " ++ wordsS o := by
  unfold wordsS numS
  rw [e_app, TL.join_eq " "]
  apply TL.ext_tl
  rw [TL.tl_append, TL.tl_append, TL.tl_append, TL.tl_append, TL.tl_append, TL.tl_append, TL.tl_join, tl_sp]
  simp [TL.joinL]
def spTextL (K : PySem.W.Frag) : Sp := fun vs H Q _ => ∃ (t : Addr) (L : Ltr) (o : Option Off) (cd : Option Int), vs = [.ref t] ∧ H t = some (.tup L.partsV) ∧ GLet L o cd ∧ OffO H L.offer o ∧ ∀ H', Same H H' → Q (.str (textOf (linesX L o))) H'
theorem ok_law_text {P : Program} {w : World} {K : PySem.W.Frag} {mg : Str → Option Value} {base : Heap} {f : Addr} {fd : FuncData} (T : Tx K mg) 
    (F : FunD K "_law_text" "_law_text" (defArgs s_law_text) (defBody s_law_text) (defScope s_law_text) [] [] f fd) : FnOk P w K mg base CX0 1 f fd ["p"] (spTextL K) := by
  refine F.ok sc_law_text (fun vs H Q E h => ?_) (fun cdv A outer s H vs Q E hr h => ?_)
  · obtain ⟨t, L, o, cd, rfl, _⟩ := h
    rfl
  · obtain ⟨t, L, o, cd, rfl, ht, g, ho, k⟩ := h
    have lk := g.lok
    have xk := g.xok
    have g1 := lk.call
    have g2 := lk.origin
    have g3 := lk.otag
    have g4 := lk.target
    have g5 := lk.ttag
    have g6 := lk.way
    have g8 := lk.verb
    have g7 := numS_len lk.seq
    refine ⟨_, PSs.nox (pss_cons (ps_set (i := 1) sc_law_text.nd rfl (Or.inl rfl) (pe_lst (pa_cons (pe_op op_add_str pe_str (pe_ix ix_tup (pv 0) pe_int (fun _ _ => rfl))) pa_nil))) (C8.pss_cut (ps_if (pt_cmpR op_notN (pe_ix ix_tup (pv 0) pe_int (fun _ _ => rfl)) pe_non (nomark _)) (pss_one (ps_set (i := 1) sc_law_text.nd rfl (Or.inl rfl) (pe_lst (pa_cons (pe_op op_add_str (pe_op op_add_str (pe_op op_add_str pe_str (pe_callTy call_str_int rfl T.f_str (by decide +kernel) (pa_cons (pe_ix ix_tup (pv 0) pe_int (fun _ _ => rfl)) pa_nil))) pe_str) (pe_ix ix_tup (pv 0) pe_int (fun _ _ => rfl))) pa_nil)))) pss_nil) (pss_cons (ps_set (i := 2) sc_law_text.nd rfl (Or.inl rfl) (pe_op op_add_str pe_str (pe_ix ix_tup (pv 0) pe_int (fun _ _ => rfl)))) (C8.pss_cut (ps_if (pt_cmpR op_ne (pe_ix ix_tup (pv 0) pe_int (fun _ _ => rfl)) pe_str (nomark _)) (pss_one (ps_set (i := 2) sc_law_text.nd rfl (Or.inl rfl) (pe_op op_add_str (pe_op op_add_str (pv 2) pe_str) (pe_ix ix_tup (pv 0) pe_int (fun _ _ => rfl))))) pss_nil) (pss_cons (ps_set (i := 1) sc_law_text.nd rfl (Or.inl rfl) (pe_op op_cat (pv 1) (pe_lst (pa_cons (pe_op op_add_str pe_str (pe_ix ix_tup (pv 0) pe_int (fun _ _ => rfl))) (pa_cons (pe_op op_add_str (pe_op op_add_str (pe_op op_add_str pe_str (pe_ix ix_tup (pv 0) pe_int (fun _ _ => rfl))) pe_str) (pe_ix ix_tup (pv 0) pe_int (fun _ _ => rfl))) (pa_cons (pv 2) (pa_cons (pe_op op_add_str pe_str (pe_callTy call_str_int rfl T.f_str (by decide +kernel) (pa_cons (pe_ix ix_tup (pv 0) pe_int (fun _ _ => rfl)) pa_nil))) (pa_cons (pe_op op_add_str pe_str (pe_ix ix_tup (pv 0) pe_int (fun _ _ => rfl))) pa_nil)))))))) (C8.pss_cut (ps_if (pt_cmpR op_notN (pe_ix ix_tup (pv 0) pe_int (fun _ _ => rfl)) pe_non (nomark _)) (pss_one (ps_expr (pe_bm PySem.F.plainAttrs_list PySem.F.slot_list_append PySem.F.type_list_append mt_append (pv 1) (pa_cons (pe_op op_add_str (pe_op op_add_str (pe_op op_add_str (pe_op op_add_str (pe_op op_add_str pe_str (pe_callTy call_str_int rfl T.f_str (by decide +kernel) (pa_cons (pe_ix ix_tup (pe_ix ix_tup (pv 0) pe_int (fun _ _ => rfl)) pe_int (fun _ _ => rfl)) pa_nil))) pe_str) (pe_ix ix_tup (pe_ix ix_tup (pv 0) pe_int (fun _ _ => rfl)) pe_int (fun _ _ => rfl))) pe_str) (pe_join pe_str (pe_ix ix_tup (pe_ix ix_tup (pv 0) pe_int (fun _ _ => rfl)) pe_int (fun _ _ => rfl)))) pa_nil)))) pss_nil) (C8.pss_cut (ps_if (pt_cmpR op_notN (pe_ix ix_tup (pv 0) pe_int (fun _ _ => rfl)) pe_non (nomark _)) (pss_one (ps_expr (pe_bm PySem.F.plainAttrs_list PySem.F.slot_list_append PySem.F.type_list_append mt_append (pv 1) (pa_cons (pe_op op_add_str pe_str (pe_callTy call_str_int rfl T.f_str (by decide +kernel) (pa_cons (pe_ix ix_tup (pv 0) pe_int (fun _ _ => rfl)) pa_nil))) pa_nil)))) pss_nil) (C8.pss_cut (ps_if (pt_cmpR op_notN (pe_ix ix_tup (pv 0) pe_int (fun _ _ => rfl)) pe_non (nomark _)) (pss_one (ps_expr (pe_bm PySem.F.plainAttrs_list PySem.F.slot_list_append PySem.F.type_list_append mt_append (pv 1) (pa_cons (pe_op op_add_str pe_str (pe_ix ix_tup (pv 0) pe_int (fun _ _ => rfl))) pa_nil)))) pss_nil) (pss_one (ps_ret (pe_join pe_str (pe_lc (own := [("line", 3)]) (g := gName 3) rfl sc_law_text.nd (pi_list (pv 1)) (blkOk_by (own := [("line", 3)]) (N := ["p", "lines", "to", "line"]) (sc := defScope s_law_text) (by decide +kernel)) (fun _ _ _ _ _ => pg_name (i := 3) sc_law_text.nd rfl (Or.inl rfl)) (fun _ _ _ _ _ => pts_nil) (fun _ _ _ _ _ => (pe_op op_add_str (pv 3) pe_str)))))))))))))), ?_⟩
    refine ⟨_, rfl, t, _, 0, .str L.verb, rfl, rfl, SqT.of ht, rfl, _, _, rfl, rfl, (by rw [k_request]; exact Nat.le_trans (by omega : _ ≤ 2000) (by decide)), by show 1 ≤ sizeLine; decide, fun a ha => ?_⟩
    -- a reply's head
    refine ⟨fun σ' H' => ∃ a1, σ' = [some (.ref t), some (.ref a1), none, none] ∧ Same H H' ∧ H' a1 = some (.lst [.str (headS L)]), ?_, ?_⟩
    · have s1 := same_upd (o := .lst [.str (("request " : Str) ++ L.verb)]) ha
      refine ⟨_, rfl, t, _, 1, L.code, rfl, rfl, SqT.of (s1 _ _ ht), rfl, rfl, _, rfl, ?_⟩
      rcases lk.code with e | ⟨c, e, hc0, hc⟩
      · have q : headS L = ("request " : Str) ++ L.verb := by unfold headS; rw [e]; show Str.empty ++ "request " ++ L.verb = _; rw [e_app]
        rw [e, q]
        exact iteF ⟨a, rfl, s1, upd_same⟩
      · have q : headS L = ("reply " : Str) ++ numS c ++ " " ++ L.verb := by unfold headS; rw [e]; show Str.empty ++ "reply " ++ numS c ++ " " ++ L.verb = _; rw [e_app]
        have := numS_len hc
        rw [q, e]
        refine iteT ⟨_, rfl, t, _, 1, .int c, rfl, rfl, SqT.of (s1 _ _ ht), (by rw [← e]; rfl), c, rfl, numS_log hc, _, _, rfl, rfl, ?_, _, _, rfl, rfl, ?_, _, rfl, t, _, 0, .str L.verb, rfl, rfl, SqT.of (s1 _ _ ht), rfl, _, _, rfl, rfl, ?_, by show 1 ≤ sizeLine; decide, fun a1 ha1 => ⟨a1, rfl, s1.trans (same_upd ha1), upd_same⟩⟩
        · show ("reply " : Str).length + (numS c).length ≤ sizeLine
          rw [k_reply]
          exact Nat.le_trans (by omega : _ ≤ 2000) (by decide)
        · show (("reply " : Str) ++ numS c).length + (" " : Str).length ≤ sizeLine
          rw [cat_len, k_reply, k_blank]
          exact Nat.le_trans (by omega : _ ≤ 2000) (by decide)
        · show (("reply " : Str) ++ numS c ++ " ").length + L.verb.length ≤ sizeLine
          rw [cat_len, cat_len, k_reply, k_blank]
          exact Nat.le_trans (by omega : _ ≤ 2000) (by decide)
    rintro σ' H1 ⟨a1, rfl, s1, e1⟩
    -- to
    refine ⟨_, rfl, t, _, 5, .str L.target, rfl, rfl, SqT.of (s1 _ _ ht), rfl, _, _, rfl, rfl, (by rw [k_to]; exact Nat.le_trans (by omega : _ ≤ 2000) (by decide)), ?_⟩
    refine ⟨fun σ' H' => σ' = [some (.ref t), some (.ref a1), some (.str (toS L)), none] ∧ H' = H1, ?_, ?_⟩
    · refine ⟨_, rfl, t, _, 6, .str L.ttag, rfl, rfl, SqT.of (s1 _ _ ht), rfl, rfl, _, rfl, ?_⟩
      rcases g.ttag with e | ⟨h, e⟩
      · have q : toS L = ("to " : Str) ++ L.target := by unfold toS; rw [e, if_neg (by decide +kernel), e_app]
        rw [e, q]
        exact iteF ⟨rfl, rfl⟩
      · have hne : ¬ V.str L.ttag = V.str "" := fun q => h (by rw [V.str.inj q]; rfl)
        have q : toS L = ("to " : Str) ++ L.target ++ " " ++ L.ttag := by unfold toS; rw [if_pos (by simpa using h), e_app]
        rw [decide_eq_false hne, q]
        refine iteT ⟨_, rfl, _, _, rfl, rfl, ?_, _, rfl, t, _, 6, .str L.ttag, rfl, rfl, SqT.of (s1 _ _ ht), rfl, _, _, rfl, rfl, ?_, rfl, rfl⟩
        · show (("to " : Str) ++ L.target).length + (" " : Str).length ≤ sizeLine
          rw [cat_len, k_to, k_blank]
          exact Nat.le_trans (by omega : _ ≤ 2000) (by decide)
        · show (("to " : Str) ++ L.target ++ " ").length + L.ttag.length ≤ sizeLine
          rw [cat_len, cat_len, k_to, k_blank]
          exact Nat.le_trans (by omega : _ ≤ 3000) (by decide)
    rintro σ' H2 ⟨rfl, e⟩
    obtain rfl : H1 = H2 := e.symm
    -- the first six lines
    have tl2 := toS_len lk
    refine ⟨_, rfl, ?_⟩
    refine ⟨_, rfl, t, _, 2, .str L.call, rfl, rfl, SqT.of (s1 _ _ ht), rfl, _, _, rfl, rfl, (by rw [k_call]; exact Nat.le_trans (by omega : _ ≤ 2000) (by decide)), ?_⟩
    refine ⟨_, rfl, t, _, 3, .str L.origin, rfl, rfl, SqT.of (s1 _ _ ht), rfl, _, _, rfl, rfl, (by rw [k_from]; exact Nat.le_trans (by omega : _ ≤ 2000) (by decide)), _, _, rfl, rfl, ?_, _, rfl, t, _, 4, .str L.otag, rfl, rfl, SqT.of (s1 _ _ ht), rfl, _, _, rfl, rfl, ?_, ?_⟩
    · show (("from " : Str) ++ L.origin).length + (" " : Str).length ≤ sizeLine
      rw [cat_len, k_from, k_blank]
      exact Nat.le_trans (by omega : _ ≤ 2000) (by decide)
    · show (("from " : Str) ++ L.origin ++ " ").length + L.otag.length ≤ sizeLine
      rw [cat_len, cat_len, k_from, k_blank]
      exact Nat.le_trans (by omega : _ ≤ 3000) (by decide)
    refine ⟨_, rfl, _, rfl, t, _, 7, .int L.seq, rfl, rfl, SqT.of (s1 _ _ ht), rfl, L.seq, rfl, numS_log lk.seq, _, _, rfl, rfl, ?_, ?_⟩
    · show ("seq " : Str).length + (numS L.seq).length ≤ sizeLine
      rw [k_seq]
      exact Nat.le_trans (by omega : _ ≤ 2000) (by decide)
    refine ⟨_, rfl, t, _, 8, .str L.way, rfl, rfl, SqT.of (s1 _ _ ht), rfl, _, _, rfl, rfl, (by rw [k_way]; exact Nat.le_trans (by omega : _ ≤ 2000) (by decide)), by show 5 ≤ sizeLine; decide, fun a2 ha2 => ?_⟩
    have s2 := s1.trans (same_upd (o := .lst [.str (("call " : Str) ++ L.call), .str (("from " : Str) ++ L.origin ++ " " ++ L.otag), .str (toS L), .str (("seq " : Str) ++ numS L.seq), .str (("way " : Str) ++ L.way)]) ha2)
    refine ⟨a1, a2, _, _, rfl, rfl, (same_upd ha2) _ _ e1, upd_same, by show 6 ≤ sizeLine; decide, fun a3 ha3 => ?_⟩
    have s3 := s2.trans (same_upd (o := .lst ([.str (headS L)] ++ [.str (("call " : Str) ++ L.call), .str (("from " : Str) ++ L.origin ++ " " ++ L.otag), .str (toS L), .str (("seq " : Str) ++ numS L.seq), .str (("way " : Str) ++ L.way)])) ha3)
    have el : [.str (headS L)] ++ [.str (("call " : Str) ++ L.call), .str (("from " : Str) ++ L.origin ++ " " ++ L.otag), .str (toS L), .str (("seq " : Str) ++ Str.ofString (toString L.seq)), .str (("way " : Str) ++ L.way)] = (linesS L).map V.str := by
      unfold linesS
      rw [e_app, e_app, e_app, e_app]
      rfl
    have ei : (upd H1 a2 (.lst [.str (("call " : Str) ++ L.call), .str (("from " : Str) ++ L.origin ++ " " ++ L.otag), .str (toS L), .str (("seq " : Str) ++ Str.ofString (toString L.seq)), .str (("way " : Str) ++ L.way)])) = (upd H1 a2 (.lst [.str (("call " : Str) ++ L.call), .str (("from " : Str) ++ L.origin ++ " " ++ L.otag), .str (toS L), .str (("seq " : Str) ++ numS L.seq), .str (("way " : Str) ++ L.way)])) := rfl
    change Same H (upd _ a3 (.lst ([.str (headS L)] ++ [.str (("call " : Str) ++ L.call), .str (("from " : Str) ++ L.origin ++ " " ++ L.otag), .str (toS L), .str (("seq " : Str) ++ Str.ofString (toString L.seq)), .str (("way " : Str) ++ L.way)]))) at s3
    rw [el, ei]
    rw [el] at s3
    have e3 : (upd (upd H1 a2 (.lst [.str (("call " : Str) ++ L.call), .str (("from " : Str) ++ L.origin ++ " " ++ L.otag), .str (toS L), .str (("seq " : Str) ++ numS L.seq), .str (("way " : Str) ++ L.way)])) a3 (.lst ((linesS L).map V.str))) a3 = some (.lst ((linesS L).map V.str)) := upd_same
    have n3 : H a3 = none := fresh_of s2 ha3
    generalize (upd (upd H1 a2 (.lst [.str (("call " : Str) ++ L.call), .str (("from " : Str) ++ L.origin ++ " " ++ L.otag), .str (toS L), .str (("seq " : Str) ++ numS L.seq), .str (("way " : Str) ++ L.way)])) a3 (.lst ((linesS L).map V.str))) = H3 at s3 e3 ⊢
    have lx := linesX_len (L := L) (o := o) lk xk
    -- the offer
    refine ⟨fun σ' H' => σ' = [some (.ref t), some (.ref a3), some (.str (toS L)), none] ∧ Same H H' ∧ H' a3 = some (.lst ((linesS L ++ offL o).map V.str)), ?_, ?_⟩
    · refine ⟨_, rfl, t, _, 9, L.offer, rfl, rfl, SqT.of (s3 _ _ ht), rfl, rfl, _, rfl, ?_⟩
      rw [ho.none_iff]
      cases o with
      | none =>
        refine iteF ⟨rfl, s3, ?_⟩
        rw [show offL none = [] from rfl, List.append_nil]
        exact e3
      | some o =>
        obtain ⟨p, f, eo, hp, hf⟩ := ho
        have ok := xk.off o rfl
        obtain ⟨j1, j2⟩ := ok.join
        obtain ⟨t1, t2⟩ := ok.str
        have lm := ok.m
        have q : ("offer " : Str) ++ numS o.port ++ " " ++ o.mode ++ " " ++ Txt.join "," o.fs = Str.empty ++ "offer " ++ wordsS o := off_line o
        refine iteT ⟨_, rfl, .inl ⟨rfl, _, SqL.of e3⟩, ?_⟩
        refine ⟨_, rfl, t, _, 9, L.offer, rfl, rfl, SqT.of (s3 _ _ ht), rfl, p, _, 0, .int o.port, eo, rfl, SqT.of (s3 _ _ hp), rfl, o.port, rfl, t2, _, _, rfl, rfl, ?_, _, _, rfl, rfl, ?_, ?_⟩
        · show ("offer " : Str).length + (numS o.port).length ≤ sizeLine
          rw [k_offer]
          exact Nat.le_trans (by unfold numS; omega : _ ≤ 2000) (by decide)
        · show (("offer " : Str) ++ numS o.port).length + (" " : Str).length ≤ sizeLine
          rw [cat_len, k_offer, k_blank]
          exact Nat.le_trans (by unfold numS; omega : _ ≤ 2000) (by decide)
        refine ⟨_, rfl, t, _, 9, L.offer, rfl, rfl, SqT.of (s3 _ _ ht), rfl, p, _, 1, .str o.mode, eo, rfl, SqT.of (s3 _ _ hp), rfl, _, _, rfl, rfl, ?_, _, _, rfl, rfl, ?_, ?_⟩
        · show (("offer " : Str) ++ numS o.port ++ " ").length + o.mode.length ≤ sizeLine
          rw [cat_len, cat_len, k_offer, k_blank]
          exact Nat.le_trans (by unfold numS; omega : _ ≤ 2000) (by decide)
        · show (("offer " : Str) ++ numS o.port ++ " " ++ o.mode).length + (" " : Str).length ≤ sizeLine
          rw [cat_len, cat_len, cat_len, k_offer, k_blank]
          exact Nat.le_trans (by unfold numS; omega : _ ≤ 2000) (by decide)
        refine ⟨⟨_, rfl⟩, _, rfl, t, _, 9, L.offer, rfl, rfl, SqT.of (s3 _ _ ht), rfl, p, _, 2, .ref f, eo, rfl, SqT.of (s3 _ _ hp), rfl, ?_⟩
        refine ⟨_, f, o.fs, rfl, rfl, .inr (SqT.of (s3 _ _ hf)), ?_, _, _, rfl, rfl, ?_, ?_⟩
        · exact Nat.le_trans j1 (by decide)
        · show (("offer " : Str) ++ numS o.port ++ " " ++ o.mode ++ " ").length + (Txt.join "," o.fs).length ≤ sizeLine
          rw [cat_len, cat_len, cat_len, cat_len, k_offer, k_blank]
          exact Nat.le_trans (by unfold numS; omega : _ ≤ 2000) (by decide)
        refine ⟨a3, _, _, rfl, rfl, e3, by show 6 < sizeLine; decide, rfl, TK.Same.upd_of s3 n3, ?_⟩
        show upd H3 a3 (.lst ((linesS L).map V.str ++ [.str (("offer " : Str) ++ numS o.port ++ " " ++ o.mode ++ " " ++ Txt.join "," o.fs)])) a3 = _
        rw [upd_same, q, List.map_append]
        rfl
    rintro σ' H4 ⟨rfl, s4, e4⟩
    have n1 : (linesS L ++ offL o).length ≤ 7 := by
      rw [List.length_append]
      have : (offL o).length ≤ 1 := by cases o <;> simp [offL]
      show 6 + _ ≤ 7
      omega
    refine ⟨fun σ' H' => σ' = [some (.ref t), some (.ref a3), some (.str (toS L)), none] ∧ Same H H' ∧ H' a3 = some (.lst ((linesS L ++ offL o ++ stayL L.stay).map V.str)), ?_, ?_⟩
    · refine ⟨_, rfl, t, _, 10, L.stay, rfl, rfl, SqT.of (s4 _ _ ht), rfl, rfl, _, rfl, ?_⟩
      rcases xk.stay with e | ⟨c, e, hc0, hc⟩
      · rw [e]
        refine iteF ⟨rfl, s4, ?_⟩
        rw [show stayL V.non = [] from rfl, List.append_nil]
        exact e4
      · have := numS_len hc
        rw [e]
        refine iteT ⟨_, rfl, .inl ⟨rfl, _, SqL.of e4⟩, _, rfl, t, _, 10, .int c, rfl, rfl, SqT.of (s4 _ _ ht), (by rw [← e]; rfl), c, rfl, numS_log hc, _, _, rfl, rfl, ?_, ?_⟩
        · show ("stay " : Str).length + (numS c).length ≤ sizeLine
          rw [k_stay]
          exact Nat.le_trans (by omega : _ ≤ 2000) (by decide)
        refine ⟨a3, _, _, rfl, rfl, e4, by rw [List.length_map]; exact Nat.lt_of_le_of_lt n1 (by decide), rfl, TK.Same.upd_of s4 n3, ?_⟩
        show upd H4 a3 (.lst ((linesS L ++ offL o).map V.str ++ [.str (("stay " : Str) ++ numS c)])) a3 = _
        rw [upd_same, List.map_append (l₂ := stayL _), show ("stay " : Str) ++ numS c = Str.empty ++ "stay " ++ numS c from by rw [e_app]]
        rfl
    rintro σ' H5 ⟨rfl, s5, e5⟩
    have n2 : (linesS L ++ offL o ++ stayL L.stay).length ≤ 8 := by
      rw [List.length_append]
      have : (stayL L.stay).length ≤ 1 := by unfold stayL; split <;> simp
      omega
    refine ⟨fun σ' H' => σ' = [some (.ref t), some (.ref a3), some (.str (toS L)), none] ∧ Same H H' ∧ H' a3 = some (.lst ((linesX L o).map V.str)), ?_, ?_⟩
    · refine ⟨_, rfl, t, _, 11, L.goal, rfl, rfl, SqT.of (s5 _ _ ht), rfl, rfl, _, rfl, ?_⟩
      unfold linesX
      rcases xk.goal with e | ⟨z, e, hz0, hz⟩
      · rw [e]
        refine iteF ⟨rfl, s5, ?_⟩
        rw [show goalL V.non = [] from rfl, List.append_nil]
        exact e5
      · rw [e]
        refine iteT ⟨_, rfl, .inl ⟨rfl, _, SqL.of e5⟩, _, rfl, t, _, 11, .str z, rfl, rfl, SqT.of (s5 _ _ ht), (by rw [← e]; rfl), _, _, rfl, rfl, ?_, ?_⟩
        · rw [k_goal]
          exact Nat.le_trans (by omega : _ ≤ 2000) (by decide)
        refine ⟨a3, _, _, rfl, rfl, e5, by rw [List.length_map]; exact Nat.lt_of_le_of_lt n2 (by decide), rfl, TK.Same.upd_of s5 n3, ?_⟩
        show upd H5 a3 (.lst ((linesS L ++ offL o ++ stayL L.stay).map V.str ++ [.str (("goal " : Str) ++ z)])) a3 = _
        rw [upd_same, List.map_append (l₂ := goalL _), show ("goal " : Str) ++ z = Str.empty ++ "goal " ++ z from by rw [e_app]]
        rfl
    rintro σ' H6 ⟨rfl, sH, hl1⟩
    have n9 := linesX_n L o
    -- the join
    refine ⟨⟨_, rfl⟩, _, rfl, a3, rfl, ⟨_, SqL.of hl1⟩, fun D hD => ?_⟩
    have hS2 : ∀ u, SqL K (upd H6 D u) a3 ((linesX L o).map V.str) := fun o => SqL.of ((same_upd hD) _ _ hl1)
    have hfit := textOf_fits lx (Nat.le_trans n9 (by decide))
    refine lc_pureN walk_list (fun i => V.str ((linesX L o).getD i "" ++ "\n")) (by rw [List.length_map]; exact Nat.le_trans n9 (by show 9 ≤ sizeLine; decide)) (fun _ _ => hS2 _) (fun i x H4 kk hi y q => ?_) ?_
    · obtain ⟨rfl, hx⟩ := y
      rw [List.length_map] at hi
      rw [List.getElem?_map, List.getElem?_eq_getElem hi] at hx
      obtain rfl := Option.some.inj hx
      refine ⟨rfl, _, rfl, _, _, rfl, rfl, Nat.le_trans (Nat.add_le_add (lx _ (List.getElem_mem hi)) (Nat.le_of_eq k_nl)) (by decide), ?_⟩
      rw [List.getD_eq_getElem?_getD, List.getElem?_eq_getElem hi] at q
      exact q
    · rw [List.length_map, range_map_getD (linesX L o) "" fun z => V.str (z ++ "\n")]
      refine ⟨_, D, (linesX L o).map fun z => z ++ "\n", rfl, rfl, .inl (SqL.of ?_), ?_, ?_⟩
      · rw [List.map_map]
        exact upd_same
      · exact Nat.le_trans hfit (by decide)
      · exact k _ (sH.trans (same_upd hD))
end K4
set_option maxHeartbeats 4000000
set_option pp.maxSteps 400
namespace K4
open PySem PySem.Spec PyProof.Rows L2 SX TK TKS
open C8 (pe_c)
/-! ### the law's own reading of words -/
def onlyB (z m : Str) : Bool := (TL.tl z).all fun c => decide (c ∈ TL.tl m)
theorem consB_eq (z m : Str) (n : Int) : consB z m n = ((decide ((1 : Int) ≤ (z.length : Int)) && decide ((z.length : Int) ≤ n)) && onlyB z m) := by
  unfold consB consL onlyB
  rw [len_eq]
def spOnly : Sp := fun vs H Q _ => ∃ z m : Str, vs = [.str z, .str m] ∧ z.length ≤ 2000000 ∧ Q (.bl (consB z m 16)) H
theorem ok_law_only {P : Program} {w : World} {K : PySem.W.Frag} {mg : Str → Option Value} {base : Heap} {f : Addr} {fd : FuncData} (T : Tx K mg) 
    (F : FunD K "_law_only" "_law_only" (defArgs s_law_only) (defBody s_law_only) (defScope s_law_only) [] [] f fd) : FnOk P w K mg base CX0 1 f fd ["word", "chars"] spOnly := by
  refine F.ok sc_law_only (fun vs H Q E h => ?_) (fun cdv A outer s0 H vs Q E hr h => ?_)
  · obtain ⟨z, m, rfl, _⟩ := h
    rfl
  · obtain ⟨z, m, rfl, hz, k⟩ := h
    have hz2 : z.length ≤ sizeLine := Nat.le_trans hz (by decide)
    rw [consB_eq] at k
    refine ⟨_, PSs.nox (pss_cons (ps_for PassesOwn.never rfl (pi_str (pv 0)) (pg_name (i := 2) sc_law_only.nd rfl (Or.inl rfl)) (pss_one (ps_if (pt_cmpR op_notIn_sign (pv 2) (pv 1) (by with_unfolding_all rfl)) (pss_one (ps_ret pe_bl)) pss_nil))) (pss_one (ps_ret (pe_chain op_le op_le pe_int (pe_callB call_len_str rfl T.f_len PySem.boot_len (pa_cons (pv 0) pa_nil)) pe_int)))), ?_⟩
    refine ⟨_, rfl, z, rfl, for_it walk_str (fun i σ H' => H' = H ∧ (∃ v, σ = [some (.str z), some (.str m), v]) ∧ ∀ j, j < i → (TL.tl z).getD j 0 ∈ TL.tl m) ⟨rfl, ⟨none, rfl⟩, fun j hj => absurd hj (Nat.not_lt_zero _)⟩ (fun _ _ _ _ _ => trivial) ?_ ?_⟩
    · rintro i x σ H1 H2 hi ⟨rfl, ⟨v, rfl⟩, ha⟩ ⟨rfl, c, hc, rfl⟩
      have e : (TL.tl z)[i]? = some c := by
        show z.cps.toList[i]? = some c
        rw [Array.getElem?_toList]
        exact hc
      have e2 : (TL.tl z).getD i 0 = c := by
        rw [List.getD_eq_getElem?_getD, e]
        rfl
      refine ⟨_, rfl, _, rfl, c, m, rfl, rfl, _, rfl, ?_⟩
      by_cases h1 : c ∈ TL.tl m
      · rw [decide_eq_true h1]
        refine iteF ⟨rfl, ⟨_, rfl⟩, fun j hj => ?_⟩
        by_cases h2 : j < i
        · exact ha j h2
        · rw [show j = i by omega, e2]
          exact h1
      · rw [decide_eq_false h1]
        refine iteT ?_
        have e3 : onlyB z m = false := by
          unfold onlyB
          rw [List.all_eq_false]
          exact ⟨c, List.mem_of_getElem? e, by rw [decide_eq_false h1]; exact Bool.false_ne_true⟩
        rw [e3, Bool.and_false] at k
        exact k
    · rintro σ H1 ⟨rfl, ⟨v, rfl⟩, ha⟩
      have e3 : onlyB z m = true := by
        unfold onlyB
        rw [List.all_eq_true]
        intro c hc
        obtain ⟨j, hj, e⟩ := List.mem_iff_getElem.mp hc
        have h1 := ha j (by rw [size_tl]; exact hj)
        rw [List.getD_eq_getElem?_getD, List.getElem?_eq_getElem hj, e] at h1
        exact decide_eq_true h1
      rw [e3, Bool.and_true] at k
      refine ⟨_, rfl, _, rfl, hz2, _, _, rfl, rfl, _, rfl, ?_⟩
      by_cases c1 : (1 : Int) ≤ (z.length : Int)
      · rw [decide_eq_true c1, Bool.true_and] at k
        rw [decide_eq_true c1]
        exact iteT ⟨_, _, rfl, rfl, k⟩
      · rw [decide_eq_false c1, Bool.false_and] at k
        rw [decide_eq_false c1]
        exact iteF k
theorem consB_sub {z m m' : Str} {n : Int} (h : ∀ c, c ∈ TL.tl m ↔ c ∈ TL.tl m') : consB z m n = consB z m' n := by
  unfold consB consL
  congr 2
  funext c
  exact decide_eq_decide.mpr (h c)
def spLName : Sp := fun vs H Q _ => ∃ z : Str, vs = [.str z] ∧ z.length ≤ 2000000 ∧ Q (.bl (nameB z)) H
theorem ok_law_is_name {P : Program} {w : World} {K : PySem.W.Frag} {mg : Str → Option Value} {base : Heap} {f : Addr} {fd : FuncData} (T : Tx K mg) (c_law_only : C8.Cal P w K mg base 1 "_law_only" spOnly [])
    (F : FunD K "_law_is_name" "_law_is_name" (defArgs s_law_is_name) (defBody s_law_is_name) (defScope s_law_is_name) [] [] f fd) : FnOk P w K mg base CX0 2 f fd ["word"] spLName := by
  refine F.ok sc_law_is_name (fun vs H Q E h => ?_) (fun cdv A outer s0 H vs Q E hr h => ?_)
  · obtain ⟨z, rfl, _⟩ := h
    rfl
  · obtain ⟨z, rfl, hz, k⟩ := h
    have hz2 : z.length ≤ sizeLine := Nat.le_trans hz (by decide)
    refine ⟨_, PSs.nox (pss_cons (ps_set (i := 1) sc_law_is_name.nd rfl (Or.inl rfl) pe_str) (pss_one (ps_ret (pe_and (pe_c c_law_only hr (by decide) rfl (pa_cons (pv 0) (pa_cons (pe_op op_add_str (pv 1) pe_str) pa_nil))) (pe_one (pe_cmpR op_in_sign (pe_ix ix_str (pv 0) pe_int (fun _ _ => rfl)) (pv 1) (by with_unfolding_all rfl))))))), ?_⟩
    refine ⟨_, rfl, _, rfl, _, _, rfl, rfl, by decide +kernel, z, _, rfl, hz, ?_⟩
    have e : consB z (zSM ++ "0123456789") 16 = consB z zNM 16 := by
      rw [show (zSM ++ "0123456789" : Str) = zNM by decide +kernel]
    rw [e]
    unfold nameB at k
    refine ⟨_, rfl, ite2 (fun h3 => ?_) (fun h3 => ?_)⟩
    · rw [h3, Bool.true_and] at k
      exact ⟨_, rfl, z, 0, _, rfl, rfl, hz2, at0 0 (consB_len h3).1, _, rfl, _, _, rfl, rfl, k⟩
    · rw [ef h3, Bool.false_and] at k
      exact k
def spLTag : Sp := fun vs H Q _ => ∃ z : Str, vs = [.str z] ∧ z.length ≤ 2000000 ∧ Q (.bl (tagB z)) H
theorem ok_law_is_tag {P : Program} {w : World} {K : PySem.W.Frag} {mg : Str → Option Value} {base : Heap} {f : Addr} {fd : FuncData} (T : Tx K mg) (c_law_only : C8.Cal P w K mg base 1 "_law_only" spOnly [])
    (F : FunD K "_law_is_tag" "_law_is_tag" (defArgs s_law_is_tag) (defBody s_law_is_tag) (defScope s_law_is_tag) [] [] f fd) : FnOk P w K mg base CX0 2 f fd ["word"] spLTag := by
  refine F.ok sc_law_is_tag (fun vs H Q E h => ?_) (fun cdv A outer s0 H vs Q E hr h => ?_)
  · obtain ⟨z, rfl, _⟩ := h
    rfl
  · obtain ⟨z, rfl, hz, k⟩ := h
    refine ⟨_, PSs.nox (pss_one (ps_ret (pe_c c_law_only hr (by decide) rfl (pa_cons (pv 0) (pa_cons pe_str pa_nil))))), ?_⟩
    refine ⟨_, rfl, z, _, rfl, hz, ?_⟩
    have h1 : ∀ c ∈ TL.tl ("abcdefghijklmnopqrstuvwxyzABCDEFGHIJKLMNOPQRSTUVWXYZ0123456789" : Str), c ∈ TL.tl zTM := by decide +kernel
    have h2 : ∀ c ∈ TL.tl zTM, c ∈ TL.tl ("abcdefghijklmnopqrstuvwxyzABCDEFGHIJKLMNOPQRSTUVWXYZ0123456789" : Str) := by decide +kernel
    rw [consB_sub (m' := zTM) fun c => ⟨h1 c, h2 c⟩]
    exact k
def spLNum : Sp := fun vs H Q _ => ∃ (z : Str) (m : Int), vs = [.str z, .int m] ∧ z.length ≤ 2000000 ∧ Q (.bl (!decide (numV z m = .non))) H
theorem ok_law_is_number {P : Program} {w : World} {K : PySem.W.Frag} {mg : Str → Option Value} {base : Heap} {f : Addr} {fd : FuncData} (T : Tx K mg) (c_law_only : C8.Cal P w K mg base 1 "_law_only" spOnly [])
    (F : FunD K "_law_is_number" "_law_is_number" (defArgs s_law_is_number) (defBody s_law_is_number) (defScope s_law_is_number) [] [] f fd) : FnOk P w K mg base CX0 2 f fd ["word", "most"] spLNum := by
  refine F.ok sc_law_is_number (fun vs H Q E h => ?_) (fun cdv A outer s H vs Q E hr h => ?_)
  · obtain ⟨z, m, rfl, _⟩ := h
    rfl
  · obtain ⟨z, m, rfl, hz, k⟩ := h
    have hz2 : z.length ≤ sizeLine := Nat.le_trans hz (by decide)
    refine ⟨_, PSs.nox (C8.pss_cut (ps_if (PW.pt (pw_or (pt_not (pt_val (pe_c c_law_only hr (by decide) rfl (pa_cons (pv 0) (pa_cons pe_str pa_nil))))) (pw_or (pt_cmpR op_gt (pe_callB call_len_str rfl T.f_len PySem.boot_len (pa_cons (pv 0) pa_nil)) pe_int (nomark _)) (pw_or1 (PW.pt (pw_and (pt_cmpR op_ne (pv 0) pe_str (nomark _)) (pw_and1 (pt_cmpR op_eq (pe_ix ix_str (pv 0) pe_int (fun _ _ => rfl)) pe_str (nomark _))))))))) (pss_one (ps_ret pe_bl)) pss_nil) (pss_one (ps_ret (pe_cmpR op_le (pe_callTy call_int_str rfl T.f_int (by decide +kernel) (pa_cons (pv 0) pa_nil)) (pv 1) (nomark _))))), ?_⟩
    have kF : numV z m = .non → Q (.bl false) H := fun e => by
      rw [e, decide_eq_true rfl] at k
      exact k
    have eS : consB z zDG 9 = true → consB z zDG 16 = true ∧ z.length ≤ 9 := fun h => by
      have hl := consB_len h
      unfold consB consL at h ⊢
      rw [Bool.and_eq_true, Bool.and_eq_true, decide_eq_true_eq, decide_eq_true_eq] at h ⊢
      rw [len_eq]
      exact ⟨⟨⟨h.1.1, by omega⟩, h.2⟩, by omega⟩
    refine ⟨fun σ' H' => consB z zDG 9 = true ∧ (decide (V.str (S [(TL.tl z).getD 0 0]) = V.str "0") && !decide (V.str z = V.str "0")) = false ∧ σ' = [some (.str z), some (.int m)] ∧ H' = H, ?_, ?_⟩
    · refine ⟨_, rfl, z, _, rfl, hz, ⟨_, rfl, ?_⟩⟩
      by_cases h1 : consB z zDG 16 = true
      · rw [h1]
        have hl := consB_len h1
        refine iteF ⟨_, rfl, _, rfl, hz2, _, _, rfl, rfl, _, rfl, ?_⟩
        by_cases h2 : (9 : Int) < (z.length : Int)
        · rw [decide_eq_true h2]
          refine iteT (iteT (kF ?_))
          unfold numV
          rw [if_neg fun h => ?_]
          have := (eS h).2
          omega
        · rw [decide_eq_false h2]
          have h9 : consB z zDG 9 = true := by
            unfold consB consL at h1 ⊢
            rw [Bool.and_eq_true, Bool.and_eq_true, decide_eq_true_eq, decide_eq_true_eq] at h1 ⊢
            rw [len_eq] at h2
            exact ⟨⟨h1.1.1, by omega⟩, h1.2⟩
          refine iteF ⟨_, rfl, rfl, _, rfl, ?_⟩
          refine ite2 (fun h3 => ?_) (fun h3 => ?_)
          · refine ⟨_, rfl, z, 0, _, rfl, rfl, hz2, at0 0 hl.1, rfl, _, rfl, ?_⟩
            refine ite2 (fun h4 => ?_) (fun h4 => ?_)
            · refine kF ?_
              unfold numV
              rw [if_pos h9, if_pos (by rw [h4, h3]; rfl)]
            · exact ⟨h9, by rw [ef h4, Bool.false_and], rfl, rfl⟩
          · exact iteF ⟨h9, by rw [ef h3, Bool.and_false], rfl, rfl⟩
      · rw [ef h1]
        refine iteT (iteT (kF ?_))
        unfold numV
        rw [if_neg fun h => h1 (eS h).1]
    · rintro σ' H' ⟨h9, h0, rfl, rfl⟩
      have hl := consB_len h9
      refine ⟨_, rfl, z, _, rfl, PySem.intText_digits (x := z) (digits_of hl.2.2) (List.length_pos_iff.mp hl.1) (by rw [len_eq]; omega), by rw [len_eq]; omega, ?_⟩
      refine ⟨_, rfl, _, _, rfl, rfl, ?_⟩
      unfold numV at k
      rw [if_pos h9, if_neg (by rw [h0]; exact Bool.false_ne_true)] at k
      show Q (.bl (decide (((NumText.digitsVal (TL.tl z) : Nat) : Int) ≤ m))) H'
      by_cases h5 : ((NumText.digitsVal (TL.tl z) : Nat) : Int) ≤ m
      · rw [if_pos h5, decide_eq_false (fun e => by cases e)] at k
        rw [decide_eq_true h5]
        exact k
      · rw [if_neg h5, decide_eq_true rfl] at k
        rw [decide_eq_false h5]
        exact k

end K4
set_option maxHeartbeats 4000000
set_option pp.maxSteps 400
namespace K4
open PySem PySem.Spec PyProof.Rows L2 SX TK TKS
open C8 (pe_c)
theorem name_noat {z : Str} (h : nameB z = true) : 64 ∉ TL.tl z := fun hm => by
  unfold nameB at h
  have h1 := (consB_len (Bool.and_eq_true_iff.mp h).1).2.2 64 hm
  have h2 : 64 ∉ TL.tl zNM := by decide +kernel
  exact h2 h1
theorem splitB_none {z : Str} (h : 64 ∉ TL.tl z) : splitB z = none := by
  unfold splitB splitO
  split
  · rename_i u w e
    obtain ⟨e1, _, _⟩ := split_parts e
    exact absurd (by rw [e1]; simp) h
  · rfl
theorem splitB_cut {z : Str} {a b : List Nat} (e : TL.tl z = a ++ 64 :: b) (ha : 64 ∉ a) : splitB z = if (nameB (S a) && nameB (S b)) = true then some (S a, S b) else none := by
  by_cases hb : 64 ∈ b
  · have h1 : (nameB (S a) && nameB (S b)) = false := by
      cases q : nameB (S b) with
      | false => rw [Bool.and_false]
      | true => exact absurd hb (name_noat q)
    rw [h1, if_neg Bool.false_ne_true]
    unfold splitB splitO
    split
    · rename_i u w eq
      obtain ⟨e1, n1, n2⟩ := split_parts eq
      rw [e] at e1
      obtain ⟨_, e2⟩ := cut_unique e1 ha n1
      rw [e2] at hb
      exact absurd hb n2
    · rfl
  · unfold splitB
    rw [split_two e ha hb]
    rfl

def spLAddr : Sp := fun vs H Q _ => ∃ z : Str, vs = [.str z] ∧ z.length ≤ 2000000 ∧ Q (.bl (splitB z).isSome) H
theorem ok_law_is_address {P : Program} {w : World} {K : PySem.W.Frag} {mg : Str → Option Value} {base : Heap} {f : Addr} {fd : FuncData} (T : Tx K mg) (c_law_is_name : C8.Cal P w K mg base 2 "_law_is_name" spLName [])
    (F : FunD K "_law_is_address" "_law_is_address" (defArgs s_law_is_address) (defBody s_law_is_address) (defScope s_law_is_address) [] [] f fd) : FnOk P w K mg base CX0 3 f fd ["word"] spLAddr := by
  refine F.ok sc_law_is_address (fun vs H Q E h => ?_) (fun cdv A outer s0 H vs Q E hr h => ?_)
  · obtain ⟨z, rfl, _⟩ := h
    rfl
  · obtain ⟨z, rfl, hz, k⟩ := h
    have hz2 : z.length ≤ sizeLine := Nat.le_trans hz (by decide)
    refine ⟨_, PSs.nox (C8.pss_cut (ps_if (pt_cmpR op_notIn_sign pe_str (pv 0) (by with_unfolding_all rfl)) (pss_one (ps_ret pe_bl)) pss_nil) (pss_cons (ps_set (i := 1) sc_law_is_address.nd rfl (Or.inl rfl) (pe_m1 PySem.F.slot_str_index PySem.F.type_str_index mt_sindex (pv 0) pe_str)) (pss_one (ps_ret (pe_and (pe_c c_law_is_name hr (by decide) rfl (pa_cons (pe_slice C8.sl_txt (pv 0) po_none (po_some (pv 1))) pa_nil)) (pe_one (pe_c c_law_is_name hr (by decide) rfl (pa_cons (pe_slice C8.sl_txt (pv 0) (po_some (pe_op op_add (pv 1) pe_int)) po_none) pa_nil)))))))), ?_⟩
    refine ⟨fun σ' H' => σ' = [some (.str z), none] ∧ H' = H ∧ 64 ∈ TL.tl z, ?_, ?_⟩
    · refine ⟨_, rfl, 64, z, congrArg V.str at_len, rfl, _, rfl, ?_⟩
      by_cases h1 : 64 ∈ TL.tl z
      · rw [decide_eq_true h1]
        exact iteF ⟨rfl, rfl, h1⟩
      · rw [decide_eq_false h1]
        refine iteT ?_
        rw [splitB_none h1] at k
        exact k
    · rintro σ' H' ⟨rfl, rfl, h1⟩
      obtain ⟨rest, er⟩ := occ_first1 h1
      obtain ⟨ec, hc⟩ := cut_first h1
      have eB := splitB_cut ec hc
      generalize ei : (TL.tl z).idxOf 64 = i at *
      have e1 : Txt.slice z none (some (i : Int)) = S ((TL.tl z).take i) := slTo z (by omega)
      have e2 : Txt.slice z (some ((i : Int) + 1)) none = S ((TL.tl z).drop (i + 1)) := slFrom z (by omega)
      have l1 : (S ((TL.tl z).take i)).length ≤ 2000000 := by
        rw [S_len, List.length_take, ← len_eq]
        omega
      have l2 : (S ((TL.tl z).drop (i + 1))).length ≤ 2000000 := by
        rw [S_len, List.length_drop, ← len_eq]
        omega
      have eS : (splitB z).isSome = (nameB (S ((TL.tl z).take i)) && nameB (S ((TL.tl z).drop (i + 1)))) := by
        rw [eB]
        cases nameB (S ((TL.tl z).take i)) <;> cases nameB (S ((TL.tl z).drop (i + 1))) <;> rfl
      rw [eS] at k
      refine ⟨_, rfl, ⟨_, rfl⟩, z, "@", i, rest, rfl, rfl, by rw [at_len]; exact er, ?_⟩
      refine ⟨_, rfl, _, rfl, i, rfl, z, rfl, hz2, ?_⟩
      rw [e1]
      refine ⟨_, rfl, l1, _, rfl, ?_⟩
      refine ite2 (fun h3 => ?_) (fun h3 => ?_)
      · refine ⟨_, rfl, _, rfl, _, _, rfl, rfl, _, rfl, z, rfl, hz2, ?_⟩
        rw [e2]
        rw [h3, Bool.true_and] at k
        exact ⟨_, rfl, l2, k⟩
      · rw [ef h3, Bool.false_and] at k
        exact k

end K4
set_option maxHeartbeats 1000000
/-! xs.count(k) of a list of texts. -/
namespace TK
open PySem PySem.Spec PyProof.Rows L2 SX
def rCntS (K : PySem.W.Frag) : V → List V → Hp → VK → Prop := fun x xs H Q => ∃ (p : Addr) (ns : List Str) (k : Str), x = .ref p ∧ xs = [.str k] ∧ SqL K H p (ns.map V.str) ∧ Q (.int (ns.count k : Nat)) H
theorem flat_strs : ∀ ns : List Str, (ns.map V.str).all flatV = true
  | [] => rfl
  | _ :: r => by
    rw [List.map_cons, List.all_cons, flat_strs r]
    rfl
theorem count_eqU {k : Str} : ∀ {ns : List Str} {us : List Value}, Vals (ns.map V.str) us → us.countP (eqU (.str k)) = ns.count k
  | [], _, .nil => rfl
  | z :: ns, u :: us, .cons r t => by
    have e : eqU (.str k) u = (z == k) := by
      rw [eqU_of r rfl]
      rfl
    rw [List.countP_cons, count_eqU t, List.count_cons, e]
theorem mt_lcountS {X : Cx} : MtR X "list.count" (rCntS X.K) := by
  intro pins s σ H x xs v us Q I rx rxs h
  obtain ⟨p, ns, k, rfl, rfl, hs, q⟩ := h
  cases rx
  obtain ⟨u, rfl, ru⟩ := rxs.one
  obtain ⟨its, rv, ⟨⟨cls, dd, data, sl⟩, n, ho, hc, hdn, hd⟩, hlen⟩ := I.list hs
  simp only at hc hd
  subst hc hd
  refine call_meets PySem.F.slot_list_count ⟨_, ho, rfl⟩ PySem.F.entry_list_count (PySem.F.args_list_count_2 _ _)
    (SeqAt.list_countAt p its.toArray n dd sl u (eqU (.str k))) ⟨ho, fun y hy => mem_eqAt ru rfl rv (flat_strs ns) y (by simpa using hy), ?_⟩
  have ec : its.toArray.toList.countP (eqU (.str k)) = ns.count k := count_eqU rv
  refine ⟨.int (ns.count k : Nat), H, I.tok _, ⟨s.toks, ?_⟩, q⟩
  show Value.int ((its.toArray.toList.countP (eqU (.str k)) : Nat) : Int) s.toks = Value.int ((ns.count k : Nat) : Int) s.toks
  rw [ec]
theorem lcountK {X : Cx} (K : PySem.W.Frag) (e : X.K = K) : MtR X "list.count" (rCntS K) := by
  subst e
  exact mt_lcountS
theorem nodup_count : ∀ {l : List Str}, l.Nodup ↔ ∀ z ∈ l, l.count z ≤ 1
  | [] => by simp
  | a :: r => by
    rw [List.nodup_cons, nodup_count (l := r)]
    constructor
    · rintro ⟨h1, h2⟩ z hz
      rw [List.count_cons]
      by_cases e : a = z
      · subst e
        rw [List.count_eq_zero.mpr h1]
        simp
      · rw [if_neg (by simpa using e)]
        rcases List.mem_cons.mp hz with q | q
        · exact absurd q.symm e
        · exact h2 z q
    · intro h
      refine ⟨fun ha => ?_, fun z hz => ?_⟩
      · have q := h a (List.mem_cons_self ..)
        rw [List.count_cons, if_pos (by simp)] at q
        have := List.count_pos_iff.mpr ha
        omega
      · have q := h z (List.mem_cons_of_mem _ hz)
        rw [List.count_cons] at q
        omega
end TK
set_option maxHeartbeats 4000000
set_option pp.maxSteps 400
namespace K4
open PySem PySem.Spec PyProof.Rows L2 SX TK TKS
open C8 (pe_c)
def spLOff (K : PySem.W.Frag) : Sp := fun vs H Q _ => ∃ (w : Addr) (ws : List Str), vs = [.ref w] ∧ H w = some (.lst (ws.map V.str)) ∧ (∀ z ∈ ws, z.length ≤ 1000) ∧ ws.length ≤ 1000 ∧ ∀ H', Same H H' → Q (.bl (readO ws).isSome) H'
theorem readO_no {a b c : Str} (h : numV a 65535 = .non ∨ b ∉ modesL ∨ fmtO c = none) : readO [a, b, c] = none := by
  rw [readO_eq]
  rcases numV_cases a 65535 with e | ⟨p, e⟩
  · rw [e]
    rfl
  · rw [e]
    cases q : fmtO c with
    | none => rfl
    | some fs =>
      rw [readP_ok, if_neg]
      rcases h with h | h | h
      · rw [e] at h; cases h
      · exact h
      · rw [q] at h; cases h
theorem ok_law_is_offer {P : Program} {w : World} {K : PySem.W.Frag} {mg : Str → Option Value} {base : Heap} {f : Addr} {fd : FuncData} (T : Tx K mg) (c_law_is_number : C8.Cal P w K mg base 2 "_law_is_number" spLNum []) (c_law_is_name : C8.Cal P w K mg base 2 "_law_is_name" spLName [])
    (F : FunD K "_law_is_offer" "_law_is_offer" (defArgs s_law_is_offer) (defBody s_law_is_offer) (defScope s_law_is_offer) [] [] f fd) : FnOk P w K mg base CX0 3 f fd ["words"] (spLOff K) := by
  refine F.ok sc_law_is_offer (fun vs H Q E h => ?_) (fun cdv A outer s0 H vs Q E hr h => ?_)
  · obtain ⟨w, ws, rfl, _⟩ := h
    rfl
  · obtain ⟨w, ws, rfl, hw, hz, hl, k⟩ := h
    refine ⟨_, PSs.nox (C8.pss_cut (ps_if (PW.pt (pw_or (pt_cmpR op_ne (pe_callB call_len_seq rfl T.f_len PySem.boot_len (pa_cons (pv 0) pa_nil)) pe_int (nomark _)) (pw_or (pt_not (pt_val (pe_c c_law_is_number hr (by decide) rfl (pa_cons (pe_ix ix_list (pv 0) pe_int (fun _ _ => rfl)) (pa_cons pe_int pa_nil))))) (pw_or1 (pt_cmpR op_notIn_seq (pe_ix ix_list (pv 0) pe_int (fun _ _ => rfl)) (pe_lst (pa_cons pe_str (pa_cons pe_str (pa_cons pe_str (pa_cons pe_str pa_nil))))) (by with_unfolding_all rfl)))))) (pss_one (ps_ret pe_bl)) pss_nil) (pss_cons (ps_set (i := 1) sc_law_is_offer.nd rfl (Or.inl rfl) (pe_split (pe_ix ix_list (pv 0) pe_int (fun _ _ => rfl)) pe_str)) (pss_cons (ps_for PassesOwn.never rfl (pi_list (pv 1)) (pg_name (i := 2) sc_law_is_offer.nd rfl (Or.inl rfl)) (pss_one (ps_if (PW.pt (pw_or (pt_not (pt_val (pe_c c_law_is_name hr (by decide) rfl (pa_cons (pv 2) pa_nil)))) (pw_or1 (pt_cmpR op_gt (pe_bm PySem.F.plainAttrs_list PySem.F.slot_list_count PySem.F.type_list_count (TK.lcountK K rfl) (pv 1) (pa_cons (pv 2) pa_nil)) pe_int (nomark _))))) (pss_one (ps_ret pe_bl)) pss_nil))) (pss_one (ps_ret (pe_cmpR op_le (pe_callB call_len_seq rfl T.f_len PySem.boot_len (pa_cons (pv 1) pa_nil)) pe_int (nomark _))))))), ?_⟩
    have kF : readO ws = none → ∀ H', Same H H' → Q (.bl false) H' := fun e H' s => by
      have q := k H' s
      rw [e] at q
      exact q
    refine ⟨fun σ' H' => σ' = [some (.ref w), none, none] ∧ Same H H' ∧ ∃ a b c p, ws = [a, b, c] ∧ numV a 65535 = .int p ∧ b ∈ modesL, ?_, ?_⟩
    · refine ⟨_, rfl, w, _, rfl, .inl (SqL.of hw), rfl, _, rfl, ?_⟩
      rw [List.length_map, dec_int]
      by_cases h3 : ws.length = 3
      · rw [show ((ws.length : Int) == 3) = true by rw [h3]; rfl]
        obtain ⟨a, b, c, rfl⟩ : ∃ a b c, ws = [a, b, c] := by
          match ws, h3 with
          | [a, b, c], _ => exact ⟨a, b, c, rfl⟩
        refine iteF ⟨_, rfl, w, _, 0, .str a, rfl, rfl, SqL.of hw, rfl, a, 65535, rfl, Nat.le_trans (hz a (by simp)) (by decide), ⟨_, rfl, ?_⟩⟩
        rcases numV_cases a 65535 with e | ⟨p, e⟩
        · rw [e, decide_eq_true rfl]
          exact iteT (iteT (kF (readO_no (.inl e)) _ (Same.refl H)))
        · rw [e, decide_eq_false (fun z => by cases z)]
          refine iteF ⟨_, rfl, w, _, 1, .str b, rfl, rfl, SqL.of hw, rfl, by show 4 ≤ sizeLine; decide, fun q hq => ?_⟩
          refine ⟨_, modesL.map V.str, rfl, .inl (SqL.of upd_same), rfl, flat_strs _, _, rfl, ?_⟩
          rw [inV_strs]
          by_cases hb : b ∈ modesL
          · rw [decide_eq_true hb]
            exact iteF ⟨rfl, same_upd hq, a, b, c, p, rfl, e, hb⟩
          · rw [decide_eq_false hb]
            exact iteT (kF (readO_no (.inr (.inl hb))) _ (same_upd hq))
      · rw [show ((ws.length : Int) == 3) = false by simp only [beq_eq_false_iff_ne]; omega]
        exact iteT (iteT (kF (readO_len h3) _ (Same.refl H)))
    · rintro σ' H1 ⟨rfl, s1, a, b, c, p, rfl, e, hb⟩
      have hw1 := s1 _ _ hw
      have hc := hz c (by simp)
      have eF : fmtO c = if (Txt.split c ",").length ≤ 6 ∧ (Txt.split c ",").Nodup then (if (Txt.split c ",").all nameB = true then some (Txt.split c ",") else none) else none := rfl
      have hy1 : (Txt.split c ",").length ≤ 1002 := Nat.le_trans (PyProof.Rows.split_le c ",") (by omega)
      have hp0 : ∀ y ∈ Txt.split c ",", y.length ≤ 1000 := fun y hy => Nat.le_trans (part_len hy) hc
      refine ⟨_, rfl, w, _, 2, .str c, rfl, rfl, SqL.of hw1, rfl, ⟨_, rfl⟩, c, ",", rfl, rfl, by decide +kernel, Nat.le_trans (Nat.add_le_add_right hc 2) (by decide), fun q hq => ?_⟩
      have s2 := s1.trans (same_upd (o := .lst ((Txt.split c ",").map V.str)) hq)
      have eq1 : (upd H1 q (.lst ((Txt.split c ",").map V.str))) q = some (.lst ((Txt.split c ",").map V.str)) := upd_same
      generalize Txt.split c "," = ys at *
      generalize upd H1 q (.lst (ys.map V.str)) = H2 at *
      refine ⟨_, rfl, q, rfl, ⟨_, SqL.of eq1⟩, for_list (K := K) (a := q) (xs := ys.map V.str) (fun i σ H' => H' = H2 ∧ (∀ z ∈ ys.take i, nameB z = true ∧ ys.count z ≤ 1) ∧ ∃ v, σ = [some (.ref w), some (.ref q), v]) ⟨rfl, (fun _ h => nomatch h), none, rfl⟩ (fun i σ H' _ q => q.1 ▸ SqL.of eq1) ?_ ?_⟩
      · rintro i y σ H' hi ⟨e9, hg, v, rfl⟩
        subst e9
        rw [List.getElem?_map] at hi
        obtain ⟨z, hzi, rfl⟩ := Option.map_eq_some_iff.mp hi
        have hm := List.mem_of_getElem? hzi
        refine ⟨_, rfl, z, rfl, Nat.le_trans (hp0 z hm) (by decide), ⟨_, rfl, ?_⟩⟩
        by_cases cn : nameB z = true
        · rw [cn]
          refine iteF ⟨_, rfl, .inl ⟨rfl, _, SqL.of eq1⟩, _, rfl, q, ys, z, rfl, rfl, SqL.of eq1, _, _, rfl, rfl, _, rfl, ?_⟩
          by_cases cc : ys.count z ≤ 1
          · rw [decide_eq_false (by omega)]
            refine iteF ⟨rfl, fun x hx => ?_, _, rfl⟩
            rw [List.take_add_one, hzi] at hx
            rcases List.mem_append.mp hx with m | m
            · exact hg x m
            · rw [List.mem_singleton.mp m]
              exact ⟨cn, cc⟩
          · rw [decide_eq_true (by omega)]
            refine iteT (kF (readO_no (.inr (.inr ?_))) _ s2)
            rw [eF, if_neg fun h => cc (nodup_count.mp h.2 z hm)]
        · rw [ef cn]
          refine iteT (iteT (kF (readO_no (.inr (.inr ?_))) _ s2))
          rw [eF]
          split
          · rw [if_neg fun h => cn (List.all_eq_true.mp h z hm)]
          · rfl
      · rintro σ H' ⟨e9, hg, v, rfl⟩
        subst e9
        rw [List.length_map, List.take_length] at hg
        refine ⟨_, rfl, q, _, rfl, .inl (SqL.of eq1), _, _, rfl, rfl, ?_⟩
        have g := k H' s2
        have eS : (readO [a, b, c]).isSome = decide ((ys.length : Int) ≤ 6) := by
          by_cases h6 : ys.length ≤ 6
          · rw [readO_eq, e, eF, if_pos ⟨h6, nodup_count.mpr fun z hz => (hg z hz).2⟩, if_pos (List.all_eq_true.mpr fun z hz => (hg z hz).1), readP_ok, if_pos hb, decide_eq_true (by omega)]
            rfl
          · rw [readO_no (.inr (.inr (by rw [eF, if_neg fun h => h6 h.1]))), decide_eq_false (by omega)]
            rfl
        rw [eS] at g
        rw [List.length_map]
        exact g

end K4
set_option maxHeartbeats 4000000
set_option pp.maxSteps 400
namespace K4
open PySem PySem.Spec PyProof.Rows L2 SX TK TKS
open C8 (pe_c)
def codesS : List Str := ["18", "20", "41", "43", "44", "45", "46", "48", "50"]
def is1 (p : Str → Bool) : List Str → Bool
  | [v] => p v
  | _ => false
def is2 (p : Str → Str → Bool) : List Str → Bool
  | [v, w] => p v w
  | _ => false
theorem is1_no {p : Str → Bool} {ws : List Str} (h : ws.length ≠ 1) : is1 p ws = false := by
  unfold is1
  split
  · exact absurd rfl h
  · rfl
theorem is2_no {p : Str → Str → Bool} {ws : List Str} (h : ws.length ≠ 2) : is2 p ws = false := by
  unfold is2
  split
  · exact absurd rfl h
  · rfl
/-- the words behind a line's name are right -/
def stB (nm : Str) (ws : List Str) : Bool :=
  if nm = "request" then is1 (fun v => decide (v ∈ verbsL)) ws
  else if nm = "reply" then is2 (fun c v => decide (c ∈ codesS) && decide (v ∈ verbsL)) ws
  else if nm = "offer" then (readO ws).isSome
  else if nm = "to" ∧ ws.length = 1 then is1 (fun v => (splitB v).isSome) ws
  else if nm = "from" ∨ nm = "to" then is2 (fun o t => (splitB o).isSome && tagB t) ws
  else if nm = "seq" then is1 (fun v => !decide (numV v 999999 = .non)) ws
  else if nm = "stay" then is1 (fun v => !decide (numV v 9999 = .non)) ws
  else if nm = "goal" then is1 (fun v => (splitB v).isSome) ws
  else is1 tagB ws
theorem vs_ (a b : Str) : decide (V.str a = V.str b) = decide (a = b) := by
  by_cases h : a = b
  · rw [h, decide_eq_true rfl, decide_eq_true rfl]
  · rw [decide_eq_false h, decide_eq_false fun e => h (V.str.inj e)]
def spStands (K : PySem.W.Frag) : Sp := fun vs H Q _ => ∃ (nm : Str) (w : Addr) (ws : List Str), vs = [.str nm, .ref w] ∧ H w = some (.lst (ws.map V.str)) ∧ (∀ z ∈ ws, z.length ≤ 1000) ∧ ws.length ≤ 1000 ∧ ∀ H', Same H H' → Q (.bl (stB nm ws)) H'
theorem ok_law_stands {P : Program} {w : World} {K : PySem.W.Frag} {mg : Str → Option Value} {base : Heap} {f : Addr} {fd : FuncData} (T : Tx K mg) (c_law_is_offer : C8.Cal P w K mg base 3 "_law_is_offer" (spLOff K) []) (c_law_is_address : C8.Cal P w K mg base 3 "_law_is_address" spLAddr []) (c_law_is_tag : C8.Cal P w K mg base 2 "_law_is_tag" spLTag []) (c_law_is_number : C8.Cal P w K mg base 2 "_law_is_number" spLNum [])
    (F : FunD K "_law_stands" "_law_stands" (defArgs s_law_stands) (defBody s_law_stands) (defScope s_law_stands) [] [] f fd) : FnOk P w K mg base CX0 4 f fd ["name", "words"] (spStands K) := by
  refine F.ok sc_law_stands (fun vs H Q E h => ?_) (fun cdv A outer s0 H vs Q E hr h => ?_)
  · obtain ⟨nm, w, ws, rfl, _⟩ := h
    rfl
  · obtain ⟨nm, w, ws, rfl, hw, hz, hl, k⟩ := h
    have hz2 : ∀ z ∈ ws, z.length ≤ 2000000 := fun z m => Nat.le_trans (hz z m) (by decide)
    refine ⟨_, PSs.nox (pss_cons (ps_set (i := 2) sc_law_stands.nd rfl (Or.inl rfl) (pe_lst (pa_cons pe_str (pa_cons pe_str (pa_cons pe_str (pa_cons pe_str (pa_cons pe_str (pa_cons pe_str (pa_cons pe_str (pa_cons pe_str pa_nil)))))))))) (C8.pss_cut (ps_if (pt_cmpR op_eq (pv 0) pe_str (nomark _)) (pss_one (ps_ret (pe_and (pe_cmpR op_eq (pe_callB call_len_seq rfl T.f_len PySem.boot_len (pa_cons (pv 1) pa_nil)) pe_int (nomark _)) (pe_one (pe_cmpR op_in_seq (pe_ix ix_list (pv 1) pe_int (fun _ _ => rfl)) (pv 2) (by with_unfolding_all rfl)))))) pss_nil) (C8.pss_cut (ps_if (pt_cmpR op_eq (pv 0) pe_str (nomark _)) (pss_cons (ps_set (i := 3) sc_law_stands.nd rfl (Or.inl rfl) (pe_lst (pa_cons pe_str (pa_cons pe_str (pa_cons pe_str (pa_cons pe_str (pa_cons pe_str (pa_cons pe_str (pa_cons pe_str (pa_cons pe_str (pa_cons pe_str pa_nil))))))))))) (pss_one (ps_ret (pe_and (pe_cmpR op_eq (pe_callB call_len_seq rfl T.f_len PySem.boot_len (pa_cons (pv 1) pa_nil)) pe_int (nomark _)) (pe_and (pe_cmpR op_in_seq (pe_ix ix_list (pv 1) pe_int (fun _ _ => rfl)) (pv 3) (by with_unfolding_all rfl)) (pe_one (pe_cmpR op_in_seq (pe_ix ix_list (pv 1) pe_int (fun _ _ => rfl)) (pv 2) (by with_unfolding_all rfl)))))))) pss_nil) (C8.pss_cut (ps_if (pt_cmpR op_eq (pv 0) pe_str (nomark _)) (pss_one (ps_ret (pe_c c_law_is_offer hr (by decide) rfl (pa_cons (pv 1) pa_nil)))) pss_nil) (C8.pss_cut (ps_if (PW.pt (pw_and (pt_cmpR op_eq (pv 0) pe_str (nomark _)) (pw_and1 (pt_cmpR op_eq (pe_callB call_len_seq rfl T.f_len PySem.boot_len (pa_cons (pv 1) pa_nil)) pe_int (nomark _))))) (pss_one (ps_ret (pe_c c_law_is_address hr (by decide) rfl (pa_cons (pe_ix ix_list (pv 1) pe_int (fun _ _ => rfl)) pa_nil)))) pss_nil) (C8.pss_cut (ps_if (pt_cmpR op_in_seq (pv 0) (pe_lst (pa_cons pe_str (pa_cons pe_str pa_nil))) (by with_unfolding_all rfl)) (pss_one (ps_ret (pe_and (pe_cmpR op_eq (pe_callB call_len_seq rfl T.f_len PySem.boot_len (pa_cons (pv 1) pa_nil)) pe_int (nomark _)) (pe_and (pe_c c_law_is_address hr (by decide) rfl (pa_cons (pe_ix ix_list (pv 1) pe_int (fun _ _ => rfl)) pa_nil)) (pe_one (pe_c c_law_is_tag hr (by decide) rfl (pa_cons (pe_ix ix_list (pv 1) pe_int (fun _ _ => rfl)) pa_nil))))))) pss_nil) (C8.pss_cut (ps_if (pt_cmpR op_ne (pe_callB call_len_seq rfl T.f_len PySem.boot_len (pa_cons (pv 1) pa_nil)) pe_int (nomark _)) (pss_one (ps_ret pe_bl)) pss_nil) (C8.pss_cut (ps_if (PW.pt (pw_or (pt_cmpR op_eq (pv 0) pe_str (nomark _)) (pw_or1 (pt_cmpR op_eq (pv 0) pe_str (nomark _))))) (pss_one (ps_ret (pe_c c_law_is_number hr (by decide) rfl (pa_cons (pe_ix ix_list (pv 1) pe_int (fun _ _ => rfl)) (pa_cons (pe_op op_sub pe_int (pe_op op_mul pe_int (pe_callTy call_int1 rfl T.f_int (by decide +kernel) (pa_cons (pe_cmpR op_eq (pv 0) pe_str (nomark _)) pa_nil)))) pa_nil))))) pss_nil) (C8.pss_cut (ps_if (pt_cmpR op_eq (pv 0) pe_str (nomark _)) (pss_one (ps_ret (pe_c c_law_is_address hr (by decide) rfl (pa_cons (pe_ix ix_list (pv 1) pe_int (fun _ _ => rfl)) pa_nil)))) pss_nil) (pss_one (ps_ret (pe_c c_law_is_tag hr (by decide) rfl (pa_cons (pe_ix ix_list (pv 1) pe_int (fun _ _ => rfl)) pa_nil))))))))))))), ?_⟩
    refine ⟨by show 8 ≤ sizeLine; decide, fun vb hvb => ?_⟩
    have s1 := same_upd (o := .lst (verbsL.map V.str)) hvb
    have evb : (upd H vb (.lst (verbsL.map V.str))) vb = some (.lst (verbsL.map V.str)) := upd_same
    have hw1 := s1 _ _ hw
    change C8.tCut _ _ _ [some (.str nm), some (.ref w), some (.ref vb), none] (upd H vb (.lst (verbsL.map V.str)))
    generalize upd H vb (.lst (verbsL.map V.str)) = H1 at *
    have ln : ∀ n : Int, decide (V.int ((ws.map V.str).length : Nat) = V.int n) = ((ws.length : Int) == n) := fun n => by rw [List.length_map, dec_int]
    have one : ws.length = 1 → ∃ v, ws = [v] := fun h => by
      match ws, h with
      | [v], _ => exact ⟨v, rfl⟩
    have two : ws.length = 2 → ∃ v u, ws = [v, u] := fun h => by
      match ws, h with
      | [v, u], _ => exact ⟨v, u, rfl⟩
    -- request
    refine ⟨fun σ' H' => σ' = [some (.str nm), some (.ref w), some (.ref vb), none] ∧ H' = H1 ∧ nm ≠ "request", ?_, ?_⟩
    · refine ⟨_, rfl, rfl, _, rfl, ?_⟩
      rw [vs_]
      by_cases h0 : nm = "request"
      · rw [decide_eq_true h0]
        have eS : stB nm ws = is1 (fun v => decide (v ∈ verbsL)) ws := by unfold stB; rw [if_pos h0]
        rw [eS] at k
        refine iteT ⟨_, rfl, w, _, rfl, .inl (SqL.of hw1), rfl, ?_⟩
        rw [ln]
        by_cases h1 : ws.length = 1
        · obtain ⟨v, rfl⟩ := one h1
          refine ⟨_, rfl, iteT ⟨_, rfl, w, _, 0, .str v, rfl, rfl, SqL.of hw1, rfl, _, rfl, vb, _, rfl, .inl (SqL.of evb), rfl, flat_strs _, ?_⟩⟩
          show Q (.bl (inV (.str v) (verbsL.map V.str))) H1
          rw [inV_strs]
          exact k H1 s1
        · rw [show ((ws.length : Int) == 1) = false by simp only [beq_eq_false_iff_ne]; omega]
          have g := k H1 s1
          rw [is1_no h1] at g
          exact ⟨_, rfl, iteF g⟩
      · rw [decide_eq_false h0]
        exact iteF ⟨rfl, rfl, h0⟩
    rintro σ' H2 ⟨rfl, e9, n0⟩
    obtain rfl : H1 = H2 := e9.symm
    -- reply
    refine ⟨fun σ' H' => σ' = [some (.str nm), some (.ref w), some (.ref vb), none] ∧ H' = H1 ∧ nm ≠ "reply", ?_, ?_⟩
    · refine ⟨_, rfl, rfl, _, rfl, ?_⟩
      rw [vs_]
      by_cases h0 : nm = "reply"
      · rw [decide_eq_true h0]
        have eS : stB nm ws = is2 (fun c v => decide (c ∈ codesS) && decide (v ∈ verbsL)) ws := by unfold stB; rw [if_neg n0, if_pos h0]
        rw [eS] at k
        refine iteT ⟨by show 9 ≤ sizeLine; decide, fun cb hcb => ?_⟩
        have s2 := s1.trans (same_upd (o := .lst (codesS.map V.str)) hcb)
        have ecb : (upd H1 cb (.lst (codesS.map V.str))) cb = some (.lst (codesS.map V.str)) := upd_same
        have hw2 := (same_upd (o := .lst (codesS.map V.str)) hcb) _ _ hw1
        have evb2 := (same_upd (o := .lst (codesS.map V.str)) hcb) _ _ evb
        refine ⟨_, rfl, w, _, rfl, .inl (SqL.of hw2), rfl, ?_⟩
        rw [ln]
        by_cases h1 : ws.length = 2
        · obtain ⟨c, v, rfl⟩ := two h1
          refine ⟨_, rfl, iteT ⟨_, rfl, w, _, 0, .str c, rfl, rfl, SqL.of hw2, rfl, _, rfl, cb, _, rfl, .inl (SqL.of ecb), rfl, flat_strs _, ?_⟩⟩
          show ∃ k, V.bl (inV (.str c) (codesS.map V.str)) = V.bl k ∧ _
          rw [inV_strs]
          have g := k _ s2
          replace g : Q (.bl (decide (c ∈ codesS) && decide (v ∈ verbsL))) _ := g
          refine ⟨_, rfl, ?_⟩
          refine ite2 (fun h3 => ?_) (fun h3 => ?_)
          · rw [h3, Bool.true_and] at g
            refine ⟨_, rfl, w, _, 1, .str v, rfl, rfl, SqL.of hw2, rfl, _, rfl, vb, _, rfl, .inl (SqL.of evb2), rfl, flat_strs _, ?_⟩
            show Q (.bl (inV (.str v) (verbsL.map V.str))) _
            rw [inV_strs]
            exact g
          · rw [ef h3, Bool.false_and] at g
            exact g
        · rw [show ((ws.length : Int) == 2) = false by simp only [beq_eq_false_iff_ne]; omega]
          have g := k _ s2
          rw [is2_no h1] at g
          exact ⟨_, rfl, iteF g⟩
      · rw [decide_eq_false h0]
        exact iteF ⟨rfl, rfl, h0⟩
    rintro σ' H2 ⟨rfl, e9, n1⟩
    obtain rfl : H1 = H2 := e9.symm
    -- offer
    refine ⟨fun σ' H' => σ' = [some (.str nm), some (.ref w), some (.ref vb), none] ∧ H' = H1 ∧ nm ≠ "offer", ?_, ?_⟩
    · refine ⟨_, rfl, rfl, _, rfl, ?_⟩
      rw [vs_]
      by_cases h0 : nm = "offer"
      · rw [decide_eq_true h0]
        have eS : stB nm ws = (readO ws).isSome := by unfold stB; rw [if_neg n0, if_neg n1, if_pos h0]
        rw [eS] at k
        exact iteT ⟨_, rfl, w, ws, rfl, hw1, hz, hl, fun H' s' => k H' (s1.trans s')⟩
      · rw [decide_eq_false h0]
        exact iteF ⟨rfl, rfl, h0⟩
    rintro σ' H2 ⟨rfl, e9, n2⟩
    obtain rfl : H1 = H2 := e9.symm
    -- to, one word
    refine ⟨fun σ' H' => σ' = [some (.str nm), some (.ref w), some (.ref vb), none] ∧ H' = H1 ∧ ¬(nm = "to" ∧ ws.length = 1), ?_, ?_⟩
    · refine ⟨_, rfl, rfl, _, rfl, ?_⟩
      rw [vs_]
      by_cases h0 : nm = "to"
      · rw [decide_eq_true h0]
        refine iteT ⟨_, rfl, w, _, rfl, .inl (SqL.of hw1), rfl, _, rfl, ?_⟩
        rw [ln]
        by_cases h1 : ws.length = 1
        · have eS : stB nm ws = is1 (fun v => (splitB v).isSome) ws := by unfold stB; rw [if_neg n0, if_neg n1, if_neg n2, if_pos ⟨h0, h1⟩]
          rw [eS] at k
          obtain ⟨v, rfl⟩ := one h1
          exact iteT ⟨_, rfl, w, _, 0, .str v, rfl, rfl, SqL.of hw1, rfl, v, rfl, hz2 v (by simp), k H1 s1⟩
        · rw [show ((ws.length : Int) == 1) = false by simp only [beq_eq_false_iff_ne]; omega]
          exact iteF ⟨rfl, rfl, fun q => h1 q.2⟩
      · rw [decide_eq_false h0]
        exact iteF (iteF ⟨rfl, rfl, fun q => h0 q.1⟩)
    rintro σ' H2 ⟨rfl, e9, n3⟩
    obtain rfl : H1 = H2 := e9.symm
    -- from, to
    refine ⟨fun σ' H' => σ' = [some (.str nm), some (.ref w), some (.ref vb), none] ∧ Same H H' ∧ ¬(nm = "from" ∨ nm = "to"), ?_, ?_⟩
    · refine ⟨_, rfl, by show 2 ≤ sizeLine; decide, fun q hq => ?_⟩
      have s2 := s1.trans (same_upd (o := .lst [.str "from", .str "to"]) hq)
      have hw2 := (same_upd (o := .lst [.str "from", .str "to"]) hq) _ _ hw1
      refine ⟨_, (["from", "to"] : List Str).map V.str, rfl, .inl (SqL.of upd_same), rfl, flat_strs _, _, rfl, ?_⟩
      show (if inV (.str nm) ((["from", "to"] : List Str).map V.str) = true then _ else _)
      rw [inV_strs]
      by_cases h0 : nm = "from" ∨ nm = "to"
      · rw [decide_eq_true (by simpa using h0)]
        have eS : stB nm ws = is2 (fun o t => (splitB o).isSome && tagB t) ws := by unfold stB; rw [if_neg n0, if_neg n1, if_neg n2, if_neg n3, if_pos h0]
        rw [eS] at k
        refine iteT ⟨_, rfl, w, _, rfl, .inl (SqL.of hw2), rfl, ?_⟩
        rw [ln]
        by_cases h1 : ws.length = 2
        · obtain ⟨o, t, rfl⟩ := two h1
          refine ⟨_, rfl, iteT ⟨_, rfl, w, _, 0, .str o, rfl, rfl, SqL.of hw2, rfl, o, rfl, hz2 o (by simp), ⟨_, rfl, ?_⟩⟩⟩
          have g := k _ s2
          replace g : Q (.bl ((splitB o).isSome && tagB t)) _ := g
          refine ite2 (fun h3 => ?_) (fun h3 => ?_)
          · rw [h3, Bool.true_and] at g
            exact ⟨_, rfl, w, _, 1, .str t, rfl, rfl, SqL.of hw2, rfl, t, rfl, hz2 t (by simp), g⟩
          · rw [ef h3, Bool.false_and] at g
            exact g
        · rw [show ((ws.length : Int) == 2) = false by simp only [beq_eq_false_iff_ne]; omega]
          have g := k _ s2
          rw [is2_no h1] at g
          exact ⟨_, rfl, iteF g⟩
      · rw [decide_eq_false (by simpa using h0)]
        exact iteF ⟨rfl, s2, h0⟩
    rintro σ' H2 ⟨rfl, s2, n4⟩
    have hw2 := s2 _ _ hw
    have e4 : stB nm ws = if nm = "seq" then is1 (fun v => !decide (numV v 999999 = .non)) ws
      else if nm = "stay" then is1 (fun v => !decide (numV v 9999 = .non)) ws
      else if nm = "goal" then is1 (fun v => (splitB v).isSome) ws
      else is1 tagB ws := by unfold stB; rw [if_neg n0, if_neg n1, if_neg n2, if_neg n3, if_neg n4]
    rw [e4] at k
    -- one word
    refine ⟨fun σ' H' => σ' = [some (.str nm), some (.ref w), some (.ref vb), none] ∧ H' = H2 ∧ ws.length = 1, ?_, ?_⟩
    · refine ⟨_, rfl, w, _, rfl, .inl (SqL.of hw2), rfl, _, rfl, ?_⟩
      rw [ln]
      by_cases h1 : ws.length = 1
      · rw [show ((ws.length : Int) == 1) = true by rw [h1]; rfl]
        exact iteF ⟨rfl, rfl, h1⟩
      · rw [show ((ws.length : Int) == 1) = false by simp only [beq_eq_false_iff_ne]; omega]
        have g := k _ s2
        have e5 : (if nm = "seq" then is1 (fun v => !decide (numV v 999999 = .non)) ws
          else if nm = "stay" then is1 (fun v => !decide (numV v 9999 = .non)) ws
          else if nm = "goal" then is1 (fun v => (splitB v).isSome) ws
          else is1 tagB ws) = false := by
          split
          · exact is1_no h1
          · split
            · exact is1_no h1
            · split
              · exact is1_no h1
              · exact is1_no h1
        rw [e5] at g
        exact iteT g
    rintro σ' H3 ⟨rfl, e9, h1⟩
    obtain rfl : H2 = H3 := e9.symm
    obtain ⟨v, rfl⟩ := one h1
    have hv := hz2 v (by simp)
    -- numbers
    refine ⟨fun σ' H' => σ' = [some (.str nm), some (.ref w), some (.ref vb), none] ∧ H' = H2 ∧ nm ≠ "seq" ∧ nm ≠ "stay", ?_, ?_⟩
    · refine ⟨_, rfl, rfl, _, rfl, ?_⟩
      rw [vs_]
      by_cases h0 : nm = "seq"
      · rw [decide_eq_true h0]
        rw [if_pos h0] at k
        refine iteT (iteT ⟨_, rfl, w, _, 0, .str v, rfl, rfl, SqL.of hw2, rfl, _, rfl, rfl, .inr ⟨_, rfl, _, _, rfl, rfl, .inl (by decide), _, _, rfl, rfl, v, _, rfl, hv, ?_⟩⟩)
        have e7 : (999999 - 990000 * (if decide (V.str nm = V.str "stay") = true then 1 else 0) : Int) = 999999 := by
          rw [vs_, decide_eq_false (show ¬ nm = "stay" by rw [h0]; decide +kernel)]
          rfl
        have g := k H2 s2
        rw [← e7] at g
        exact g
      · rw [decide_eq_false h0]
        refine iteF ⟨_, rfl, rfl, _, rfl, ?_⟩
        rw [vs_]
        by_cases h2 : nm = "stay"
        · rw [decide_eq_true h2]
          rw [if_neg h0, if_pos h2] at k
          refine iteT ⟨_, rfl, w, _, 0, .str v, rfl, rfl, SqL.of hw2, rfl, _, rfl, rfl, .inr ⟨_, rfl, _, _, rfl, rfl, .inl (by decide), _, _, rfl, rfl, v, _, rfl, hv, ?_⟩⟩
          have e7 : (999999 - 990000 * (if decide (V.str nm = V.str "stay") = true then 1 else 0) : Int) = 9999 := by
            rw [vs_, decide_eq_true h2]
            rfl
          have g := k H2 s2
          rw [← e7] at g
          exact g
        · rw [decide_eq_false h2]
          exact iteF ⟨rfl, rfl, h0, h2⟩
    rintro σ' H3 ⟨rfl, e9, n5, n6⟩
    obtain rfl : H2 = H3 := e9.symm
    rw [if_neg n5, if_neg n6] at k
    -- goal
    refine ⟨fun σ' H' => σ' = [some (.str nm), some (.ref w), some (.ref vb), none] ∧ H' = H2 ∧ nm ≠ "goal", ?_, ?_⟩
    · refine ⟨_, rfl, rfl, _, rfl, ?_⟩
      rw [vs_]
      by_cases h0 : nm = "goal"
      · rw [decide_eq_true h0]
        rw [if_pos h0] at k
        exact iteT ⟨_, rfl, w, _, 0, .str v, rfl, rfl, SqL.of hw2, rfl, v, rfl, hv, k H2 s2⟩
      · rw [decide_eq_false h0]
        exact iteF ⟨rfl, rfl, h0⟩
    rintro σ' H3 ⟨rfl, e9, n7⟩
    obtain rfl : H2 = H3 := e9.symm
    rw [if_neg n7] at k
    exact ⟨_, rfl, w, _, 0, .str v, rfl, rfl, SqL.of hw2, rfl, v, rfl, hv, k H2 s2⟩

end K4
set_option maxHeartbeats 4000000
set_option pp.maxSteps 400
namespace K4
open PySem PySem.Spec PyProof.Rows L2 SX TK TKS
open C8 (pe_c)
/-! ### the number of the first line that is wrong -/
def dueL : List (List Str) := [["request", "reply"], ["call"], ["from"], ["to"], ["seq"], ["way"]]
def moreL : List Str := ["offer", "stay", "goal"]
def nmS (k : Nat) (more : List Str) : List Str := if k < 6 then dueL.getD k [] else more
def hdW (l : Str) : Str := (Txt.split l " ").headD ""
def tlW (l : Str) : List Str := (Txt.split l " ").tail
def flt : Nat → List Str → List Str → Nat
  | k, _, [] => k
  | k, _, [l] => if 6 ≤ k ∧ l = "" then 0 else k + 1
  | k, more, l :: a :: r => if hdW l ∈ nmS k more ∧ stB (hdW l) (tlW l) = true then flt (k + 1) (if k < 6 then more else more.drop (more.idxOf (hdW l) + 1)) (a :: r) else k + 1
def spFault (K : PySem.W.Frag) : Sp := fun vs H Q _ => ∃ z : Str, vs = [.str z] ∧ z.length ≤ 900 ∧ ∀ H', Same H H' → Q (.int (flt 0 moreL (Txt.split z "\n") : Nat)) H'
theorem split_nl (z : Str) : Txt.split z "\n" ≠ [] := by
  intro e
  have q := congrArg TL.tl (StrLaws.join_split z "\n")
  rw [e, TL.tl_join] at q
  have q2 : TL.tl z = [] := q.symm
  have e2 : z = S [] := TL.ext_tl (by rw [q2])
  rw [e2] at e
  revert e
  decide +kernel
theorem split_bl (z : Str) : Txt.split z " " ≠ [] := by
  intro e
  have q := congrArg TL.tl (StrLaws.join_split z " ")
  rw [e, TL.tl_join] at q
  have q2 : TL.tl z = [] := q.symm
  have e2 : z = S [] := TL.ext_tl (by rw [q2])
  rw [e2] at e
  revert e
  decide +kernel
theorem cutV_j : ∀ (mr : List Str) (j : Nat), mr.length ≤ 3 → j < mr.length → cutV (mr.map V.str) (some ((j : Nat) + 1 : Int)) none = (mr.drop (j + 1)).map V.str
  | [_], 0, _, _ => rfl
  | [_, _], 0, _, _ => rfl
  | [_, _], 1, _, _ => rfl
  | [_, _, _], 0, _, _ => rfl
  | [_, _, _], 1, _, _ => rfl
  | [_, _, _], 2, _, _ => rfl
  | [], _, _, h => absurd h (Nat.not_lt_zero _)
  | [_], j + 1, _, h => absurd h (by simp)
  | [_, _], j + 2, _, h => absurd h (by simp)
  | [_, _, _], j + 3, _, h => absurd h (by simp)
  | _ :: _ :: _ :: _ :: _, _, h, _ => absurd h (by simp)
theorem flt_last {i : Nat} {mr : List Str} {l : Str} : flt i mr [l] = if 6 ≤ i ∧ l = "" then 0 else i + 1 := rfl
theorem flt_more {i : Nat} {mr : List Str} {l : Str} {r : List Str} (h : r ≠ []) : flt i mr (l :: r) = if hdW l ∈ nmS i mr ∧ stB (hdW l) (tlW l) = true then flt (i + 1) (if i < 6 then mr else mr.drop (mr.idxOf (hdW l) + 1)) r else i + 1 := by
  cases r with
  | nil => exact absurd rfl h
  | cons a r => rfl
theorem atN2 (ls : List Str) (i : Nat) (h : i < ls.length) : atI (ls.map V.str) (i : Int) = some (.str ls[i]) := by
  have := atN (l := ls.map V.str) .non (i := (i : Int)) (by omega) (by rw [List.length_map]; omega)
  rw [this, List.getD_eq_getElem?_getD, List.getElem?_map]
  rw [show (i : Int).toNat = i from rfl, List.getElem?_eq_getElem h]
  rfl
theorem ok_law_fault {P : Program} {w : World} {K : PySem.W.Frag} {mg : Str → Option Value} {base : Heap} {f : Addr} {fd : FuncData} (T : Tx K mg) (c_law_stands : C8.Cal P w K mg base 4 "_law_stands" (spStands K) [])
    (F : FunD K "_law_fault" "_law_fault" (defArgs s_law_fault) (defBody s_law_fault) (defScope s_law_fault) [] [] f fd) : FnOk P w K mg base CX0 5 f fd ["text"] (spFault K) := by
  refine F.ok sc_law_fault (fun vs H Q E h => ?_) (fun cdv A outer s0 H vs Q E hr h => ?_)
  · obtain ⟨z, rfl, _⟩ := h
    rfl
  · obtain ⟨z, rfl, hz, k⟩ := h
    refine ⟨_, PSs.nox (pss_cons (ps_set (i := 1) sc_law_fault.nd rfl (Or.inl rfl) (pe_split (pv 0) pe_str)) (pss_cons (ps_set (i := 2) sc_law_fault.nd rfl (Or.inl rfl) (pe_lst (pa_cons (pe_lst (pa_cons pe_str (pa_cons pe_str pa_nil))) (pa_cons (pe_lst (pa_cons pe_str pa_nil)) (pa_cons (pe_lst (pa_cons pe_str pa_nil)) (pa_cons (pe_lst (pa_cons pe_str pa_nil)) (pa_cons (pe_lst (pa_cons pe_str pa_nil)) (pa_cons (pe_lst (pa_cons pe_str pa_nil)) pa_nil)))))))) (pss_cons (ps_set (i := 3) sc_law_fault.nd rfl (Or.inl rfl) (pe_lst (pa_cons pe_str (pa_cons pe_str (pa_cons pe_str pa_nil))))) (pss_cons (ps_for PassesOwn.never rfl (pi_range1 rfl T.f_range (pa_cons (pe_callB call_len_seq rfl T.f_len PySem.boot_len (pa_cons (pv 1) pa_nil)) pa_nil)) (pg_name (i := 4) sc_law_fault.nd rfl (Or.inl rfl)) (pss_cons (ps_set (i := 5) sc_law_fault.nd rfl (Or.inl rfl) (pe_split (pe_ix ix_list (pv 1) (pv 4) (fun _ _ => rfl)) pe_str)) (C8.pss_cut (ps_if (pt_cmpR op_lt (pv 4) pe_int (nomark _)) (pss_one (ps_set (i := 6) sc_law_fault.nd rfl (Or.inl rfl) (pe_ix ix_list (pv 2) (pv 4) (fun _ _ => rfl)))) (pss_cons (ps_set (i := 6) sc_law_fault.nd rfl (Or.inl rfl) (pv 3)) (pss_one (ps_if (PW.pt (pw_and (pt_cmpR op_eq (pv 4) (pe_op op_sub (pe_callB call_len_seq rfl T.f_len PySem.boot_len (pa_cons (pv 1) pa_nil)) pe_int) (nomark _)) (pw_and1 (pt_cmpR op_eq (pe_ix ix_list (pv 1) (pv 4) (fun _ _ => rfl)) pe_str (nomark _))))) (pss_one (ps_ret pe_int)) pss_nil)))) (C8.pss_cut (ps_if (PW.pt (pw_or (pt_cmpR op_eq (pv 4) (pe_op op_sub (pe_callB call_len_seq rfl T.f_len PySem.boot_len (pa_cons (pv 1) pa_nil)) pe_int) (nomark _)) (pw_or (pt_cmpR op_notIn_seq (pe_ix ix_list (pv 5) pe_int (fun _ _ => rfl)) (pv 6) (by with_unfolding_all rfl)) (pw_or1 (pt_not (pt_val (pe_c c_law_stands hr (by decide) rfl (pa_cons (pe_ix ix_list (pv 5) pe_int (fun _ _ => rfl)) (pa_cons (pe_slice sl_list (pv 5) (po_some pe_int) po_none) pa_nil))))))))) (pss_one (ps_ret (pe_op op_add (pv 4) pe_int))) pss_nil) (pss_one (ps_if (pt_cmpR op_ge (pv 4) pe_int (nomark _)) (pss_one (ps_set (i := 3) sc_law_fault.nd rfl (Or.inl rfl) (pe_slice sl_list (pv 3) (po_some (pe_op op_add (pe_bm PySem.F.plainAttrs_list PySem.F.slot_list_index PySem.F.type_list_index mt_index (pv 3) (pa_cons (pe_ix ix_list (pv 5) pe_int (fun _ _ => rfl)) pa_nil)) pe_int)) po_none))) pss_nil)))))) (pss_one (ps_ret (pe_callB call_len_seq rfl T.f_len PySem.boot_len (pa_cons (pv 1) pa_nil)))))))), ?_⟩
    refine ⟨_, rfl, ⟨_, rfl⟩, z, "\n", rfl, rfl, by decide +kernel, Nat.le_trans (Nat.add_le_add_right hz 2) (by decide), fun l hl => ?_⟩
    have hp0 : ∀ y ∈ Txt.split z "\n", y.length ≤ 900 := fun y hy => Nat.le_trans (part_len hy) hz
    have hy1 : (Txt.split z "\n").length ≤ 902 := Nat.le_trans (PyProof.Rows.split_le z "\n") (by omega)
    have hne := split_nl z
    have s1 := same_upd (o := .lst ((Txt.split z "\n").map V.str)) hl
    have el : (upd H l (.lst ((Txt.split z "\n").map V.str))) l = some (.lst ((Txt.split z "\n").map V.str)) := upd_same
    generalize Txt.split z "\n" = ls at *
    generalize upd H l (.lst (ls.map V.str)) = H1 at *
    refine ⟨by show 2 ≤ sizeLine; decide, fun a0 h0 => ⟨by show 1 ≤ sizeLine; decide, fun a1 h1 => ⟨by show 1 ≤ sizeLine; decide, fun a2 h2 => ⟨by show 1 ≤ sizeLine; decide, fun a3 h3 => ⟨by show 1 ≤ sizeLine; decide, fun a4 h4 => ⟨by show 1 ≤ sizeLine; decide, fun a5 h5 => ⟨by show 6 ≤ sizeLine; decide, fun dd hdd => ?_⟩⟩⟩⟩⟩⟩⟩
    have t0 := same_upd (o := .lst [.str "request", .str "reply"]) h0
    have t1 := same_upd (o := .lst [.str "call"]) h1
    have t2 := same_upd (o := .lst [.str "from"]) h2
    have t3 := same_upd (o := .lst [.str "to"]) h3
    have t4 := same_upd (o := .lst [.str "seq"]) h4
    have t5 := same_upd (o := .lst [.str "way"]) h5
    have t6 := same_upd (o := .lst [.ref a0, .ref a1, .ref a2, .ref a3, .ref a4, .ref a5]) hdd
    refine ⟨by show 3 ≤ sizeLine; decide, fun m hm => ?_⟩
    have t7 := same_upd (o := .lst (moreL.map V.str)) hm
    have u5 := (t5.trans t6).trans t7
    have u4 := t4.trans u5
    have u3 := t3.trans u4
    have u2 := t2.trans u3
    have u1 := t1.trans u2
    have u0 := t0.trans u1
    have edd := t7 _ _ (upd_same (H := _) (a := dd) (o := .lst [.ref a0, .ref a1, .ref a2, .ref a3, .ref a4, .ref a5]))
    have e0 := u1 _ _ (upd_same (H := _) (a := a0) (o := .lst [.str "request", .str "reply"]))
    have e1 := u2 _ _ (upd_same (H := _) (a := a1) (o := .lst [.str "call"]))
    have e2 := u3 _ _ (upd_same (H := _) (a := a2) (o := .lst [.str "from"]))
    have e3 := u4 _ _ (upd_same (H := _) (a := a3) (o := .lst [.str "to"]))
    have e4 := u5 _ _ (upd_same (H := _) (a := a4) (o := .lst [.str "seq"]))
    have e5 := (t6.trans t7) _ _ (upd_same (H := _) (a := a5) (o := .lst [.str "way"]))
    have s2 := s1.trans u0
    have el2 := u0 _ _ el
    clear t0 t1 t2 t3 t4 t5 t6 t7 u0 u1 u2 u3 u4 u5
    change tSeq _ _ _ [some (.str z), some (.ref l), some (.ref dd), some (.ref m), none, none, none] (upd _ m (.lst (moreL.map V.str)))
    generalize hHb : upd _ m (.lst (moreL.map V.str)) = Hb at *
    have em : Hb m = some (.lst (moreL.map V.str)) := by
      rw [← hHb]
      exact upd_same
    clear hHb
    have hdue : ∀ i, i < 6 → ∃ ai, atI ([.ref a0, .ref a1, .ref a2, .ref a3, .ref a4, .ref a5] : List V) (i : Nat) = some (.ref ai) ∧ Hb ai = some (.lst ((dueL.getD i []).map V.str)) := fun i hi => by
      match i, hi with
      | 0, _ => exact ⟨a0, rfl, e0⟩
      | 1, _ => exact ⟨a1, rfl, e1⟩
      | 2, _ => exact ⟨a2, rfl, e2⟩
      | 3, _ => exact ⟨a3, rfl, e3⟩
      | 4, _ => exact ⟨a4, rfl, e4⟩
      | 5, _ => exact ⟨a5, rfl, e5⟩
    clear e0 e1 e2 e3 e4 e5 hdd h0 h1 h2 h3 h4 h5
    refine ⟨_, rfl, l, _, rfl, .inl (SqL.of el2), _, rfl, by rw [List.length_map]; omega, by rw [List.length_map]; omega, for_it walk_range (fun i σ H' => ∃ (mr : List Str) (ma : Addr) (v4 v5 v6 : Option V), σ = [some (.str z), some (.ref l), some (.ref dd), some (.ref ma), v4, v5, v6] ∧ Same Hb H' ∧ H' ma = some (.lst (mr.map V.str)) ∧ mr.length ≤ 3 ∧ flt 0 moreL ls = flt i mr (ls.drop i)) ⟨moreL, m, none, none, none, rfl, Same.refl _, em, by decide, rfl⟩ (fun _ _ _ _ _ => trivial) ?_ ?_⟩
    · rintro i x σ H3 H4 hi ⟨mr, ma, v4, v5, v6, rfl, s3, em3, lm, hf⟩ y
      obtain ⟨rfl, rfl⟩ := y
      have hi2 : i < ls.length := by
        rw [List.length_map] at hi
        omega
      have el3 := s3 _ _ el2
      have edd3 := s3 _ _ edd
      have hat : atI (ls.map V.str) ((0 : Int) + (i : Int)) = some (.str ls[i]) := by
        rw [Int.zero_add]
        exact atN2 _ _ hi2
      have hd2 : ls.drop i = ls[i] :: ls.drop (i + 1) := List.drop_eq_getElem_cons hi2
      have hll := hp0 ls[i] (List.getElem_mem hi2)
      refine ⟨_, rfl, _, rfl, l, _, _, .str ls[i], rfl, rfl, SqL.of el3, hat, ⟨_, rfl⟩, ls[i], " ", rfl, rfl, by decide +kernel, Nat.le_trans (Nat.add_le_add_right hll 2) (by decide), fun w hw => ?_⟩
      obtain ⟨h0, tl, ews⟩ : ∃ h0 tl, Txt.split ls[i] " " = h0 :: tl := by
        cases q : Txt.split ls[i] " " with
        | nil => exact absurd q (split_bl _)
        | cons a b => exact ⟨a, b, rfl⟩
      have eh : hdW ls[i] = h0 := by unfold hdW; rw [ews]; rfl
      have et : tlW ls[i] = tl := by unfold tlW; rw [ews]; rfl
      have htl : ∀ z ∈ tl, z.length ≤ 1000 := fun z hz => Nat.le_trans (part_len (z := ls[i]) (y := " ") (by rw [ews]; exact List.mem_cons_of_mem _ hz)) (by omega)
      have hwl : tl.length ≤ 1000 := by
        have := PyProof.Rows.split_le ls[i] " "
        rw [ews, List.length_cons] at this
        omega
      rw [ews]
      have sw := same_upd (o := .lst ((h0 :: tl).map V.str)) hw
      have ew : (upd H4 w (.lst ((h0 :: tl).map V.str))) w = some (.lst ((h0 :: tl).map V.str)) := upd_same
      have s5 := s3.trans sw
      have el5 := sw _ _ el3
      have edd5 := sw _ _ edd3
      have em5 := sw _ _ em3
      generalize upd H4 w (.lst ((h0 :: tl).map V.str)) = H5 at *
      have sAll := s2.trans s5
      refine ⟨fun σ' H' => ∃ na : Addr, σ' = [some (.str z), some (.ref l), some (.ref dd), some (.ref ma), some (.int (0 + (i : Int))), some (.ref w), some (.ref na)] ∧ H' = H5 ∧ H5 na = some (.lst ((nmS i mr).map V.str)) ∧ ¬(6 ≤ i ∧ i + 1 = ls.length ∧ ls[i] = ""), ?_, ?_⟩
      · refine ⟨_, rfl, _, _, rfl, rfl, _, rfl, ?_⟩
        by_cases h6 : i < 6
        · rw [decide_eq_true (by omega)]
          obtain ⟨ai, hai, eai⟩ := hdue i h6
          refine iteT ⟨_, rfl, _, rfl, dd, _, _, .ref ai, rfl, rfl, SqL.of edd5, by rw [Int.zero_add]; exact hai, ai, rfl, rfl, ?_, fun q => by omega⟩
          unfold nmS
          rw [if_pos h6]
          exact s5 _ _ eai
        · rw [decide_eq_false (by omega)]
          refine iteF ⟨_, rfl, ?_⟩
          have eln : (((ls.map V.str).length : Nat) : Int) = (ls.length : Int) := by rw [List.length_map]
          refine ⟨_, rfl, _, rfl, l, _, rfl, .inl (SqL.of el5), _, _, rfl, rfl, rfl, _, rfl, ?_⟩
          rw [eln, dec_int]
          have en : H5 ma = some (.lst ((nmS i mr).map V.str)) := by
            unfold nmS
            rw [if_neg h6]
            exact em5
          by_cases hL : i + 1 = ls.length
          · rw [show ((0 + (i : Int)) == (ls.length : Int) - 1) = true by rw [beq_iff_eq]; omega]
            refine iteT ⟨_, rfl, _, rfl, l, _, _, .str ls[i], rfl, rfl, SqL.of el5, hat, rfl, _, rfl, ?_⟩
            rw [vs_]
            by_cases hE : ls[i] = ""
            · rw [decide_eq_true hE]
              have g := k H5 sAll
              rw [hf, hd2, List.drop_of_length_le (by omega), flt_last, if_pos ⟨by omega, hE⟩] at g
              exact iteT g
            · rw [decide_eq_false hE]
              exact iteF ⟨_, rfl, rfl, en, fun q => hE q.2.2⟩
          · rw [show ((0 + (i : Int)) == (ls.length : Int) - 1) = false by simp only [beq_eq_false_iff_ne]; omega]
            exact iteF (iteF ⟨_, rfl, rfl, en, fun q => hL q.2.1⟩)
      rintro σ' H6 ⟨na, rfl, e9, ena, nlast⟩
      obtain rfl : H5 = H6 := e9.symm
      have eln : (((ls.map V.str).length : Nat) : Int) = (ls.length : Int) := by rw [List.length_map]
      have kF : flt 0 moreL ls = i + 1 → ∀ H', Same H5 H' → Q (.int (0 + (i : Int) + 1)) H' := fun e H' s' => by
        have g := k H' (sAll.trans s')
        rw [e] at g
        rw [Int.zero_add]
        exact g
      refine ⟨fun σ' H' => σ' = [some (.str z), some (.ref l), some (.ref dd), some (.ref ma), some (.int (0 + (i : Int))), some (.ref w), some (.ref na)] ∧ Same H5 H' ∧ ls.drop (i + 1) ≠ [] ∧ h0 ∈ nmS i mr ∧ stB h0 tl = true, ?_, ?_⟩
      · refine ⟨_, rfl, _, rfl, l, _, rfl, .inl (SqL.of el5), _, _, rfl, rfl, rfl, _, rfl, ?_⟩
        rw [eln, dec_int]
        by_cases hL : i + 1 = ls.length
        · rw [show ((0 + (i : Int)) == (ls.length : Int) - 1) = true by rw [beq_iff_eq]; omega]
          refine iteT (iteT ⟨_, rfl, _, _, rfl, rfl, kF ?_ _ (Same.refl H5)⟩)
          rw [hf, hd2, List.drop_of_length_le (by omega), flt_last, if_neg fun q => nlast ⟨q.1, hL, q.2⟩]
        · rw [show ((0 + (i : Int)) == (ls.length : Int) - 1) = false by simp only [beq_eq_false_iff_ne]; omega]
          have hne2 : ls.drop (i + 1) ≠ [] := fun e => by
            have := congrArg List.length e
            rw [List.length_drop] at this
            have : ls.length - (i + 1) = 0 := this
            omega
          have hm2 := flt_more (i := i) (mr := mr) (l := ls[i]) hne2
          rw [eh, et] at hm2
          refine iteF ⟨_, rfl, w, _, 0, .str h0, rfl, rfl, SqL.of ew, atC _ _, _, rfl, na, _, rfl, .inl (SqL.of ena), rfl, flat_strs _, _, rfl, ?_⟩
          rw [inV_strs]
          by_cases hn : h0 ∈ nmS i mr
          · rw [decide_eq_true hn]
            refine iteF ⟨_, rfl, w, _, 0, .str h0, rfl, rfl, SqL.of ew, atC _ _, _, rfl, 1, rfl, w, _, rfl, SqL.of ew, fun q hq => ?_⟩
            have ecut : cutV ((h0 :: tl).map V.str) (some 1) none = tl.map V.str := cutV_1 _ _
            rw [ecut]
            have sq := same_upd (o := .lst (tl.map V.str)) hq
            refine ⟨h0, q, tl, rfl, upd_same, htl, hwl, fun H' s' => ⟨_, rfl, ?_⟩⟩
            cases hst : stB h0 tl with
            | true => exact iteF ⟨rfl, sq.trans s', hne2, hn, rfl⟩
            | false =>
              refine iteT ⟨_, rfl, _, _, rfl, rfl, kF ?_ _ (sq.trans s')⟩
              rw [hf, hd2, hm2, if_neg fun q => by rw [hst] at q; exact Bool.false_ne_true q.2]
          · rw [decide_eq_false hn]
            refine iteT (iteT ⟨_, rfl, _, _, rfl, rfl, kF ?_ _ (Same.refl H5)⟩)
            rw [hf, hd2, hm2, if_neg fun q => hn q.1]
      rintro σ' H6 ⟨rfl, s6, hne2, hn, hst⟩
      have hm2 := flt_more (i := i) (mr := mr) (l := ls[i]) hne2
      rw [eh, et, if_pos ⟨hn, hst⟩] at hm2
      rw [hd2, hm2] at hf
      have em6 := s6 _ _ em5
      have ew6 := s6 _ _ ew
      refine ⟨_, rfl, _, _, rfl, rfl, _, rfl, ?_⟩
      by_cases h6 : i < 6
      · rw [decide_eq_false (by omega)]
        rw [if_pos h6] at hf
        exact iteF ⟨mr, ma, _, _, _, rfl, s5.trans s6, em6, lm, hf⟩
      · rw [decide_eq_true (by omega)]
        rw [if_neg h6] at hf
        have hn2 : h0 ∈ mr := by
          unfold nmS at hn
          rw [if_neg h6] at hn
          exact hn
        have hjl : mr.idxOf h0 < mr.length := List.idxOf_lt_length_iff.mpr hn2
        refine iteT ⟨_, rfl, _, rfl, .inl ⟨rfl, _, SqL.of em6⟩, _, rfl, w, _, 0, .str h0, rfl, rfl, SqL.of ew6, atC _ _, ma, _, .str h0, mr.idxOf h0, .str h0, rfl, rfl, SqL.of em6, rfl, flat_strs _, ?_, beq_self_eq_true h0, ?_, _, _, rfl, rfl, _, rfl, ma, _, rfl, SqL.of em6, fun q hq => ?_⟩
        · rw [List.getElem?_map, List.getElem?_eq_getElem hjl, List.getElem_idxOf]
          rfl
        · intro m z' hm hz'
          rw [List.getElem?_map] at hz'
          obtain ⟨y, hy, rfl⟩ := Option.map_eq_some_iff.mp hz'
          have := List.not_of_lt_findIdx (p := (· == h0)) (xs := mr) hm
          obtain ⟨hml, rfl⟩ := List.getElem?_eq_some_iff.mp hy
          exact beq_eq_false_iff_ne.mpr (by simpa using this)
        · rw [cutV_j _ _ lm hjl]
          have sq := same_upd (o := .lst ((mr.drop (mr.idxOf h0 + 1)).map V.str)) hq
          exact ⟨_, q, _, _, _, rfl, (s5.trans s6).trans sq, upd_same, by rw [List.length_drop]; omega, hf⟩
    · rintro σ H3 ⟨mr, ma, v4, v5, v6, rfl, s3, em3, lm, hf⟩
      have g := k H3 (s2.trans s3)
      have e10 : flt 0 moreL ls = ls.length := by
        rw [hf, List.drop_of_length_le (by rw [List.length_map]; omega)]
        show _ = _
        rw [List.length_map]
        rfl
      rw [e10] at g
      refine ⟨_, rfl, l, _, rfl, .inl (SqL.of (s3 _ _ el2)), ?_⟩
      rw [List.length_map]
      exact g

end K4
set_option maxHeartbeats 4000000
set_option pp.maxSteps 400
namespace K4
open PySem PySem.Spec PyProof.Rows L2 SX TK TKS
open C8 (pe_c)
/-! ### a text without a wrong line is the text of a letter -/
theorem sp_back {line : Str} {ws : List Str} (h : Txt.split line " " = ws) : line = Txt.join " " ws := by
  rw [← h, TL.join_eq " "]
  exact (StrLaws.join_split line " ").symm
theorem nl_back {t : Str} {ls : List Str} (h : Txt.split t "\n" = ls) : t = Txt.join "\n" ls := by
  rw [← h, TL.join_eq "\n"]
  exact (StrLaws.join_split t "\n").symm
theorem hd_tl (l : Str) : Txt.split l " " = hdW l :: tlW l := by
  unfold hdW tlW
  cases q : Txt.split l " " with
  | nil => exact absurd q (split_bl l)
  | cons a b => rfl
theorem ln2 {l a b p : Str} (e1 : hdW l = a) (e2 : tlW l = [b]) (h : TL.tl p = TL.tl a ++ [32]) : l = Str.empty ++ p ++ b := by
  rw [join2 h]
  exact sp_back (by rw [hd_tl, e1, e2])
theorem ln3 {l a b c p : Str} (e1 : hdW l = a) (e2 : tlW l = [b, c]) (h : TL.tl p = TL.tl a ++ [32]) : l = Str.empty ++ p ++ b ++ " " ++ c := by
  rw [join3 h]
  exact sp_back (by rw [hd_tl, e1, e2])
theorem is1_inv {p : Str → Bool} {ws : List Str} (h : is1 p ws = true) : ∃ v, ws = [v] ∧ p v = true := by
  match ws, h with
  | [v], h => exact ⟨v, rfl, h⟩
theorem is2_inv {p : Str → Str → Bool} {ws : List Str} (h : is2 p ws = true) : ∃ v w, ws = [v, w] ∧ p v w = true := by
  match ws, h with
  | [v, w], h => exact ⟨v, w, rfl, h⟩
theorem st_req (ws : List Str) : stB "request" ws = is1 (fun v => decide (v ∈ verbsL)) ws := by
  unfold stB
  rw [if_pos rfl]
theorem st_rep (ws : List Str) : stB "reply" ws = is2 (fun c v => decide (c ∈ codesS) && decide (v ∈ verbsL)) ws := by
  unfold stB
  rw [if_neg (by decide +kernel), if_pos rfl]
theorem st_off (ws : List Str) : stB "offer" ws = (readO ws).isSome := by
  unfold stB
  rw [if_neg (by decide +kernel), if_neg (by decide +kernel), if_pos rfl]
theorem st_to1 (v : Str) : stB "to" [v] = (splitB v).isSome := by
  unfold stB
  rw [if_neg (by decide +kernel), if_neg (by decide +kernel), if_neg (by decide +kernel), if_pos ⟨rfl, rfl⟩]
  rfl
theorem st_to2 {ws : List Str} (h : ws.length ≠ 1) : stB "to" ws = is2 (fun o t => (splitB o).isSome && tagB t) ws := by
  unfold stB
  rw [if_neg (by decide +kernel), if_neg (by decide +kernel), if_neg (by decide +kernel), if_neg (fun q => h q.2), if_pos (.inr rfl)]
theorem st_from (ws : List Str) : stB "from" ws = is2 (fun o t => (splitB o).isSome && tagB t) ws := by
  unfold stB
  rw [if_neg (by decide +kernel), if_neg (by decide +kernel), if_neg (by decide +kernel), if_neg (fun q => absurd q.1 (by decide +kernel)), if_pos (.inl rfl)]
theorem st_seq (ws : List Str) : stB "seq" ws = is1 (fun v => !decide (numV v 999999 = .non)) ws := by
  unfold stB
  rw [if_neg (by decide +kernel), if_neg (by decide +kernel), if_neg (by decide +kernel), if_neg (fun q => absurd q.1 (by decide +kernel)), if_neg (by decide +kernel), if_pos rfl]
theorem st_stay (ws : List Str) : stB "stay" ws = is1 (fun v => !decide (numV v 9999 = .non)) ws := by
  unfold stB
  rw [if_neg (by decide +kernel), if_neg (by decide +kernel), if_neg (by decide +kernel), if_neg (fun q => absurd q.1 (by decide +kernel)), if_neg (by decide +kernel), if_neg (by decide +kernel), if_pos rfl]
theorem st_goal (ws : List Str) : stB "goal" ws = is1 (fun v => (splitB v).isSome) ws := by
  unfold stB
  rw [if_neg (by decide +kernel), if_neg (by decide +kernel), if_neg (by decide +kernel), if_neg (fun q => absurd q.1 (by decide +kernel)), if_neg (by decide +kernel), if_neg (by decide +kernel), if_neg (by decide +kernel), if_pos rfl]
theorem st_call (ws : List Str) : stB "call" ws = is1 tagB ws := by
  unfold stB
  rw [if_neg (by decide +kernel), if_neg (by decide +kernel), if_neg (by decide +kernel), if_neg (fun q => absurd q.1 (by decide +kernel)), if_neg (by decide +kernel), if_neg (by decide +kernel), if_neg (by decide +kernel), if_neg (by decide +kernel)]
theorem st_way (ws : List Str) : stB "way" ws = is1 tagB ws := by
  unfold stB
  rw [if_neg (by decide +kernel), if_neg (by decide +kernel), if_neg (by decide +kernel), if_neg (fun q => absurd q.1 (by decide +kernel)), if_neg (by decide +kernel), if_neg (by decide +kernel), if_neg (by decide +kernel), if_neg (by decide +kernel)]
theorem num_inv {v : Str} {m : Int} (h : (!decide (numV v m = .non)) = true) : ∃ n, numV v m = .int n := by
  rcases numV_ni v m with e | q
  · rw [e] at h
    exact absurd h (by decide)
  · exact q
theorem codes_s : ∀ c ∈ codesS, ∃ n ∈ codesL, c = numS n := by
  intro c hc
  have : c ∈ codesL.map numS := by
    have e : codesS = codesL.map numS := by decide +kernel
    rw [← e]
    exact hc
  obtain ⟨n, hn, e⟩ := List.mem_map.mp this
  exact ⟨n, hn, e.symm⟩
theorem flt_step {k : Nat} {more : List Str} {l : Str} {r : List Str} (hk : k < 6) (h : flt k more (l :: r) = 0) : ∃ a t, r = a :: t ∧ hdW l ∈ nmS k more ∧ stB (hdW l) (tlW l) = true ∧ flt (k + 1) more r = 0 := by
  cases r with
  | nil =>
    rw [flt_last, if_neg (fun q => by omega)] at h
    omega
  | cons a r =>
    rw [flt_more (by simp)] at h
    by_cases g : hdW l ∈ nmS k more ∧ stB (hdW l) (tlW l) = true
    · rw [if_pos g, if_pos hk] at h
      exact ⟨a, r, rfl, g.1, g.2, h⟩
    · rw [if_neg g] at h
      omega
theorem flt_tail {k : Nat} {more : List Str} {r : List Str} (hk : 6 ≤ k) (h : flt k more r = 0) : r = [("" : Str)] ∨ ∃ l t, r = l :: t ∧ hdW l ∈ more ∧ stB (hdW l) (tlW l) = true ∧ flt (k + 1) (more.drop (more.idxOf (hdW l) + 1)) t = 0 := by
  cases r with
  | nil =>
    have : k = 0 := h
    omega
  | cons l r =>
    cases r with
    | nil =>
      rw [flt_last] at h
      by_cases g : 6 ≤ k ∧ l = ""
      · rw [g.2]
        exact .inl rfl
      · rw [if_neg g] at h
        omega
    | cons a r =>
      rw [flt_more (by simp)] at h
      have en : nmS k more = more := by
        unfold nmS
        rw [if_neg (by omega)]
      rw [en, if_neg (show ¬ k < 6 by omega)] at h
      by_cases g : hdW l ∈ more ∧ stB (hdW l) (tlW l) = true
      · rw [if_pos g] at h
        exact .inr ⟨l, a :: r, rfl, g.1, g.2, h⟩
      · rw [if_neg g] at h
        omega
theorem tail0 {k : Nat} {r : List Str} (hk : 6 ≤ k) (h : flt k [] r = 0) : r = [("" : Str)] := by
  rcases flt_tail hk h with e | ⟨l, t, _, q, _⟩
  · exact e
  · cases q
def GoalC (g : V) : Prop := g = .non ∨ ∃ z : Str, g = .str z ∧ (splitB z).isSome = true
def StayC (s : V) : Prop := s = .non ∨ ∃ n : Int, s = .int n ∧ 0 ≤ n ∧ n ≤ 9999
theorem goal_line {l : Str} (e : hdW l = "goal") (h : stB (hdW l) (tlW l) = true) : ∃ g, GoalC g ∧ goalL g = [l] := by
  rw [e, st_goal] at h
  obtain ⟨y, e2, hy⟩ := is1_inv h
  refine ⟨.str y, .inr ⟨y, rfl, hy⟩, ?_⟩
  rw [ln2 e e2 (p := "goal ") (by decide +kernel)]
  rfl
theorem stay_line {l : Str} (e : hdW l = "stay") (h : stB (hdW l) (tlW l) = true) : ∃ s, StayC s ∧ stayL s = [l] := by
  rw [e, st_stay] at h
  obtain ⟨y, e2, hy⟩ := is1_inv h
  obtain ⟨n, hn⟩ := num_inv hy
  obtain ⟨en, h0, h1⟩ := numV_int hn
  refine ⟨.int n, .inr ⟨n, rfl, h0, h1⟩, ?_⟩
  rw [ln2 e e2 (p := "stay ") (by decide +kernel), ← en]
  rfl
theorem tail1 {k : Nat} {r : List Str} (hk : 6 ≤ k) (h : flt k ["goal"] r = 0) : ∃ g, GoalC g ∧ r = goalL g ++ [("" : Str)] := by
  rcases flt_tail hk h with e | ⟨l, t, e, q, s, f⟩
  · exact ⟨.non, .inl rfl, e⟩
  · have eh := List.mem_singleton.mp q
    obtain ⟨g, hg, eg⟩ := goal_line eh s
    rw [eh, show (["goal"] : List Str).drop ((["goal"] : List Str).idxOf ("goal" : Str) + 1) = [] by decide +kernel] at f
    exact ⟨g, hg, by rw [e, eg, tail0 (by omega) f]; rfl⟩
theorem tail2 {k : Nat} {r : List Str} (hk : 6 ≤ k) (h : flt k ["stay", "goal"] r = 0) : ∃ s g, StayC s ∧ GoalC g ∧ r = stayL s ++ goalL g ++ [("" : Str)] := by
  rcases flt_tail hk h with e | ⟨l, t, e, q, s, f⟩
  · exact ⟨.non, .non, .inl rfl, .inl rfl, e⟩
  · simp only [List.mem_cons, List.not_mem_nil, or_false] at q
    rcases q with eh | eh
    · obtain ⟨sv, hs, es⟩ := stay_line eh s
      rw [eh, show (["stay", "goal"] : List Str).drop ((["stay", "goal"] : List Str).idxOf ("stay" : Str) + 1) = (["goal"] : List Str) by decide +kernel] at f
      obtain ⟨g, hg, eg⟩ := tail1 (by omega) f
      exact ⟨sv, g, hs, hg, by rw [e, es, eg]; rfl⟩
    · obtain ⟨g, hg, eg⟩ := goal_line eh s
      rw [eh, show (["stay", "goal"] : List Str).drop ((["stay", "goal"] : List Str).idxOf ("goal" : Str) + 1) = [] by decide +kernel] at f
      exact ⟨.non, g, .inl rfl, hg, by rw [e, eg, tail0 (by omega) f]; rfl⟩
theorem split_cm (z : Str) : Txt.split z "," ≠ [] := by
  intro e
  have q := congrArg TL.tl (StrLaws.join_split z ",")
  rw [e, TL.tl_join] at q
  have q2 : TL.tl z = [] := q.symm
  have e2 : z = S [] := TL.ext_tl (by rw [q2])
  rw [e2] at e
  revert e
  decide +kernel
theorem off_good {ws : List Str} {u : Off} (h : readO ws = some u) : GoodO u ∧ wordsS u = Txt.join " " ws ∧ ∃ a b c, ws = [a, b, c] := by
  by_cases h3 : ws.length = 3
  · obtain ⟨a, b, c, rfl⟩ : ∃ a b c, ws = [a, b, c] := by
      match ws, h3 with
      | [a, b, c], _ => exact ⟨a, b, c, rfl⟩
    rw [readO_eq] at h
    rcases numV_cases a 65535 with e | ⟨p, e⟩
    · rw [e] at h
      cases h
    · rw [e] at h
      cases q : fmtO c with
      | none => rw [q] at h; cases h
      | some fs =>
        rw [q, readP_ok] at h
        by_cases hb : b ∈ modesL
        · rw [if_pos hb] at h
          obtain rfl := Option.some.inj h
          obtain ⟨en, h0, h1⟩ := numV_int e
          unfold fmtO at q
          by_cases g1 : (Txt.split c ",").length ≤ 6 ∧ (Txt.split c ",").Nodup
          · rw [if_pos g1] at q
            by_cases g2 : (Txt.split c ",").all nameB = true
            · rw [if_pos g2] at q
              obtain rfl := Option.some.inj q
              refine ⟨⟨h0, h1, hb, split_cm c, g1.1, g1.2, fun z hz => List.all_eq_true.mp g2 z hz⟩, ?_, a, b, c, rfl⟩
              have ec : Txt.join "," (Txt.split c ",") = c := by
                rw [TL.join_eq ","]
                exact StrLaws.join_split c ","
              show Txt.join " " [numS p, b, Txt.join "," (Txt.split c ",")] = _
              rw [en, ec]
            · rw [if_neg g2] at q
              cases q
          · rw [if_neg g1] at q
            cases q
        · rw [if_neg hb] at h
          cases h
  · rw [readO_len h3] at h
    cases h
theorem off_line2 {l : Str} (e : hdW l = "offer") (h : stB (hdW l) (tlW l) = true) : ∃ u, GoodO u ∧ offL (some u) = [l] := by
  rw [e, st_off] at h
  obtain ⟨u, hu⟩ := Option.isSome_iff_exists.mp h
  obtain ⟨g, ew, a, b, c, e3⟩ := off_good hu
  refine ⟨u, g, ?_⟩
  have el := sp_back (hd_tl l)
  rw [e, e3] at el
  rw [e3] at ew
  show [Str.empty ++ "offer " ++ wordsS u] = [l]
  rw [el, ew, TL.join_eq " ", TL.join_eq " "]
  congr 1
theorem tail3 {k : Nat} {r : List Str} (hk : 6 ≤ k) (h : flt k moreL r = 0) : ∃ o s g, (∀ u, o = some u → GoodO u) ∧ StayC s ∧ GoalC g ∧ r = offL o ++ stayL s ++ goalL g ++ [("" : Str)] := by
  rcases flt_tail hk h with e | ⟨l, t, e, q, s, f⟩
  · exact ⟨none, .non, .non, (fun _ q => nomatch q), .inl rfl, .inl rfl, e⟩
  · simp only [moreL, List.mem_cons, List.not_mem_nil, or_false] at q
    rcases q with eh | eh | eh
    · obtain ⟨u, hu, eu⟩ := off_line2 eh s
      rw [eh, show moreL.drop (moreL.idxOf ("offer" : Str) + 1) = (["stay", "goal"] : List Str) by decide +kernel] at f
      obtain ⟨sv, g, hs, hg, eg⟩ := tail2 (by omega) f
      exact ⟨some u, sv, g, fun v q => by cases q; exact hu, hs, hg, by rw [e, eu, eg]; rfl⟩
    · obtain ⟨sv, hs, es⟩ := stay_line eh s
      rw [eh, show moreL.drop (moreL.idxOf ("stay" : Str) + 1) = (["goal"] : List Str) by decide +kernel] at f
      obtain ⟨g, hg, eg⟩ := tail1 (by omega) f
      exact ⟨none, sv, g, (fun _ q => nomatch q), hs, hg, by rw [e, es, eg]; rfl⟩
    · obtain ⟨g, hg, eg⟩ := goal_line eh s
      rw [eh, show moreL.drop (moreL.idxOf ("goal" : Str) + 1) = [] by decide +kernel] at f
      exact ⟨none, .non, g, (fun _ q => nomatch q), .inl rfl, hg, by rw [e, eg, tail0 (by omega) f]; rfl⟩
theorem flt_right {z : Str} (h : flt 0 moreL (Txt.split z "\n") = 0) : ∃ L o c, GLet L o c ∧ (∀ u, o = some u → GoodO u) ∧ z = textOf (linesX L o) := by
  have hz := nl_back (t := z) rfl
  have hne := split_nl z
  generalize Txt.split z "\n" = ls at h hz hne
  obtain ⟨l0, r0, rfl⟩ : ∃ a r, ls = a :: r := by
    cases ls with
    | nil => exact absurd rfl hne
    | cons a r => exact ⟨a, r, rfl⟩
  obtain ⟨l1, r1, rfl, n0, s0, h⟩ := flt_step (by decide) h
  obtain ⟨l2, r2, rfl, n1, s1, h⟩ := flt_step (by decide) h
  obtain ⟨l3, r3, rfl, n2, s2, h⟩ := flt_step (by decide) h
  obtain ⟨l4, r4, rfl, n3, s3, h⟩ := flt_step (by decide) h
  obtain ⟨l5, r5, rfl, n4, s4, h⟩ := flt_step (by decide) h
  obtain ⟨l6, r6, rfl, n5, s5, h⟩ := flt_step (by decide) h
  obtain ⟨o, sv, gv, ho, hs, hg, et⟩ := tail3 (by decide) h
  have n1 : hdW l1 = "call" := List.mem_singleton.mp n1
  have n2 : hdW l2 = "from" := List.mem_singleton.mp n2
  have n3 : hdW l3 = "to" := List.mem_singleton.mp n3
  have n4 : hdW l4 = "seq" := List.mem_singleton.mp n4
  have n5 : hdW l5 = "way" := List.mem_singleton.mp n5
  rw [n1, st_call] at s1
  rw [n2, st_from] at s2
  rw [n3] at s3
  rw [n4, st_seq] at s4
  rw [n5, st_way] at s5
  obtain ⟨call, e1, hcall⟩ := is1_inv s1
  obtain ⟨origin, otag, e2, h2⟩ := is2_inv s2
  rw [Bool.and_eq_true] at h2
  obtain ⟨target, ttag, ht, hg2, e3⟩ : ∃ (target ttag : Str), (splitB target).isSome = true ∧ (ttag = "" ∨ (ttag.length ≠ 0 ∧ tagB ttag = true)) ∧ ∀ (L : Ltr), L.target = target → L.ttag = ttag → toS L = l3 := by
    by_cases q : (tlW l3).length = 1
    · obtain ⟨v, ev⟩ : ∃ v, tlW l3 = [v] := by
        match tlW l3, q with
        | [v], _ => exact ⟨v, rfl⟩
      rw [ev, st_to1] at s3
      refine ⟨v, "", s3, .inl rfl, fun L a b => ?_⟩
      unfold toS
      rw [b, if_neg (by decide +kernel), a]
      exact (ln2 (p := "to ") n3 ev (by decide +kernel)).symm
    · rw [st_to2 q] at s3
      obtain ⟨v, w, ev, g⟩ := is2_inv s3
      rw [Bool.and_eq_true] at g
      have hw : w.length ≠ 0 := fun e => by
        have := (consB_len g.2).1
        rw [len_eq] at e
        omega
      refine ⟨v, w, g.1, .inr ⟨hw, g.2⟩, fun L a b => ?_⟩
      unfold toS
      rw [b, if_pos (by simpa using hw), a]
      exact (ln3 (p := "to ") n3 ev (by decide +kernel)).symm
  obtain ⟨sq, e4, h4⟩ := is1_inv s4
  obtain ⟨n, h4⟩ := num_inv h4
  obtain ⟨e4b, h40, h41⟩ := numV_int h4
  obtain ⟨way, e5, hway⟩ := is1_inv s5
  obtain ⟨verb, cd, hverb, hcd, e0⟩ : ∃ verb cd, verb ∈ verbsL ∧ (∀ n, cd = some n → n ∈ codesL) ∧ ∀ (L : Ltr), L.verb = verb → L.code = codeV cd → headS L = l0 := by
    have q : hdW l0 = "request" ∨ hdW l0 = "reply" := by
      have n0' : hdW l0 ∈ (["request", "reply"] : List Str) := n0
      simpa using n0'
    rcases q with q | q
    · rw [q, st_req] at s0
      obtain ⟨v, ev, g⟩ := is1_inv s0
      refine ⟨v, none, of_decide_eq_true g, (fun _ q => nomatch q), fun L a b => ?_⟩
      unfold headS
      rw [b, a]
      exact (ln2 q ev (by decide +kernel)).symm
    · rw [q, st_rep] at s0
      obtain ⟨c, v, ev, g⟩ := is2_inv s0
      rw [Bool.and_eq_true] at g
      obtain ⟨m, hm, ec⟩ := codes_s c (of_decide_eq_true g.1)
      refine ⟨v, some m, of_decide_eq_true g.2, fun n q => by rw [← Option.some.inj q]; exact hm, fun L a b => ?_⟩
      unfold headS
      rw [b, a]
      rw [ec] at ev
      exact (ln3 q ev (by decide +kernel)).symm
  refine ⟨⟨verb, call, origin, otag, target, ttag, n, way, codeV cd, .non, sv, gv⟩, o, cd, ⟨hverb, rfl, hcd, hcall, h2.1, h2.2, ht, hg2, h40, h41, hway, fun u e => (ho u e).off, hs, hg⟩, ho, ?_⟩
  rw [text_join, hz, et]
  unfold linesX linesS
  rw [e0 _ rfl rfl, e3 _ rfl rfl]
  dsimp only
  rw [← ln2 n1 e1 (by decide +kernel), ← ln3 n2 e2 (by decide +kernel), e4b, ← ln2 n4 e4 (by decide +kernel), ← ln2 n5 e5 (by decide +kernel)]
  congr 1
end K4
set_option maxHeartbeats 4000000
set_option pp.maxSteps 400
namespace K4
open PySem PySem.Spec PyProof.Rows L2 SX TK TKS
open C8 (pe_c)
/-! ### a letter's text is short -/
theorem numS_len' {i : Int} (h0 : 0 ≤ i) (h1 : i ≤ 999999) : (numS i).length ≤ 10 := numS_len (by omega)
theorem words_len {u : Off} (g : GoodO u) : (wordsS u).length ≤ 126 := by
  obtain ⟨_, j2⟩ := g.ok.join
  obtain ⟨t1, _⟩ := g.ok.str
  have lm := g.ok.m
  have b := join_len " " [Str.ofString (toString u.port), u.mode, Txt.join "," u.fs]
  rw [blank_len] at b
  have e : (([Str.ofString (toString u.port), u.mode, Txt.join "," u.fs] : List Str).map (·.length)).sum = (Str.ofString (toString u.port)).length + (u.mode.length + ((Txt.join "," u.fs).length + 0)) := rfl
  rw [e] at b
  have e2 : ([Str.ofString (toString u.port), u.mode, Txt.join "," u.fs] : List Str).length = 3 := rfl
  rw [e2] at b
  show (Txt.join " " [Str.ofString (toString u.port), u.mode, Txt.join "," u.fs]).length ≤ 126
  omega
theorem e_len : Str.empty.length = 0 := rfl
theorem head_short {L : Ltr} {o : Option Off} {c : Option Int} (g : GLet L o c) : (headS L).length ≤ 33 := by
  have a := verbs_len _ g.verb
  unfold headS
  rw [g.code]
  cases c with
  | none =>
    show (Str.empty ++ "request " ++ L.verb).length ≤ 33
    rw [cat_len, cat_len, k_request, e_len]
    omega
  | some n =>
    have h : 0 ≤ n ∧ n ≤ 99 := (by decide : ∀ c ∈ codesL, 0 ≤ c ∧ c ≤ 99) n (g.codeOk n rfl)
    have := numS_len' h.1 (by omega)
    show (Str.empty ++ "reply " ++ numS n ++ " " ++ L.verb).length ≤ 33
    rw [cat_len, cat_len, cat_len, cat_len, k_reply, k_blank, e_len]
    omega
theorem to_short {L : Ltr} {o : Option Off} {c : Option Int} (g : GLet L o c) : (toS L).length ≤ 53 := by
  have a4 := (addr_free g.target).2.2
  unfold toS
  split
  · rename_i h
    rcases g.ttag with e | ⟨_, e⟩
    · rw [e] at h
      exact absurd h (by decide +kernel)
    · have := (tag_free e).2.2
      rw [cat_len, cat_len, cat_len, cat_len, k_to, k_blank, e_len]
      omega
  · rw [cat_len, cat_len, k_to, e_len]
    omega
theorem textOf_short {L : Ltr} {o : Option Off} {c : Option Int} (g : GLet L o c) (ho : ∀ u, o = some u → GoodO u) : (textOf (linesX L o)).length ≤ 400 := by
  have a1 := (tag_free g.call).2.2
  have a2 := (addr_free g.origin).2.2
  have a3 := (tag_free g.otag).2.2
  have a5 := (tag_free g.way).2.2
  have a6 := numS_len' g.seq0 g.seq1
  have h0 := head_short g
  have h3 := to_short g
  have sumnl : ∀ l : List Str, ((l.map fun z => z ++ ("\n" : Str)).map (·.length)).sum = (l.map (·.length)).sum + l.length := by
    intro l
    induction l with
    | nil => rfl
    | cons a r ih =>
      show (a ++ ("\n" : Str)).length + ((r.map fun z => z ++ ("\n" : Str)).map (·.length)).sum = (a.length + (r.map (·.length)).sum) + (r.length + 1)
      rw [ih, cat_len, k_nl]
      omega
  have b := join_len "" ((linesX L o).map fun z => z ++ ("\n" : Str))
  rw [sumnl, show ("" : Str).length = 0 from rfl, Nat.mul_zero, Nat.add_zero] at b
  have n9 := linesX_n L o
  have eo : ((offL o).map (·.length)).sum ≤ 132 := by
    cases o with
    | none => exact Nat.zero_le _
    | some u =>
      show (Str.empty ++ "offer " ++ wordsS u).length + 0 ≤ 132
      have := words_len (ho u rfl)
      rw [cat_len, cat_len, k_offer, e_len]
      omega
  have es : ((stayL L.stay).map (·.length)).sum ≤ 15 := by
    rcases g.stay with e | ⟨n, e, q0, q1⟩
    · rw [e]
      exact Nat.zero_le _
    · rw [e]
      show (Str.empty ++ "stay " ++ numS n).length + 0 ≤ 15
      have := numS_len' q0 (by omega)
      rw [cat_len, cat_len, k_stay, e_len]
      omega
  have eg : ((goalL L.goal).map (·.length)).sum ≤ 38 := by
    rcases g.goal with e | ⟨y, e, hy⟩
    · rw [e]
      exact Nat.zero_le _
    · rw [e]
      show (Str.empty ++ "goal " ++ y).length + 0 ≤ 38
      have := (addr_free hy).2.2
      rw [cat_len, cat_len, k_goal, e_len]
      omega
  have el : ((linesS L).map (·.length)).sum ≤ 196 := by
    show (headS L).length + ((Str.empty ++ "call " ++ L.call).length + ((Str.empty ++ "from " ++ L.origin ++ " " ++ L.otag).length + ((toS L).length + ((Str.empty ++ "seq " ++ numS L.seq).length + ((Str.empty ++ "way " ++ L.way).length + 0))))) ≤ 196
    rw [cat_len, cat_len, cat_len, cat_len, cat_len, cat_len, cat_len, cat_len, cat_len, cat_len, k_call, k_from, k_blank, k_seq, k_way, e_len]
    omega
  have et : ((linesX L o).map (·.length)).sum ≤ 381 := by
    unfold linesX
    rw [List.map_append, List.map_append, List.map_append, List.sum_append, List.sum_append, List.sum_append]
    omega
  exact Nat.le_trans b (by omega)
/-! ### a text's lines, changed -/
theorem joinL_len1 : ∀ l : List (List Nat), l ≠ [] → (TL.joinL [10] l).length + 1 = (l.map (·.length)).sum + l.length
  | [], h => absurd rfl h
  | [p], _ => by
    show p.length + 1 = (p.length + 0) + 1
    omega
  | p :: q :: r, _ => by
    have ih := joinL_len1 (q :: r) (by simp)
    show (p ++ ([10] ++ TL.joinL [10] (q :: r))).length + 1 = (p.length + ((q :: r).map (·.length)).sum) + ((q :: r).length + 1)
    rw [List.length_append, List.length_append]
    show p.length + (1 + (TL.joinL [10] (q :: r)).length) + 1 = _
    omega
theorem split_sum (t : Str) : ((Txt.split t "\n").map (·.length)).sum + (Txt.split t "\n").length = t.length + 1 := by
  have hne := split_nl t
  have e := congrArg TL.tl (StrLaws.join_split t "\n")
  rw [TL.tl_join, tl_nl] at e
  have q := joinL_len1 ((Txt.split t "\n").map TL.tl) (by simpa using hne)
  rw [e, List.map_map, List.length_map, ← len_eq] at q
  have e2 : (Txt.split t "\n").map ((fun x : List Nat => x.length) ∘ TL.tl) = (Txt.split t "\n").map (·.length) := List.map_congr_left fun z _ => (len_eq z).symm
  rw [e2] at q
  omega
theorem erase_sum : ∀ (l : List Str) (k : Nat) (h : k < l.length), ((l.eraseIdx k).map (·.length)).sum + l[k].length = (l.map (·.length)).sum
  | [], _, h => absurd h (Nat.not_lt_zero _)
  | a :: r, 0, _ => by
    show (r.map (·.length)).sum + a.length = a.length + (r.map (·.length)).sum
    omega
  | a :: r, k + 1, h => by
    have ih := erase_sum r k (Nat.lt_of_succ_lt_succ h)
    show (a.length + ((r.eraseIdx k).map (·.length)).sum) + (r[k]'(Nat.lt_of_succ_lt_succ h)).length = a.length + (r.map (·.length)).sum
    omega
theorem erase_map : ∀ (l : List Str) (k : Nat), (l.map V.str).eraseIdx k = (l.eraseIdx k).map V.str
  | [], _ => rfl
  | _ :: _, 0 => rfl
  | a :: r, k + 1 => congrArg (List.cons (V.str a)) (erase_map r k)
theorem ins_sum (l : List Str) (i : Nat) (z : Str) : ((l.take i ++ [z] ++ l.drop i).map (·.length)).sum = (l.map (·.length)).sum + z.length ∧ (l.take i ++ [z] ++ l.drop i).length = l.length + 1 := by
  have e : (l.map (·.length)).sum = ((l.take i).map (·.length)).sum + ((l.drop i).map (·.length)).sum := by
    rw [← List.sum_append, ← List.map_append, List.take_append_drop]
  constructor
  · rw [List.map_append, List.map_append, List.sum_append, List.sum_append, e]
    show ((l.take i).map (·.length)).sum + (z.length + 0) + ((l.drop i).map (·.length)).sum = _
    omega
  · rw [List.length_append, List.length_append, List.length_take, List.length_drop]
    show min i l.length + 1 + (l.length - i) = l.length + 1
    omega
/-- the text, changed at one place -/
def spChanged : Sp := fun vs H Q _ => ∃ (s c : Addr) (x : Str), vs = [.ref s, .str x] ∧ StAt H s c ∧ x.length ≤ 400 ∧ 2 ≤ (Txt.split x "\n").length ∧ ∀ z H', z.length ≤ 900 → StAt H' s c → Keep H H' s c → Q (.str z) H'
abbrev zCH : Str := "\n aAzZ09@,-~"
theorem ch_len : zCH.length = 12 := by decide +kernel
theorem S_len' (l : List Nat) : (S l).length = l.length := rfl
theorem ok_law_changed {P : Program} {w : World} {K : PySem.W.Frag} {mg : Str → Option Value} {base : Heap} {f : Addr} {fd : FuncData} (T : Tx K mg) (c_law_draw : C8.Cal P w K mg base 1 "_law_draw" spDraw []) (c_law_pick : C8.Cal P w K mg base 2 "_law_pick" spPick [])
    (F : FunD K "_law_changed" "_law_changed" (defArgs s_law_changed) (defBody s_law_changed) (defScope s_law_changed) [] [] f fd) : FnOk P w K mg base CX0 3 f fd ["state", "text"] spChanged := by
  refine F.ok sc_law_changed (fun vs H Q E h => ?_) (fun cdv A outer s0 H vs Q E hr h => ?_)
  · obtain ⟨s, c, x, rfl, _⟩ := h
    rfl
  · obtain ⟨s, c, x, rfl, st, hx, hn2, k⟩ := h
    have hx2 : x.length ≤ sizeLine := Nat.le_trans hx (by decide)
    have sz : ∀ {n : Nat}, n ≤ 1000 → n ≤ sizeLine := fun h => Nat.le_trans h (by decide)
    have hcl : (zCH ++ x).length = 12 + x.length := by rw [cat_len, ch_len]
    refine ⟨_, PSs.nox (pss_cons (ps_set (i := 2) sc_law_changed.nd rfl (Or.inl rfl) (pe_op op_add_str pe_str (pv 1))) (pss_cons (ps_set (i := 3) sc_law_changed.nd rfl (Or.inl rfl) (pe_c c_law_draw hr (by decide) rfl (pa_cons (pv 0) (pa_cons (pe_op op_add (pe_callB call_len_str rfl T.f_len PySem.boot_len (pa_cons (pv 1) pa_nil)) pe_int) pa_nil)))) (pss_cons (ps_set (i := 4) sc_law_changed.nd rfl (Or.inl rfl) (pe_c c_law_draw hr (by decide) rfl (pa_cons (pv 0) (pa_cons pe_int pa_nil)))) (C8.pss_cut (ps_if (pt_cmpR op_eq (pv 4) pe_int (nomark _)) (pss_one (ps_ret (pe_op op_add_str (pe_op op_add_str (pe_slice C8.sl_txt (pv 1) po_none (po_some (pv 3))) (pe_c c_law_pick hr (by decide) rfl (pa_cons (pv 0) (pa_cons (pv 2) pa_nil)))) (pe_slice C8.sl_txt (pv 1) (po_some (pv 3)) po_none)))) pss_nil) (C8.pss_cut (ps_if (pt_cmpR op_eq (pv 4) pe_int (nomark _)) (pss_one (ps_ret (pe_op op_add_str (pe_slice C8.sl_txt (pv 1) po_none (po_some (pv 3))) (pe_slice C8.sl_txt (pv 1) (po_some (pe_op op_add (pv 3) pe_int)) po_none)))) pss_nil) (C8.pss_cut (ps_if (pt_cmpR op_eq (pv 4) pe_int (nomark _)) (pss_one (ps_ret (pe_op op_add_str (pe_op op_add_str (pe_slice C8.sl_txt (pv 1) po_none (po_some (pv 3))) (pe_c c_law_pick hr (by decide) rfl (pa_cons (pv 0) (pa_cons (pv 2) pa_nil)))) (pe_slice C8.sl_txt (pv 1) (po_some (pe_op op_add (pv 3) pe_int)) po_none)))) pss_nil) (C8.pss_cut (ps_if (pt_cmpR op_eq (pv 4) pe_int (nomark _)) (pss_one (ps_ret (pe_slice C8.sl_txt (pv 1) po_none (po_some (pv 3))))) pss_nil) (pss_cons (ps_set (i := 5) sc_law_changed.nd rfl (Or.inl rfl) (pe_split (pv 1) pe_str)) (pss_cons (ps_set (i := 6) sc_law_changed.nd rfl (Or.inl rfl) (pe_c c_law_draw hr (by decide) rfl (pa_cons (pv 0) (pa_cons (pe_op op_sub (pe_callB call_len_seq rfl T.f_len PySem.boot_len (pa_cons (pv 5) pa_nil)) pe_int) pa_nil)))) (C8.pss_cut (ps_if (pt_cmpR op_eq (pv 4) pe_int (nomark _)) (pss_one (ps_expr (pe_bm PySem.F.plainAttrs_list PySem.F.slot_list_pop PySem.F.type_list_pop mt_popAt (pv 5) (pa_cons (pv 6) pa_nil)))) (pss_one (ps_if (pt_cmpR op_eq (pv 4) pe_int (nomark _)) (pss_one (ps_expr (pe_bm PySem.F.plainAttrs_list PySem.F.slot_list_insert PySem.F.type_list_insert mt_insert (pv 5) (pa_cons (pv 6) (pa_cons (pe_ix ix_list (pv 5) (pv 6) (fun _ _ => rfl)) pa_nil))))) (pss_cons (ps_set (i := 7) sc_law_changed.nd rfl (Or.inl rfl) (pe_bm PySem.F.plainAttrs_list PySem.F.slot_list_pop PySem.F.type_list_pop mt_popAt (pv 5) (pa_cons (pv 6) pa_nil))) (pss_one (ps_expr (pe_bm PySem.F.plainAttrs_list PySem.F.slot_list_insert PySem.F.type_list_insert mt_insert (pv 5) (pa_cons (pe_callB (call_min2 rfl) rfl T.f_min (by decide +kernel) (pa_cons (pe_op op_add (pv 6) pe_int) (pa_cons (pe_op op_sub (pe_callB call_len_seq rfl T.f_len PySem.boot_len (pa_cons (pv 5) pa_nil)) pe_int) pa_nil))) (pa_cons (pv 7) pa_nil))))))))) (pss_one (ps_ret (pe_join pe_str (pv 5)))))))))))))), ?_⟩
    refine ⟨_, rfl, _, _, rfl, rfl, sz (by show zCH.length + x.length ≤ 1000; rw [ch_len]; omega), ?_⟩
    refine ⟨_, rfl, _, rfl, x, rfl, hx2, _, _, rfl, rfl, s, c, _, rfl, st, by omega, by omega, fun i H1 i0 i1 st1 kp1 => ?_⟩
    refine ⟨_, rfl, s, c, 7, rfl, st1, by decide, by decide, fun r H2 r0 r1 st2 kp2 => ?_⟩
    have kp := kp1.trans kp2
    have l1 : (Txt.slice x none (some i)).length = i.toNat := by
      rw [slTo x i0, S_len', List.length_take, ← len_eq]
      omega
    have l2 : (Txt.slice x (some i) none).length = x.length - i.toNat := by
      rw [slFrom x i0, S_len', List.length_drop, ← len_eq]
    have l3 : (Txt.slice x (some (i + 1)) none).length = x.length - (i + 1).toNat := by
      rw [slFrom x (by omega), S_len', List.length_drop, ← len_eq]
    change C8.tCut _ _ _ [some (.ref s), some (.str x), some (.str (zCH ++ x)), some (.int i), some (.int r), none, none, none] H2
    have hc0 : 0 < (zCH ++ x).length := by omega
    have hc1 : (zCH ++ x).length ≤ 1000 := by omega
    generalize zCH ++ x = cs at *
    -- a sign put in
    refine ⟨fun σ' H' => σ' = [some (.ref s), some (.str x), some (.str cs), some (.int i), some (.int r), none, none, none] ∧ H' = H2, ⟨_, rfl, rfl, _, rfl, ite2 (fun _ => ?_) (fun _ => ⟨rfl, rfl⟩)⟩, ?_⟩
    · refine ⟨_, rfl, _, rfl, i, rfl, x, rfl, hx2, _, rfl, _, rfl, s, c, _, rfl, st2, .inl ⟨cs, rfl, hc0, hc1, fun ch H3 hc st3 kp3 => ?_⟩⟩
      refine ⟨_, _, rfl, rfl, sz (by rw [l1, S_len']; show i.toNat + 1 ≤ 1000; omega), ?_⟩
      refine ⟨_, rfl, _, rfl, i, rfl, x, rfl, hx2, _, _, rfl, rfl, sz (by rw [cat_len, l1, l2, S_len']; show i.toNat + 1 + (x.length - i.toNat) ≤ 1000; omega), ?_⟩
      refine k _ H3 ?_ st3 (kp.trans kp3)
      rw [cat_len, cat_len, l1, l2, S_len']
      show i.toNat + 1 + (x.length - i.toNat) ≤ 900
      omega
    rintro σ' H' ⟨rfl, e9⟩
    obtain rfl : H2 = H' := e9.symm
    -- a sign left out
    refine ⟨fun σ' H' => σ' = [some (.ref s), some (.str x), some (.str cs), some (.int i), some (.int r), none, none, none] ∧ H' = H2, ⟨_, rfl, rfl, _, rfl, ite2 (fun _ => ?_) (fun _ => ⟨rfl, rfl⟩)⟩, ?_⟩
    · refine ⟨_, rfl, _, rfl, i, rfl, x, rfl, hx2, _, rfl, _, rfl, _, _, rfl, rfl, _, rfl, x, rfl, hx2, _, _, rfl, rfl, sz (by rw [l1, l3]; omega), ?_⟩
      refine k _ H2 ?_ st2 kp
      rw [cat_len, l1, l3]
      omega
    rintro σ' H' ⟨rfl, e9⟩
    obtain rfl : H2 = H' := e9.symm
    -- a sign replaced
    refine ⟨fun σ' H' => σ' = [some (.ref s), some (.str x), some (.str cs), some (.int i), some (.int r), none, none, none] ∧ H' = H2, ⟨_, rfl, rfl, _, rfl, ite2 (fun _ => ?_) (fun _ => ⟨rfl, rfl⟩)⟩, ?_⟩
    · refine ⟨_, rfl, _, rfl, i, rfl, x, rfl, hx2, _, rfl, _, rfl, s, c, _, rfl, st2, .inl ⟨cs, rfl, hc0, hc1, fun ch H4 hc st4 kp4 => ?_⟩⟩
      refine ⟨_, _, rfl, rfl, sz (by rw [l1, S_len']; show i.toNat + 1 ≤ 1000; omega), ?_⟩
      refine ⟨_, rfl, _, rfl, _, _, rfl, rfl, _, rfl, x, rfl, hx2, _, _, rfl, rfl, sz (by rw [cat_len, l1, l3, S_len']; show i.toNat + 1 + (x.length - (i + 1).toNat) ≤ 1000; omega), ?_⟩
      refine k _ H4 ?_ st4 (kp.trans kp4)
      rw [cat_len, cat_len, l1, l3, S_len']
      show i.toNat + 1 + (x.length - (i + 1).toNat) ≤ 900
      omega
    rintro σ' H' ⟨rfl, e9⟩
    obtain rfl : H2 = H' := e9.symm
    -- the text, cut
    refine ⟨fun σ' H' => σ' = [some (.ref s), some (.str x), some (.str cs), some (.int i), some (.int r), none, none, none] ∧ H' = H2, ⟨_, rfl, rfl, _, rfl, ite2 (fun _ => ?_) (fun _ => ⟨rfl, rfl⟩)⟩, ?_⟩
    · refine ⟨_, rfl, _, rfl, i, rfl, x, rfl, hx2, ?_⟩
      exact k _ H2 (by rw [l1]; omega) st2 kp
    rintro σ' H' ⟨rfl, e9⟩
    obtain rfl : H2 = H' := e9.symm
    -- the lines
    have hz2 : x.length + 2 ≤ sizeLine := Nat.le_trans (Nat.add_le_add_right hx 2) (by decide)
    refine ⟨_, rfl, ⟨_, rfl⟩, x, "\n", rfl, rfl, by decide +kernel, hz2, fun l hl => ?_⟩
    obtain ⟨ls_, lc_⟩ := st2.tracked hl
    have hsum := split_sum x
    have st3 := st2.upd (o := .lst ((Txt.split x "\n").map V.str)) ls_ lc_
    have kp3 := kp.upd (o := .lst ((Txt.split x "\n").map V.str)) (kp.none hl ls_ lc_)
    have el : (upd H2 l (.lst ((Txt.split x "\n").map V.str))) l = some (.lst ((Txt.split x "\n").map V.str)) := upd_same
    generalize Txt.split x "\n" = ls at *
    generalize upd H2 l (.lst (ls.map V.str)) = H3 at *
    refine ⟨_, rfl, _, rfl, l, _, rfl, .inl (SqL.of el), _, _, rfl, rfl, s, c, _, rfl, st3, by rw [List.length_map]; omega, by rw [List.length_map]; omega, fun q H4 q0 q1 st4 kp4 => ?_⟩
    rw [List.length_map] at q1
    have hq : q.toNat < ls.length := by omega
    have el4 := kp4 l _ el ls_ lc_
    have hlH : H l = none := kp.none hl ls_ lc_
    have kp5 := kp3.trans kp4
    have hle : ∀ z ∈ ls, z.length ≤ 401 := fun z hz => by
      obtain ⟨j, hj, rfl⟩ := List.mem_iff_getElem.mp hz
      have := erase_sum ls j hj
      omega
    have hat : atI (ls.map V.str) q = some (.str ls[q.toNat]) := by
      have := atN2 ls q.toNat hq
      rw [show ((q.toNat : Nat) : Int) = q by omega] at this
      exact this
    have hsq : seqIndex? q (ls.map V.str).length = some q.toNat := sqP q0 (by rw [List.length_map]; omega)
    have hg : (ls.map V.str)[q.toNat]? = some (.str ls[q.toNat]) := by
      rw [List.getElem?_map, List.getElem?_eq_getElem hq]
      rfl
    have hes := erase_sum ls q.toNat hq
    have hel : (ls.eraseIdx q.toNat).length + 1 = ls.length := by
      rw [List.length_eraseIdx, if_pos hq]
      omega
    have hem : (ls.map V.str).eraseIdx q.toNat = (ls.eraseIdx q.toNat).map V.str := erase_map _ _
    have hlq := hle _ (List.getElem_mem hq)
    have hin : ∀ (l0 : List Str) (j : Nat) (z : Str), (l0.map V.str).take j ++ [V.str z] ++ (l0.map V.str).drop j = (l0.take j ++ [z] ++ l0.drop j).map V.str := fun l0 j z => by
      rw [List.map_append, List.map_append, List.map_take, List.map_drop]
      rfl
    refine ⟨fun σ' H' => ∃ v7 : Option V, σ' = [some (.ref s), some (.str x), some (.str cs), some (.int i), some (.int r), some (.ref l), some (.int q), v7] ∧ StAt H' s c ∧ Keep H H' s c ∧ ∃ ls2 : List Str, H' l = some (.lst (ls2.map V.str)) ∧ (ls2.map (·.length)).sum + ls2.length ≤ 900, ?_, ?_⟩
    · refine ⟨_, rfl, rfl, _, rfl, ite2 (fun _ => ?_) (fun _ => ?_)⟩
      · refine ⟨_, rfl, .inl ⟨rfl, _, SqL.of el4⟩, _, rfl, l, _, q, q.toNat, .str ls[q.toNat], rfl, rfl, el4, by omega, by omega, hsq, hg, none, rfl, st4.upd ls_ lc_, kp5.upd hlH, ls.eraseIdx q.toNat, ?_, by omega⟩
        rw [upd_same, hem]
      · refine ⟨_, rfl, rfl, _, rfl, ite2 (fun _ => ?_) (fun _ => ?_)⟩
        · refine ⟨_, rfl, .inl ⟨rfl, _, SqL.of el4⟩, _, rfl, _, rfl, _, rfl, l, _, q, _, rfl, rfl, SqL.of el4, hat, l, _, q, _, rfl, rfl, el4, by rw [List.length_map]; exact Nat.lt_of_le_of_lt (by omega : ls.length ≤ 401) (by decide), q0, by omega, none, rfl, st4.upd ls_ lc_, kp5.upd hlH, ls.take q.toNat ++ [ls[q.toNat]] ++ ls.drop q.toNat, ?_, ?_⟩
          · rw [upd_same, hin]
          · obtain ⟨e1, e2⟩ := ins_sum ls q.toNat ls[q.toNat]
            rw [e1, e2]
            omega
        · refine ⟨_, rfl, .inl ⟨rfl, _, SqL.of el4⟩, _, rfl, l, _, q, q.toNat, .str ls[q.toNat], rfl, rfl, el4, by omega, by omega, hsq, hg, ?_⟩
          rw [hem]
          have e5 : (upd H4 l (.lst ((ls.eraseIdx q.toNat).map V.str))) l = some (.lst ((ls.eraseIdx q.toNat).map V.str)) := upd_same
          have st5 := st4.upd (o := .lst ((ls.eraseIdx q.toNat).map V.str)) ls_ lc_
          have kp6 := kp5.upd (o := .lst ((ls.eraseIdx q.toNat).map V.str)) hlH
          generalize upd H4 l (.lst ((ls.eraseIdx q.toNat).map V.str)) = H5 at *
          have hmin : ∀ a b : Int, 0 ≤ a → a ≤ 500 → 0 ≤ b → b ≤ 500 → 0 ≤ (if b < a then b else a) ∧ (if b < a then b else a) ≤ 500 := fun a b _ _ _ _ => by split <;> omega
          obtain ⟨m0, m1⟩ := hmin (q + 1) ((((ls.eraseIdx q.toNat).map V.str).length : Nat) - 1 : Int) (by omega) (by omega) (by rw [List.length_map]; omega) (by rw [List.length_map]; omega)
          refine ⟨_, rfl, .inl ⟨rfl, _, SqL.of e5⟩, _, rfl, _, _, rfl, rfl, _, rfl, l, _, rfl, .inl (SqL.of e5), _, _, rfl, rfl, _, _, rfl, _, rfl, l, _, _, _, rfl, rfl, e5, by rw [List.length_map]; exact Nat.lt_of_le_of_lt (by omega : _ ≤ 401) (by decide), m0, by omega, _, rfl, st5.upd ls_ lc_, kp6.upd hlH, (ls.eraseIdx q.toNat).take (if ((((ls.eraseIdx q.toNat).map V.str).length : Nat) - 1 : Int) < q + 1 then ((((ls.eraseIdx q.toNat).map V.str).length : Nat) - 1 : Int) else q + 1).toNat ++ [ls[q.toNat]] ++ (ls.eraseIdx q.toNat).drop (if ((((ls.eraseIdx q.toNat).map V.str).length : Nat) - 1 : Int) < q + 1 then ((((ls.eraseIdx q.toNat).map V.str).length : Nat) - 1 : Int) else q + 1).toNat, ?_, ?_⟩
          · rw [upd_same, hin]
          · obtain ⟨e1, e2⟩ := ins_sum (ls.eraseIdx q.toNat) (if ((((ls.eraseIdx q.toNat).map V.str).length : Nat) - 1 : Int) < q + 1 then ((((ls.eraseIdx q.toNat).map V.str).length : Nat) - 1 : Int) else q + 1).toNat ls[q.toNat]
            rw [e1, e2]
            omega
    rintro σ' H5 ⟨v7, rfl, st5, kp6, ls2, e5, hb⟩
    have hj := join_len "\n" ls2
    rw [k_nl, Nat.mul_one] at hj
    refine ⟨⟨_, rfl⟩, _, rfl, "\n", l, ls2, rfl, rfl, .inl (SqL.of e5), ?_, k _ _ (by omega) st5 kp6⟩
    rw [k_nl, Nat.mul_one]
    exact Nat.le_trans hb (by decide)
end K4
set_option maxHeartbeats 4000000
set_option pp.maxSteps 400
namespace K4
open PySem PySem.Spec PyProof.Rows L2 SX TK TKS
open C8 (pe_c)
/-! ### a line, right or wrong -/
def keysL : List Str := ["call", "from", "to", "seq", "way", "offer", "stay", "goal"]
theorem sing_st {key w : Str} {x : V} (h : Sing key w x) : stB key [w] = true := by
  cases h with
  | seq h =>
    rw [st_seq]
    show (!decide (numV w 999999 = .non)) = true
    rw [h]
    rfl
  | stay h =>
    rw [st_stay]
    show (!decide (numV w 9999 = .non)) = true
    rw [h]
    rfl
  | goal h =>
    rw [st_goal]
    exact h
  | call h =>
    rw [st_call]
    exact h
  | way h =>
    rw [st_way]
    exact h
theorem line_parts {line : Str} (hl : line.length ≤ 900) : (∀ z ∈ hdW line :: tlW line, z.length ≤ 1000) ∧ (hdW line :: tlW line).length ≤ 1000 := by
  rw [← hd_tl]
  refine ⟨fun z hz => Nat.le_trans (part_len hz) (by omega), ?_⟩
  have := PyProof.Rows.split_le line " "
  omega
theorem line_any {key line : Str} (hk : key ∈ keysL) (hl : line.length ≤ 900) {H : Hp} {Q : VK} {E : XK}
    (k1 : (hdW line = key ∧ stB key (tlW line) = true) → ∀ d kvs H', Same H H' → H d = none → H' d = some (.dK kvs) → kvs.length ≤ 2 → Q (.ref d) H')
    (k0 : ¬ (hdW line = key ∧ stB key (tlW line) = true) → ∀ H', Same H H' → Q .non H') : spLine [.str key, .str line] H Q E := by
  obtain ⟨p1, p2⟩ := line_parts hl
  refine ⟨key, line, hdW line :: tlW line, rfl, hd_tl line, by omega, p1, p2, ?_⟩
  by_cases h1 : hdW line = key
  · by_cases h2 : stB key (tlW line) = true
    · have kk := k1 ⟨h1, h2⟩
      rw [h1]
      clear k0 k1 h1 p1 p2
      simp only [keysL, List.mem_cons, List.not_mem_nil, or_false] at hk
      rcases hk with rfl | rfl | rfl | rfl | rfl | rfl | rfl | rfl
      · rw [st_call] at h2
        obtain ⟨w, e, h⟩ := is1_inv h2
        rw [e]
        exact .inr (.inr (.inr (.inr (.inl ⟨w, _, rfl, .call h, fun d H' s hd q => kk d _ H' s hd q (by show 1 ≤ 2; decide)⟩))))
      · rw [st_from] at h2
        obtain ⟨o, t, e, h⟩ := is2_inv h2
        rw [Bool.and_eq_true] at h
        rw [e]
        exact .inr (.inl ⟨o, t, rfl, rfl, h.1, h.2, fun d H' s hd q => kk d _ H' s hd q (by show 2 ≤ 2; decide)⟩)
      · by_cases h3 : (tlW line).length = 1
        · obtain ⟨t, e⟩ : ∃ t, tlW line = [t] := by
            match tlW line, h3 with
            | [t], _ => exact ⟨t, rfl⟩
          rw [e, st_to1] at h2
          rw [e]
          exact .inr (.inr (.inl ⟨t, "", rfl, rfl, h2, .inl rfl, fun d H' s hd q => kk d _ H' s hd q (by show 2 ≤ 2; decide)⟩))
        · rw [st_to2 h3] at h2
          obtain ⟨o, t, e, h⟩ := is2_inv h2
          rw [Bool.and_eq_true] at h
          have ht : t.length ≠ 0 := fun z => by
            have := (consB_len h.2).1
            rw [len_eq] at z
            omega
          rw [e]
          refine .inr (.inr (.inl ⟨o, t, rfl, ?_, h.1, .inr ⟨ht, h.2⟩, fun d H' s hd q => kk d _ H' s hd q (by show 2 ≤ 2; decide)⟩))
          unfold tgW
          rw [if_neg ht]
      · rw [st_seq] at h2
        obtain ⟨w, e, h⟩ := is1_inv h2
        obtain ⟨n, h⟩ := num_inv h
        rw [e]
        exact .inr (.inr (.inr (.inr (.inl ⟨w, _, rfl, .seq h, fun d H' s hd q => kk d _ H' s hd q (by show 1 ≤ 2; decide)⟩))))
      · rw [st_way] at h2
        obtain ⟨w, e, h⟩ := is1_inv h2
        rw [e]
        exact .inr (.inr (.inr (.inr (.inl ⟨w, _, rfl, .way h, fun d H' s hd q => kk d _ H' s hd q (by show 1 ≤ 2; decide)⟩))))
      · rw [st_off] at h2
        obtain ⟨u, hu⟩ := Option.isSome_iff_exists.mp h2
        exact .inr (.inr (.inr (.inl ⟨tlW line, u, rfl, rfl, hu, fun d x H' s hd _ q => kk d _ H' s hd q (by show 1 ≤ 2; decide)⟩)))
      · rw [st_stay] at h2
        obtain ⟨w, e, h⟩ := is1_inv h2
        obtain ⟨n, h⟩ := num_inv h
        rw [e]
        exact .inr (.inr (.inr (.inr (.inl ⟨w, _, rfl, .stay h, fun d H' s hd q => kk d _ H' s hd q (by show 1 ≤ 2; decide)⟩))))
      · rw [st_goal] at h2
        obtain ⟨w, e, h⟩ := is1_inv h2
        rw [e]
        exact .inr (.inr (.inr (.inr (.inl ⟨w, _, rfl, .goal h, fun d H' s hd q => kk d _ H' s hd q (by show 1 ≤ 2; decide)⟩))))
    · refine .inr (.inr (.inr (.inr (.inr ⟨tlW line, by rw [h1], ?_, k0 fun q => h2 q.2⟩))))
      clear k0 k1 h1 p1 p2
      simp only [keysL, List.mem_cons, List.not_mem_nil, or_false] at hk
      have hs : ∀ w x, tlW line = [w] → ¬ Sing key w x := fun w x e q => h2 (e ▸ sing_st q)
      rcases hk with rfl | rfl | rfl | rfl | rfl | rfl | rfl | rfl
      · exact .inr (.inr (.inr ⟨by simp, hs⟩))
      · refine .inl ⟨rfl, fun o t e a b => h2 ?_⟩
        rw [st_from, e]
        show ((splitB o).isSome && tagB t) = true
        rw [a, b]
        rfl
      · refine .inr (.inl ⟨rfl, fun t e => ?_, fun o t e a b => h2 ?_⟩)
        · rw [e, st_to1] at h2
          exact ef h2
        · rw [st_to2 (by rw [e]; simp), e]
          show ((splitB o).isSome && tagB t) = true
          rw [a, b]
          rfl
      · exact .inr (.inr (.inr ⟨by simp, hs⟩))
      · exact .inr (.inr (.inr ⟨by simp, hs⟩))
      · refine .inr (.inr (.inl ⟨rfl, ?_⟩))
        rw [st_off] at h2
        cases q : readO (tlW line) with
        | none => rfl
        | some u => rw [q] at h2; exact absurd rfl h2
      · exact .inr (.inr (.inr ⟨by simp, hs⟩))
      · exact .inr (.inr (.inr ⟨by simp, hs⟩))
  · exact .inl ⟨_, _, rfl, h1, k0 fun q => h1 q.1⟩
theorem head_any {line : Str} {l : Addr} (hl : line.length ≤ 900) {H : Hp} {Q : VK} {E : XK} (el : H l = some (.lst ((Txt.split line " ").map V.str)))
    (k1 : (hdW line ∈ nmS 0 moreL ∧ stB (hdW line) (tlW line) = true) → ∀ d kvs H', Same H H' → H d = none → H' d = some (.dK kvs) → kvs.length ≤ 2 → Q (.ref d) H')
    (k0 : ¬ (hdW line ∈ nmS 0 moreL ∧ stB (hdW line) (tlW line) = true) → ∀ H', Same H H' → Q .non H') : spReadHead [.ref l] H Q E := by
  obtain ⟨p1, p2⟩ := line_parts hl
  rw [hd_tl] at el
  by_cases h : hdW line ∈ nmS 0 moreL ∧ stB (hdW line) (tlW line) = true
  · obtain ⟨verb, cd, hverb, hcd, e0⟩ : ∃ verb cd, verb ∈ verbsL ∧ (∀ n, cd = some n → n ∈ codesL) ∧ hdW line :: tlW line = headW verb cd := by
      obtain ⟨h1, s0⟩ := h
      have q : hdW line = "request" ∨ hdW line = "reply" := by
        have n0' : hdW line ∈ (["request", "reply"] : List Str) := h1
        simpa using n0'
      rcases q with q | q
      · rw [q, st_req] at s0
        obtain ⟨v, ev, g⟩ := is1_inv s0
        exact ⟨v, none, of_decide_eq_true g, (fun _ q => nomatch q), by rw [q, ev]; rfl⟩
      · rw [q, st_rep] at s0
        obtain ⟨c, v, ev, g⟩ := is2_inv s0
        rw [Bool.and_eq_true] at g
        obtain ⟨m, hm, ec⟩ := codes_s c (of_decide_eq_true g.1)
        exact ⟨v, some m, of_decide_eq_true g.2, fun n q => by rw [← Option.some.inj q]; exact hm, by rw [q, ev, ec]; rfl⟩
    refine .inl ⟨l, verb, cd, rfl, by rw [el, e0], hverb, hcd, fun d H' s hd q => k1 h d _ H' s hd q ?_⟩
    cases cd
    · show 1 ≤ 2
      decide
    · show 2 ≤ 2
      decide
  · refine .inr ⟨l, _, rfl, el, by simp, p1, fun v c hv hc e => h ?_, k0 h⟩
    cases c with
    | none =>
      obtain ⟨e1, e2⟩ := List.cons.inj (show hdW line :: tlW line = ("request" : Str) :: [v] from e)
      rw [e1, e2, st_req]
      exact ⟨by decide +kernel, decide_eq_true hv⟩
    | some n =>
      obtain ⟨e1, e2⟩ := List.cons.inj (show hdW line :: tlW line = ("reply" : Str) :: [numS n, v] from e)
      rw [e1, e2, st_rep]
      refine ⟨by decide +kernel, ?_⟩
      show (decide (numS n ∈ codesS) && decide (v ∈ verbsL)) = true
      have : numS n ∈ codesS := by
        have e : codesS = codesL.map numS := by decide +kernel
        rw [e]
        exact List.mem_map.mpr ⟨n, hc n rfl, rfl⟩
      rw [decide_eq_true this, decide_eq_true hv]
      rfl
/-- a key that does not fit changes nothing -/
theorem flt_skip {nn j : Nat} {l : Str} {r : List Str} (hn : 6 ≤ nn) (hj : j < 3) (h : r = [] ∨ ¬ (hdW l = keyP j ∧ stB (keyP j) (tlW l) = true)) : flt nn (moreL.drop j) (l :: r) = flt nn (moreL.drop (j + 1)) (l :: r) := by
  cases r with
  | nil => rfl
  | cons a r =>
    have h1 := h.resolve_left (by simp)
    clear h
    generalize hR : a :: r = R at *
    have hR2 : R ≠ [] := by rw [← hR]; simp
    rw [flt_more hR2, flt_more hR2]
    have en : ∀ m, nmS nn m = m := fun m => by
      unfold nmS
      rw [if_neg (by omega)]
    rw [en, en, if_neg (show ¬ nn < 6 by omega), if_neg (show ¬ nn < 6 by omega)]
    have ed : moreL.drop j = keyP j :: moreL.drop (j + 1) := by
      match j, hj with
      | 0, _ => rfl
      | 1, _ => rfl
      | 2, _ => rfl
    rw [ed]
    by_cases e : hdW l = keyP j
    · have hs : ¬ stB (hdW l) (tlW l) = true := fun q => h1 ⟨e, e ▸ q⟩
      rw [if_neg fun q => hs q.2, if_neg fun q => hs q.2]
    · have e1 : (keyP j :: moreL.drop (j + 1)).idxOf (hdW l) = (moreL.drop (j + 1)).idxOf (hdW l) + 1 := by
        rw [List.idxOf_cons, show (keyP j == hdW l) = false from beq_eq_false_iff_ne.mpr fun q => e q.symm]
        rfl
      rw [e1, List.drop_succ_cons]
      by_cases g : hdW l ∈ moreL.drop (j + 1) ∧ stB (hdW l) (tlW l) = true
      · rw [if_pos g, if_pos ⟨List.mem_cons_of_mem _ g.1, g.2⟩]
      · rw [if_neg g, if_neg fun q => g ⟨(List.mem_cons.mp q.1).resolve_left e, q.2⟩]
theorem flt_take {nn j : Nat} {l : Str} {r : List Str} (hn : 6 ≤ nn) (hj : j < 3) (hr : r ≠ []) (h : hdW l = keyP j ∧ stB (keyP j) (tlW l) = true) : flt nn (moreL.drop j) (l :: r) = flt (nn + 1) (moreL.drop (j + 1)) r := by
  rw [flt_more hr]
  have en : ∀ m, nmS nn m = m := fun m => by
    unfold nmS
    rw [if_neg (by omega)]
  have ed : moreL.drop j = keyP j :: moreL.drop (j + 1) := by
    match j, hj with
    | 0, _ => rfl
    | 1, _ => rfl
    | 2, _ => rfl
  rw [en, if_neg (show ¬ nn < 6 by omega), ed, h.1, if_pos ⟨List.mem_cons_self .., h.2⟩, List.idxOf_cons, show (keyP j == keyP j) = true from beq_self_eq_true _]
  rfl
theorem flt_need {i : Nat} {l : Str} {r : List Str} (hi : i < 5) (hr : r ≠ []) : flt (i + 1) moreL (l :: r) = if hdW l = keyI i ∧ stB (keyI i) (tlW l) = true then flt (i + 2) moreL r else i + 2 := by
  rw [flt_more hr, if_pos (show i + 1 < 6 by omega)]
  have en : nmS (i + 1) moreL = [keyI i] := by
    match i, hi with
    | 0, _ => rfl
    | 1, _ => rfl
    | 2, _ => rfl
    | 3, _ => rfl
    | 4, _ => rfl
  rw [en]
  by_cases e : hdW l = keyI i
  · rw [e]
    by_cases g : stB (keyI i) (tlW l) = true
    · rw [if_pos ⟨List.mem_singleton.mpr rfl, g⟩, if_pos ⟨rfl, g⟩]
    · rw [if_neg fun q => g q.2, if_neg fun q => g q.2]
  · rw [if_neg fun q => e (List.mem_singleton.mp q.1), if_neg fun q => e q.1]
end K4
set_option maxHeartbeats 4000000
set_option pp.maxSteps 400
namespace K4
open PySem PySem.Spec PyProof.Rows L2 SX TK TKS
open C8 (pe_c)
abbrev ssS : List Str → (List V → List V → List V) → Prop := SsOk "self" ["verb", "call", "origin", "origin_tag", "target", "target_tag", "seq", "way", "code", "offer", "stay", "goal"] ["verb", "call", "origin", "origin_tag", "target", "target_tag", "seq", "way"]
abbrev namesP : List Str := ["verb", "call", "origin", "origin_tag", "target", "target_tag", "seq", "way", "code", "offer", "stay", "goal"]
theorem all_in : ∀ b : Bool, ∀ k ∈ KK b 5 ++ (List.range 3).map keyP, k ∈ namesP ∧ k ≠ "self" := by decide +kernel
theorem need_in : ∀ b : Bool, ∀ k ∈ (["verb", "call", "origin", "origin_tag", "target", "target_tag", "seq", "way"] : List Str), k ∈ KK b 5 := by decide +kernel
theorem ext_ss {L : Ltr} {o : Option Off} {H : Hp} {kx : List Str} {zx : List V} (b : Bool) (h : ExtAt L o H 3 kx zx) : ssS (KK b 5 ++ kx) (fun vs zs => vs ++ byNameV namesP (KK b 5 ++ kx) zs) := by
  have sub : (KK b 5 ++ kx).Sublist (KK b 5 ++ (List.range 3).map keyP) := (List.Sublist.refl _).append h.sub.1
  refine ⟨List.nodup_cons.mpr ⟨fun m => (all_in b _ (sub.subset m)).2 rfl, (PK_nd b 3 (by decide)).sublist sub⟩, fun k hk => (all_in b k (sub.subset hk)).1, fun k hk => List.mem_append_left _ (need_in b k hk), rfl⟩
theorem ext_args {L : Ltr} {o : Option Off} {c : Option Int} {H : Hp} {kx : List Str} {zx : List V} (g : GLet L o c) (h : ExtAt L o H 3 kx zx) : ∃ ox, OffO H ox o ∧ byNameV namesP (KK c.isSome 5 ++ kx) (ZZ L c 5 ++ zx) = ({ L with offer := ox } : Ltr).args := by
  obtain ⟨k2, z2, ⟨k1, z1, ⟨k0, z0, ⟨rfl, rfl⟩, q0⟩, q1⟩, q2⟩ := h
  have hc := g.code
  have hst : stayL L.stay = [] → L.stay = .non := fun e => by
    rcases g.stay with q | ⟨n, q, _⟩
    · exact q
    · rw [q] at e
      cases e
  have hgl : goalL L.goal = [] → L.goal = .non := fun e => by
    rcases g.goal with q | ⟨n, q, _⟩
    · exact q
    · rw [q] at e
      cases e
  obtain ⟨ox, hox, e0⟩ : ∃ ox, OffO H ox o ∧ ((k1 = [] ∧ z1 = [] ∧ ox = .non) ∨ (k1 = [("offer" : Str)] ∧ z1 = [ox])) := by
    rcases q0 with ⟨e, rfl, rfl⟩ | ⟨z, x, e, ⟨u, rfl, hu⟩, rfl, rfl⟩
    · cases o with
      | none => exact ⟨.non, rfl, .inl ⟨rfl, rfl, rfl⟩⟩
      | some u => cases e
    · exact ⟨x, hu, .inr ⟨rfl, rfl⟩⟩
  refine ⟨ox, hox, ?_⟩
  obtain ⟨verb, call, origin, otag, target, ttag, seq, way, code, offer, stay, goal⟩ := L
  cases hc
  have e1 : (k2 = k1 ∧ z2 = z1 ∧ stay = .non) ∨ (k2 = k1 ++ [("stay" : Str)] ∧ z2 = z1 ++ [stay]) := by
    rcases q1 with ⟨e, rfl, rfl⟩ | ⟨z, x, e, hx, rfl, rfl⟩
    · exact .inl ⟨rfl, rfl, hst e⟩
    · cases (show x = stay from hx)
      exact .inr ⟨rfl, rfl⟩
  have e2 : (kx = k2 ∧ zx = z2 ∧ goal = .non) ∨ (kx = k2 ++ [("goal" : Str)] ∧ zx = z2 ++ [goal]) := by
    rcases q2 with ⟨e, rfl, rfl⟩ | ⟨z, x, e, hx, rfl, rfl⟩
    · exact .inl ⟨rfl, rfl, hgl e⟩
    · cases (show x = goal from hx)
      exact .inr ⟨rfl, rfl⟩
  clear q0 q1 q2 hst hgl g hox
  cases c with
  | none =>
    rcases e0 with ⟨rfl, rfl, rfl⟩ | ⟨rfl, rfl⟩ <;> rcases e1 with ⟨rfl, rfl, rfl⟩ | ⟨rfl, rfl⟩ <;> rcases e2 with ⟨rfl, rfl, rfl⟩ | ⟨rfl, rfl⟩ <;> rfl
  | some n =>
    rcases e0 with ⟨rfl, rfl, rfl⟩ | ⟨rfl, rfl⟩ <;> rcases e1 with ⟨rfl, rfl, rfl⟩ | ⟨rfl, rfl⟩ <;> rcases e2 with ⟨rfl, rfl, rfl⟩ | ⟨rfl, rfl⟩ <;> rfl
theorem isI_small {i : Int} (h : i.natAbs < 1000000000) : TKE.isI (.int i) := ⟨i, rfl, numS_log h, Nat.le_trans (numS_len h) (by decide)⟩
theorem drop_in {B : List Str} {r : Str} {k : Nat} (h : k < B.length) : (B ++ [r]).drop k = B[k] :: (B ++ [r]).drop (k + 1) := by
  rw [List.drop_eq_getElem_cons (by rw [List.length_append]; omega), List.getElem_append_left h]
theorem drop_end (B : List Str) (r : Str) : (B ++ [r]).drop B.length = [r] := by simp
theorem drop_ne {B : List Str} {r : Str} {k : Nat} (h : k ≤ B.length) : (B ++ [r]).drop k ≠ [] := fun e => by
  have := congrArg List.length e
  rw [List.length_drop, List.length_append] at this
  have : B.length + 1 - k = 0 := this
  omega
theorem keyI_in : ∀ i < 5, keyI i ∈ keysL := by decide +kernel
theorem keyP_in : ∀ j < 3, keyP j ∈ keysL := by decide +kernel
def spRead4 (K : PySem.W.Frag) : Sp := fun vs H Q E => ∃ z : Str, vs = [.str z] ∧ z.length ≤ 900 ∧
  (flt 0 moreL (Txt.split z "\n") = 0 → ∀ L o c a x H', GLet L o c → (∀ u, o = some u → GoodO u) → z = textOf (linesX L o) → Same H H' → OffO H' x o → LetAt K H' a { L with offer := x } → Q (.ref a) H') ∧
  (flt 0 moreL (Txt.split z "\n") ≠ 0 → ∀ d H', Same H H' → H' d = some (.xd [("line", .int (flt 0 moreL (Txt.split z "\n") : Nat))]) → E (.ref (He.ga K "LetterError")) (some d) H')
theorem ok_read {P : Program} {w : World} {K : PySem.W.Frag} {mg : Str → Option Value} {base : Heap} {f : Addr} {fd : FuncData} (T : Tx K mg) (x_LetterError : TKE.ExcMk P w K mg base "LetterError" (He.ga K "LetterError") "line" TKE.isI) (c_read_head : C8.Cal P w K mg base 3 "_read_head" spReadHead []) (c_read_line : C8.Cal P w K mg base 6 "_read_line" spLine []) (c_mk_Letter_ss : TK.MakS P w K mg base 1 "Letter" (He.ga K "Letter") (spLetInit K) (TK.SsOk "self" ["verb", "call", "origin", "origin_tag", "target", "target_tag", "seq", "way", "code", "offer", "stay", "goal"] ["verb", "call", "origin", "origin_tag", "target", "target_tag", "seq", "way"]))
    (F : FunD K "read" "read" (defArgs s_read) (defBody s_read) (defScope s_read) [] [] f fd) : FnOk P w K mg base (L2.CX P w) 7 f fd ["text"] (spRead4 K) := by
  refine F.ok sc_read (fun vs H Q E h => ?_) (fun cdv A outer s H vs Q E hr h => ?_)
  · obtain ⟨z, rfl, _⟩ := h
    rfl
  obtain ⟨z, rfl, hz9, kR, kW⟩ := h
  refine ⟨_, (pss_cons (ps_set (i := 1) sc_read.nd rfl (Or.inl rfl) (pe_split (pv 0) pe_str)) (pss_cons (ps_set (i := 2) sc_read.nd rfl (Or.inl rfl) (pe_bm0 PySem.F.plainAttrs_list PySem.F.slot_list_pop PySem.F.type_list_pop mt_pop (pv 1))) (pss_cons (ps_set (i := 3) sc_read.nd rfl (Or.inl rfl) (pe_ifExp (pt_truth (pv 1) (fun _ => rfl)) (pe_c c_read_head hr (by decide) rfl (pa_cons (pe_split (pe_ix ix_list (pv 1) pe_int (fun _ _ => rfl)) pe_str) pa_nil)) pe_non)) (C8.pss_cut (ps_if (pt_cmpR op_isN (pv 3) pe_non (nomark _)) (pss_one (TKE.ps_raiseE x_LetterError rfl (takes_of rfl rfl rfl rfl) hr (by decide) rfl pe_int)) pss_nil) (pss_cons (ps_set (i := 4) sc_read.nd rfl (Or.inl rfl) pe_int) (pss_cons (ps_for (passes_of rfl) rfl (pi_tup (pgR T.g_NEEDED)) (pg_name (i := 5) sc_read.nd rfl (Or.inl rfl)) (pss_cons (ps_aug (i := 4) sc_read.nd rfl (Or.inl rfl) pe_int ip_add) (pss_cons (ps_set (i := 6) sc_read.nd rfl (Or.inl rfl) (pe_ifExp (pt_cmpR op_le (pv 4) (pe_callB call_len_seq rfl T.f_len PySem.boot_len (pa_cons (pv 1) pa_nil)) (nomark _)) (pe_c c_read_line hr (by decide) rfl (pa_cons (pv 5) (pa_cons (pe_ix ix_list (pv 1) (pe_op op_sub (pv 4) pe_int) (fun _ _ => rfl)) pa_nil))) pe_non)) (C8.pss_cut (ps_if (pt_cmpR op_isN (pv 6) pe_non (nomark _)) (pss_one (TKE.ps_raiseE x_LetterError rfl (takes_of rfl rfl rfl rfl) hr (by decide) rfl (pv 4))) pss_nil) (pss_one (ps_expr (TK.pe_dupd (pv 3) (pv 6) ⟨rfl, by rfl, rfl, rfl⟩))))))) (pss_cons (ps_for (passes_of rfl) rfl (pi_tup (pgR T.g_POSSIBLE)) (pg_name (i := 5) sc_read.nd rfl (Or.inl rfl)) (pss_cons (ps_set (i := 6) sc_read.nd rfl (Or.inl rfl) (pe_ifExp (pt_cmpR op_lt (pv 4) (pe_callB call_len_seq rfl T.f_len PySem.boot_len (pa_cons (pv 1) pa_nil)) (nomark _)) (pe_c c_read_line hr (by decide) rfl (pa_cons (pv 5) (pa_cons (pe_ix ix_list (pv 1) (pv 4) (fun _ _ => rfl)) pa_nil))) pe_non)) (pss_one (ps_if (pt_cmpR op_notN (pv 6) pe_non (nomark _)) (pss_cons (ps_aug (i := 4) sc_read.nd rfl (Or.inl rfl) pe_int ip_add) (pss_one (ps_expr (TK.pe_dupd (pv 3) (pv 6) ⟨rfl, by rfl, rfl, rfl⟩)))) pss_nil)))) (C8.pss_cut (ps_if (PW.pt (pw_or (pt_cmpR op_lt (pv 4) (pe_callB call_len_seq rfl T.f_len PySem.boot_len (pa_cons (pv 1) pa_nil)) (nomark _)) (pw_or1 (pt_cmpR op_ne (pv 2) pe_str (nomark _))))) (pss_one (TKE.ps_raiseE x_LetterError rfl (takes_of rfl rfl rfl rfl) hr (by decide) rfl (pe_op op_add (pv 4) pe_int))) pss_nil) (pss_one (ps_ret (TK.pe_mkSS c_mk_Letter_ss hr (by decide) rfl (pv 3)))))))))))), ?_⟩
  by_cases h0 : flt 0 moreL (Txt.split z "\n") = 0
  · obtain ⟨L, o, c, g, go, rfl⟩ := flt_right h0
    have k : ∀ a x H', Same H H' → H a = none → OffO H' x o → LetAt K H' a { L with offer := x } → Q (.ref a) H' := fun a x H' s _ ho hl => kR h0 L o c a x H' g go rfl s ho hl
    clear kR kW
    have hlen := linesX_len g.lok g.xok
    have hn9 := linesX_n L o
    have hfit := textOf_fits hlen (Nat.le_trans hn9 (by decide))
    have hz2 : (textOf (linesX L o)).length + 2 ≤ sizeLine := by
      have b := join_len "" ((linesX L o).map fun z => z ++ ("\n" : Str))
      have : (textOf (linesX L o)).length ≤ 1000000 := Nat.le_trans b hfit
      exact Nat.le_trans (Nat.add_le_add_right this 2) (by decide)
    have hcut := text_cut g.nonl
    have hat := line_at L o
    have hhead := head_cut g
    refine ⟨_, rfl, ⟨_, rfl⟩, textOf (linesX L o), "\n", rfl, rfl, by decide +kernel, hz2, fun l hl => ?_⟩
    rw [hcut]
    generalize textOf (linesX L o) = tx
    have hlast : ((linesX L o ++ [("" : Str)]).map V.str)[((linesX L o ++ [("" : Str)]).map V.str).length - 1]? = some (.str "") := by simp
    have ed : ((linesX L o ++ [("" : Str)]).map V.str).dropLast = (linesX L o).map V.str := by simp
    refine ⟨_, rfl, .inl ⟨rfl, _, SqL.of upd_same⟩, l, _, _, rfl, rfl, upd_same, hlast, ?_⟩
    rw [upd_upd, ed]
    have s1 : Same H (upd H l (.lst ((linesX L o).map V.str))) := same_upd hl
    have e1 : (upd H l (.lst ((linesX L o).map V.str))) l = some (.lst ((linesX L o).map V.str)) := upd_same
    generalize upd H l (.lst ((linesX L o).map V.str)) = H1 at s1 e1 ⊢
    have h0 : atI ((linesX L o).map V.str) 0 = some (.str (headS L)) := atC (V.str (headS L)) _
    have hne : (!((linesX L o).map V.str).isEmpty) = true := rfl
    have hh3 : (headS L).length ≤ 2000 := headS_len g.lok
    refine ⟨_, rfl, _, .inl ⟨_, SqL.of e1, rfl⟩, ?_⟩
    rw [hne]
    refine iteT ⟨_, rfl, l, _, 0, .str (headS L), rfl, rfl, SqL.of e1, h0, ⟨_, rfl⟩, headS L, " ", rfl, rfl, by decide +kernel, Nat.le_trans (Nat.add_le_add_right hh3 2) (by decide), fun q hq => ?_⟩
    rw [hhead]
    have s2 := s1.trans (same_upd (o := .lst ((headW L.verb c).map V.str)) hq)
    have e2 := (same_upd (o := .lst ((headW L.verb c).map V.str)) hq) _ _ e1
    refine .inl ⟨q, L.verb, c, rfl, upd_same, g.verb, g.codeOk, fun d H2 s3 hd ed => ?_⟩
    have s4 := s2.trans s3
    have e3 := s3 _ _ e2
    have hdH : H d = none := fresh_of s2 hd
    have ld : l ≠ d := fun e => by rw [← e, e2] at hd; cases hd
    rw [hKb_eq] at ed
    refine ⟨fun σ' H' => σ' = [some (.str tx), some (.ref l), some (.str ""), some (.ref d), none, none, none] ∧ H' = H2, ⟨_, rfl, rfl, _, rfl, iteF ⟨rfl, rfl⟩⟩, ?_⟩
    rintro σ' H3 ⟨rfl, e⟩
    obtain rfl : H2 = H3 := e.symm
    -- the lines that every letter has
    refine ⟨_, rfl, ⟨_, T.v_NEEDED _⟩, for_it walk_tup (fun i σ H' => ∃ v5 v6 : Option V, σ = [some (.str tx), some (.ref l), some (.str ""), some (.ref d), some (.int ((i : Nat) + 1)), v5, v6] ∧ Same H H' ∧ H' l = some (.lst ((linesX L o).map V.str)) ∧ H' d = some (.dK (dkOf (KK c.isSome i) (ZZ L c i)))) ⟨none, none, rfl, s4, e3, ed⟩ (fun _ _ H' _ _ => T.v_NEEDED H') ?_ ?_⟩
    · rintro i x σ H3 H4 hi ⟨v5, v6, rfl, s5, e5, e6⟩ ⟨rfl, hx⟩
      have hi5 : i < 5 := hi
      obtain rfl : V.str (keyI i) = x := by
        have q : ([.str "call", .str "from", .str "to", .str "seq", .str "way"] : List V)[i]? = some (.str (keyI i)) := by
          match i, hi5 with
          | 0, _ => rfl
          | 1, _ => rfl
          | 2, _ => rfl
          | 3, _ => rfl
          | 4, _ => rfl
        exact Option.some.inj (q.symm.trans hx)
      refine ⟨_, rfl, _, _, rfl, rfl, ?_⟩
      have hle : decide ((((i : Nat) : Int) + 1 + 1) ≤ (((linesX L o).map V.str).length : Nat)) = true := decide_eq_true (by
        rw [List.length_map]
        unfold linesX
        rw [List.length_append, List.length_append, List.length_append]
        show _ ≤ ((6 + _ + _ + _ : Nat) : Int)
        omega)
      refine ⟨_, rfl, _, rfl, l, _, rfl, .inl (SqL.of e5), _, _, rfl, rfl, _, rfl, ?_⟩
      rw [hle]
      refine iteT ⟨_, rfl, _, rfl, _, rfl, _, _, rfl, rfl, l, _, _, .str (lineI L i), rfl, rfl, SqL.of e5, hat i hi5, ?_⟩
      delta tNil
      dsimp only
      refine need_line g i fun d2 H5 s6 hd2 e7 => ?_
      refine ⟨fun σ' H' => σ' = [some (.str tx), some (.ref l), some (.str ""), some (.ref d), some (.int ((i : Nat) + 1 + 1)), some (.str (keyI i)), some (.ref d2)] ∧ H' = H5, ⟨_, rfl, rfl, _, rfl, iteF ⟨rfl, rfl⟩⟩, ?_⟩
      rintro σ' H6 ⟨rfl, e⟩
      obtain rfl : H5 = H6 := e.symm
      have dd2 : d ≠ d2 := fun e => by rw [← e, e6] at hd2; cases hd2
      have e8 := s6 _ _ e6
      refine ⟨_, rfl, d, rfl, .inl ⟨_, .inl e8⟩, _, rfl, d2, _, _, rfl, dd2, e8, .inl e7, ?_, ?_⟩
      · rw [dkOf_len (KK_len L c i), dkOf_len (ksI_len L i)]
        have := KK_short c.isSome i (by omega)
        have : (ksI i).length ≤ 2 := by
          unfold ksI
          split <;> decide
        exact Nat.le_trans (by omega : _ ≤ 20) (by decide)
      · refine ⟨_, _, rfl, TK.Same.upd_of (s5.trans s6) hdH, ?_, ?_⟩
        · rw [upd_ne ld]
          exact s6 _ _ e5
        · rw [upd_same, merge_dk (KK_len L c i) (ksI_len L i) (KK_nd c.isSome i hi5)]
          rfl
    · rintro σ H3 ⟨v5, v6, rfl, s5, e5, e6⟩
      -- the lines that a letter may have
      refine ⟨_, rfl, ⟨_, T.v_POSSIBLE _⟩, for_it walk_tup (fun j σ H' => ∃ (v5 v6 : Option V) (nn : Nat) (kx : List Str) (zx : List V), σ = [some (.str tx), some (.ref l), some (.str ""), some (.ref d), some (.int (nn : Nat)), v5, v6] ∧ Same H H' ∧ H' l = some (.lst ((linesX L o).map V.str)) ∧ H' d = some (.dK (dkOf (KK c.isSome 5 ++ kx) (ZZ L c 5 ++ zx))) ∧ (linesX L o).drop nn = tailP L o j ∧ nn ≤ (linesX L o).length ∧ ExtAt L o H' j kx zx) ⟨v5, v6, 6, [], [], rfl, s5, e5, ?_, ?_, ?_, rfl, rfl⟩ (fun _ _ H' _ _ => T.v_POSSIBLE H') ?_ ?_⟩
      · rw [List.append_nil, List.append_nil]
        exact e6
      · unfold linesX tailP
        rw [List.append_assoc, List.append_assoc]
        rfl
      · unfold linesX
        rw [List.length_append, List.length_append, List.length_append]
        show 6 ≤ 6 + _ + _ + _
        omega
      · rintro j x σ H4 H5 hj ⟨v5, v6, nn, kx, zx, rfl, s5, e5, e6, ht, hn, hx⟩ ⟨rfl, hx2⟩
        have hj3 : j < 3 := hj
        obtain rfl : V.str (keyP j) = x := by
          have q : ([.str "offer", .str "stay", .str "goal"] : List V)[j]? = some (.str (keyP j)) := by
            match j, hj3 with
            | 0, _ => rfl
            | 1, _ => rfl
            | 2, _ => rfl
          exact Option.some.inj (q.symm.trans hx2)
        have hsp := tail_split L o j hj3
        rw [hsp] at ht
        obtain ⟨hsub, hkl⟩ := hx.sub
        have none_case : ∀ (v6 : V) (H6 : Hp), v6 = .non → Same H5 H6 → lineP L o j = [] → ∃ (v5' v6' : Option V) (n' : Nat) (k' : List Str) (z' : List V), ([some (.str tx), some (.ref l), some (.str ""), some (.ref d), some (.int (nn : Nat)), some (.str (keyP j)), some v6] : List (Option V)) = [some (.str tx), some (.ref l), some (.str ""), some (.ref d), some (.int (n' : Nat)), v5', v6'] ∧ Same H H6 ∧ H6 l = some (.lst ((linesX L o).map V.str)) ∧ H6 d = some (.dK (dkOf (KK c.isSome 5 ++ k') (ZZ L c 5 ++ z'))) ∧ (linesX L o).drop n' = tailP L o (j + 1) ∧ n' ≤ (linesX L o).length ∧ ExtAt L o H6 (j + 1) k' z' := by
          rintro v6 H6 rfl s6 e7
          rw [e7, List.nil_append] at ht
          exact ⟨_, _, nn, kx, zx, rfl, s5.trans s6, s6 _ _ e5, s6 _ _ e6, ht, hn, kx, zx, hx.same s6, .inl ⟨e7, rfl, rfl⟩⟩
        rcases lineP_cases L o j with e7 | ⟨z, e7⟩
        · obtain e8 | ⟨z, r, e8⟩ : tailP L o (j + 1) = [] ∨ ∃ z r, tailP L o (j + 1) = z :: r := by
            cases tailP L o (j + 1) with
            | nil => exact .inl rfl
            | cons z r => exact .inr ⟨z, r, rfl⟩
          · have ht2 := ht
            rw [e7, e8] at ht2
            have hnn : ¬ ((nn : Nat) : Int) < (((linesX L o).map V.str).length : Nat) := by
              rw [List.length_map]
              have := congrArg List.length ht2
              rw [List.length_drop] at this
              have : (linesX L o).length - nn = 0 := this
              omega
            refine ⟨_, rfl, _, rfl, l, _, rfl, .inl (SqL.of e5), _, _, rfl, rfl, _, rfl, ?_⟩
            rw [decide_eq_false hnn]
            refine iteF ⟨_, rfl, rfl, _, rfl, iteF ?_⟩
            exact none_case .non H5 rfl (Same.refl H5) e7
          · obtain ⟨i, e9, hki⟩ := next_line j hj3 e8
            have ht2 := ht
            rw [e7, e8] at ht2
            obtain ⟨hlt, hat2, _⟩ := drop_at ht2
            refine ⟨_, rfl, _, rfl, l, _, rfl, .inl (SqL.of e5), _, _, rfl, rfl, _, rfl, ?_⟩
            rw [decide_eq_true (by rw [List.length_map]; omega)]
            refine iteT ⟨_, rfl, _, rfl, _, rfl, l, _, _, .str z, rfl, rfl, SqL.of e5, hat2, ?_⟩
            delta tNil
            dsimp only
            refine poss_not g i e9 hki fun H6 s6 => ?_
            refine ⟨_, rfl, rfl, _, rfl, iteF ?_⟩
            exact none_case .non H6 rfl s6 e7
        · rw [e7] at ht
          obtain ⟨hlt, hat2, hdr⟩ := drop_at ht
          refine ⟨_, rfl, _, rfl, l, _, rfl, .inl (SqL.of e5), _, _, rfl, rfl, _, rfl, ?_⟩
          rw [decide_eq_true (by rw [List.length_map]; omega)]
          refine iteT ⟨_, rfl, _, rfl, _, rfl, l, _, _, .str z, rfl, rfl, SqL.of e5, hat2, ?_⟩
          delta tNil
          dsimp only
          refine poss_here g j e7 fun d2 x H6 s6 hd2 hxv e9 => ?_
          have dd2 : d ≠ d2 := fun e => by rw [← e, e6] at hd2; cases hd2
          have e10 := s6 _ _ e6
          have hl5 : (KK c.isSome 5 ++ kx).length = (ZZ L c 5 ++ zx).length := by rw [List.length_append, List.length_append, KK_len, hkl]
          refine ⟨_, rfl, rfl, _, rfl, iteT ⟨_, rfl, _, _, rfl, rfl, ?_⟩⟩
          refine ⟨_, rfl, d, rfl, .inl ⟨_, .inl e10⟩, _, rfl, d2, _, _, rfl, dd2, e10, .inl e9, ?_, ?_⟩
          · rw [dkOf_len hl5, dkOf_len (ks := [keyP j]) (zs := [x]) rfl, List.length_append]
            have := KK_short c.isSome 5 (by omega)
            have := hsub.length_le
            rw [List.length_map, List.length_range] at this
            exact Nat.le_trans (by show _ + _ + 1 ≤ 20; omega) (by decide)
          · have nd : (KK c.isSome 5 ++ kx ++ [keyP j]).Nodup := by
              have q := PK_nd c.isSome (j + 1) (by omega)
              rw [List.range_succ, List.map_append] at q
              rw [List.append_assoc]
              exact q.sublist ((List.Sublist.refl _).append (hsub.append (List.Sublist.refl _)))
            refine ⟨_, _, nn + 1, kx ++ [keyP j], zx ++ [x], rfl, TK.Same.upd_of (s5.trans s6) hdH, ?_, ?_, hdr, hlt, kx, zx, ?_, .inr ⟨z, x, e7, ?_, rfl, rfl⟩⟩
            · rw [upd_ne ld]
              exact s6 _ _ e5
            · rw [upd_same, merge_dk hl5 rfl nd, List.append_assoc, List.append_assoc]
            · exact (hx.same s6).updD e10
            · exact hxv.updD e10
      · rintro σ H4 ⟨v5, v6, nn, kx, zx, rfl, s5, e5, e6, ht, hn, hx⟩
        have hnn : nn = (linesX L o).length := by
          have := congrArg List.length ht
          rw [List.length_drop] at this
          have : (linesX L o).length - nn = 0 := this
          omega
        refine ⟨fun σ' H' => σ' = [some (.str tx), some (.ref l), some (.str ""), some (.ref d), some (.int (nn : Nat)), v5, v6] ∧ H' = H4, ⟨_, rfl, _, rfl, l, _, rfl, .inl (SqL.of e5), _, _, rfl, rfl, _, rfl, ?_⟩, ?_⟩
        · rw [decide_eq_false (by rw [List.length_map]; omega)]
          exact iteF ⟨_, rfl, rfl, _, rfl, iteF ⟨rfl, rfl⟩⟩
        rintro σ' H5 ⟨rfl, e⟩
        obtain rfl : H4 = H5 := e.symm
        obtain ⟨ox, hox, eargs⟩ := ext_args g hx
        have hl5 : (KK c.isSome 5 ++ kx).length = (ZZ L c 5 ++ zx).length := by rw [List.length_append, List.length_append, KK_len, hx.sub.2]
        intro p hp
        have pd : p ≠ d := fun e => by rw [e, e6] at hp; cases hp
        refine ⟨_, rfl, upd_same, d, _, _, _, rfl, pd, .inl (by rw [upd_ne pd.symm]; exact e6), hl5, ext_ss c.isSome hx, ?_⟩
        intro x dx hx1 hx2 hne
        rw [upd_upd] at hx1 hx2 ⊢
        refine ⟨x, dx, { L with offer := ox }, congrArg (List.cons (V.ref x)) eargs, upd_same, rfl, ?_⟩
        rw [upd_upd]
        have sp := (same_upd (o := .dK (dkOf (KK c.isSome 5 ++ kx) (ZZ L c 5 ++ zx))) hp).trans (same_own (C := He.ga K "Letter") (fs := ({ L with offer := ox } : Ltr).fl) hx1 hx2)
        exact k x ox _ (s5.trans sp) (fresh_of (s5.trans (same_upd hp)) hx1) (hox.same sp) ⟨dx, upd_same⟩
  · have kE := kW h0
    clear kR kW
    have hz2 : z.length + 2 ≤ sizeLine := Nat.le_trans (Nat.add_le_add_right hz9 2) (by decide)
    have hp0 : ∀ y ∈ Txt.split z "\n", y.length ≤ 900 := fun y hy => Nat.le_trans (part_len hy) hz9
    have hsz := PyProof.Rows.split_le z "\n"
    have hne := split_nl z
    refine ⟨_, rfl, ⟨_, rfl⟩, z, "\n", rfl, rfl, by decide +kernel, hz2, fun l hl => ?_⟩
    generalize Txt.split z "\n" = ls at *
    obtain ⟨B, rest, rfl⟩ : ∃ B rest, ls = B ++ [rest] := ⟨ls.dropLast, ls.getLast hne, (List.dropLast_concat_getLast hne).symm⟩
    have hlast : ((B ++ [rest]).map V.str)[((B ++ [rest]).map V.str).length - 1]? = some (.str rest) := by simp
    have ed0 : ((B ++ [rest]).map V.str).dropLast = B.map V.str := by simp
    refine ⟨_, rfl, .inl ⟨rfl, _, SqL.of upd_same⟩, l, _, _, rfl, rfl, upd_same, hlast, ?_⟩
    rw [upd_upd, ed0]
    have s1 : Same H (upd H l (.lst (B.map V.str))) := same_upd hl
    have e1 : (upd H l (.lst (B.map V.str))) l = some (.lst (B.map V.str)) := upd_same
    generalize upd H l (.lst (B.map V.str)) = H1 at s1 e1 ⊢
    have hB9 : B.length ≤ 901 := by
      rw [List.length_append] at hsz
      have : B.length + 1 ≤ z.length + 2 := hsz
      omega
    have hpB : ∀ y ∈ B, y.length ≤ 900 := fun y hy => hp0 y (List.mem_append_left _ hy)
    clear hlast ed0 hp0 hsz hne
    generalize hN : flt 0 moreL (B ++ [rest]) = N at *
    have raise1 : N = 1 → ∀ H2, Same H H2 → ∀ d, H2 d = none → E (.ref (He.ga K "LetterError")) (some d) (upd H2 d (.xd [("line", .int 1)])) := fun e H2 s2 d hd => kE d _ (s2.trans (same_upd hd)) (by rw [upd_same, e]; rfl)
    cases B with
    | nil =>
      have eN : N = 1 := by rw [← hN]; rfl
      refine ⟨_, rfl, _, .inl ⟨_, SqL.of e1, rfl⟩, ?_⟩
      refine iteF ⟨fun _ _ => False, ⟨_, rfl, rfl, _, rfl, iteT ⟨isI_small (by decide), fun d hd => raise1 eN _ s1 d hd⟩⟩, fun _ _ q => q.elim⟩
    | cons b0 bt =>
      have hb0 : b0.length ≤ 900 := hpB b0 (List.mem_cons_self ..)
      have hN1 : N = if hdW b0 ∈ nmS 0 moreL ∧ stB (hdW b0) (tlW b0) = true then flt 1 moreL (bt ++ [rest]) else 1 := by
        rw [← hN, List.cons_append, flt_more (by simp)]
        rfl
      refine ⟨_, rfl, _, .inl ⟨_, SqL.of e1, rfl⟩, ?_⟩
      refine iteT ⟨_, rfl, l, _, 0, .str b0, rfl, rfl, SqL.of e1, atC _ _, ⟨_, rfl⟩, b0, " ", rfl, rfl, by decide +kernel, Nat.le_trans (Nat.add_le_add_right hb0 2) (by decide), fun q hq => ?_⟩
      have s2 := s1.trans (same_upd (o := .lst ((Txt.split b0 " ").map V.str)) hq)
      have e2 := (same_upd (o := .lst ((Txt.split b0 " ").map V.str)) hq) _ _ e1
      delta tNil
      dsimp only
      refine head_any hb0 upd_same (fun hok d kvs H2 s3 hd ed lk => ?_) (fun hno H2 s3 => ?_)
      · rw [if_pos hok] at hN1
        have s4 := s2.trans s3
        have e3 := s3 _ _ e2
        have hdH : H d = none := fresh_of s2 hd
        have ld : l ≠ d := fun e => by rw [← e, e2] at hd; cases hd
        have hB1 : 1 ≤ (b0 :: bt).length := by rw [List.length_cons]; omega
        have hD1 : flt 1 moreL (((b0 :: bt) ++ [rest]).drop 1) = N := hN1.symm
        clear raise1 hN hN1 hok hb0 e1 s1 s2 e2 hq s3
        refine ⟨fun σ' H' => σ' = [some (.str z), some (.ref l), some (.str rest), some (.ref d), none, none, none] ∧ H' = H2, ⟨_, rfl, rfl, _, rfl, iteF ⟨rfl, rfl⟩⟩, ?_⟩
        rintro σ' H3 ⟨rfl, e⟩
        obtain rfl : H2 = H3 := e.symm
        generalize b0 :: bt = B at *
        have raiseN : ∀ n : Nat, N = n → ∀ H2, Same H H2 → ∀ e, H2 e = none → ∀ i : Int, i = (n : Int) → E (.ref (He.ga K "LetterError")) (some e) (upd H2 e (.xd [("line", .int i)])) := fun n en H2 s2 e he i ei => kE e _ (s2.trans (same_upd he)) (by rw [upd_same, en, ei])
        refine ⟨_, rfl, ⟨_, T.v_NEEDED _⟩, for_it walk_tup (fun i σ H' => ∃ v5 v6 : Option V, σ = [some (.str z), some (.ref l), some (.str rest), some (.ref d), some (.int ((i : Nat) + 1)), v5, v6] ∧ Same H H' ∧ H' l = some (.lst (B.map V.str)) ∧ (∃ kvs, H' d = some (.dK kvs) ∧ kvs.length ≤ 2 * (i + 1)) ∧ i + 1 ≤ B.length ∧ flt (i + 1) moreL ((B ++ [rest]).drop (i + 1)) = N) ⟨none, none, rfl, s4, e3, ⟨_, ed, lk⟩, hB1, hD1⟩ (fun _ _ H' _ _ => T.v_NEEDED H') ?_ ?_⟩
        · rintro i x σ H3 H4 hi ⟨v5, v6, rfl, s5, e5, ⟨kv, e6, lkv⟩, hiB, hD⟩ ⟨rfl, hx⟩
          have hi5 : i < 5 := hi
          obtain rfl : V.str (keyI i) = x := by
            have q : ([.str "call", .str "from", .str "to", .str "seq", .str "way"] : List V)[i]? = some (.str (keyI i)) := by
              match i, hi5 with
              | 0, _ => rfl
              | 1, _ => rfl
              | 2, _ => rfl
              | 3, _ => rfl
              | 4, _ => rfl
            exact Option.some.inj (q.symm.trans hx)
          refine ⟨_, rfl, _, _, rfl, rfl, ?_⟩
          refine ⟨_, rfl, _, rfl, l, _, rfl, .inl (SqL.of e5), _, _, rfl, rfl, _, rfl, ?_⟩
          by_cases h2 : i + 2 ≤ B.length
          · have hle : decide ((((i : Nat) : Int) + 1 + 1) ≤ ((B.map V.str).length : Nat)) = true := decide_eq_true (by rw [List.length_map]; omega)
            rw [hle]
            have hi1 : i + 1 < B.length := by omega
            have hat : atI (B.map V.str) ((((i : Nat) : Int) + 1 + 1) - 1) = some (.str B[i + 1]) := by
              rw [show ((((i : Nat) : Int) + 1 + 1) - 1) = ((i + 1 : Nat) : Int) by omega]
              exact atN2 _ _ hi1
            rw [drop_in hi1, flt_need hi5 (drop_ne h2)] at hD
            refine iteT ⟨_, rfl, _, rfl, _, rfl, _, _, rfl, rfl, l, _, _, .str B[i + 1], rfl, rfl, SqL.of e5, hat, ?_⟩
            dsimp only
            refine line_any (keyI_in i hi5) (hpB _ (List.getElem_mem hi1)) (fun hok d2 kvs2 H5 s6 hd2 e7 lk2 => ?_) (fun hno H5 s6 => ?_)
            · rw [if_pos hok] at hD
              refine ⟨fun σ' H' => σ' = [some (.str z), some (.ref l), some (.str rest), some (.ref d), some (.int ((i : Nat) + 1 + 1)), some (.str (keyI i)), some (.ref d2)] ∧ H' = H5, ⟨_, rfl, rfl, _, rfl, iteF ⟨rfl, rfl⟩⟩, ?_⟩
              rintro σ' H6 ⟨rfl, e⟩
              obtain rfl : H5 = H6 := e.symm
              have dd2 : d ≠ d2 := fun e => by rw [← e, e6] at hd2; cases hd2
              have e8 := s6 _ _ e6
              refine ⟨_, rfl, d, rfl, .inl ⟨_, .inl e8⟩, _, rfl, d2, _, _, rfl, dd2, e8, .inl e7, ?_, ?_⟩
              · exact Nat.le_trans (by omega : _ ≤ 20) (by decide)
              · refine ⟨_, _, rfl, TK.Same.upd_of (s5.trans s6) hdH, ?_, ⟨_, upd_same, ?_⟩, h2, hD⟩
                · rw [upd_ne ld]
                  exact s6 _ _ e5
                · have := length_mergeK kvs2 kv
                  omega
            · rw [if_neg hno] at hD
              exact ⟨fun _ _ => False, ⟨_, rfl, rfl, _, rfl, iteT ⟨_, rfl, isI_small (by omega), fun e he => raiseN (i + 2) hD.symm _ (s5.trans s6) e he _ (by omega)⟩⟩, fun _ _ q => q.elim⟩
          · have hle : decide ((((i : Nat) : Int) + 1 + 1) ≤ ((B.map V.str).length : Nat)) = false := decide_eq_false (by rw [List.length_map]; omega)
            rw [hle]
            rw [show i + 1 = B.length by omega, drop_end, flt_last, if_neg fun q => by omega] at hD
            exact iteF ⟨fun _ _ => False, ⟨_, rfl, rfl, _, rfl, iteT ⟨_, rfl, isI_small (i := ((i : Nat) : Int) + 1 + 1) (by omega), fun e he => raiseN (B.length + 1) hD.symm _ s5 e he (((i : Nat) : Int) + 1 + 1) (by omega)⟩⟩, fun _ _ q => q.elim⟩
        · rintro σ H3 ⟨v5, v6, rfl, s5, e5, ⟨kv, e6, lkv⟩, hiB, hD⟩
          have hB6 : 6 ≤ B.length := hiB
          refine ⟨_, rfl, ⟨_, T.v_POSSIBLE _⟩, for_it walk_tup (fun j σ H' => ∃ (v5 v6 : Option V) (nn : Nat), σ = [some (.str z), some (.ref l), some (.str rest), some (.ref d), some (.int (nn : Nat)), v5, v6] ∧ Same H H' ∧ H' l = some (.lst (B.map V.str)) ∧ (∃ kvs, H' d = some (.dK kvs) ∧ kvs.length ≤ 12 + 2 * j) ∧ 6 ≤ nn ∧ nn ≤ B.length ∧ flt nn (moreL.drop j) ((B ++ [rest]).drop nn) = N) ⟨v5, v6, 6, rfl, s5, e5, ⟨_, e6, lkv⟩, Nat.le_refl 6, hB6, hD⟩ (fun _ _ H' _ _ => T.v_POSSIBLE H') ?_ ?_⟩
          · rintro j x σ H4 H5 hj ⟨v5, v6, nn, rfl, s5, e5, ⟨kv, e6, lkv⟩, h6, hnB, hD⟩ ⟨rfl, hx2⟩
            have hj3 : j < 3 := hj
            obtain rfl : V.str (keyP j) = x := by
              have q : ([.str "offer", .str "stay", .str "goal"] : List V)[j]? = some (.str (keyP j)) := by
                match j, hj3 with
                | 0, _ => rfl
                | 1, _ => rfl
                | 2, _ => rfl
              exact Option.some.inj (q.symm.trans hx2)
            refine ⟨_, rfl, _, rfl, l, _, rfl, .inl (SqL.of e5), _, _, rfl, rfl, _, rfl, ?_⟩
            by_cases hlt : nn < B.length
            · rw [decide_eq_true (by rw [List.length_map]; omega)]
              refine iteT ⟨_, rfl, _, rfl, _, rfl, l, _, _, .str B[nn], rfl, rfl, SqL.of e5, atN2 _ _ hlt, ?_⟩
              dsimp only
              rw [drop_in hlt] at hD
              refine line_any (keyP_in j hj3) (hpB _ (List.getElem_mem hlt)) (fun hok d2 kvs2 H6 s6 hd2 e9 lk2 => ?_) (fun hno H6 s6 => ?_)
              · rw [flt_take h6 hj3 (drop_ne hlt) hok] at hD
                have dd2 : d ≠ d2 := fun e => by rw [← e, e6] at hd2; cases hd2
                have e10 := s6 _ _ e6
                refine ⟨_, rfl, rfl, _, rfl, iteT ⟨_, rfl, _, _, rfl, rfl, ?_⟩⟩
                refine ⟨_, rfl, d, rfl, .inl ⟨_, .inl e10⟩, _, rfl, d2, _, _, rfl, dd2, e10, .inl e9, ?_, ?_⟩
                · exact Nat.le_trans (by omega : _ ≤ 22) (by decide)
                · refine ⟨_, _, nn + 1, rfl, TK.Same.upd_of (s5.trans s6) hdH, ?_, ⟨_, upd_same, ?_⟩, by omega, hlt, hD⟩
                  · rw [upd_ne ld]
                    exact s6 _ _ e5
                  · have := length_mergeK kvs2 kv
                    omega
              · rw [flt_skip h6 hj3 (.inr hno), ← drop_in hlt] at hD
                exact ⟨_, rfl, rfl, _, rfl, iteF ⟨_, _, nn, rfl, s5.trans s6, s6 _ _ e5, ⟨_, s6 _ _ e6, by omega⟩, h6, hnB, hD⟩⟩
            · rw [decide_eq_false (by rw [List.length_map]; omega)]
              refine iteF ⟨_, rfl, rfl, _, rfl, iteF ⟨_, _, nn, rfl, s5, e5, ⟨_, e6, by omega⟩, h6, hnB, ?_⟩⟩
              rw [show nn = B.length by omega, drop_end] at hD ⊢
              rw [← flt_skip (by omega) hj3 (.inl rfl)]
              exact hD
          · rintro σ H4 ⟨v5, v6, nn, rfl, s5, e5, _, h6, hnB, hD⟩
            have hD : flt nn [] ((B ++ [rest]).drop nn) = N := hD
            refine ⟨fun _ _ => False, ⟨_, rfl, _, rfl, l, _, rfl, .inl (SqL.of e5), _, _, rfl, rfl, _, rfl, ?_⟩, fun _ _ q => q.elim⟩
            by_cases hlt : nn < B.length
            · rw [decide_eq_true (by rw [List.length_map]; omega)]
              have eN : N = nn + 1 := by
                rw [← hD, drop_in hlt, flt_more (drop_ne hlt), if_neg]
                intro q
                have q1 := q.1
                unfold nmS at q1
                rw [if_neg (by omega)] at q1
                cases q1
              exact iteT (iteT ⟨_, rfl, _, _, rfl, rfl, isI_small (by omega), fun e he => raiseN (nn + 1) eN _ s5 e he _ (by omega)⟩)
            · rw [decide_eq_false (by rw [List.length_map]; omega)]
              rw [show nn = B.length by omega, drop_end, flt_last] at hD
              have hr : rest ≠ "" := fun e => h0 (by rw [← hD, if_pos ⟨by omega, e⟩])
              rw [if_neg fun q => hr q.2] at hD
              refine iteF ⟨_, rfl, rfl, _, rfl, ?_⟩
              rw [vs_, decide_eq_false hr]
              exact iteT ⟨_, rfl, _, _, rfl, rfl, isI_small (by omega), fun e he => raiseN (nn + 1) (by omega) _ s5 e he _ (by omega)⟩
      · rw [if_neg hno] at hN1
        exact ⟨fun _ _ => False, ⟨_, rfl, rfl, _, rfl, iteT ⟨isI_small (by decide), fun d hd => raise1 hN1 _ (s2.trans s3) d hd⟩⟩, fun _ _ q => q.elim⟩
end K4
set_option maxHeartbeats 4000000
set_option pp.maxSteps 400
namespace K4
open PySem PySem.Spec PyProof.Rows L2 SX TK TKS NdefX
open C8 (pe_c)
def spLaw (K : PySem.W.Frag) : Sp := fun vs H Q _ => ∃ (a : Addr) (ns : List Int), vs = [.ref a] ∧ SqL K H a (ns.map V.int) ∧ ns.length ≤ 63 ∧ ∀ H', Q (.bl true) H'
theorem ok_law {P : Program} {w : World} {K : PySem.W.Frag} {mg : Str → Option Value} {base : Heap} {f : Addr} {fd : FuncData} (T : Tx K mg) (c_law_state : C8.Cal P w K mg base 1 "_law_state" (spState K) []) (c_law_parts : C8.Cal P w K mg base 5 "_law_parts" spPartsL []) (c_law_text : C8.Cal P w K mg base 1 "_law_text" (spTextL K) []) (c_law_changed : C8.Cal P w K mg base 3 "_law_changed" spChanged []) (c_law_fault : C8.Cal P w K mg base 5 "_law_fault" (spFault K) []) (c_read : TKE.CalX P w K mg base 7 "read" (spRead4 K)) (c_write : C8.Cal P w K mg base 2 "write" (spWrite1 K) [])
    (F : FunD K "law" "law" (defArgs s_law) (defBody s_law) (defScope s_law) [] [] f fd) : FnOk P w K mg base CX0 8 f fd ["script"] (spLaw K) := by
  refine F.ok sc_law (fun vs H Q E h => ?_) (fun cdv A outer s0 H vs Q E hr h => ?_)
  · obtain ⟨a, ns, rfl, _⟩ := h
    rfl
  · obtain ⟨a, ns, rfl, hS, hn, k⟩ := h
    refine ⟨_, PSs.nox (pss_cons (ps_set (i := 1) sc_law.nd rfl (Or.inl rfl) (pe_c c_law_state hr (by decide) rfl (pa_cons (pv 0) pa_nil))) (pss_cons (ps_for PassesOwn.never rfl (pi_range1 rfl T.f_range (pa_cons (pe_op op_add pe_int (pe_callB call_len_seq rfl T.f_len PySem.boot_len (pa_cons (pe_slice sl_list (pv 0) po_none (po_some pe_int)) pa_nil))) pa_nil)) (pg_name (i := 2) sc_law.nd rfl (Or.inl rfl)) (pss_cons (ps_set (i := 3) sc_law.nd rfl (Or.inl rfl) (pe_c c_law_changed hr (by decide) rfl (pa_cons (pv 1) (pa_cons (pe_c c_law_text hr (by decide) rfl (pa_cons (pe_c c_law_parts hr (by decide) rfl (pa_cons (pv 1) pa_nil)) pa_nil)) pa_nil)))) (pss_cons (ps_set (i := 4) sc_law.nd rfl (Or.inl rfl) (pe_c c_law_fault hr (by decide) rfl (pa_cons (pv 3) pa_nil))) (pss_cons (ps_try_as (i := 5) (Wout := fun _ _ _ _ => False) rfl rfl sc_law.nd rfl rfl ⟨rfl, by decide, Or.inl T.g_LetterError⟩ takes0 (fun W pn xe tk _ => (pss_one (ps_set (i := 6) sc_law.nd rfl (Or.inl rfl) (TKE.pe_cX c_read hr (by decide) (fun σ => passAt tk σ) rfl (pa_cons (pv 3) pa_nil))))) (fun a oe cls d pn hz hf => (C8.pss_cut (ps_if (PW.pt (pw_or (pt_cmpR op_eq (pv 4) pe_int (nomark _)) (pw_or (pt_not (pt_val (pe_callB (TKE.call_isD T.ec_LetterError hz hf) rfl T.f_isinstance (by decide +kernel) (pa_cons (pv 5) (pa_cons (pgR T.g_TrunklandError) pa_nil))))) (pw_or (pt_val (pe_callB (isiK K rfl) rfl T.f_isinstance (by decide +kernel) (pa_cons (L2.pe_xf T.xf_LetterError T.no_LetterError hz hf (pv 5)) (pa_cons (pe_bltn (v := .ty "bool") rfl T.f_bool (by decide +kernel) rfl) pa_nil)))) (pw_or1 (pt_cmpR op_ne (L2.pe_xf T.xf_LetterError T.no_LetterError hz hf (pv 5)) (pv 4) (nomark _))))))) (pss_one (ps_ret pe_bl)) pss_nil) (pss_one ps_continue)))) (pss_one (ps_if (PW.pt (pw_or (pt_cmpR op_ne (pv 4) pe_int (nomark _)) (pw_or1 (pt_cmpR op_ne (pe_c c_write hr (by decide) rfl (pa_cons (pv 6) pa_nil)) (pv 3) (nomark _))))) (pss_one (ps_ret pe_bl)) pss_nil)))))) (pss_one (ps_ret pe_bl)))), ?_⟩
    refine ⟨_, rfl, a, ns, rfl, hS, hn, fun s c H1 s1 hs hc st1 => ?_⟩
    refine ⟨_, rfl, 40, rfl, a, _, rfl, s1.seq hS, fun p hp => ⟨p, _, rfl, .inl (SqL.of upd_same), _, _, rfl, rfl, _, rfl, ?_, ?_, ?_⟩⟩
    · omega
    · have : (cutV (ns.map V.int) none (some 40)).length ≤ 63 := by
        unfold cutV
        rw [List.length_take, List.length_drop, List.length_map]
        omega
      omega
    obtain ⟨ps, pc⟩ := st1.tracked hp
    refine for_it walk_range (fun i σ H' => StAt H' s c ∧ ∃ v2 v3 v4 v6 : Option V, σ = [some (.ref a), some (.ref s), v2, v3, v4, none, v6]) ⟨st1.upd ps pc, none, none, none, none, rfl⟩ (fun _ _ _ _ _ => trivial) ?_ (fun σ H' q => ?_)
    · rintro i x σ H2 H3 hi ⟨st, v2, v3, v4, v6, rfl⟩ ⟨rfl, rfl⟩
      clear hS s1 hs hc st1 hp ps pc
      refine ⟨_, rfl, _, rfl, s, c, rfl, st, fun t L o cd H4 g ho go htn ht st4 kp4 => ?_⟩
      refine ⟨t, L, o, cd, rfl, ht, g, ho, fun H5 s5 => ?_⟩
      have hlines : 2 ≤ (Txt.split (textOf (linesX L o)) "\n").length := by
        rw [text_cut g.nonl, List.length_append]
        unfold linesX
        rw [List.length_append, List.length_append, List.length_append]
        show 2 ≤ 6 + _ + _ + _ + 1
        omega
      refine ⟨s, c, _, rfl, st4.same s5, textOf_short g go, hlines, fun z H6 hz st6 kp6 => ?_⟩
      clear ho htn ht st4 kp4 s5 hlines kp6 g go L o cd t
      refine ⟨_, rfl, z, rfl, hz, fun H7 s7 => ?_⟩
      have st7 := st6.same s7
      clear st6 s7
      refine ⟨_, rfl, z, rfl, hz, fun h0 L o cd b y H8 g go ez s8 hox hlet => ?_, fun h0 d H8 s8 hd => ?_⟩
      · -- a letter
        rw [h0]
        have gl := g.lok
        have gx : LOk { L with offer := y } := ⟨gl.oks, gl.seq0, gl.verb, gl.call, gl.origin, gl.otag, gl.target, gl.ttag, gl.seq, gl.way, gl.code⟩
        have gy : XOk { L with offer := y } o := ⟨g.xok.off, g.xok.offT, g.xok.stay, g.xok.goal⟩
        refine ⟨_, rfl, rfl, _, rfl, ?_⟩
        refine iteF ⟨_, rfl, b, { L with offer := y }, rfl, hlet, gx, o, hox, gy, fun H9 s9 => ⟨_, rfl, rfl, _, rfl, ?_⟩⟩
        rw [show linesX { L with offer := y } o = linesX L o from rfl, ← ez, decide_eq_true rfl]
        exact iteF ⟨st7.same (s8.trans s9), _, _, _, _, rfl⟩
      · refine ⟨true, T.te_LetterError_LetterError, fun _ ae hae => ?_, fun z => by cases z⟩
        refine ⟨fun σ' H2 => σ' = [some (.ref a), some (.ref s), some (.int (0 + (i : Nat))), some (.str z), some (.int (flt 0 moreL (Txt.split z "\n") : Nat)), some (.ref ae), v6] ∧ H2 = H8, ?_, ?_⟩
        · generalize flt 0 moreL (Txt.split z "\n") = N at *
          have e1 : decide (V.int (N : Nat) = V.int 0) = false := decide_eq_false fun q => h0 (by have := V.int.inj q; omega)
          refine ⟨_, rfl, rfl, _, rfl, ?_⟩
          rw [e1]
          refine iteF ⟨_, rfl, _, _, true, d, _, rfl, fun u h => h, T.ki_LetterError_TrunklandError, rfl, rfl, hd, _, rfl, iteF ?_⟩
          refine ⟨_, rfl, rfl, rfl, d, _, _, rfl, hd, rfl, _, _, _, _, false, rfl, ClsV.ty "bool", TyX.base (TyOf.int _), kit_ty (by decide +kernel), _, rfl, iteF ?_⟩
          refine ⟨_, rfl, rfl, rfl, d, _, _, rfl, hd, rfl, _, rfl, rfl, _, rfl, ?_⟩
          rw [decide_eq_true rfl]
          exact iteF ⟨rfl, rfl⟩
        · rintro σ' H2 ⟨rfl, rfl⟩
          exact ⟨st7.same s8, _, _, _, _, rfl⟩
    · obtain ⟨st, v2, v3, v4, v6, rfl⟩ := q
      exact k _
end K4
set_option maxHeartbeats 0
namespace K4
open PySem PySem.Spec PyProof.Rows L2 SX TK NdefX
/-! ### the head: facts by names, the run -/
def d_is_name : He.DefD := ⟨("is_name", none), "is_name", "is_name", defArgs s_is_name, defBody s_is_name, defScope s_is_name, [], []⟩
def d_is_tag : He.DefD := ⟨("is_tag", none), "is_tag", "is_tag", defArgs s_is_tag, defBody s_is_tag, defScope s_is_tag, [], []⟩
def d_is_address : He.DefD := ⟨("is_address", none), "is_address", "is_address", defArgs s_is_address, defBody s_is_address, defScope s_is_address, [], []⟩
def d_read_number : He.DefD := ⟨("read_number", none), "read_number", "read_number", defArgs s_read_number, defBody s_read_number, defScope s_read_number, [], []⟩
def d_split_address : He.DefD := ⟨("split_address", none), "split_address", "split_address", defArgs s_split_address, defBody s_split_address, defScope s_split_address, [], []⟩
def d_consists_of : He.DefD := ⟨("_consists_of", none), "_consists_of", "_consists_of", defArgs s_consists_of, defBody s_consists_of, defScope s_consists_of, [], []⟩
def d_read_offer : He.DefD := ⟨("read_offer", none), "read_offer", "read_offer", defArgs s_read_offer, defBody s_read_offer, defScope s_read_offer, [], []⟩
def d_write_offer : He.DefD := ⟨("write_offer", none), "write_offer", "write_offer", defArgs s_write_offer, defBody s_write_offer, defScope s_write_offer, [], []⟩
def d_read_formats : He.DefD := ⟨("_read_formats", none), "_read_formats", "_read_formats", defArgs s_read_formats, defBody s_read_formats, defScope s_read_formats, [], []⟩
def d_Letter___init : He.DefD := ⟨("Letter", some "__init__"), "__init__", "Letter.__init__", defArgs s_Letter___init, defBody s_Letter___init, defScope s_Letter___init, [], [("code", .non), ("offer", .non), ("stay", .non), ("goal", .non)]⟩
def d_Letter_parts : He.DefD := ⟨("Letter", some "parts"), "parts", "Letter.parts", defArgs s_Letter_parts, defBody s_Letter_parts, defScope s_Letter_parts, [], []⟩
def d_Letter_reply : He.DefD := ⟨("Letter", some "reply"), "reply", "Letter.reply", defArgs s_Letter_reply, defBody s_Letter_reply, defScope s_Letter_reply, [.non, .non], []⟩
def d_write : He.DefD := ⟨("write", none), "write", "write", defArgs s_write, defBody s_write, defScope s_write, [], []⟩
def d_read : He.DefD := ⟨("read", none), "read", "read", defArgs s_read, defBody s_read, defScope s_read, [], []⟩
def d_write_head : He.DefD := ⟨("_write_head", none), "_write_head", "_write_head", defArgs s_write_head, defBody s_write_head, defScope s_write_head, [], []⟩
def d_read_head : He.DefD := ⟨("_read_head", none), "_read_head", "_read_head", defArgs s_read_head, defBody s_read_head, defScope s_read_head, [], []⟩
def d_read_line : He.DefD := ⟨("_read_line", none), "_read_line", "_read_line", defArgs s_read_line, defBody s_read_line, defScope s_read_line, [], []⟩
def d_read_origin : He.DefD := ⟨("_read_origin", none), "_read_origin", "_read_origin", defArgs s_read_origin, defBody s_read_origin, defScope s_read_origin, [], []⟩
def d_read_target : He.DefD := ⟨("_read_target", none), "_read_target", "_read_target", defArgs s_read_target, defBody s_read_target, defScope s_read_target, [], []⟩
def d_read_single : He.DefD := ⟨("_read_single", none), "_read_single", "_read_single", defArgs s_read_single, defBody s_read_single, defScope s_read_single, [], []⟩
def d_law_state : He.DefD := ⟨("_law_state", none), "_law_state", "_law_state", defArgs s_law_state, defBody s_law_state, defScope s_law_state, [], []⟩
def d_law_draw : He.DefD := ⟨("_law_draw", none), "_law_draw", "_law_draw", defArgs s_law_draw, defBody s_law_draw, defScope s_law_draw, [], []⟩
def d_law_pick : He.DefD := ⟨("_law_pick", none), "_law_pick", "_law_pick", defArgs s_law_pick, defBody s_law_pick, defScope s_law_pick, [], []⟩
def d_law_tag : He.DefD := ⟨("_law_tag", none), "_law_tag", "_law_tag", defArgs s_law_tag, defBody s_law_tag, defScope s_law_tag, [], []⟩
def d_law_name : He.DefD := ⟨("_law_name", none), "_law_name", "_law_name", defArgs s_law_name, defBody s_law_name, defScope s_law_name, [], []⟩
def d_law_address : He.DefD := ⟨("_law_address", none), "_law_address", "_law_address", defArgs s_law_address, defBody s_law_address, defScope s_law_address, [], []⟩
def d_law_offer : He.DefD := ⟨("_law_offer", none), "_law_offer", "_law_offer", defArgs s_law_offer, defBody s_law_offer, defScope s_law_offer, [], []⟩
def d_law_parts : He.DefD := ⟨("_law_parts", none), "_law_parts", "_law_parts", defArgs s_law_parts, defBody s_law_parts, defScope s_law_parts, [], []⟩
def d_law_text : He.DefD := ⟨("_law_text", none), "_law_text", "_law_text", defArgs s_law_text, defBody s_law_text, defScope s_law_text, [], []⟩
def d_law_only : He.DefD := ⟨("_law_only", none), "_law_only", "_law_only", defArgs s_law_only, defBody s_law_only, defScope s_law_only, [], []⟩
def d_law_is_name : He.DefD := ⟨("_law_is_name", none), "_law_is_name", "_law_is_name", defArgs s_law_is_name, defBody s_law_is_name, defScope s_law_is_name, [], []⟩
def d_law_is_tag : He.DefD := ⟨("_law_is_tag", none), "_law_is_tag", "_law_is_tag", defArgs s_law_is_tag, defBody s_law_is_tag, defScope s_law_is_tag, [], []⟩
def d_law_is_address : He.DefD := ⟨("_law_is_address", none), "_law_is_address", "_law_is_address", defArgs s_law_is_address, defBody s_law_is_address, defScope s_law_is_address, [], []⟩
def d_law_is_number : He.DefD := ⟨("_law_is_number", none), "_law_is_number", "_law_is_number", defArgs s_law_is_number, defBody s_law_is_number, defScope s_law_is_number, [], []⟩
def d_law_is_offer : He.DefD := ⟨("_law_is_offer", none), "_law_is_offer", "_law_is_offer", defArgs s_law_is_offer, defBody s_law_is_offer, defScope s_law_is_offer, [], []⟩
def d_law_stands : He.DefD := ⟨("_law_stands", none), "_law_stands", "_law_stands", defArgs s_law_stands, defBody s_law_stands, defScope s_law_stands, [], []⟩
def d_law_fault : He.DefD := ⟨("_law_fault", none), "_law_fault", "_law_fault", defArgs s_law_fault, defBody s_law_fault, defScope s_law_fault, [], []⟩
def d_law_changed : He.DefD := ⟨("_law_changed", none), "_law_changed", "_law_changed", defArgs s_law_changed, defBody s_law_changed, defScope s_law_changed, [], []⟩
def d_law : He.DefD := ⟨("law", none), "law", "law", defArgs s_law, defBody s_law, defScope s_law, [], []⟩
def fnL : List He.DefD := [d_is_name, d_is_tag, d_is_address, d_read_number, d_split_address, d_consists_of, d_read_offer, d_write_offer, d_read_formats, d_Letter___init, d_Letter_parts, d_Letter_reply, d_write, d_read, d_write_head, d_read_head, d_read_line, d_read_origin, d_read_target, d_read_single, d_law_state, d_law_draw, d_law_pick, d_law_tag, d_law_name, d_law_address, d_law_offer, d_law_parts, d_law_text, d_law_only, d_law_is_name, d_law_is_tag, d_law_is_address, d_law_is_number, d_law_is_offer, d_law_stands, d_law_fault, d_law_changed, d_law]
def faL : List He.Fa := [.glo "CODES", .str "DIGITS" "0123456789", .int "GREATEST_CODE" 99, .int "GREATEST_PORT" 65535, .int "GREATEST_SEQ" 999999, .int "LONGEST_NUMBER" 9, .int "LONGEST_STAY" 9999, .int "LONGEST_WORD" 16, .glo "MODES", .int "MOST_FORMATS" 6, .str "NAME_MARKS" "abcdefghijklmnopqrstuvwxyz0123456789", .glo "NEEDED", .glo "POSSIBLE", .str "SMALL_LETTERS" "abcdefghijklmnopqrstuvwxyz", .str "TAG_MARKS" "ABCDEFGHIJKLMNOPQRSTUVWXYZabcdefghijklmnopqrstuvwxyz0123456789", .glo "VERBS", .free "abs", .free "all", .free "bool", .free "int", .free "isinstance", .free "len", .free "min", .free "range", .free "set", .free "str", .free "super", .free "tuple", .cls "Letter", .noat "Letter" "verb", .noat "Letter" "code", .noat "Letter" "call", .noat "Letter" "origin", .noat "Letter" "origin_tag", .noat "Letter" "target", .noat "Letter" "target_tag", .noat "Letter" "seq", .noat "Letter" "way", .noat "Letter" "offer", .noat "Letter" "stay", .noat "Letter" "goal", .glo "Letter", .mkr "Letter", .glo "TrunklandError", .glo "LetterError", .exm "LetterError" "LetterError" true, .glo "is_name", .glo "is_tag", .glo "is_address", .glo "read_number", .glo "split_address", .glo "_consists_of", .glo "read_offer", .glo "write_offer", .glo "_read_formats", .meth "Letter" "parts", .meth "Letter" "reply", .glo "write", .glo "read", .glo "_write_head", .glo "_read_head", .glo "_read_line", .glo "_read_origin", .glo "_read_target", .glo "_read_single", .glo "_law_state", .glo "_law_draw", .glo "_law_pick", .glo "_law_tag", .glo "_law_name", .glo "_law_address", .glo "_law_offer", .glo "_law_parts", .glo "_law_text", .glo "_law_only", .glo "_law_is_name", .glo "_law_is_tag", .glo "_law_is_address", .glo "_law_is_number", .glo "_law_is_offer", .glo "_law_stands", .glo "_law_fault", .glo "_law_changed", .glo "law"]
def loose0 : List Str := ["SMALL_LETTERS", "DIGITS", "NAME_MARKS", "TAG_MARKS", "LONGEST_WORD", "LONGEST_NUMBER", "MODES", "GREATEST_PORT", "MOST_FORMATS", "VERBS", "CODES", "GREATEST_CODE", "GREATEST_SEQ", "LONGEST_STAY", "NEEDED", "POSSIBLE", "is_name", "is_tag", "is_address", "read_number", "split_address", "_consists_of", "read_offer", "write_offer", "_read_formats", "write", "read", "_write_head", "_read_head", "_read_line"]
def loose1 : List Str := ["_read_origin", "_read_target", "_read_single", "_law_state", "_law_draw", "_law_pick", "_law_tag", "_law_name", "_law_address", "_law_offer", "_law_parts", "_law_text", "_law_only", "_law_is_name", "_law_is_tag", "_law_is_address", "_law_is_number", "_law_is_offer", "_law_stands", "_law_fault", "_law_changed", "TrunklandError", "LetterError", "Letter"]
abbrev Row0 : PySem.W.OpenRow := PySem.W.OpenLaw.row PySem.Challenge.rw_trunkland_k04_texts_that_are_no_letters
def exL (K : PySem.W.Frag) : List Bool := [He.tupB K "CODES" [.int 18, .int 20, .int 41, .int 43, .int 44, .int 45, .int 46, .int 48, .int 50], He.tupB K "MODES" [.str "both", .str "send", .str "take", .str "none"], He.tupB K "NEEDED" [.str "call", .str "from", .str "to", .str "seq", .str "way"], He.tupB K "POSSIBLE" [.str "offer", .str "stay", .str "goal"], He.tupB K "VERBS" [.str "CALL", .str "KEEP", .str "STOP", .str "END", .str "TURN", .str "MOVE", .str "LIVE", .str "SIGN"], TKE.excAll K "LetterError" "line" "LetterError.__init__" PySem.Challenge.pw_trunkland_k04_texts_that_are_no_letters.main.file, decide (PySem.W.kitOne K (.ref (He.ga K "LetterError")) (.ref (He.ga K "TrunklandError")) = some true)]
def e_LetterError : He.DefD := ⟨("LetterError", some "__init__"), "__init__", "LetterError.__init__", defArgs si_LetterError, defBody si_LetterError, defScope si_LetterError, [], []⟩
def esL : List He.DefD := [e_LetterError]
abbrev hk : PySem.W.Hook := TKE.hookE 6 faL fnL exL esL
def ob (s : PySem.W.SharedT) : TKE.AlE := TKE.obsE 6 faL fnL exL esL (HandSHeadRun.getT s)
theorem ob_eq (s : PySem.W.SharedT) : ob s = hk.obs s.abs := TKE.obsE_eq (HandSHeadRun.getT_eq s)
theorem run (w : World) : HandSHeadRun.RunEq Row0 (PySem.W.view Row0.prog [59]) hk ob 4000 (loose0 ++ loose1) w := by
  intro os
  kernel_rfl
theorem facts {P : Program} {w : World} {K : PySem.W.Frag} {h : Heap} {mg : Str → Option Value} {f : Addr} (X : K.In h) (G : h.Ns mainGlobals mg) (hfa : mg ("law" : Str) = some (.ref f)) (c : He.SaysD faL fnL K) (cx : (exL K).all id = true) (ce : esL.map (fun d => TKE.fnC K d.at_) = esL.map He.DefD.val) (hP : P.main.file = PySem.Challenge.pw_trunkland_k04_texts_that_are_no_letters.main.file) (htop : (P.main.scope.names.lookup ("super" : Str)).isSome = false) :
    ∃ fd : FuncData, (∀ (s : Shared) (v : Value), BindsTo s fd ⟨[v], []⟩ [("script", v)]) ∧ ∀ base : Heap, K.In base → base.Ns mainGlobals mg → FnOk P w K mg base CX0 8 f fd ["script"] (spLaw K) := by
  have x_0 := He.tupB_ok (TK.exAt cx 0 rfl)
  have x_1 := He.tupB_ok (TK.exAt cx 1 rfl)
  have x_2 := He.tupB_ok (TK.exAt cx 2 rfl)
  have x_3 := He.tupB_ok (TK.exAt cx 3 rfl)
  have x_4 := He.tupB_ok (TK.exAt cx 4 rfl)
  have b_LetterError := TKE.exTxt_of (P := P) (TK.exAt cx 5 rfl) hP (TKE.fnC_at ce 0 (d := e_LetterError) rfl)
  have T : Tx K mg := ⟨He.glo_ok X G (c.fact 0 (f := .glo "CODES") rfl), x_0, He.str_ok X G (c.fact 1 (f := .str "DIGITS" "0123456789") rfl), He.int_ok X G (c.fact 2 (f := .int "GREATEST_CODE" 99) rfl), He.int_ok X G (c.fact 3 (f := .int "GREATEST_PORT" 65535) rfl), He.int_ok X G (c.fact 4 (f := .int "GREATEST_SEQ" 999999) rfl), He.int_ok X G (c.fact 5 (f := .int "LONGEST_NUMBER" 9) rfl), He.int_ok X G (c.fact 6 (f := .int "LONGEST_STAY" 9999) rfl), He.int_ok X G (c.fact 7 (f := .int "LONGEST_WORD" 16) rfl), He.glo_ok X G (c.fact 8 (f := .glo "MODES") rfl), x_1, He.int_ok X G (c.fact 9 (f := .int "MOST_FORMATS" 6) rfl), He.str_ok X G (c.fact 10 (f := .str "NAME_MARKS" "abcdefghijklmnopqrstuvwxyz0123456789") rfl), He.glo_ok X G (c.fact 11 (f := .glo "NEEDED") rfl), x_2, He.glo_ok X G (c.fact 12 (f := .glo "POSSIBLE") rfl), x_3, He.str_ok X G (c.fact 13 (f := .str "SMALL_LETTERS" "abcdefghijklmnopqrstuvwxyz") rfl), He.str_ok X G (c.fact 14 (f := .str "TAG_MARKS" "ABCDEFGHIJKLMNOPQRSTUVWXYZabcdefghijklmnopqrstuvwxyz0123456789") rfl), He.glo_ok X G (c.fact 15 (f := .glo "VERBS") rfl), x_4, He.free_ok X G (c.fact 16 (f := .free "abs") rfl), He.free_ok X G (c.fact 17 (f := .free "all") rfl), He.free_ok X G (c.fact 18 (f := .free "bool") rfl), He.free_ok X G (c.fact 19 (f := .free "int") rfl), He.free_ok X G (c.fact 20 (f := .free "isinstance") rfl), He.free_ok X G (c.fact 21 (f := .free "len") rfl), He.free_ok X G (c.fact 22 (f := .free "min") rfl), He.free_ok X G (c.fact 23 (f := .free "range") rfl), He.free_ok X G (c.fact 24 (f := .free "set") rfl), He.free_ok X G (c.fact 25 (f := .free "str") rfl), He.free_ok X G (c.fact 26 (f := .free "super") rfl), He.free_ok X G (c.fact 27 (f := .free "tuple") rfl), He.cls_ok (c.fact 28 (f := .cls "Letter") rfl), He.noat_ok (c.fact 29 (f := .noat "Letter" "verb") rfl), He.noat_ok (c.fact 30 (f := .noat "Letter" "code") rfl), He.noat_ok (c.fact 31 (f := .noat "Letter" "call") rfl), He.noat_ok (c.fact 32 (f := .noat "Letter" "origin") rfl), He.noat_ok (c.fact 33 (f := .noat "Letter" "origin_tag") rfl), He.noat_ok (c.fact 34 (f := .noat "Letter" "target") rfl), He.noat_ok (c.fact 35 (f := .noat "Letter" "target_tag") rfl), He.noat_ok (c.fact 36 (f := .noat "Letter" "seq") rfl), He.noat_ok (c.fact 37 (f := .noat "Letter" "way") rfl), He.noat_ok (c.fact 38 (f := .noat "Letter" "offer") rfl), He.noat_ok (c.fact 39 (f := .noat "Letter" "stay") rfl), He.noat_ok (c.fact 40 (f := .noat "Letter" "goal") rfl), He.glo_ok X G (c.fact 43 (f := .glo "TrunklandError") rfl), He.glo_ok X G (c.fact 44 (f := .glo "LetterError") rfl), b_LetterError.xf, b_LetterError.ec, b_LetterError.no, of_decide_eq_true (c.fact 45 (f := .exm "LetterError" "LetterError" true) rfl), of_decide_eq_true (TK.exAt cx 6 rfl)⟩
  obtain ⟨fd_is_name, F_is_name⟩ := c.def_ 0 (d := d_is_name) rfl
  obtain ⟨fd_is_tag, F_is_tag⟩ := c.def_ 1 (d := d_is_tag) rfl
  obtain ⟨fd_is_address, F_is_address⟩ := c.def_ 2 (d := d_is_address) rfl
  obtain ⟨fd_read_number, F_read_number⟩ := c.def_ 3 (d := d_read_number) rfl
  obtain ⟨fd_split_address, F_split_address⟩ := c.def_ 4 (d := d_split_address) rfl
  obtain ⟨fd_consists_of, F_consists_of⟩ := c.def_ 5 (d := d_consists_of) rfl
  obtain ⟨fd_read_offer, F_read_offer⟩ := c.def_ 6 (d := d_read_offer) rfl
  obtain ⟨fd_write_offer, F_write_offer⟩ := c.def_ 7 (d := d_write_offer) rfl
  obtain ⟨fd_read_formats, F_read_formats⟩ := c.def_ 8 (d := d_read_formats) rfl
  obtain ⟨fd_Letter___init, F_Letter___init⟩ := c.def_ 9 (d := d_Letter___init) rfl
  obtain ⟨fd_Letter_parts, F_Letter_parts⟩ := c.def_ 10 (d := d_Letter_parts) rfl
  obtain ⟨fd_Letter_reply, F_Letter_reply⟩ := c.def_ 11 (d := d_Letter_reply) rfl
  obtain ⟨fd_write, F_write⟩ := c.def_ 12 (d := d_write) rfl
  obtain ⟨fd_read, F_read⟩ := c.def_ 13 (d := d_read) rfl
  obtain ⟨fd_write_head, F_write_head⟩ := c.def_ 14 (d := d_write_head) rfl
  obtain ⟨fd_read_head, F_read_head⟩ := c.def_ 15 (d := d_read_head) rfl
  obtain ⟨fd_read_line, F_read_line⟩ := c.def_ 16 (d := d_read_line) rfl
  obtain ⟨fd_read_origin, F_read_origin⟩ := c.def_ 17 (d := d_read_origin) rfl
  obtain ⟨fd_read_target, F_read_target⟩ := c.def_ 18 (d := d_read_target) rfl
  obtain ⟨fd_read_single, F_read_single⟩ := c.def_ 19 (d := d_read_single) rfl
  obtain ⟨fd_law_state, F_law_state⟩ := c.def_ 20 (d := d_law_state) rfl
  obtain ⟨fd_law_draw, F_law_draw⟩ := c.def_ 21 (d := d_law_draw) rfl
  obtain ⟨fd_law_pick, F_law_pick⟩ := c.def_ 22 (d := d_law_pick) rfl
  obtain ⟨fd_law_tag, F_law_tag⟩ := c.def_ 23 (d := d_law_tag) rfl
  obtain ⟨fd_law_name, F_law_name⟩ := c.def_ 24 (d := d_law_name) rfl
  obtain ⟨fd_law_address, F_law_address⟩ := c.def_ 25 (d := d_law_address) rfl
  obtain ⟨fd_law_offer, F_law_offer⟩ := c.def_ 26 (d := d_law_offer) rfl
  obtain ⟨fd_law_parts, F_law_parts⟩ := c.def_ 27 (d := d_law_parts) rfl
  obtain ⟨fd_law_text, F_law_text⟩ := c.def_ 28 (d := d_law_text) rfl
  obtain ⟨fd_law_only, F_law_only⟩ := c.def_ 29 (d := d_law_only) rfl
  obtain ⟨fd_law_is_name, F_law_is_name⟩ := c.def_ 30 (d := d_law_is_name) rfl
  obtain ⟨fd_law_is_tag, F_law_is_tag⟩ := c.def_ 31 (d := d_law_is_tag) rfl
  obtain ⟨fd_law_is_address, F_law_is_address⟩ := c.def_ 32 (d := d_law_is_address) rfl
  obtain ⟨fd_law_is_number, F_law_is_number⟩ := c.def_ 33 (d := d_law_is_number) rfl
  obtain ⟨fd_law_is_offer, F_law_is_offer⟩ := c.def_ 34 (d := d_law_is_offer) rfl
  obtain ⟨fd_law_stands, F_law_stands⟩ := c.def_ 35 (d := d_law_stands) rfl
  obtain ⟨fd_law_fault, F_law_fault⟩ := c.def_ 36 (d := d_law_fault) rfl
  obtain ⟨fd_law_changed, F_law_changed⟩ := c.def_ 37 (d := d_law_changed) rfl
  obtain ⟨fd_law, F_law⟩ := c.def_ 38 (d := d_law) rfl
  have e := hfa.symm.trans (He.glo_ok X G (c.fact 83 (f := .glo "law") rfl))
  cases e
  have b := FunD.bindsA (ps := ["script"]) F_law fun _ _ _ _ _ _ us hl => match us, hl with | [_], _ => rfl
  refine ⟨fd_law, fun s v => b s [v] rfl, fun base _ _ => ?_⟩
  have x_LetterError := ok_exc_LetterError (w := w) (base := base) T.f_super htop T.g_LetterError b_LetterError
  have c_consists_of := cal_of (P := P) (w := w) (base := base) F_consists_of (ok_consists_of T  F_consists_of) (He.glo_ok X G (c.fact 51 (f := .glo "_consists_of") rfl)) fun _ _ _ _ _ _ us hl => match us, hl with | [_, _, _], _ => rfl
  have c_is_name := cal_of (P := P) (w := w) (base := base) F_is_name (ok_is_name T c_consists_of F_is_name) (He.glo_ok X G (c.fact 46 (f := .glo "is_name") rfl)) fun _ _ _ _ _ _ us hl => match us, hl with | [_], _ => rfl
  have c_is_tag := cal_of (P := P) (w := w) (base := base) F_is_tag (ok_is_tag T c_consists_of F_is_tag) (He.glo_ok X G (c.fact 47 (f := .glo "is_tag") rfl)) fun _ _ _ _ _ _ us hl => match us, hl with | [_], _ => rfl
  have c_read_number := cal_of (P := P) (w := w) (base := base) F_read_number (ok_read_number T c_consists_of F_read_number) (He.glo_ok X G (c.fact 49 (f := .glo "read_number") rfl)) fun _ _ _ _ _ _ us hl => match us, hl with | [_, _], _ => rfl
  have c_split_address := cal_of (P := P) (w := w) (base := base) F_split_address (ok_split_address T c_is_name F_split_address) (He.glo_ok X G (c.fact 50 (f := .glo "split_address") rfl)) fun _ _ _ _ _ _ us hl => match us, hl with | [_], _ => rfl
  have c_is_address := cal_of (P := P) (w := w) (base := base) F_is_address (ok_is_address T c_split_address F_is_address) (He.glo_ok X G (c.fact 48 (f := .glo "is_address") rfl)) fun _ _ _ _ _ _ us hl => match us, hl with | [_], _ => rfl
  have c_write_offer := cal_of (P := P) (w := w) (base := base) F_write_offer (ok_write_offer T  F_write_offer) (He.glo_ok X G (c.fact 53 (f := .glo "write_offer") rfl)) fun _ _ _ _ _ _ us hl => match us, hl with | [_], _ => rfl
  have c_read_formats := cal_of (P := P) (w := w) (base := base) F_read_formats (ok_read_formats T c_is_name F_read_formats) (He.glo_ok X G (c.fact 54 (f := .glo "_read_formats") rfl)) fun _ _ _ _ _ _ us hl => match us, hl with | [_], _ => rfl
  have c_read_offer := cal_of (P := P) (w := w) (base := base) F_read_offer (ok_read_offer T c_read_number c_read_formats F_read_offer) (He.glo_ok X G (c.fact 52 (f := .glo "read_offer") rfl)) fun _ _ _ _ _ _ us hl => match us, hl with | [_], _ => rfl
  obtain ⟨mv_Letter_b, kb_Letter_b⟩ := TK.kbn_of (ps := ["self", "verb", "call", "origin", "origin_tag", "target", "target_tag", "seq", "way", "code", "offer", "stay", "goal"]) (ks := ["verb", "code", "call", "origin", "origin_tag", "target", "target_tag", "seq", "way", "offer", "stay"]) (L := ["verb", "call", "origin", "origin_tag", "target", "target_tag", "seq", "way", "code", "offer", "stay", "goal"]) (self := "self") F_Letter___init [("goal", (V.non))] (fun {α : Type} (us mz zs : List α) => us ++ ((((zs.drop 0).take 1) ++ (((zs.drop 2).take 7) ++ (((zs.drop 1).take 1) ++ (((zs.drop 9).take 2) ++ ((mz.drop 0).take 1))))))) (by intro z; cases z) (fun rv rm rz => rv.append (((rz.drop 0).take 1).append (((rz.drop 2).take 7).append (((rz.drop 1).take 1).append (((rz.drop 9).take 2).append ((rm.drop 0).take 1)))))) (by kernel_rfl) (by kernel_rfl) (by kernel_rfl) (by kernel_rfl) (by kernel_rfl) (by decide +kernel) (by decide +kernel) (by intro q hq; simp only [List.mem_cons, List.not_mem_nil, or_false] at hq; rcases hq with rfl; exact List.mem_cons_of_mem _ (List.mem_cons_of_mem _ (List.mem_cons_of_mem _ (List.mem_cons_self ..)))) (by decide +kernel) (fun u mv ws h1 h2 => match mv, ws, h1, h2 with | [m0], [k0, k1, k2, k3, k4, k5, k6, k7, k8, k9, k10], _, _ => by kernel_rfl)
  have c_mk_Letter_b : MakK P w K mg base 1 "Letter" (He.ga K "Letter") (spLetInit K) 0 ["verb", "code", "call", "origin", "origin_tag", "target", "target_tag", "seq", "way", "offer", "stay"] (fun vs zs => vs ++ ((((zs.drop 0).take 1) ++ (((zs.drop 2).take 7) ++ (((zs.drop 1).take 1) ++ (((zs.drop 9).take 2) ++ ((([(V.non)] : List V).drop 0).take 1))))))) := ⟨_, _, ["self", "verb", "call", "origin", "origin_tag", "target", "target_tag", "seq", "way", "code", "offer", "stay", "goal"], _, (He.mkr_ok (c.fact 42 (f := .mkr "Letter") rfl)), ok_Letter___init T  F_Letter___init, He.glo_ok X G (c.fact 41 (f := .glo "Letter") rfl), kb_Letter_b⟩
  obtain ⟨mv_Letter_c, kb_Letter_c⟩ := TK.kbn_of (ps := ["self", "verb", "call", "origin", "origin_tag", "target", "target_tag", "seq", "way", "code", "offer", "stay", "goal"]) (ks := ["verb", "code", "call", "origin", "origin_tag", "target", "target_tag", "seq", "way", "offer", "stay", "goal"]) (L := ["verb", "call", "origin", "origin_tag", "target", "target_tag", "seq", "way", "code", "offer", "stay", "goal"]) (self := "self") F_Letter___init [] (fun {α : Type} (us mz zs : List α) => us ++ ((((zs.drop 0).take 1) ++ (((zs.drop 2).take 7) ++ (((zs.drop 1).take 1) ++ ((zs.drop 9).take 3)))))) (by intro z; cases z) (fun rv rm rz => rv.append (((rz.drop 0).take 1).append (((rz.drop 2).take 7).append (((rz.drop 1).take 1).append ((rz.drop 9).take 3))))) (by kernel_rfl) (by kernel_rfl) (by kernel_rfl) (by kernel_rfl) (by kernel_rfl) (by decide +kernel) (by decide +kernel) (fun q hq => nomatch hq) (by decide +kernel) (fun u mv ws h1 h2 => match mv, ws, h1, h2 with | [], [k0, k1, k2, k3, k4, k5, k6, k7, k8, k9, k10, k11], _, _ => by kernel_rfl)
  have c_mk_Letter_c : MakK P w K mg base 1 "Letter" (He.ga K "Letter") (spLetInit K) 0 ["verb", "code", "call", "origin", "origin_tag", "target", "target_tag", "seq", "way", "offer", "stay", "goal"] (fun vs zs => vs ++ ((((zs.drop 0).take 1) ++ (((zs.drop 2).take 7) ++ (((zs.drop 1).take 1) ++ ((zs.drop 9).take 3)))))) := ⟨_, _, ["self", "verb", "call", "origin", "origin_tag", "target", "target_tag", "seq", "way", "code", "offer", "stay", "goal"], _, (He.mkr_ok (c.fact 42 (f := .mkr "Letter") rfl)), ok_Letter___init T  F_Letter___init, He.glo_ok X G (c.fact 41 (f := .glo "Letter") rfl), kb_Letter_c⟩
  have c_mk_Letter_ss : TK.MakS P w K mg base 1 "Letter" (He.ga K "Letter") (spLetInit K) (TK.SsOk "self" ["verb", "call", "origin", "origin_tag", "target", "target_tag", "seq", "way", "code", "offer", "stay", "goal"] ["verb", "call", "origin", "origin_tag", "target", "target_tag", "seq", "way"]) := ⟨_, _, ["self", "verb", "call", "origin", "origin_tag", "target", "target_tag", "seq", "way", "code", "offer", "stay", "goal"], (He.mkr_ok (c.fact 42 (f := .mkr "Letter") rfl)), ok_Letter___init T  F_Letter___init, He.glo_ok X G (c.fact 41 (f := .glo "Letter") rfl), TK.kbn_ss F_Letter___init (by intro z; cases z) (by show ∀ q ∈ ([("code", (V.non)), ("offer", (V.non)), ("stay", (V.non)), ("goal", (V.non))] : List (Str × V)), q.2 = V.non; intro q hq; simp only [List.mem_cons, List.not_mem_nil, or_false] at hq; rcases hq with rfl | rfl | rfl | rfl <;> rfl) (by kernel_rfl) (by kernel_rfl) (by kernel_rfl) (by kernel_rfl) (by kernel_rfl) (by decide +kernel) (by show ∀ n ∈ (["verb", "call", "origin", "origin_tag", "target", "target_tag", "seq", "way", "code", "offer", "stay", "goal"] : List Str), n ∈ (["verb", "call", "origin", "origin_tag", "target", "target_tag", "seq", "way"] : List Str) ∨ n ∈ (["code", "offer", "stay", "goal"] : List Str); decide +kernel)⟩
  have c_Letter_parts := met_of (P := P) (w := w) (base := base) T.cl_Letter (He.meth_ok (c.fact 55 (f := .meth "Letter" "parts") rfl)) F_Letter_parts (ok_Letter_parts T  F_Letter_parts) fun _ _ _ _ _ _ us hl => match us, hl with | [_], _ => rfl
  have c_Letter_reply := metD_of (P := P) (w := w) (base := base) T.cl_Letter (He.meth_ok (c.fact 56 (f := .meth "Letter" "reply") rfl)) F_Letter_reply (ok_Letter_reply T c_mk_Letter_b F_Letter_reply) (by intro z; cases z) (by show 2 ≤ 5; decide) fun _ _ _ _ _ _ _ us its h1 h2 => match us, its, h1, h2 with | [_, _, _], [_, _], _, _ => ⟨_, rfl, rfl⟩
  have c_write_head := cal_of (P := P) (w := w) (base := base) F_write_head (ok_write_head T  F_write_head) (He.glo_ok X G (c.fact 59 (f := .glo "_write_head") rfl)) fun _ _ _ _ _ _ us hl => match us, hl with | [_], _ => rfl
  have c_write := cal_of (P := P) (w := w) (base := base) F_write (ok_write T c_write_head c_write_offer F_write) (He.glo_ok X G (c.fact 57 (f := .glo "write") rfl)) fun _ _ _ _ _ _ us hl => match us, hl with | [_], _ => rfl
  have c_read_head := cal_of (P := P) (w := w) (base := base) F_read_head (ok_read_head T c_read_number F_read_head) (He.glo_ok X G (c.fact 60 (f := .glo "_read_head") rfl)) fun _ _ _ _ _ _ us hl => match us, hl with | [_], _ => rfl
  have c_read_origin := cal_of (P := P) (w := w) (base := base) F_read_origin (ok_read_origin T c_is_address c_is_tag F_read_origin) (He.glo_ok X G (c.fact 62 (f := .glo "_read_origin") rfl)) fun _ _ _ _ _ _ us hl => match us, hl with | [_], _ => rfl
  have c_read_target := cal_of (P := P) (w := w) (base := base) F_read_target (ok_read_target T c_is_address c_is_tag F_read_target) (He.glo_ok X G (c.fact 63 (f := .glo "_read_target") rfl)) fun _ _ _ _ _ _ us hl => match us, hl with | [_], _ => rfl
  have c_read_single := cal_of (P := P) (w := w) (base := base) F_read_single (ok_read_single T c_is_address c_is_tag c_read_number F_read_single) (He.glo_ok X G (c.fact 64 (f := .glo "_read_single") rfl)) fun _ _ _ _ _ _ us hl => match us, hl with | [_, _], _ => rfl
  have c_read_line := cal_of (P := P) (w := w) (base := base) F_read_line (ok_read_line T c_read_origin c_read_target c_read_single c_read_offer F_read_line) (He.glo_ok X G (c.fact 61 (f := .glo "_read_line") rfl)) fun _ _ _ _ _ _ us hl => match us, hl with | [_, _], _ => rfl
  have c_law_state := cal_of (P := P) (w := w) (base := base) F_law_state (ok_law_state T  F_law_state) (He.glo_ok X G (c.fact 65 (f := .glo "_law_state") rfl)) fun _ _ _ _ _ _ us hl => match us, hl with | [_], _ => rfl
  have c_law_draw := cal_of (P := P) (w := w) (base := base) F_law_draw (ok_law_draw T  F_law_draw) (He.glo_ok X G (c.fact 66 (f := .glo "_law_draw") rfl)) fun _ _ _ _ _ _ us hl => match us, hl with | [_, _], _ => rfl
  have c_law_pick := cal_of (P := P) (w := w) (base := base) F_law_pick (ok_law_pick T c_law_draw F_law_pick) (He.glo_ok X G (c.fact 67 (f := .glo "_law_pick") rfl)) fun _ _ _ _ _ _ us hl => match us, hl with | [_, _], _ => rfl
  have c_law_tag := cal_of (P := P) (w := w) (base := base) F_law_tag (ok_law_tag T c_law_draw c_law_pick F_law_tag) (He.glo_ok X G (c.fact 68 (f := .glo "_law_tag") rfl)) fun _ _ _ _ _ _ us hl => match us, hl with | [_], _ => rfl
  have c_law_name := cal_of (P := P) (w := w) (base := base) F_law_name (ok_law_name T c_law_draw c_law_pick F_law_name) (He.glo_ok X G (c.fact 69 (f := .glo "_law_name") rfl)) fun _ _ _ _ _ _ us hl => match us, hl with | [_], _ => rfl
  have c_law_address := cal_of (P := P) (w := w) (base := base) F_law_address (ok_law_address T c_law_name F_law_address) (He.glo_ok X G (c.fact 70 (f := .glo "_law_address") rfl)) fun _ _ _ _ _ _ us hl => match us, hl with | [_], _ => rfl
  have c_law_offer := cal_of (P := P) (w := w) (base := base) F_law_offer (ok_law_offer T c_law_draw c_law_pick c_law_name F_law_offer) (He.glo_ok X G (c.fact 71 (f := .glo "_law_offer") rfl)) fun _ _ _ _ _ _ us hl => match us, hl with | [_], _ => rfl
  have c_law_parts := cal_of (P := P) (w := w) (base := base) F_law_parts (ok_law_parts T c_law_draw c_law_pick c_law_tag c_law_address c_law_offer F_law_parts) (He.glo_ok X G (c.fact 72 (f := .glo "_law_parts") rfl)) fun _ _ _ _ _ _ us hl => match us, hl with | [_], _ => rfl
  have c_law_text := cal_of (P := P) (w := w) (base := base) F_law_text (ok_law_text T  F_law_text) (He.glo_ok X G (c.fact 73 (f := .glo "_law_text") rfl)) fun _ _ _ _ _ _ us hl => match us, hl with | [_], _ => rfl
  have c_law_only := cal_of (P := P) (w := w) (base := base) F_law_only (ok_law_only T  F_law_only) (He.glo_ok X G (c.fact 74 (f := .glo "_law_only") rfl)) fun _ _ _ _ _ _ us hl => match us, hl with | [_, _], _ => rfl
  have c_law_is_name := cal_of (P := P) (w := w) (base := base) F_law_is_name (ok_law_is_name T c_law_only F_law_is_name) (He.glo_ok X G (c.fact 75 (f := .glo "_law_is_name") rfl)) fun _ _ _ _ _ _ us hl => match us, hl with | [_], _ => rfl
  have c_law_is_tag := cal_of (P := P) (w := w) (base := base) F_law_is_tag (ok_law_is_tag T c_law_only F_law_is_tag) (He.glo_ok X G (c.fact 76 (f := .glo "_law_is_tag") rfl)) fun _ _ _ _ _ _ us hl => match us, hl with | [_], _ => rfl
  have c_law_is_number := cal_of (P := P) (w := w) (base := base) F_law_is_number (ok_law_is_number T c_law_only F_law_is_number) (He.glo_ok X G (c.fact 78 (f := .glo "_law_is_number") rfl)) fun _ _ _ _ _ _ us hl => match us, hl with | [_, _], _ => rfl
  have c_law_is_address := cal_of (P := P) (w := w) (base := base) F_law_is_address (ok_law_is_address T c_law_is_name F_law_is_address) (He.glo_ok X G (c.fact 77 (f := .glo "_law_is_address") rfl)) fun _ _ _ _ _ _ us hl => match us, hl with | [_], _ => rfl
  have c_law_is_offer := cal_of (P := P) (w := w) (base := base) F_law_is_offer (ok_law_is_offer T c_law_is_number c_law_is_name F_law_is_offer) (He.glo_ok X G (c.fact 79 (f := .glo "_law_is_offer") rfl)) fun _ _ _ _ _ _ us hl => match us, hl with | [_], _ => rfl
  have c_law_stands := cal_of (P := P) (w := w) (base := base) F_law_stands (ok_law_stands T c_law_is_offer c_law_is_address c_law_is_tag c_law_is_number F_law_stands) (He.glo_ok X G (c.fact 80 (f := .glo "_law_stands") rfl)) fun _ _ _ _ _ _ us hl => match us, hl with | [_, _], _ => rfl
  have c_law_fault := cal_of (P := P) (w := w) (base := base) F_law_fault (ok_law_fault T c_law_stands F_law_fault) (He.glo_ok X G (c.fact 81 (f := .glo "_law_fault") rfl)) fun _ _ _ _ _ _ us hl => match us, hl with | [_], _ => rfl
  have c_law_changed := cal_of (P := P) (w := w) (base := base) F_law_changed (ok_law_changed T c_law_draw c_law_pick F_law_changed) (He.glo_ok X G (c.fact 82 (f := .glo "_law_changed") rfl)) fun _ _ _ _ _ _ us hl => match us, hl with | [_, _], _ => rfl
  have c_read := TKE.calX_of (P := P) (w := w) (base := base) F_read (ok_read T x_LetterError c_read_head c_read_line c_mk_Letter_ss F_read) (He.glo_ok X G (c.fact 58 (f := .glo "read") rfl)) fun _ _ _ _ _ _ us hl => match us, hl with | [_], _ => rfl
  exact ok_law T c_law_state c_law_parts c_law_text c_law_changed c_law_fault c_read c_write F_law
end K4
open PySem PySem.W PySem.Calls PyProof.Rows
theorem PySem.Challenge.cw_trunkland_k04_texts_that_are_no_letters_holds : PySem.Challenge.rw_trunkland_k04_texts_that_are_no_letters.Holds := by
  w_on; o_law
  refine HandSHeadRun.head_any (r := OpenLaw.row PySem.Challenge.rw_trunkland_k04_texts_that_are_no_letters) (q := view (OpenLaw.row PySem.Challenge.rw_trunkland_k04_texts_that_are_no_letters).prog [59]) (H := K4.hk) (ob := K4.ob) (M := 4000) (loose := K4.loose0 ++ K4.loose1) (d := HandSHeadRun.topDef (OpenLaw.row PySem.Challenge.rw_trunkland_k04_texts_that_are_no_letters).prog 59) (kwd := []) K4.ob_eq
    (by kernel_rfl) (fun s => by kernel_rfl) K4.run (by kernel_rfl) (by kernel_rfl) (by kernel_rfl) (by rfl) (by first | assumption | decide +kernel) (by decide +kernel) ⟨rfl, rfl, rfl, rfl, rfl, by decide +kernel⟩ ?hw ?hc
  case hw => w_witness2
  case hc =>
    refine L2.walk_ofE (l := PySem.Challenge.rw_trunkland_k04_texts_that_are_no_letters) (n := 63) (k := 8) (x := "script") (CX := L2.CX0) rfl (by decide) (by kernel_rfl) ⟨rfl, by decide, by decide⟩ ?F (fun _ _ _ _ z => z)
    intro w mg fa h Y G hmg0
    obtain ⟨K, KX, c, cx, ce⟩ := Y
    have hmg : mg ("law" : PySem.Str) = some (.ref fa) := by
      have e : (HandSHeadRun.topDef (OpenLaw.row PySem.Challenge.rw_trunkland_k04_texts_that_are_no_letters).prog 59).name = ("law" : PySem.Str) := by kernel_rfl
      rw [← e]
      exact hmg0
    obtain ⟨fd, hb, hF⟩ := K4.facts (P := (PySem.Challenge.rw_trunkland_k04_texts_that_are_no_letters).prog) (w := w) KX G hmg c cx ce rfl (by kernel_rfl)
    exact ⟨K, fd, K4.spLaw K, KX, hb, fun H a ns hl _ hS => ⟨a, ns, rfl, hS, hl, fun _ => rfl⟩, hF⟩
