import PyProof.Rows.All
import Wide.All
import OpenK.AllK
import Wide.FinOn
import HandS.ForMost
import HandS.Exc
import HandS.ExcOwn
import HandS.CallSlots
import HandS.WordsExc
import HandS.Wide
import HandS.TupAny
import HandS.Style
import HandS.IsInst
import HandS.Conv
import HandS.RaiseMore
import KE.SortData
import KE.DataCmp
import KE.GoesMore
import PyProof.ReprReads
import HandS.ExcIs
import HandS.ExcField
import KE.KExcInit
import PySem.Challenge.RW_twocompanies_k34_whole_products_of_a_siz
set_option Elab.async false
set_option linter.all false
set_option maxRecDepth 100000
/-! DI: rules that the layer lacks: enumerate of a tuple, of a text; sorted and repr of data at any depth. -/
namespace DI
open PySem L2 PySem.Spec PyProof.Rows
/-- enumerate of a tuple: each item in a new pair -/
def Jet (K : PySem.W.Frag) (a : Addr) : It :=
  ⟨fun i H => ∃ (xs : List V) (x : V), SqT K H a xs ∧ xs[i]? = some x, fun i H v H' => ∃ T x, v = .ref T ∧ H T = none ∧ H' = upd H T (.tup [.int (i : Nat), x]) ∧ ∀ xs, SqT K H a xs → xs[i]? = some x,
    fun i H => ∃ xs : List V, SqT K H a xs ∧ xs.length ≤ i⟩
/-- enumerate of a text -/
def Jes (x : Str) : It :=
  ⟨fun i _ => i < x.cps.size, fun i H v H' => ∃ T c, v = .ref T ∧ H T = none ∧ x.cps[i]? = some c ∧ H' = upd H T (.tup [.int (i : Nat), .str ⟨#[c]⟩]), fun i _ => x.cps.size ≤ i⟩
theorem end_tuple {prog : Program} {w : World} {A : Around} (hh : A.handled = none) (it a : Addr) (items : Array Value) (i : Nat) (hi : items.size ≤ i) :
    Draws prog w A it [it, a] i (fun _ _ => False) (fun j h => j = i ∧ h.IsTupleIter it a j ∧ h.IsTuple a items) where
  live := fun _ _ st => let ⟨o, ho, _⟩ := st.2.1; ⟨o, ho⟩
  frame := fun _ _ _ st hk => ⟨st.1, st.2.1.at fun o e => hk it (by simp) o e, st.2.2.at fun o e => hk a (by simp) o e⟩
  item := fun j s Q E hj st hQ => by
    have := st.1
    omega
  done := fun s Q E st hE => wpAny_nextOf_tuple_end hh st.2.1 st.2.2 (Array.getElem?_eq_none_iff.mpr hi) hE
theorem turn_enumT {P : Program} {w : World} {K : PySem.W.Frag} {elts : List Expr} {kk : Nat} {tpos : Pos} (a e it : Addr) :
    Turn P w K (.Tuple elts kk tpos) (Jet K a) [e, it] e (fun i h => (∃ old, IsEnum h e it ((i : Nat) : Int) old) ∧ h.IsTupleIter it a i ∧ e ≠ it) where
  mem := by simp
  obj := fun i h st b hb => by
    obtain ⟨⟨old, he⟩, ⟨o, ho, hc, hd⟩, _⟩ := st
    rcases (by simpa using hb : b = e ∨ b = it) with z | z <;> subst z
    · exact ⟨_, he, fun v q => nomatch q⟩
    · exact ⟨o, ho, fun v q => by rw [hd] at q; cases q⟩
  keep := fun i h h' st k => let ⟨⟨old, he⟩, hi, hne⟩ := st; ⟨⟨old, k e (by simp) _ he⟩, hi.at fun o q => k it (by simp) o q, hne⟩
  item := by
    intro X hP hw hK hc i pins s σ H E I hf st hg
    subst hP hw hK
    obtain ⟨⟨old, he⟩, hit, hne⟩ := st
    obtain ⟨xs, x, hq, hx⟩ := hg
    obtain ⟨its, rv, p, hz⟩ := I.tuple hq
    obtain ⟨u, hu, ru⟩ := rv.get hx
    have pt : s.heap.IsTuple a its.toArray := p
    have hel : e < s.heap.objs.size := Heap.lt_size he
    obtain ⟨oi, hoi, hci, hdi⟩ := id hit
    obtain ⟨oa, hoa, hca, _⟩ := id pt
    have hil : it < s.heap.objs.size := Heap.lt_size hoi
    have na : a ≠ it := fun z => by
      subst z
      rw [hoi] at hoa
      cases hoa
      rw [hci] at hca
      exact absurd (Value.type.inj hca) (by decide)
    have ne : e ≠ a := fun z => by
      subst z
      rw [he] at hoa
      cases hoa
      exact absurd (Value.type.inj hca) (by decide)
    have hu' : its.toArray[i]? = some u := by simpa using hu
    refine wpAny_pyNext_enum_itemD (Draws.tuple (show X.A.in1.handled = none from I.ok.hd hc) it a na its.toArray) he ⟨hit, pt⟩ (Array.getElem?_eq_some_iff.mp hu').1 hne (by simp [hne, ne]) fun y h' tk hy ho st' hT hsz hk => ?_
    rw [hu'] at hy
    cases hy
    refine ⟨_, rfl, wpAny_letOwnedTupleGo_enum (s := { s with heap := h', toks := tk + 1 }) ho fun h2 he' sb => ?_⟩
    have hT2 : h2.get? s.heap.objs.size = some { cls := .type "tuple", data := .seq #[.int i tk, u] } := (sb.2 _ (Nat.ne_of_gt hel)).trans hT
    have new : ObjOk X.prog X.w (upd H s.heap.objs.size (.tup [.int (i : Nat), x])) h2 s.heap.objs.size (.tup [.int (i : Nat), x]) :=
      ⟨by show 2 ≤ sizeLine; decide, [.int i tk, u], .cons ⟨_, rfl⟩ (.cons ru .nil), ⟨_, hT2, rfl, _, rfl⟩⟩
    have I1 : Inv X pins σ (upd H s.heap.objs.size (.tup [.int (i : Nat), x])) { s with heap := h2, toks := tk + 1 } :=
      I.turnedNew (ch := [e, it]) (fun b ob hb q => (sb.2 b (fun z => hb (by simp [z]))).trans (hk b ob (fun z => hb (by simp [z])) (fun z => hb (by simp [z])) q)) hf (Nat.le_refl _) new
    refine ⟨.ref s.heap.objs.size, _, I1, rfl, ⟨_, x, rfl, I.hok.fresh (Nat.le_refl _), rfl, fun ys hy => by rw [I.tuple_inj hy hq]; exact hx⟩, ⟨⟨u, ?_⟩, st'.1.at fun o q => (sb.2 it (Ne.symm hne)).trans q, hne⟩, fun b hb => ?_⟩
    · rw [show ((i + 1 : Nat) : Int) = (i : Int) + 1 by omega]
      exact he'
    · have hlt : b < s.heap.objs.size := by
        rcases (by simpa using hb : b = e ∨ b = it) with z | z <;> (rw [z]; assumption)
      rw [upd_ne (Nat.ne_of_lt hlt)]
      exact (hf b hb).1
  done := by
    intro X hP hw hK hc i pins s σ H E I hf st hg
    subst hP hw hK
    obtain ⟨⟨old, he⟩, hit, hne⟩ := st
    obtain ⟨xs, hq, hx⟩ := hg
    obtain ⟨its, rv, p, hz⟩ := I.tuple hq
    obtain ⟨f0, f1, f2, f3, f4, f5⟩ := hf it (by simp)
    have hl := rv.length
    exact wpAny_pyNext_enum_endD (end_tuple (show X.A.in1.handled = none from I.ok.hd hc) it a its.toArray i (by simp; omega)) he ⟨rfl, hit, p⟩ fun h' eb => ⟨rfl, I.turned (t' := s.toks) (fun b o hb q => eb b o hb q) f0 f1 f3 f4 f5⟩
  self := fun A i s Q E st h => let ⟨⟨_, he⟩, _⟩ := st; wpAny_pyIter_enum he h
theorem turn_enumS {P : Program} {w : World} {K : PySem.W.Frag} {elts : List Expr} {kk : Nat} {tpos : Pos} (x : Str) (t : Tok) (e it : Addr) :
    Turn P w K (.Tuple elts kk tpos) (Jes x) [e, it] e (fun i h => (∃ old, IsEnum h e it ((i : Nat) : Int) old) ∧ h.IsStrIter it (strIterType x) x t i ∧ e ≠ it ∧ i ≤ x.cps.size) where
  mem := by simp
  obj := fun i h st b hb => by
    obtain ⟨⟨old, he⟩, ⟨o, ho, hc, hd⟩, _⟩ := st
    rcases (by simpa using hb : b = e ∨ b = it) with z | z <;> subst z
    · exact ⟨_, he, fun v q => nomatch q⟩
    · exact ⟨o, ho, fun v q => by rw [hd] at q; cases q⟩
  keep := fun i h h' st k => let ⟨⟨old, he⟩, ⟨o, ho, r⟩, hne⟩ := st; ⟨⟨old, k e (by simp) _ he⟩, ⟨o, k it (by simp) o ho, r⟩, hne⟩
  item := by
    intro X hP hw hK hc i pins s σ H E I hf st hg
    subst hP hw hK
    obtain ⟨⟨old, he⟩, hit, hne, hle⟩ := st
    have hel : e < s.heap.objs.size := Heap.lt_size he
    obtain ⟨oi, hoi, hci, hdi⟩ := id hit
    have hil : it < s.heap.objs.size := Heap.lt_size hoi
    refine wpAny_pyNext_enum_itemD (Draws.text (show X.A.in1.handled = none from I.ok.hd hc) it x t) he hit hg hne (by simp [hne]) fun y h' tk hy ho st' hT hsz hk => ?_
    obtain ⟨c, v, hcx, rfl⟩ := hy
    refine ⟨_, rfl, wpAny_letOwnedTupleGo_enum (s := { s with heap := h', toks := tk + 1 }) ho fun h2 he' sb => ?_⟩
    have hT2 : h2.get? s.heap.objs.size = some { cls := .type "tuple", data := .seq #[.int i tk, .str ⟨#[c]⟩ v] } := (sb.2 _ (Nat.ne_of_gt hel)).trans hT
    have new : ObjOk X.prog X.w (upd H s.heap.objs.size (.tup [.int (i : Nat), .str ⟨#[c]⟩])) h2 s.heap.objs.size (.tup [.int (i : Nat), .str ⟨#[c]⟩]) :=
      ⟨by show 2 ≤ sizeLine; decide, [.int i tk, .str ⟨#[c]⟩ v], .cons ⟨_, rfl⟩ (.cons ⟨_, rfl⟩ .nil), ⟨_, hT2, rfl, _, rfl⟩⟩
    have I1 : Inv X pins σ (upd H s.heap.objs.size (.tup [.int (i : Nat), .str ⟨#[c]⟩])) { s with heap := h2, toks := tk + 1 } :=
      I.turnedNew (ch := [e, it]) (fun b ob hb q => (sb.2 b (fun z => hb (by simp [z]))).trans (hk b ob (fun z => hb (by simp [z])) (fun z => hb (by simp [z])) q)) hf (Nat.le_refl _) new
    refine ⟨.ref s.heap.objs.size, _, I1, rfl, ⟨_, c, rfl, I.hok.fresh (Nat.le_refl _), hcx, rfl⟩, ⟨⟨.str ⟨#[c]⟩ v, ?_⟩, ?_, hne, hg⟩, fun b hb => ?_⟩
    · rw [show ((i + 1 : Nat) : Int) = (i : Int) + 1 by omega]
      exact he'
    · obtain ⟨o, ho', r⟩ := st'
      exact ⟨o, (sb.2 it (Ne.symm hne)).trans ho', r⟩
    · have hlt : b < s.heap.objs.size := by
        rcases (by simpa using hb : b = e ∨ b = it) with z | z <;> (rw [z]; assumption)
      rw [upd_ne (Nat.ne_of_lt hlt)]
      exact (hf b hb).1
  done := by
    intro X hP hw hK hc i pins s σ H E I hf st hg
    subst hP hw hK
    obtain ⟨⟨old, he⟩, hit, hne, hle⟩ := st
    obtain ⟨f0, f1, f2, f3, f4, f5⟩ := hf it (by simp)
    have hi : i = x.cps.size := Nat.le_antisymm hle hg
    exact wpAny_pyNext_enum_endD (Draws.text (show X.A.in1.handled = none from I.ok.hd hc) it x t) he (by rw [← hi]; exact hit) fun h' eb => ⟨rfl, I.turned (t' := s.toks) (fun b o hb q => eb b o hb q) f0 f1 f3 f4 f5⟩
  self := fun A i s Q E st h => let ⟨⟨_, he⟩, _⟩ := st; wpAny_pyIter_enum he h
theorem new_enumT (a : Addr) (items : Array Value) :
    Meets (Builtin.«enumerate.__new__» ⟨[.type "enumerate", .ref a], []⟩) (fun _ R s => s.heap.IsTuple a items ∧
      R (.ok (.ret (.ref (s.heap.push { cls := .type "tuple_iterator", data := .fields #[.ref a, .int 0 0] }).objs.size)))
        { s with heap := (s.heap.push { cls := .type "tuple_iterator", data := .fields #[.ref a, .int 0 0] }).push { cls := .type "enumerate", data := .fields #[.none, .bool false, .ref s.heap.objs.size, rawInt 0, .none, .none] } }) :=
  .of_wp fun prog w A R s h => by
    obtain ⟨hp, g, d, tk, os⟩ := s
    obtain ⟨hl, h⟩ := h
    have hsub := sub_enumerate
    have hL : Heap.IsTuple (Shared.heap ⟨hp, g, d, tk, os⟩) a items := hl
    obtain ⟨oa, hoa, hca, na, hda⟩ := id hl
    wp_walk using AutoSeq1.wpAny_loadPart' hoa
    refine wpAny_stack_any fun st => wpAny_pure ?_
    split
    · rename_i c _ _ _ _ _
      cases (c == Value.type "enumerate") <;>
        (wp_walk using AutoSeq1.wpAny_loadPart' hoa, wpAny_pyIter_tuple hL
         exact ⟨_, rfl, h⟩)
    · wp_walk using AutoSeq1.wpAny_loadPart' hoa, wpAny_pyIter_tuple hL
      exact ⟨_, rfl, h⟩
theorem call_enumT {prog : Program} {w : World} {A : Around} {E : Value → Shared → Prop} {s : Shared} {a : Addr} {items : Array Value} {Q : Value → Shared → Prop} (hL : s.heap.IsTuple a items)
    (h : ∀ h', IsEnum h' (s.heap.objs.size + 1) s.heap.objs.size 0 .none → h'.IsTupleIter s.heap.objs.size a 0 → h'.objs.size = s.heap.objs.size + 2 →
      (∀ b o, s.heap.get? b = some o → h'.get? b = some o) → Q (.ref (s.heap.objs.size + 1)) { s with heap := h' }) :
    wpAny (model prog w) A (call (.type "enumerate") [.ref a]) Q E s := by
  refine callType_new F.called_enumerate (by decide) (F.typeCall_enumerate_1 _) (F.newCall_enumerate_1 _) (fun obj => F.args_object_init_2 obj _) F.entry_enumerate_new
    (new_enumT a items) ⟨hL, ?_⟩
  have hz : (s.heap.push { cls := .type "tuple_iterator", data := .fields #[.ref a, .int 0 0] }).objs.size = s.heap.objs.size + 1 := Heap.size_push ..
  show _ ∧ _
  rw [hz]
  have he : IsEnum ((s.heap.push { cls := .type "tuple_iterator", data := .fields #[.ref a, .int 0 0] }).push
      { cls := .type "enumerate", data := .fields #[.none, .bool false, .ref s.heap.objs.size, rawInt 0, .none, .none] }) (s.heap.objs.size + 1) s.heap.objs.size 0 .none := by
    have q := Heap.get?_push_size (s.heap.push { cls := .type "tuple_iterator", data := .fields #[.ref a, .int 0 0] })
      (o := { cls := .type "enumerate", data := .fields #[.none, .bool false, .ref s.heap.objs.size, rawInt 0, .none, .none] }) rfl
    rw [hz] at q
    exact q
  exact ⟨⟨_, he, rfl⟩, h _ he ⟨_, Heap.get?_push_of_some _ (Heap.get?_push_size _ rfl), rfl, rfl⟩ (by rw [Heap.size_push, hz]) fun b o x => Heap.get?_push_of_some _ (Heap.get?_push_of_some _ x)⟩
def iEnT (K : PySem.W.Frag) (ta : TA) : TI := fun σ H R => ta σ H fun vs H1 => ∃ a xs, vs = [.ref a] ∧ SqT K H1 a xs ∧ R (Jet K a) H1
def iEnS (ta : TA) : TI := fun σ H R => ta σ H fun vs H1 => ∃ x, vs = [.str x] ∧ R (Jes x) H1
theorem two_new {X : Cx} {pins : List (Addr × Obj)} {σ : L2.St} {H : Hp} {s : Shared} (I : L2.Inv X pins σ H s) : ∀ b ∈ [s.heap.objs.size + 1, s.heap.objs.size], FpOk X pins H b := fun b hb => by
  have hle : s.heap.objs.size ≤ b := by
    rcases (by simpa using hb : b = s.heap.objs.size + 1 ∨ b = s.heap.objs.size) with z | z <;> omega
  exact I.fpOk hle (I.hok.fresh hle)
theorem pi_enumT {X : Cx} {e : Expr} {ta : TA} {p pos tpos : Pos} {elts : List Expr} {kk : Nat} (hg : Gl X "enumerate") (hm : X.mg "enumerate" = none) (ha : PA X [e] ta) (hs : starEach [e] X.env = [(false, eval e X.env)]) :
    PI X (.Tuple elts kk tpos) (.Call (.Name "enumerate" p) [e] [] pos) (iEnT X.K ta) := by
  refine ⟨fun pins s σ H R I h => ?_⟩
  refine Call_ (ld_blt I hg hm boot_enumerate (PyProof.Rows.callWith_type1 (thn (ha.run pos pins s σ H _ I h) fun us s1 ⟨vs, H1, I1, r1, a, xs, ex, hq, q⟩ => ?_) hs rfl))
  subst ex
  cases r1 with
  | cons r rr =>
    cases rr
    cases r
    obtain ⟨its, rv, p', hz⟩ := I1.tuple hq
    refine call_enumT (show s1.heap.IsTuple a its.toArray from p') fun h' he hit hsz hk => wpAny_pyIter_enum he ?_
    have I2 : L2.Inv X pins σ H1 { s1 with heap := h' } := I1.kept (t' := s1.toks) hk
    exact ⟨s1.heap.objs.size + 1, [s1.heap.objs.size + 1, s1.heap.objs.size], _, _, H1, rfl, I2, turn_enumT a (s1.heap.objs.size + 1) s1.heap.objs.size, ⟨⟨.none, he⟩, hit, Nat.succ_ne_self _⟩, two_new I1, q⟩
theorem pi_enumS {X : Cx} {e : Expr} {ta : TA} {p pos tpos : Pos} {elts : List Expr} {kk : Nat} (hg : Gl X "enumerate") (hm : X.mg "enumerate" = none) (ha : PA X [e] ta) (hs : starEach [e] X.env = [(false, eval e X.env)]) :
    PI X (.Tuple elts kk tpos) (.Call (.Name "enumerate" p) [e] [] pos) (iEnS ta) := by
  refine ⟨fun pins s σ H R I h => ?_⟩
  refine Call_ (ld_blt I hg hm boot_enumerate (PyProof.Rows.callWith_type1 (thn (ha.run pos pins s σ H _ I h) fun us s1 ⟨vs, H1, I1, r1, x, ex, q⟩ => ?_) hs rfl))
  subst ex
  cases r1 with
  | cons r rr =>
    cases rr
    obtain ⟨t, rfl⟩ := r
    refine call_enumerate_str fun h' he hit hsz hk => wpAny_pyIter_enum he ?_
    have I2 : L2.Inv X pins σ H1 { s1 with heap := h' } := I1.kept (t' := s1.toks) hk
    exact ⟨s1.heap.objs.size + 1, [s1.heap.objs.size + 1, s1.heap.objs.size], _, _, H1, rfl, I2, turn_enumS x t (s1.heap.objs.size + 1) s1.heap.objs.size, ⟨⟨.none, he⟩, hit, Nat.succ_ne_self _, Nat.zero_le _⟩, two_new I1, q⟩
end DI
/-! DI: sorting tuples of which some are empty. -/
namespace DI
open PySem L2 PySem.Calls PyProof.Rows PySem.W PySem.SeqAt
section
variable {prog : Program} {w : World} {A : Around} {E : Value → Shared → Prop} {s : Shared}
theorem call_tuple_ltA {Q : Value → Shared → Prop} {l b : Addr} {items items2 : Array Value} {e r : Nat → Bool} (hl : s.heap.IsTuple l items) (hb : s.heap.IsTuple b items2)
    (he : ∀ j (h1 : j < items.size) (h2 : j < items2.size), EqAt A.in1 s items[j] items2[j] (e j)) (hr : ∀ j (h1 : j < items.size) (h2 : j < items2.size), e j = false → RcLt A.in1 s items[j] items2[j] (r j))
    (h : Q (.bool (firstLt e r (decide (items.size < items2.size)) (List.range (min items.size items2.size)))) s) : wpAny (model prog w) A (call (.builtin "tuple.__lt__") [.ref l, .ref b]) Q E s := by
  obtain ⟨⟨cls, dd, data, sl⟩, ho, hc, n, hd⟩ := id hl
  obtain ⟨⟨cls2, dd2, data2, sl2⟩, ho2, hc2, n2, hd2⟩ := id hb
  simp only at hc hd hc2 hd2
  subst hc hd hc2 hd2
  exact call_meets F.slot_tuple_lt ⟨_, ho, rfl⟩ F.entry_tuple_lt (F.args_tuple_lt_2 _ _) (tuple_ltAt l b items items2 n n2 dd dd2 sl sl2 e r) ⟨ho, ho2, he, hr, h⟩
theorem oneLt_tups {xs ys : List PyData} {a b : Value} {as bs : List Addr} {Q : Bool → Shared → Prop} (ra : Reads s.heap a (.tuple xs) as) (rb : Reads s.heap b (.tuple ys) bs) (h : alike (.tuple xs) (.tuple ys) = true)
    (hu : A.units + min (PyData.tuple xs).depth (PyData.tuple ys).depth < cLine) (hq : Q (dataLt (.tuple xs) (.tuple ys)) s) : wpAny (model prog w) A (oneLt' true a b) Q E s := by
  have hal : alikeAll xs ys = true := by simpa [alike] using h
  cases ra with
  | @tuple l o vs n _ as₁ h1 h2 h3 h4 =>
    cases rb with
    | @tuple l' o' vs' n' _ bs₁ k1 k2 k3 k4 =>
      have n1 : vs.size = xs.length := by simpa using SeqAt.ReadsAll.length _ _ _ h4
      have n2 : vs'.size = ys.length := by simpa using SeqAt.ReadsAll.length _ _ _ k4
      rw [dataLt_tuple, ← firstLt_toks xs ys hal, ← n1, ← n2] at hq
      rw [oneLt'_eq]
      simp only [if_true]
      refine wpAny_bind (wpAny_cRoomFor (SeqAt.room_here hu) ?_)
      refine wpAny_bind (wpAny_callSpecialIfBound?_slot (T := "tuple") ⟨_, h1, h2⟩ F.slot_tuple_lt (call_tuple_ltA (e := SeqAt.pairEq xs ys) (r := fun j => dataLt (xs.getD j .none) (ys.getD j .none)) ⟨_, h1, h2, _, h3⟩ ⟨_, k1, k2, _, k3⟩ (fun j j1 j2 => ?_) (fun j j1 j2 hj => ?_) ?_))
      · have := eqAt_alikeAll xs ys A.in1 s vs.toList vs'.toList _ _ h4 k4 hal (SeqAt.room_in hu) j (by simpa using j1) (by simpa using j2)
        simpa using this
      · have := rcLt_alikeAll xs ys A.in1 s vs.toList vs'.toList _ _ h4 k4 hal (SeqAt.room_in hu) j (by simpa using j1) (by simpa using j2) hj
        simpa using this
      · exact wpAny_truthy_bool hq
theorem mapM_each {M : Model} {α β : Type} {f : α → Sem β} : ∀ {l : List α} {rs : List β} {Q : List β → Shared → Prop}, EachIs (fun v r => ∀ (Q' : β → Shared → Prop), Q' r s → wpAny M A (f v) Q' E s) l rs → Q rs s → wpAny M A (l.mapM f) Q E s
  | _, _, _, .nil, h => by rw [List.mapM_nil]; exact wpAny_pure h
  | _, _, Q, .cons hf t, h => by
    rw [List.mapM_cons]
    exact wpAny_bind (hf _ (wpAny_bind (mapM_each (Q := fun bs s' => wpAny M A (pure (_ :: bs)) Q E s') t (wpAny_pure h))))
/-- what firstOfTuple tells -/
theorem firsts_each {M : Model} : ∀ {vs : List Value} {ds : List PyData}, EachIs (fun v d => ∃ as, Reads s.heap v d as) vs ds → (∀ d ∈ ds, ∃ xs, d = .tuple xs) →
    ∃ fs : List (Option Value), EachIs (fun v r => ∀ (Q' : Option Value → Shared → Prop), Q' r s → wpAny M A (firstOfTuple' v) Q' E s) vs fs ∧ fs.map (·.isSome) = ds.map fun d => match d with | .tuple (_ :: _) => true | _ => false
  | _, _, .nil, _ => ⟨[], .nil, rfl⟩
  | v :: vs, d :: ds, .cons ⟨as, r⟩ t, ht => by
    obtain ⟨fs, h1, h2⟩ := firsts_each t fun d hd => ht d (List.mem_cons_of_mem _ hd)
    obtain ⟨xs, rfl⟩ := ht d (List.mem_cons_self ..)
    cases r with
    | @tuple a o its n _ as' ho hc hd hr =>
      have hf : ∀ (Q' : Option Value → Shared → Prop), Q' its[0]? s → wpAny M A (firstOfTuple' (.ref a)) Q' E s := fun Q' hq => by
        rw [kas_first_eq]
        refine wpAny_bind (wpAny_typeOf (T := "tuple") ⟨_, ho, hc⟩ ?_)
        rw [if_neg (by simp)]
        exact wpAny_bind (listItems_at ho hd (wpAny_pure hq))
      refine ⟨its[0]? :: fs, .cons hf h1, ?_⟩
      rw [List.map_cons, List.map_cons, h2]
      congr 1
      rw [← Array.getElem?_toList]
      cases xs with
      | nil =>
        cases q : its.toList with
        | nil => rfl
        | cons f fr =>
          rw [q] at hr
          cases hr
      | cons x xr =>
        cases q : its.toList with
        | nil =>
          rw [q] at hr
          cases hr
        | cons f fr => rfl
def kOf (xs : List PyData) : SortKind := bif xs.isEmpty then oneType' else general'
theorem kind_tups {vs : List Value} {xs0 : List PyData} {ds : List PyData} {Q : SortKind → Shared → Prop} (e : EachIs (fun v d => ∃ as, Reads s.heap v d as) vs (.tuple xs0 :: ds)) (ht : ∀ d ∈ PyData.tuple xs0 :: ds, ∃ xs, d = .tuple xs) (hne : PyData.tuple [] ∈ PyData.tuple xs0 :: ds)
    (h : Q (kOf xs0) s) : wpAny (model prog w) A (keyKind' vs.toArray) Q E s := by
  obtain ⟨fs, f1, f2⟩ := firsts_each (M := model prog w) (A := A) (E := E) e ht
  have hall : fs.all (·.isSome) = false := by
    have z : (fs.map (·.isSome)).all id = false := by
      rw [f2]
      rw [List.all_eq_false]
      exact ⟨false, List.mem_map.mpr ⟨_, hne, rfl⟩, by simp⟩
    rw [List.all_map] at z
    exact z
  rw [keyKind'_eq, List.mapM_toArray, map_eq_pure_bind]
  refine wpAny_bind (wpAny_bind (mapM_each f1 (wpAny_pure ?_)))
  rw [if_neg (by rw [List.all_toArray]; rw [hall]; simp)]
  have hT : EachIs (fun v (r : Value) => ∀ (Q' : Value → Shared → Prop), Q' r s → wpAny (model prog w) A (typeOf v) Q' E s) vs (vs.map fun _ => Value.type "tuple") := by
    have go : ∀ {ws : List Value} {es : List PyData}, EachIs (fun v d => ∃ as, Reads s.heap v d as) ws es → (∀ d ∈ es, ∃ xs, d = .tuple xs) → EachIs (fun v (r : Value) => ∀ (Q' : Value → Shared → Prop), Q' r s → wpAny (model prog w) A (typeOf v) Q' E s) ws (ws.map fun _ => Value.type "tuple") := by
      intro ws es z
      induction z with
      | nil => intro _; exact .nil
      | @cons v d ws es hd t ih =>
        intro hts
        obtain ⟨as, rr⟩ := hd
        obtain ⟨xs, rfl⟩ := hts d (List.mem_cons_self ..)
        exact .cons (fun Q' hq => (looks_reads rr).here hq) (ih fun d hd => hts d (List.mem_cons_of_mem _ hd))
    exact go e ht
  cases f1 with
  | nil => cases f2
  | @cons v r vs fs hv ht1 =>
    have h0 : (List.toArray (r :: fs))[0]? = some r := by simp
    rw [h0]
    show wpAny _ _ (if (r.isSome) = true then pure general' else _) Q E s
    cases xs0 with
    | cons x0 r0 =>
      have hr : r.isSome = true := (List.cons.inj f2).1
      rw [if_pos hr]
      exact wpAny_pure h
    | nil =>
      have hr : r.isSome = false := (List.cons.inj f2).1
      rw [if_neg (by rw [hr]; simp)]
      rw [oneTypeOnly'_eq, List.mapM_toArray, map_eq_pure_bind]
      refine wpAny_bind (wpAny_bind (wpAny_bind (mapM_each hT (wpAny_pure ?_))))
      have hall2 : ((List.map (fun _ => Value.type "tuple") (v :: vs)).toArray.all fun x => x == Value.type "tuple") = true := by
        simp only [List.all_toArray, List.all_map, List.all_eq_true]
        intro _ _
        rfl
      have h1 : (List.map (fun _ => Value.type "tuple") (v :: vs)).toArray[0]? = some (Value.type "tuple") := by simp
      rw [h1]
      simp only [hall2, if_true]
      exact wpAny_pure (wpAny_pure h)
/-- tuples, one of which at least is empty -/
theorem sortsAt_tups {vs : List Value} {ds : List PyData} (e : EachIs (fun v d => ∃ as, Reads s.heap v d as) vs ds) (hal : AllAlike ds) (ht : ∀ d ∈ ds, ∃ xs, d = .tuple xs) (hne : .tuple [] ∈ ds) (hu : ∀ d, d ∈ ds → A.units + d.depth < cLine) : SortsAt prog w A s (dataKind s.heap ds) vs := by
  have room : ∀ {d d' : PyData}, d ∈ ds → A.units + min d.depth d'.depth < cLine := fun {d d'} hd => Nat.lt_of_le_of_lt (Nat.add_le_add_left (Nat.min_le_left _ _) _) (hu d hd)
  refine ⟨fun v hv => ?_, ?_⟩
  · obtain ⟨d, hd, as, r⟩ := e.left v hv
    exact ⟨_, dataKind_some hal hd r⟩
  · cases ds with
    | nil => cases hne
    | cons d₀ ds₀ =>
      obtain ⟨xs0, rfl⟩ := ht d₀ (List.mem_cons_self ..)
      refine ⟨kOf xs0, ?_, fun h2 E Q hq => kind_tups e ht hne hq⟩
      intro E x y a b Q ha hb hq
      obtain ⟨d, as, hd, ra, rfl⟩ := dataKind_inv ha
      obtain ⟨d', as', hd', rb, rfl⟩ := dataKind_inv hb
      obtain ⟨xs, rfl⟩ := ht d hd
      obtain ⟨ys, rfl⟩ := ht d' hd'
      have hdd := hal _ hd _ hd'
      have hroom := room (d' := .tuple ys) hd
      have g1 : wpAny (model prog w) A (keyLt' general' x y) Q E s := oneLt_alike (f := false) (fun z => by cases z) ra rb hdd (fun z => by cases z) hroom hq
      have g2 : wpAny (model prog w) A (keyLt' oneType' x y) Q E s := oneLt_tups ra rb hdd hroom hq
      cases xs0
      · exact g2
      · exact g1
/-- tuples of whatever length, or what the library sorts -/
def Sortable2 (ds : List PyData) : Prop := (∀ d, d ∈ ds → ∃ xs, d = .tuple xs) ∨ ∀ d, d ∈ ds → d ≠ .none ∧ ∀ xs, d ≠ .tuple xs
theorem sortsAt_data2 {vs : List Value} {ds : List PyData} (e : EachIs (fun v d => ∃ as, Reads s.heap v d as) vs ds) (hal : AllAlike ds) (hk : Sortable2 ds) (hu : ∀ d, d ∈ ds → A.units + d.depth < cLine) : SortsAt prog w A s (dataKind s.heap ds) vs := by
  rcases hk with hk | hk
  · by_cases hne : .tuple [] ∈ ds
    · exact sortsAt_tups e hal hk hne hu
    · refine SortsAt.data e hal (.inl fun d hd => ?_) hu
      obtain ⟨xs, rfl⟩ := hk d hd
      cases xs with
      | nil => exact (hne hd).elim
      | cons x r => exact ⟨x, r, rfl⟩
  · exact SortsAt.data e hal (.inr hk) hu
end
end DI
/-! DI: sorted of a list or tuple of data at any depth; repr of data. -/
namespace DI
open PySem L2 PySem.Spec PyProof.Rows PySem.W
section
variable {prog : Program} {w : World} {A : Around} {E : Value → Shared → Prop} {s : Shared}
theorem collect_tup {l : Addr} {vs : List Value} {Q : List Value → Shared → Prop} (hl : s.heap.IsTuple l vs.toArray) (hz : vs.length ≤ sizeLine)
    (h : Q vs { s with heap := (s.heap.push (seqObj "list" #[] 0)).update s.heap.objs.size (Obj.mapSeq (· ++ vs.toArray)) }) : wpAny (model prog w) A (collect (.ref l)) Q E s := by
  obtain ⟨o, ho, hc, n, hd⟩ := hl
  have ho1 : (s.heap.push (seqObj "list" #[] 0)).get? l = some o := Heap.get?_push_of_some _ ho
  have new : (s.heap.push (seqObj "list" #[] 0)).get? s.heap.objs.size = some (seqObj "list" #[] 0) := Heap.get?_push_size _ rfl
  have app : ((#[] : Array Value) ++ vs.toArray).toList = vs := by simp
  unfold collect
  refine wpAny_bind (wpAny_runValue (codeAny_builtin entry_proto_collect' ?_))
  show wpAny _ _ (newList [] >>= fun q => again (.builtin "list.__iadd__" ⟨[q, .ref l], []⟩)) _ _ s
  refine wpAny_bind (wpAny_newList (wpAny_pure ⟨Code.quiet_builtin _ (by decide +kernel), codeAny_builtin entry_list_iadd' ?_⟩))
  show wpAny _ _ (Builtin.List.listExtendWith (.ref s.heap.objs.size) (.ref l) _) _ _ { s with heap := s.heap.push (seqObj "list" #[] 0) }
  unfold Builtin.List.listExtendWith
  refine wpAny_bind (wpAny_typeOf (T := "tuple") ⟨o, ho1, hc⟩ ?_)
  rw [if_pos (by simp)]
  refine wpAny_bind (listItems_at ho1 hd (wpAny_bind (listItems_at (xs := #[]) (n := 0) new rfl ?_)))
  rw [if_neg (by simp)]
  refine wpAny_bind (listUpdate_at (xs := #[]) (n := 0) new rfl (wpAny_pure ?_) (Nat.zero_le _) (by show ((#[] : Array Value) ++ vs.toArray).size ≤ sizeLine + 1; simp; omega))
  show wpAny (model prog w) A (load s.heap.objs.size >>= _) Q E _
  refine wpAny_bind (wpAny_load (get?_update_seq new _) ?_)
  show wpAny _ _ (pure ((#[] : Array Value) ++ vs.toArray).toList) Q E _
  rw [app]
  exact wpAny_pure h
/-- sorted(xs), xs a list or a tuple -/
theorem sorted_st {κ : PyProof.Rows.KeyKind} {l : Addr} {vs : List Value} {Q : Value → Shared → Prop} (hl : s.heap.IsList l vs.toArray ∨ s.heap.IsTuple l vs.toArray) (S : SortsAt prog w A.in1.in1 { s with heap := sortingHeap (copyHeap s.heap vs) (s.heap.objs.size + 1) vs } κ vs)
    (hL : vs.length ≤ sizeLine) (h : Q (.ref (s.heap.objs.size + 1)) { s with heap := sortedAll s.heap vs (sortVals κ false vs vs).toArray }) : wpAny (model prog w) A (call (.builtin "sorted") [.ref l]) Q E s := by
  rcases hl with hl | hl
  · exact sorted_vals hl S hL h
  · have hsz : ((s.heap.push (seqObj "list" #[] 0)).update s.heap.objs.size (Obj.mapSeq (· ++ vs.toArray))).objs.size = s.heap.objs.size + 1 := by rw [Heap.size_update, size_push']
    have fin : ∀ E' : Value → Shared → Prop, wpAny (model prog w) A.in1.in1 (Builtin.«list.sort» ⟨[.ref (s.heap.objs.size + 1)], []⟩) (fun f s' => f = .done (.ret .none) ∧ Q (.ref (s.heap.objs.size + 1)) s') E' { s with heap := copyHeap s.heap vs } :=
      fun E' => list_sort_vals (s := { s with heap := copyHeap s.heap vs }) (copyHeap_at s.heap vs) S hL ⟨rfl, h⟩
    refine call_function_entry_kw kind_sorted plain_sorted entry_sorted (args_sorted1 _) ?_
    unfold Builtin.«sorted»
    refine wpAny_bind (m := checkCount "sorted" 1 1 _) (wpAny_pure (wpAny_bind (collect_tup hl hL (wpAny_bind (wpAny_newList ?_ hL)))))
    show wpAny _ _ _ _ _ { s with heap := copyHeap s.heap vs }
    rw [hsz]
    refine wpAny_bind (wpAny_holding (wpAny_call_entry_kw slot_list_sort ⟨_, copyHeap_at s.heap vs, rfl⟩ entry_list_sort (wpAny_mono (fin _) (fun f s' hf => ?_) fun _ _ e => e) (args_list_sort _)))
    obtain ⟨rfl, hq⟩ := hf
    exact ⟨_, rfl, wpAny_pure ⟨_, rfl, hq⟩⟩
theorem sorted_dt {β : Type} {vs : List Value} {bs : List β} {enc : β → PyData} {R : Value → β → Prop} {l : Addr} {Q : Value → Shared → Prop} (hl : s.heap.IsList l vs.toArray ∨ s.heap.IsTuple l vs.toArray) (e : EachIs R vs bs) (er : EachIs (fun v b => ∃ as, Reads s.heap v (enc b) as) vs bs)
    (hal : AllAlike (bs.map enc)) (hk : Sortable2 (bs.map enc)) (hL : bs.length ≤ sizeLine) (hu : ∀ b, b ∈ bs → A.units + 2 + (enc b).depth < cLine)
    (h : ∀ out, out.length = bs.length → EachIs R out (bs.mergeSort (dataLe false enc)) → Q (.ref (s.heap.objs.size + 1)) { s with heap := sortedAll s.heap vs (List.toArray out) }) : wpAny (model prog w) A (call (.builtin "sorted") [.ref l]) Q E s := by
  have er2 : EachIs (fun v b => ∃ as, Reads (sortingHeap (copyHeap s.heap vs) (s.heap.objs.size + 1) vs) v (enc b) as) vs bs := er.mono fun _ _ ⟨as, r⟩ => ⟨as, PyProof.Rows.Reads.keeps (fun _ _ => sorting_copy_old) r⟩
  refine sorted_st hl (sortsAt_data2 (s := { s with heap := sortingHeap (copyHeap s.heap vs) (s.heap.objs.size + 1) vs }) (each_map (R := fun v d => ∃ as, Reads (sortingHeap (copyHeap s.heap vs) (s.heap.objs.size + 1) vs) v d as) enc er2) hal hk (bound_map hu)) (by rw [e.length]; exact hL) (h _ ?_ (sortVals_data false e er2 hal))
  rw [sortVals_length false rfl]
  exact e.length
end
/-! ### as a rule of the layer -/
def ordV (p : V × PyData) : PyData := p.2
def srtV (xs : List V) (ds : List PyData) : List V := ((xs.zip ds).mergeSort (dataLe false ordV)).map (·.1)
def rSrt (K : PySem.W.Frag) : List V → Hp → VK → Prop := fun vs H Q => ∃ (a : Addr) (xs : List V) (ds : List PyData), vs = [.ref a] ∧ (SqL K H a xs ∨ SqT K H a xs) ∧ DpAll K H xs ds ∧ AllAlike ds ∧ Sortable2 ds ∧ (∀ d ∈ ds, d.depth ≤ 60) ∧
  ∀ p, H p = none → Q (.ref p) (upd H p (.lst (srtV xs ds)))
theorem dpAll_len {K : PySem.W.Frag} {H : Hp} : ∀ {xs : List V} {ds : List PyData}, DpAll K H xs ds → xs.length = ds.length
  | _, _, .nil => rfl
  | _, _, .cons _ t => by rw [List.length_cons, List.length_cons, dpAll_len t]
theorem each_rel {X : Cx} {pins : List (Addr × Obj)} {σ : L2.St} {H : Hp} {s : Shared} (I : L2.Inv X pins σ H s) : ∀ {xs : List V} {ds : List PyData} {us : List Value}, DpAll X.K H xs ds → Vals xs us → EachIs (fun u (p : V × PyData) => RelV p.1 u) us (xs.zip ds) ∧ EachIs (fun u (p : V × PyData) => ∃ as, Reads s.heap u (ordV p) as) us (xs.zip ds)
  | _, _, _, .nil, .nil => ⟨.nil, .nil⟩
  | _, _, _, .cons h t, .cons r q => by
    obtain ⟨i1, i2⟩ := each_rel I t q
    exact ⟨.cons r i1, .cons (Dp.reads I _ _ _ h r) i2⟩
theorem vals_each : ∀ {us : List Value} {ps : List (V × PyData)}, EachIs (fun u (p : V × PyData) => RelV p.1 u) us ps → Vals (ps.map (·.1)) us
  | _, _, .nil => .nil
  | _, _, .cons r t => .cons r (vals_each t)
theorem zip_snd {xs : List V} {ds : List PyData} (h : xs.length = ds.length) : (xs.zip ds).map ordV = ds := by
  show (xs.zip ds).map Prod.snd = ds
  exact List.map_snd_zip (by omega)
theorem cr_srt {X : Cx} (hu : X.A.units + 64 < cLine) : CallR X (.builtin "sorted") (rSrt X.K) := by
  intro pins s σ H vs us Q I r h
  obtain ⟨a, xs, ds, rfl, hs, hd, hal, hso, hdp, q⟩ := h
  obtain ⟨u, rfl, ru⟩ := vals1 r
  obtain rfl : u = Value.ref a := ru
  have hlen := dpAll_len hd
  have go : ∀ its : List Value, Vals xs its → (s.heap.IsList a its.toArray ∨ s.heap.IsTuple a its.toArray) → xs.length ≤ sizeLine → wpAny (model X.prog X.w) X.A (call (.builtin "sorted") [.ref a]) (fun v s' => ∃ x H', L2.Inv X pins σ H' s' ∧ RelV x v ∧ Q x H') X.xe s := by
    intro its rv hl hz
    obtain ⟨e1, e2⟩ := each_rel I hd rv
    have hz2 : (xs.zip ds).length ≤ sizeLine := by
      rw [List.length_zip]
      omega
    refine sorted_dt (enc := ordV) hl e1 e2 (by rw [zip_snd hlen]; exact hal) (by rw [zip_snd hlen]; exact hso) hz2 (fun b hb => ?_) fun out h1 h2 => ?_
    · have := hdp (ordV b) (by rw [← zip_snd hlen]; exact List.mem_map.mpr ⟨b, hb, rfl⟩)
      omega
    · have hv := vals_each h2
      obtain ⟨n, hn⟩ := sortedAll_at s.heap its out.toArray
      have hz3 : (srtV xs ds).length ≤ sizeLine := by
        have e3 : (srtV xs ds).length = out.length := hv.length
        rw [e3, h1]
        exact hz2
      exact ⟨.ref (s.heap.objs.size + 1), upd H (s.heap.objs.size + 1) (.lst (srtV xs ds)), I.laid (t' := s.toks) (fun b o e => sortedAll_old e) (Nat.le_succ _) ⟨hz3, out, n, hv, hn⟩, rfl, q _ (I.hok.fresh (Nat.le_succ _))⟩
  rcases hs with hs | hs
  · obtain ⟨its, rv, hl, hz⟩ := I.list hs
    exact go its rv (.inl hl.isList) hz
  · obtain ⟨its, rv, hl, hz⟩ := I.tuple hs
    exact go its rv (.inr hl) hz
/-! ### repr -/
def rRep (K : PySem.W.Frag) : List V → Hp → VK → Prop := fun vs H Q => ∃ (x : V) (d : PyData), vs = [x] ∧ Dp K H x d ∧ d.showable = true ∧ d.hasDict = false ∧ d.depth ≤ 60 ∧ d.shown.length ≤ sizeLine ∧ Q (.str d.shown) H
theorem cr_rep {X : Cx} (hu : X.A.units + 64 < cLine) (hg : X.A.guards = some []) : CallR X (.builtin "repr") (rRep X.K) := by
  intro pins s σ H vs us Q I r h
  obtain ⟨x, d, rfl, hd, h1, h2, h3, h4, q⟩ := h
  obtain ⟨u, rfl, ru⟩ := vals1 r
  obtain ⟨as, hr⟩ := Dp.reads I _ _ _ hd ru
  have fin : ∀ (h' : Heap) (u2 : Tok) (tk : Tok), (∀ b o, s.heap.get? b = some o → h'.get? b = some o) → ∃ y H', L2.Inv X pins σ H' { s with heap := h', toks := tk } ∧ RelV y (.str d.shown u2) ∧ Q y H' :=
    fun h' u2 tk k => ⟨.str d.shown, H, I.kept (t' := tk) k, ⟨u2, rfl⟩, q⟩
  cases hd with
  | non =>
    cases hr
    exact PySem.P.repr_of_none (fin s.heap _ _ fun b o e => e)
  | bl b =>
    cases hr
    exact PySem.P.repr_of_bool (fin s.heap _ _ fun b o e => e)
  | int i =>
    cases hr
    exact PySem.P.repr_of_int (of_decide_eq_true h1) (fin _ _ _ fun b o e => e)
  | str x =>
    cases hr
    exact PySem.P.repr_of_str (fin _ _ _ fun b o e => e) h4
  | lst hs ht =>
    cases ru
    exact repr_of_reads' hr h1 (fun z => absurd (h2.symm.trans z) (by decide)) hg (by omega) (fun b o e => e) (fun h' u tk k => fin h' u tk k) h4
  | tup hs ht =>
    cases ru
    exact repr_of_reads' hr h1 (fun z => absurd (h2.symm.trans z) (by decide)) hg (by omega) (fun b o e => e) (fun h' u tk k => fin h' u tk k) h4
end DI
/-! DI: a small interpreter over plain data, and that the program's own run follows it. -/
namespace DI
open PySem L2

/-! ### data, stores, outcomes -/
inductive D where
  | non | bl (b : Bool) | int (i : Int) | str (s : Str) | tup (ds : List D) | ref (i : Nat) | cl (ds : List D)
inductive O where
  | lst (ds : List D) | fz (ds : List D) | dk (kvs : List (Key × D))
structure XN where
  cls : Nat
  fs : List (Str × D)
abbrev Sto := List O
abbrev En := List (Option D)
inductive R (A : Type) where
  | stk | ok (a : A) (S : Sto) | exn (x : XN) (S : Sto)
def R.holds {A : Type} (r : R A) (Q : A → Sto → Prop) (E : XN → Sto → Prop) : Prop := match r with
  | .stk => False
  | .ok a S => Q a S
  | .exn x S => E x S
def R.bind {A B : Type} (r : R A) (f : A → Sto → R B) : R B := match r with
  | .stk => .stk
  | .ok a S => f a S
  | .exn x S => .exn x S
theorem holds_bind {A B : Type} {r : R A} {f : A → Sto → R B} {Q : B → Sto → Prop} {E : XN → Sto → Prop} : (r.bind f).holds Q E ↔ r.holds (fun a S => (f a S).holds Q E) E := by
  cases r <;> exact Iff.rfl
theorem holds_imp {A : Type} {r : R A} {Q Q' : A → Sto → Prop} {E E' : XN → Sto → Prop} (h : r.holds Q E) (q : ∀ a S, Q a S → Q' a S) (e : ∀ x S, E x S → E' x S) : r.holds Q' E' := by
  cases r with
  | stk => exact h
  | ok a S => exact q a S h
  | exn x S => exact e x S h
/-- what a test leaves out -/
def ifR {A : Type} (b : Bool) (r : R A) : R A := match b with
  | true => r
  | false => .stk
theorem holds_ifR {A : Type} {b : Bool} {r : R A} {Q : A → Sto → Prop} {E : XN → Sto → Prop} (h : (ifR b r).holds Q E) : b = true ∧ r.holds Q E := by
  cases b with
  | true => exact ⟨rfl, h⟩
  | false => exact h.elim
def optR {A : Type} (o : Option A) (S : Sto) : R A := match o with
  | some a => .ok a S
  | none => .stk
theorem holds_optR {A : Type} {o : Option A} {S : Sto} {Q : A → Sto → Prop} {E : XN → Sto → Prop} (h : (optR o S).holds Q E) : ∃ a, o = some a ∧ Q a S := by
  cases o with
  | none => exact h.elim
  | some a => exact ⟨a, rfl, h⟩

/-! ### how data lie in the abstract heap -/
/-- a list that is the module's own -/
def KL (K : PySem.W.Frag) (a : Addr) (xs : List V) : Prop := ∃ (o : Obj) (its : Array Value) (n : Nat), K.lookup a = some o ∧ o.cls = .type "list" ∧ o.dict = none ∧ o.data = .seq its n ∧ its.size ≤ sizeLine ∧ Vals xs its.toList
mutual
inductive RV (K : PySem.W.Frag) (H : Hp) (m : List Addr) : D → V → Prop
  | non : RV K H m .non .non
  | bl (b : Bool) : RV K H m (.bl b) (.bl b)
  | int (i : Int) : RV K H m (.int i) (.int i)
  | str (x : Str) : RV K H m (.str x) (.str x)
  | tup {a : Addr} {xs : List V} {ds : List D} : SqT K H a xs → RVs K H m ds xs → RV K H m (.tup ds) (.ref a)
  | ref {i : Nat} {a : Addr} : m[i]? = some a → RV K H m (.ref i) (.ref a)
  | cl {a : Addr} {xs : List V} {ds : List D} : KL K a xs → RVs K H m ds xs → RV K H m (.cl ds) (.ref a)
inductive RVs (K : PySem.W.Frag) (H : Hp) (m : List Addr) : List D → List V → Prop
  | nil : RVs K H m [] []
  | cons {d : D} {v : V} {ds : List D} {vs : List V} : RV K H m d v → RVs K H m ds vs → RVs K H m (d :: ds) (v :: vs)
end
inductive ORel (K : PySem.W.Frag) (H : Hp) (m : List Addr) : O → HO → Prop
  | lst {ds : List D} {xs : List V} : RVs K H m ds xs → ORel K H m (.lst ds) (.lst xs)
  | fz {o : Obj} {ds : List D} {xs : List V} : RVs K H m ds xs → ORel K H m (.fz ds) (.frz o (.lst xs))
  | dk {kvs : List (Key × D)} {kvs' : List (Key × V)} : kvs'.map (·.1) = kvs.map (·.1) → RVs K H m (kvs.map (·.2)) (kvs'.map (·.2)) → ORel K H m (.dk kvs) (.dK kvs')
structure SR (K : PySem.W.Frag) (H : Hp) (m : List Addr) (S : Sto) : Prop where
  len : m.length = S.length
  nd : m.Nodup
  at_ : ∀ (i : Nat) (a : Addr) (o : O), m[i]? = some a → S[i]? = some o → ∃ ho, H a = some ho ∧ ORel K H m o ho
/-- all that is tracked but not in the store stays; the store's places stay -/
structure Ext (H : Hp) (m : List Addr) (H' : Hp) (m' : List Addr) : Prop where
  pre : ∃ r, m' = m ++ r
  keep : ∀ a o, H a = some o → a ∉ m → H' a = some o ∧ a ∉ m'
theorem Ext.refl (H : Hp) (m : List Addr) : Ext H m H m := ⟨⟨[], (List.append_nil m).symm⟩, fun a o h n => ⟨h, n⟩⟩
theorem Ext.trans {H H1 H2 : Hp} {m m1 m2 : List Addr} (a : Ext H m H1 m1) (b : Ext H1 m1 H2 m2) : Ext H m H2 m2 := by
  obtain ⟨⟨r, e⟩, k⟩ := a
  obtain ⟨⟨r', e'⟩, k'⟩ := b
  refine ⟨⟨r ++ r', by rw [e', e, List.append_assoc]⟩, fun c o h n => ?_⟩
  obtain ⟨h1, n1⟩ := k c o h n
  exact k' c o h1 n1
theorem Ext.get {H H' : Hp} {m m' : List Addr} (e : Ext H m H' m') {i : Nat} {a : Addr} (h : m[i]? = some a) : m'[i]? = some a := by
  obtain ⟨⟨r, e⟩, _⟩ := e
  rw [e, List.getElem?_append_left (List.getElem?_eq_some_iff.mp h).1]
  exact h

theorem SR.kind {K : PySem.W.Frag} {H : Hp} {m : List Addr} {S : Sto} (s : SR K H m S) {a : Addr} (h : a ∈ m) : ∃ o ho, H a = some ho ∧ ORel K H m o ho := by
  obtain ⟨i, hi⟩ := List.mem_iff_getElem?.mp h
  have hl : i < S.length := by
    rw [← s.len]
    exact (List.getElem?_eq_some_iff.mp hi).1
  obtain ⟨ho, h1, h2⟩ := s.at_ i a S[i] hi (List.getElem?_eq_getElem hl)
  exact ⟨_, ho, h1, h2⟩
theorem SR.out {K : PySem.W.Frag} {H : Hp} {m : List Addr} {S : Sto} (s : SR K H m S) {a : Addr} {ho : HO} (h : H a = some ho) (k : ∀ o, ¬ ORel K H m o ho) : a ∉ m := fun q => by
  obtain ⟨o, ho', h1, h2⟩ := s.kind q
  rw [h] at h1
  cases h1
  exact k o h2
theorem SR.new {K : PySem.W.Frag} {H : Hp} {m : List Addr} {S : Sto} (s : SR K H m S) {a : Addr} (h : H a = none) : a ∉ m := fun q => by
  obtain ⟨o, ho, h1, _⟩ := s.kind q
  rw [h] at h1
  cases h1
theorem sqt_mono {K : PySem.W.Frag} {H H' : Hp} {m m' : List Addr} {S : Sto} (s : SR K H m S) (e : Ext H m H' m') {a : Addr} {xs : List V} (h : SqT K H a xs) : SqT K H' a xs := by
  rcases h with (h | ⟨o, h⟩) | h
  · exact .inl (.inl (e.keep a _ h (s.out h fun o q => by cases q)).1)
  · exact .inl (.inr ⟨o, (e.keep a _ h (s.out h fun o q => by cases q)).1⟩)
  · exact .inr h
mutual
theorem RV.mono {K : PySem.W.Frag} {H H' : Hp} {m m' : List Addr} {S : Sto} (s : SR K H m S) (e : Ext H m H' m') {d : D} {v : V} : RV K H m d v → RV K H' m' d v
  | .non => .non
  | .bl b => .bl b
  | .int i => .int i
  | .str x => .str x
  | .tup h hs => .tup (sqt_mono s e h) (RVs.mono s e hs)
  | .ref h => .ref (e.get h)
  | .cl h hs => .cl h (RVs.mono s e hs)
theorem RVs.mono {K : PySem.W.Frag} {H H' : Hp} {m m' : List Addr} {S : Sto} (s : SR K H m S) (e : Ext H m H' m') {ds : List D} {vs : List V} : RVs K H m ds vs → RVs K H' m' ds vs
  | .nil => .nil
  | .cons h t => .cons (RV.mono s e h) (RVs.mono s e t)
end
theorem RVs.length {K : PySem.W.Frag} {H : Hp} {m : List Addr} : ∀ {ds : List D} {vs : List V}, RVs K H m ds vs → ds.length = vs.length
  | _, _, .nil => rfl
  | _, _, .cons _ t => by rw [List.length_cons, List.length_cons, t.length]
theorem RVs.app {K : PySem.W.Frag} {H : Hp} {m : List Addr} : ∀ {ds : List D} {vs : List V} {es : List D} {ws : List V}, RVs K H m ds vs → RVs K H m es ws → RVs K H m (ds ++ es) (vs ++ ws)
  | _, _, _, _, .nil, q => q
  | _, _, _, _, .cons h t, q => .cons h (t.app q)
theorem RVs.get {K : PySem.W.Frag} {H : Hp} {m : List Addr} : ∀ {ds : List D} {vs : List V} {i : Nat} {d : D}, RVs K H m ds vs → ds[i]? = some d → ∃ v, vs[i]? = some v ∧ RV K H m d v
  | _, _, _, _, .nil, h => by simp at h
  | _, _, 0, _, .cons h _, e => by
    simp at e
    subst e
    exact ⟨_, rfl, h⟩
  | _, _, i + 1, d, .cons _ t, e => by
    obtain ⟨v, h1, h2⟩ := RVs.get (i := i) (d := d) t (by simpa using e)
    exact ⟨v, by simpa using h1, h2⟩
theorem RVs.getV {K : PySem.W.Frag} {H : Hp} {m : List Addr} : ∀ {ds : List D} {vs : List V} {i : Nat} {v : V}, RVs K H m ds vs → vs[i]? = some v → ∃ d, ds[i]? = some d ∧ RV K H m d v
  | _, _, _, _, .nil, h => by simp at h
  | _, _, 0, _, .cons h _, e => by
    simp at e
    subst e
    exact ⟨_, rfl, h⟩
  | _, _, i + 1, v, .cons _ t, e => by
    obtain ⟨d, h1, h2⟩ := RVs.getV (i := i) (v := v) t (by simpa using e)
    exact ⟨d, by simpa using h1, h2⟩
theorem RVs.set {K : PySem.W.Frag} {H : Hp} {m : List Addr} {d : D} {v : V} (r : RV K H m d v) : ∀ {ds : List D} {vs : List V} (i : Nat), RVs K H m ds vs → RVs K H m (ds.set i d) (vs.set i v)
  | _, _, _, .nil => .nil
  | _, _, 0, .cons _ t => .cons r t
  | _, _, i + 1, .cons q t => .cons q (RVs.set r i t)
theorem RVs.take {K : PySem.W.Frag} {H : Hp} {m : List Addr} : ∀ {ds : List D} {vs : List V} (n : Nat), RVs K H m ds vs → RVs K H m (ds.take n) (vs.take n)
  | _, _, 0, _ => .nil
  | _, _, _ + 1, .nil => .nil
  | _, _, n + 1, .cons r t => .cons r (RVs.take n t)
theorem RVs.drop {K : PySem.W.Frag} {H : Hp} {m : List Addr} : ∀ {ds : List D} {vs : List V} (n : Nat), RVs K H m ds vs → RVs K H m (ds.drop n) (vs.drop n)
  | _, _, 0, r => r
  | _, _, _ + 1, .nil => .nil
  | _, _, n + 1, .cons _ t => RVs.drop n t
theorem RVs.reverse {K : PySem.W.Frag} {H : Hp} {m : List Addr} : ∀ {ds : List D} {vs : List V}, RVs K H m ds vs → RVs K H m ds.reverse vs.reverse
  | _, _, .nil => .nil
  | _, _, .cons r t => by
    rw [List.reverse_cons, List.reverse_cons]
    exact t.reverse.app (.cons r .nil)

theorem ORel.mono {K : PySem.W.Frag} {H H' : Hp} {m m' : List Addr} {S : Sto} (s : SR K H m S) (e : Ext H m H' m') {o : O} {ho : HO} : ORel K H m o ho → ORel K H' m' o ho
  | .lst h => .lst (h.mono s e)
  | .fz h => .fz (h.mono s e)
  | .dk k h => .dk k (h.mono s e)

/-! ### a new object outside the store (a tuple), in the store, a change -/
theorem ext_new {K : PySem.W.Frag} {H : Hp} {m : List Addr} {S : Sto} (s : SR K H m S) {p : Addr} {o : HO} (hp : H p = none) : Ext H m (upd H p o) m :=
  ⟨⟨[], (List.append_nil m).symm⟩, fun a u h n => ⟨by rw [upd_ne (ne_of_none h hp)]; exact h, n⟩⟩
theorem sr_new {K : PySem.W.Frag} {H : Hp} {m : List Addr} {S : Sto} (s : SR K H m S) {p : Addr} {o : HO} (hp : H p = none) : SR K (upd H p o) m S := by
  refine ⟨s.len, s.nd, fun i a u hi hu => ?_⟩
  obtain ⟨ho, h1, h2⟩ := s.at_ i a u hi hu
  exact ⟨ho, by rw [upd_ne (ne_of_none h1 hp)]; exact h1, h2.mono s (ext_new s hp)⟩
theorem ext_push {K : PySem.W.Frag} {H : Hp} {m : List Addr} {S : Sto} (s : SR K H m S) {p : Addr} {o : HO} (hp : H p = none) : Ext H m (upd H p o) (m ++ [p]) :=
  ⟨⟨[p], rfl⟩, fun a u h n => ⟨by rw [upd_ne (ne_of_none h hp)]; exact h, fun q => by
    rcases List.mem_append.mp q with q | q
    · exact n q
    · exact ne_of_none h hp (by simpa using q)⟩⟩
theorem sr_push {K : PySem.W.Frag} {H : Hp} {m : List Addr} {S : Sto} (s : SR K H m S) {p : Addr} {o : O} {ho : HO} (hp : H p = none) (r : ORel K H m o ho) : SR K (upd H p ho) (m ++ [p]) (S ++ [o]) := by
  have e : Ext H m (upd H p ho) (m ++ [p]) := ext_push s hp
  refine ⟨by rw [List.length_append, List.length_append, s.len] <;> rfl, ?_, fun i a u hi hu => ?_⟩
  · rw [List.nodup_append]
    refine ⟨s.nd, by simp, fun a ha b hb z => ?_⟩
    have hb' : b = p := by simpa using hb
    rw [z, hb'] at ha
    exact s.new hp ha
  · by_cases hl : i < m.length
    · rw [List.getElem?_append_left hl] at hi
      rw [List.getElem?_append_left (by rw [← s.len]; exact hl)] at hu
      obtain ⟨ho', h1, h2⟩ := s.at_ i a u hi hu
      exact ⟨ho', by rw [upd_ne (ne_of_none h1 hp)]; exact h1, h2.mono s e⟩
    · have hi' : i = m.length := by
        have h3 := (List.getElem?_eq_some_iff.mp hi).1
        rw [List.length_append] at h3
        have h4 : [p].length = 1 := rfl
        omega
      subst hi'
      rw [List.getElem?_append_right (Nat.le_refl _), Nat.sub_self] at hi
      rw [List.getElem?_append_right (by rw [s.len]; exact Nat.le_refl _), s.len, Nat.sub_self] at hu
      have hi2 : p = a := by simpa using hi
      have hu2 : o = u := by simpa using hu
      subst hi2
      subst hu2
      exact ⟨ho, upd_same, r.mono s e⟩
theorem ext_upd {H : Hp} {m : List Addr} {i : Nat} {a : Addr} {o : HO} (hi : m[i]? = some a) : Ext H m (upd H a o) m :=
  ⟨⟨[], (List.append_nil m).symm⟩, fun b u h n => ⟨by
    rw [upd_ne (fun z => n (by rw [z]; exact List.mem_of_getElem? hi))]
    exact h, n⟩⟩
theorem sr_upd {K : PySem.W.Frag} {H : Hp} {m : List Addr} {S : Sto} (s : SR K H m S) {i : Nat} {a : Addr} {o : O} {ho : HO} (hi : m[i]? = some a) (r : ORel K H m o ho) : SR K (upd H a ho) m (S.set i o) := by
  have e : Ext H m (upd H a ho) m := ext_upd hi
  refine ⟨by rw [List.length_set]; exact s.len, s.nd, fun j b u hj hu => ?_⟩
  by_cases hij : j = i
  · subst hij
    rw [hi] at hj
    cases hj
    have hl : j < S.length := by
      rw [← s.len]
      exact (List.getElem?_eq_some_iff.mp hi).1
    rw [List.getElem?_set_self hl] at hu
    cases hu
    exact ⟨ho, upd_same, r.mono s e⟩
  · rw [List.getElem?_set_ne (Ne.symm hij)] at hu
    obtain ⟨ho', h1, h2⟩ := s.at_ j b u hj hu
    have hne : b ≠ a := fun z => by
      subst z
      exact hij (by
        obtain ⟨l1, e1⟩ := List.getElem?_eq_some_iff.mp hj
        obtain ⟨l2, e2⟩ := List.getElem?_eq_some_iff.mp hi
        exact (List.getElem_inj s.nd).mp (e1.trans e2.symm))
    exact ⟨ho', by rw [upd_ne hne]; exact h1, h2.mono s e⟩

/-! ### the names -/
structure FR (K : PySem.W.Frag) (H : Hp) (m : List Addr) (q : En) (qV : St) : Prop where
  len : q.length = qV.length
  at_ : ∀ (i : Nat) (d : D), q[i]? = some (some d) → ∃ v, qV[i]? = some (some v) ∧ RV K H m d v
theorem FR.mono {K : PySem.W.Frag} {H H' : Hp} {m m' : List Addr} {S : Sto} (s : SR K H m S) (e : Ext H m H' m') {q : En} {qV : St} (f : FR K H m q qV) : FR K H' m' q qV :=
  ⟨f.len, fun i d h => by
    obtain ⟨v, h1, h2⟩ := f.at_ i d h
    exact ⟨v, h1, h2.mono s e⟩⟩
theorem FR.set {K : PySem.W.Frag} {H : Hp} {m : List Addr} {q : En} {qV : St} (f : FR K H m q qV) (i : Nat) {d : D} {v : V} (r : RV K H m d v) : FR K H m (q.set i (some d)) (qV.set i (some v)) := by
  refine ⟨by rw [List.length_set, List.length_set]; exact f.len, fun j e h => ?_⟩
  by_cases hij : j = i
  · subst hij
    by_cases hl : j < q.length
    · rw [List.getElem?_set_self hl] at h
      cases h
      exact ⟨v, List.getElem?_set_self (by rw [← f.len]; exact hl), r⟩
    · rw [List.getElem?_eq_none (by simpa using hl)] at h
      cases h
  · rw [List.getElem?_set_ne (Ne.symm hij)] at h ⊢
    exact f.at_ j e h
def wipeD (q : En) : List Nat → En
  | [] => q
  | v :: vs => (wipeD q vs).set v none
theorem FR.setN {K : PySem.W.Frag} {H : Hp} {m : List Addr} {q : En} {qV : St} (f : FR K H m q qV) (i : Nat) : FR K H m (q.set i none) (qV.set i none) := by
  refine ⟨by rw [List.length_set, List.length_set]; exact f.len, fun j e h => ?_⟩
  by_cases hij : j = i
  · subst hij
    by_cases hl : j < q.length
    · rw [List.getElem?_set_self hl] at h
      cases h
    · rw [List.getElem?_eq_none (by simpa using hl)] at h
      cases h
  · rw [List.getElem?_set_ne (Ne.symm hij)] at h ⊢
    exact f.at_ j e h
theorem FR.wipe {K : PySem.W.Frag} {H : Hp} {m : List Addr} {q : En} {qV : St} (f : FR K H m q qV) : ∀ vs : List Nat, FR K H m (wipeD q vs) (wipe qV vs)
  | [] => f
  | v :: vs => (FR.wipe f vs).setN v

/-! ### the weakest readings -/
section
variable (X : Cx)
def WE (e : Expr) : TE := fun q H Q => ∃ t, PE X e t ∧ t q H Q
def WT (e : Expr) : TT := fun q H Q => ∃ t, PT X e t ∧ t q H Q
def WA (es : List Expr) : TA := fun q H Q => ∃ t, PA X es t ∧ t q H Q
def WK (ks : List Keyword) : TA := fun q H Q => ∃ t, PK X ks t ∧ t q H Q
def WO (e : Option Expr) : TO := fun q H Q => ∃ t, PO X e t ∧ t q H Q
def WI (tg e : Expr) : TI := fun q H Q => ∃ t, PI X tg e t ∧ t q H Q
def WG (e : Expr) : TG := fun v q H Q => ∃ t, PG X e t ∧ t v q H Q
def WGs (es : List Expr) : TGs := fun vs q H Q => ∃ t, PGs X es t ∧ t vs q H Q
def WS (s : Stmt) : TS := fun D q H => ∃ t, PS X s t ∧ t D q H
def WSs (s : List Stmt) : TS := fun D q H => ∃ t, PSs X s t ∧ t D q H
def WTs (es : List Expr) : TT := fun q H Q => ∃ t, PTs X es t ∧ t q H Q
def WR (f : Value → Value → Sem Value) : R2 := fun x y H Q => ∃ r, OpR X f r ∧ r x y H Q
variable {X}
theorem pe_w {e : Expr} : PE X e (WE X e) := ⟨fun pins s q H Q I ⟨t, p, h⟩ => p.run pins s q H Q I h⟩
theorem pt_w {e : Expr} : PT X e (WT X e) := ⟨fun pins s q H Q I ⟨t, p, h⟩ => p.run pins s q H Q I h⟩
theorem pa_w {es : List Expr} : PA X es (WA X es) := ⟨fun pos pins s q H Q I ⟨t, p, h⟩ => p.run pos pins s q H Q I h⟩
theorem pk_w {ks : List Keyword} : PK X ks (WK X ks) := ⟨fun pos pins s q H Q I ⟨t, p, h⟩ => p.run pos pins s q H Q I h⟩
theorem po_w {e : Option Expr} : PO X e (WO X e) := ⟨fun pins s q H Q I ⟨t, p, h⟩ => p.run pins s q H Q I h⟩
theorem pi_w {tg e : Expr} : PI X tg e (WI X tg e) := ⟨fun pins s q H Q I ⟨t, p, h⟩ => p.run pins s q H Q I h⟩
theorem pg_w {e : Expr} : PG X e (WG X e) := ⟨fun pins s q H v u Q I r ⟨t, p, h⟩ => p.run pins s q H v u Q I r h⟩
theorem pgs_w {es : List Expr} : PGs X es (WGs X es) := ⟨fun pins s q H v u Q I r ⟨t, p, h⟩ => p.run pins s q H v u Q I r h⟩
theorem ps_w {s : Stmt} : PS X s (WS X s) := ⟨fun pins s q H D I ⟨t, p, h⟩ => p.run pins s q H D I h⟩
theorem pss_w {s : List Stmt} : PSs X s (WSs X s) := ⟨fun pins s q H D I ⟨t, p, h⟩ => p.run pins s q H D I h⟩
theorem pts_w {es : List Expr} : PTs X es (WTs X es) := ⟨fun pins s q H Q I ⟨t, p, h⟩ => p.run pins s q H Q I h⟩
theorem opr_w {f : Value → Value → Sem Value} : OpR X f (WR X f) := fun pins s q H x y v u Q I rx ry ⟨r, p, h⟩ => p pins s q H x y v u Q I rx ry h
end
end DI
/-! DI: code with its names resolved, what it does with data, and which text it is the code of. -/
namespace DI
open PySem L2

/-! ### code -/
inductive Bl where
  | len | tuple | list | sorted | all | any | max2 | min2 | int | repr | isInt | isBool | isStr | isTup | isLst | sum | str | abs
inductive Me where
  | append | pop | extend | join | index | count | reverse
mutual
inductive CE where
  | var (i : Nat) | int (i : Int) | bl (b : Bool) | non | str (s : Str) | glob (i : Nat)
  | tup (es : CEs) | lst (es : CEs) | dict (ks : List Key) (es : CEs)
  | bin (op : Operator) (a b : CE) | neg (a : CE)
  | cmp (op : CmpOp) (a b : CE) | chain (op op2 : CmpOp) (a b c : CE)
  | and (es : CEs) | or (es : CEs) | not (a : CE) | ite (c a b : CE)
  | idx (a b : CE) | slice (a : CE) (lo hi : CO) | rev (a : CE)
  | call (f : Nat) (es : CEs) | callk (p : Nat) (es ks : CEs)
  | blt (b : Bl) (es : CEs) | isi (ts : List Nat) (a : CE) | lrng (es : CEs) | meth (m : Me) (a : CE) (es : CEs)
  | comp (t : CT) (it : CI) (c : CF) (e : CE) (vs : List Nat)
  | comp2 (t : CT) (it : CI) (c : CF) (t1 : CT) (it1 : CI) (c1 : CF) (e : CE) (vs vs1 : List Nat)
inductive CEs where
  | nil | cons (e : CE) (es : CEs)
inductive CO where
  | none | some (e : CE)
inductive CF where
  | none | some (e : CE)
inductive CT where
  | name (i : Nat) | tup (ts : CTs) | sub (a b : CE)
inductive CTs where
  | nil | cons (t : CT) (ts : CTs)
inductive CI where
  | seq (e : CE) | rng (es : CEs) | enum (e : CE)
end
/-! what stands in an except suite: name n's field, isinstance of it -/
mutual
inductive HX where
  | pl (e : CE) | fld (f : Str) | isE (c : Nat) | tup (es : HXs) | and2 (a b : HX) | cmp (op : CmpOp) (a b : HX)
inductive HXs where
  | nil | cons (e : HX) (es : HXs)
end
inductive HS where
  | ret (e : HX) | asg (j : Nat) (e : HX)
mutual
inductive CS where
  | raise (c : Nat) (es : CEs) | try_ (b : CSs) (c i : Nat) (h : HS)
  | expr (e : CE) | asg (t : CT) (e : CE) | par2 (i j : Nat) (a b : CE) | par3 (i j l : Nat) (a b c : CE) | aug (i : Nat) (op : Operator) (e : CE)
  | ret (e : CE) | retN | ite (c : CE) (a b : CSs) | for (t : CT) (it : CI) (b : CSs) | wh (c : CE) (b : CSs)
  | pass | brk | cnt | never
inductive CSs where
  | nil | cons (s : CS) (ss : CSs)
end
structure FC where
  np : Nat
  nl : Nat
  body : CSs
/-- how a call with keywords is bound: the def, how many by place, the keywords, for each parameter which argument -/
structure KP where
  f : Nat
  np : Nat
  ks : List Str
  perm : List Nat
/-- a class of errors: the parameters that its __init__ keeps, and the classes whose instances its own ones are -/
structure EC where
  fs : List Str
  sup : List Nat
structure PG where
  fns : List FC
  cons : List D
  kws : List KP
  exs : List EC

/-! ### what it does -/
def FU : Nat := 1000000
def lkD (q : En) (i : Nat) : Option D := match q[i]? with
  | some (some d) => some d
  | _ => none
/-- a value as data that lie in no store -/
def optAll {A : Type} : List (Option A) → Option (List A)
  | [] => some []
  | x :: xs => match x, optAll xs with
    | some a, some r => some (a :: r)
    | _, _ => none
def pyD : Nat → Sto → D → Option PyData
  | 0, _, _ => none
  | n + 1, S, d => match d with
    | .non => some .none
    | .bl b => some (.bool b)
    | .int i => some (.int i)
    | .str x => some (.str x)
    | .tup ds => (optAll (ds.map (pyD n S))).map .tuple
    | .ref i => match S[i]? with
      | some (.lst ds) => (optAll (ds.map (pyD n S))).map .list
      | _ => none
    | .cl _ => none
def eqD (S : Sto) (d e : D) : Option Bool := match pyD 60 S d, pyD 60 S e with
  | some a, some b => if SeqAt.shaped a && SeqAt.shaped b then some (PyData.eqv a b) else none
  | _, _ => none
def flatD : D → Bool
  | .non => true | .bl _ => true | .int _ => true | .str _ => true | _ => false
def eqF : D → D → Bool
  | .non, .non => true
  | .bl a, .bl b => a == b
  | .bl a, .int b => (if a then 1 else 0) == b
  | .int a, .bl b => a == (if b then 1 else 0)
  | .int a, .int b => a == b
  | .str a, .str b => a == b
  | _, _ => false
def seqD (S : Sto) : D → Option (List D)
  | .tup ds => some ds
  | .cl ds => some ds
  | .ref i => match S[i]? with
    | some (.lst ds) => some ds
    | some (.fz ds) => some ds
    | _ => none
  | _ => none
def lstD (S : Sto) : D → Option (List D)
  | .ref i => match S[i]? with
    | some (.lst ds) => some ds
    | _ => none
  | _ => none
def keyD : D → Option Key
  | .int i => some (.inl i)
  | .str x => some (.inr x)
  | _ => none
def LM : Nat := 100000
def opD (op : Operator) (d e : D) (S : Sto) : R D := match op, d, e with
  | .Add, .int i, .int j => .ok (.int (i + j)) S
  | .Sub, .int i, .int j => .ok (.int (i - j)) S
  | .Mult, .int i, .int j => ifR (decide (i.natAbs.log2 + j.natAbs.log2 < 1000000)) (.ok (.int (i * j)) S)
  | .FloorDiv, .int i, .int j => ifR (decide (0 < j ∧ j.natAbs.log2 < 9000)) (.ok (.int (i / j)) S)
  | .Mod, .int i, .int j => ifR (decide (0 < j)) (.ok (.int (i % j)) S)
  | .Pow, .int i, .int j => ifR (decide (0 ≤ j ∧ j ≤ 1000000 ∧ i.natAbs < 2 ^ 64)) (.ok (.int (i ^ j.toNat)) S)
  | .Add, .str x, .str y => ifR (decide (x.length + y.length ≤ LM)) (.ok (.str (x ++ y)) S)
  | .Add, .tup xs, .tup ys => ifR (decide (xs.length + ys.length ≤ LM)) (.ok (.tup (xs ++ ys)) S)
  | .Add, .ref i, .ref j => match S[i]?, S[j]? with
    | some (.lst xs), some (.lst ys) => ifR (decide (xs.length + ys.length ≤ LM)) (.ok (.ref S.length) (S ++ [.lst (xs ++ ys)]))
    | _, _ => .stk
  | .Mult, .ref i, .int k => match S[i]? with
    | some (.lst xs) => ifR (decide (0 ≤ k ∧ k ≤ 100000 ∧ xs.length * k.toNat ≤ LM)) (.ok (.ref S.length) (S ++ [.lst (List.replicate k.toNat xs).flatten]))
    | _ => .stk
  | _, _, _ => .stk
def dkGet (kvs : List (Key × D)) (k : Key) : Option D := (kvs.find? fun kv => decide (kv.1 = k)).map (·.2)
def inDk (d e : D) (S : Sto) : Option Bool := match e with
  | .ref j => match S[j]? with
    | some (.dk kvs) => match keyD d with
      | some k => some (dkGet kvs k).isSome
      | none => none
    | _ => none
  | _ => none
/-- d in e, e a list or a tuple of data -/
def inDt (d e : D) (S : Sto) : Option Bool := match pyD 60 S d, pyD 60 S e with
  | some y, some (.list ys) => if SeqAt.shaped y && SeqAt.shaped (.list ys) && decide (y.depth ≤ 60) then some (ys.any fun z => PyData.eqv z y) else none
  | some y, some (.tuple ys) => if SeqAt.shaped y && SeqAt.shaped (.tuple ys) && decide (y.depth ≤ 60) then some (ys.any fun z => PyData.eqv z y) else none
  | _, _ => none
def cmpD (op : CmpOp) (d e : D) (S : Sto) : R D := match op with
  | .Eq => match eqD S d e with
    | some b => .ok (.bl b) S
    | none => .stk
  | .NotEq => match eqD S d e with
    | some b => .ok (.bl (!b)) S
    | none => .stk
  | .Lt => match d, e with
    | .int i, .int j => .ok (.bl (decide (i < j))) S
    | _, _ => .stk
  | .LtE => match d, e with
    | .int i, .int j => .ok (.bl (decide (i ≤ j))) S
    | _, _ => .stk
  | .Gt => match d, e with
    | .int i, .int j => .ok (.bl (decide (j < i))) S
    | _, _ => .stk
  | .GtE => match d, e with
    | .int i, .int j => .ok (.bl (decide (j ≤ i))) S
    | _, _ => .stk
  | .Is => match d, e with
    | d, .non => .ok (.bl (match d with | .non => true | _ => false)) S
    | .bl a, .bl b => .ok (.bl (decide (a = b))) S
    | _, _ => .stk
  | .IsNot => match d, e with
    | d, .non => .ok (.bl (match d with | .non => false | _ => true)) S
    | .bl a, .bl b => .ok (.bl (!decide (a = b))) S
    | _, _ => .stk
  | .In => match seqD S e with
    | some es => if (flatD d && es.all flatD) = true then .ok (.bl (es.any fun y => eqF y d)) S else match inDt d e S with
      | some b => .ok (.bl b) S
      | none => .stk
    | none => match inDk d e S with
      | some b => .ok (.bl b) S
      | none => .stk
  | .NotIn => match seqD S e with
    | some es => if (flatD d && es.all flatD) = true then .ok (.bl (!(es.any fun y => eqF y d))) S else match inDt d e S with
      | some b => .ok (.bl (!b)) S
      | none => .stk
    | none => match inDk d e S with
      | some b => .ok (.bl (!b)) S
      | none => .stk
def truD (S : Sto) : D → Option Bool
  | .non => some false
  | .bl b => some b
  | .int i => some (i != 0)
  | .str y => if y.length ≤ LM then some ((y.length : Int) != 0) else none
  | .tup ds => some (!ds.isEmpty)
  | .ref i => match S[i]? with
    | some (.lst ds) => some (!ds.isEmpty)
    | _ => none
  | .cl _ => none
def dkPut (kvs : List (Key × D)) (k : Key) (v : D) : List (Key × D) := if (kvs.any fun kv => decide (kv.1 = k)) = true then kvs.map (fun kv => if kv.1 = k then (kv.1, v) else kv) else kvs ++ [(k, v)]
def idxO (o : O) (e : D) (S : Sto) : R D := match o with
  | .lst ds => match e with
    | .int i => optR (atI ds i) S
    | _ => .stk
  | .fz ds => match e with
    | .int i => optR (atI ds i) S
    | _ => .stk
  | .dk kvs => match keyD e with
    | some k => optR (dkGet kvs k) S
    | none => .stk
def idxD (d e : D) (S : Sto) : R D := match d with
  | .tup ds => match e with
    | .int i => optR (atI ds i) S
    | _ => .stk
  | .str z => match e with
    | .int i => ifR (decide (z.length ≤ LM)) (match atI z.cps.toList i with
      | some c => .ok (.str ⟨#[c]⟩) S
      | none => .stk)
    | _ => .stk
  | .ref j => match S[j]? with
    | some o => idxO o e S
    | none => .stk
  | _ => .stk
def cut {A : Type} (xs : List A) (lo hi : Option Int) : List A := (xs.drop (HT.sIx xs.length 0 lo)).take (HT.sIx xs.length xs.length hi - HT.sIx xs.length 0 lo)
def sliceD (d : D) (lo hi : Option Int) (S : Sto) : R D := match d with
  | .tup ds => .ok (.tup (cut ds lo hi)) S
  | .cl ds => .ok (.ref S.length) (S ++ [.lst (cut ds lo hi)])
  | .ref j => match S[j]? with
    | some (.lst ds) => .ok (.ref S.length) (S ++ [.lst (cut ds lo hi)])
    | some (.fz ds) => .ok (.ref S.length) (S ++ [.lst (cut ds lo hi)])
    | _ => .stk
  | _ => .stk
def allB : List D → Option (List Bool)
  | [] => some []
  | .bl b :: r => (allB r).map (b :: ·)
  | _ => none
def optB {A B : Type} (o : Option A) (f : A → R B) : R B := match o with
  | some a => f a
  | none => .stk
def revD (d : D) (S : Sto) : R D := match d with
  | .tup ds => .ok (.tup ds.reverse) S
  | d => optB (lstD S d) fun ds => .ok (.ref S.length) (S ++ [.lst ds.reverse])
/-! order of data -/
mutual
def salike : PyData → PyData → Bool
  | .none, .none => true
  | .bool _, .bool _ => true
  | .int _, .int _ => true
  | .str _, .str _ => true
  | .list xs, .list ys => salikes xs ys
  | .tuple xs, .tuple ys => salikes xs ys
  | _, _ => false
def salikes : List PyData → List PyData → Bool
  | x :: xs, y :: ys => salike x y && salikes xs ys
  | [], [] => true
  | _, _ => false
end
/-- tuples, nested to one depth, of ints -/
def hkB : Nat → PyData → Bool
  | 0, .int _ => true
  | k + 1, .tuple xs => xs.all (hkB k)
  | _, _ => false
def alB (ys : List PyData) : Bool := (ys.all (hkB 1) || (ys.all (hkB 2) || ys.all (hkB 3))) || ((match ys with
  | [] => true
  | y :: r => salike y y && r.all (salike y)) || ys.all fun a => ys.all (PySem.W.alike a))
def sblB (ys : List PyData) : Bool := (ys.all fun | .tuple _ => true | _ => false) || ys.all fun | .none => false | .tuple _ => false | _ => true
def ordD (p : D × PyData) : PyData := p.2
def leB (p q : D × PyData) : Bool := !PySem.W.dataLt q.2 p.2
def insB (p : D × PyData) : List (D × PyData) → List (D × PyData)
  | [] => [p]
  | q :: r => if leB p q then p :: q :: r else q :: insB p r
def srtB : List (D × PyData) → List (D × PyData)
  | [] => []
  | p :: r => insB p (srtB r)
def sortD (es : List D) (ys : List PyData) : Option (List D) := if alB ys && sblB ys && ys.all (fun d => decide (d.depth ≤ 60)) then some ((srtB (es.zip ys)).map (·.1)) else none
/-! types -/
def TN : Nat → String
  | 0 => "int" | 1 => "bool" | 2 => "str" | 3 => "tuple" | 4 => "list" | 5 => "dict" | _ => "NoneType"
def typD (S : Sto) : D → Option Nat
  | .int _ => some 0
  | .bl _ => some 1
  | .str _ => some 2
  | .tup _ => some 3
  | .cl _ => some 4
  | .non => some 6
  | .ref i => match S[i]? with
    | some (.lst _) => some 4
    | some (.fz _) => some 4
    | some (.dk _) => some 5
    | none => none
def isiD (t c : Nat) : Bool := t == c || (t == 1 && c == 0)
def rgD (i j : Int) : List D := (List.range (j - i).toNat).map fun n => .int (i + (n : Nat))
def lrR (i j : Int) (S : Sto) : R D := ifR (decide (0 ≤ i ∧ i ≤ LM ∧ 0 ≤ j ∧ j ≤ LM)) (.ok (.ref S.length) (S ++ [.lst (rgD i j)]))
def rgC (i c : Int) (n : Nat) : List D := (List.range n).map fun t => .int (i + (t : Nat) * c)
def lr3 (i j c : Int) (S : Sto) : R D := ifR (decide (c ≠ 0 ∧ c.natAbs < 1073741824) && Builtin.Range.small i j c && decide (0 ≤ Builtin.Range.rangeSize i j c ∧ Builtin.Range.rangeSize i j c ≤ LM)) (.ok (.ref S.length) (S ++ [.lst (rgC i c (Builtin.Range.rangeSize i j c).toNat)]))
def lrD (ds : List D) (S : Sto) : R D := match ds with
  | [.int i, .int j, .int c] => lr3 i j c S
  | [.int j] => lrR 0 j S
  | [.int i, .int j] => lrR i j S
  | _ => .stk
def allS : List D → Option (List Str)
  | [] => some []
  | .str b :: r => (allS r).map (b :: ·)
  | _ => none
def bltD (b : Bl) (ds : List D) (S : Sto) : R D := match b, ds with
  | .len, [.str x] => ifR (decide (x.length ≤ LM)) (.ok (.int x.length) S)
  | .len, [d] => optB (seqD S d) fun es => .ok (.int es.length) S
  | .tuple, [.tup es] => .ok (.tup es) S
  | .tuple, [d] => optB (seqD S d) fun es => .ok (.tup es) S
  | .list, [d] => optB (seqD S d) fun es => .ok (.ref S.length) (S ++ [.lst es])
  | .all, [d] => optB (lstD S d) fun es => optB (allB es) fun bs => .ok (.bl (bs.all id)) S
  | .any, [d] => optB (lstD S d) fun es => optB (allB es) fun bs => .ok (.bl (bs.any id)) S
  | .max2, [.int i, .int j] => .ok (.int (if j > i then j else i)) S
  | .min2, [.int i, .int j] => .ok (.int (if j < i then j else i)) S
  | .int, [.int i] => .ok (.int i) S
  | .sorted, [d] => optB (seqD S d) fun es => optB (optAll (es.map (pyD 60 S))) fun ys => optB (sortD es ys) fun zs => .ok (.ref S.length) (S ++ [.lst zs])
  | .repr, [d] => optB (pyD 60 S d) fun y => ifR (y.showable && !y.hasDict && decide (y.depth ≤ 60) && decide (y.shown.length ≤ LM)) (.ok (.str y.shown) S)
  | .abs, [.int i] => .ok (.int (if i < 0 then -i else i)) S
  | _, _ => .stk
def meK (m : Me) (d : D) (S : Sto) : Bool := match m with
  | .append => (lstD S d).isSome
  | .pop => (lstD S d).isSome
  | .extend => (lstD S d).isSome
  | .join => match d with | .str _ => true | _ => false
  | _ => false
def methD (m : Me) (d : D) (es : List D) (S : Sto) : R D := match m, d, es with
  | .append, .ref i, [e] => optB (lstD S (.ref i)) fun ds => ifR (decide (ds.length < LM)) (.ok .non (S.set i (.lst (ds ++ [e]))))
  | .extend, .ref i, [e] => optB (lstD S (.ref i)) fun ds => optB (lstD S e) fun zs => ifR (decide (ds.length + zs.length ≤ LM)) (.ok .non (S.set i (.lst (ds ++ zs))))
  | .join, .str x, [e] => optB (seqD S e) fun es => optB (allS es) fun ys => ifR (decide ((ys.map (·.length)).sum + ys.length * x.length ≤ 16777216)) (.ok (.str (Txt.join x ys)) S)
  | .pop, .ref i, [] => optB (lstD S (.ref i)) fun ds => optB ds[ds.length - 1]? fun e => .ok e (S.set i (.lst ds.dropLast))
  | _, _, _ => .stk
/-- what a loop walks -/
inductive Sr where
  | lst (j : Nat) | tup (ds : List D) | rng (lo : Int) (n : Nat) | rngc (lo c : Int) (n : Nat) | str (x : Str) | enumL (j : Nat) | enumT (ds : List D) | enumS (x : Str)
/-- none: stuck; some none: it ends -/
def srcAt (s : Sr) (i : Nat) (S : Sto) : Option (Option D) := match s with
  | .lst j => match S[j]? with
    | some (.lst ds) => some ds[i]?
    | some (.fz ds) => some ds[i]?
    | _ => none
  | .tup ds => some ds[i]?
  | .rng lo n => some (if i < n then some (.int (lo + i)) else none)
  | .rngc lo c n => some (if i < n then some (.int (lo + i * c)) else none)
  | .str x => some (x.cps[i]?.map fun c => .str ⟨#[c]⟩)
  | .enumT ds => some (ds[i]?.map fun d => .tup [.int i, d])
  | .enumS x => some (x.cps[i]?.map fun c => .tup [.int i, .str ⟨#[c]⟩])
  | .enumL j => match S[j]? with
    | some (.lst ds) => some (ds[i]?.map fun d => .tup [.int i, d])
    | some (.fz ds) => some (ds[i]?.map fun d => .tup [.int i, d])
    | _ => none
inductive Fl where
  | next (q : En) | ret (d : D) | brk (q : En) | cnt (q : En) | exn (x : XN) (q : En)
/-- an expression's exception leaves the names as they are -/
def bindE {A : Type} (q : En) (r : R A) (f : A → Sto → R Fl) : R Fl := match r with
  | .stk => .stk
  | .ok a S => f a S
  | .exn x S => .ok (.exn x q) S
/-- the turns of a comprehension -/
def compL (turn : D → Sto → R (Option D)) (s : Sr) : Nat → Nat → List D → Sto → R (List D)
  | 0, _, _, _ => .stk
  | n + 1, i, acc, S => match srcAt s i S with
    | none => .stk
    | some none => .ok acc S
    | some (some d) => (turn d S).bind fun o S1 => match o with
      | none => compL turn s n (i + 1) acc S1
      | some e => ifR (decide (acc.length < LM)) (compL turn s n (i + 1) (acc ++ [e]) S1)
/-- the outer turns of a comprehension of two fors -/
def compO (turn : D → List D → Sto → R (List D)) (s : Sr) : Nat → Nat → List D → Sto → R (List D)
  | 0, _, _, _ => .stk
  | n + 1, i, acc, S => match srcAt s i S with
    | none => .stk
    | some none => .ok acc S
    | some (some d) => (turn d acc S).bind fun acc S1 => compO turn s n (i + 1) acc S1
/-- the turns of a for -/
def forL (turn : D → En → Sto → R Fl) (s : Sr) : Nat → Nat → En → Sto → R Fl
  | 0, _, _, _ => .stk
  | n + 1, i, q, S => match srcAt s i S with
    | none => .stk
    | some none => .ok (.next q) S
    | some (some d) => (turn d q S).bind fun f S1 => match f with
      | .next q1 => forL turn s n (i + 1) q1 S1
      | .cnt q1 => forL turn s n (i + 1) q1 S1
      | .brk q1 => .ok (.next q1) S1
      | .ret d => .ok (.ret d) S1
      | .exn x q1 => .ok (.exn x q1) S1
def whL (c : En → Sto → R Bool) (body : En → Sto → R Fl) : Nat → En → Sto → R Fl
  | 0, _, _ => .stk
  | n + 1, q, S => bindE q (c q S) fun b S1 => match b with
    | false => .ok (.next q) S1
    | true => (body q S1).bind fun f S2 => match f with
      | .next q1 => whL c body n q1 S2
      | .cnt q1 => whL c body n q1 S2
      | .brk q1 => .ok (.next q1) S2
      | .ret d => .ok (.ret d) S2
      | .exn x q1 => .ok (.exn x q1) S2
/-- no exception leaves a comprehension -/
def noX {A : Type} (r : R A) : R A := match r with
  | .ok a S => .ok a S
  | _ => .stk
def setO (o : O) (j : Nat) (e v : D) (S : Sto) : R Unit := match o with
  | .lst ds => match e with
    | .int i => optB (ixN ds.length i) fun k => .ok () (S.set j (.lst (ds.set k v)))
    | _ => .stk
  | .dk kvs => optB (keyD e) fun k => ifR (decide (kvs.length < LM)) (.ok () (S.set j (.dk (dkPut kvs k v))))
  | _ => .stk
def setD (d e v : D) (S : Sto) : R Unit := match d with
  | .ref j => optB S[j]? fun o => setO o j e v S
  | _ => .stk
def seqS (d : D) (S : Sto) : R Sr := match d with
  | .tup ds => .ok (.tup ds) S
  | .str x => .ok (.str x) S
  | .ref j => ifR (seqD S (.ref j)).isSome (.ok (.lst j) S)
  | _ => .stk
def enumS (d : D) (S : Sto) : R Sr := match d with
  | .tup ds => .ok (.enumT ds) S
  | .str x => .ok (.enumS x) S
  | .ref j => ifR (seqD S (.ref j)).isSome (.ok (.enumL j) S)
  | _ => .stk
def rngS (ds : List D) (S : Sto) : R Sr := match ds with
  | [.int j] => ifR (decide (-(2 ^ 62) ≤ j ∧ j < 2 ^ 62)) (.ok (.rng 0 j.toNat) S)
  | [.int i, .int j] => ifR (decide (-(2 ^ 62) ≤ i ∧ i < 2 ^ 62 ∧ -(2 ^ 62) ≤ j ∧ j < 2 ^ 62)) (.ok (.rng i (j - i).toNat) S)
  | [.int i, .int j, .int c] => ifR (decide (c ≠ 0 ∧ c.natAbs < 1073741824) && Builtin.Range.small i j c && decide (0 ≤ Builtin.Range.rangeSize i j c)) (.ok (.rngc i c (Builtin.Range.rangeSize i j c).toNat) S)
  | _ => .stk
section
variable (p : PG) (cl : Nat → List D → Sto → R D)
mutual
def evE : CE → En → Sto → R D
  | .var i, q, S => optR (lkD q i) S
  | .int i, _, S => .ok (.int i) S
  | .bl b, _, S => .ok (.bl b) S
  | .non, _, S => .ok .non S
  | .str x, _, S => .ok (.str x) S
  | .glob i, _, S => optR p.cons[i]? S
  | .tup es, q, S => (evEs es q S).bind fun ds S => ifR (decide (ds.length ≤ LM)) (.ok (.tup ds) S)
  | .lst es, q, S => (evEs es q S).bind fun ds S => ifR (decide (ds.length ≤ LM)) (.ok (.ref S.length) (S ++ [.lst ds]))
  | .dict ks es, q, S => (evEs es q S).bind fun ds S => ifR (decide (ks.length = ds.length ∧ ks.Nodup)) (.ok (.ref S.length) (S ++ [.dk (ks.zip ds)]))
  | .bin op a b, q, S => (evE a q S).bind fun d S => (evE b q S).bind fun e S => opD op d e S
  | .neg a, q, S => (evE a q S).bind fun d S => match d with
    | .int i => .ok (.int (-i)) S
    | _ => .stk
  | .cmp op a b, q, S => (evE a q S).bind fun d S => (evE b q S).bind fun e S => cmpD op d e S
  | .chain op op2 a b c, q, S => (evE a q S).bind fun d S => (evE b q S).bind fun e S => (cmpD op d e S).bind fun x S => match x with
    | .bl true => (evE c q S).bind fun f S => cmpD op2 e f S
    | .bl false => .ok (.bl false) S
    | _ => .stk
  | .and es, q, S => evAndV es q S
  | .or es, q, S => evOrV es q S
  | .not a, q, S => (evE a q S).bind fun d S => match d with
    | .bl b => .ok (.bl (!b)) S
    | _ => .stk
  | .ite c a b, q, S => (evT c q S).bind fun t S => match t with
    | true => evE a q S
    | false => evE b q S
  | .idx a b, q, S => (evE a q S).bind fun d S => (evE b q S).bind fun e S => idxD d e S
  | .slice a lo hi, q, S => (evE a q S).bind fun d S => (evO lo q S).bind fun l S => (evO hi q S).bind fun h S => sliceD d l h S
  | .rev a, q, S => (evE a q S).bind fun d S => revD d S
  | .call f es, q, S => (evEs es q S).bind fun ds S => cl f ds S
  | .callk i es ks, q, S => (evEs es q S).bind fun ds S => (evEs ks q S).bind fun zs S => match p.kws[i]? with
    | some k => ifR (decide (ds.length = k.np ∧ zs.length = k.ks.length)) (cl k.f (k.perm.map fun j => (ds ++ zs).getD j .non) S)
    | none => .stk
  | .blt b es, q, S => (evEs es q S).bind fun ds S => bltD b ds S
  | .lrng es, q, S => (evEs es q S).bind fun ds S => lrD ds S
  | .isi ts a, q, S => (evE a q S).bind fun d S => optB (typD S d) fun t => .ok (.bl (ts.any (isiD t))) S
  | .meth m a es, q, S => (evE a q S).bind fun d S => ifR (meK m d S) ((evEs es q S).bind fun ds S => methD m d ds S)
  | .comp t it c e vs, q, S => (evI it q S).bind fun s S => (noX (compL (fun d S1 => (evT1 t d (wipeD q vs) S1).bind fun q1 S2 => (evF c q1 S2).bind fun b S3 => match b with
      | true => (evE e q1 S3).bind fun x S4 => .ok (some x) S4
      | false => .ok none S3) s FU 0 [] S)).bind fun ds S => .ok (.ref S.length) (S ++ [.lst ds])
  | .comp2 t it c t1 it1 c1 e vs vs1, q, S => (evI it q S).bind fun s S => (noX (compO (fun d acc S1 => (evT1 t d (wipeD q vs) S1).bind fun q1 S2 => (evF c q1 S2).bind fun b S3 => match b with
      | true => (evI it1 q1 S3).bind fun s1 S4 => compL (fun d S5 => (evT1 t1 d (wipeD q1 vs1) S5).bind fun q2 S6 => (evF c1 q2 S6).bind fun b1 S7 => match b1 with
        | true => (evE e q2 S7).bind fun x S8 => .ok (some x) S8
        | false => .ok none S7) s1 FU 0 acc S4
      | false => .ok acc S3) s FU 0 [] S)).bind fun ds S => .ok (.ref S.length) (S ++ [.lst ds])
termination_by structural c => c
def evEs : CEs → En → Sto → R (List D)
  | .nil, _, S => .ok [] S
  | .cons e es, q, S => (evE e q S).bind fun d S => (evEs es q S).bind fun ds S => .ok (d :: ds) S
def evAndV : CEs → En → Sto → R D
  | .nil, _, _ => .stk
  | .cons e .nil, q, S => evE e q S
  | .cons e (.cons e2 es), q, S => (evE e q S).bind fun d S => match d with
    | .bl true => evAndV (.cons e2 es) q S
    | .bl false => .ok (.bl false) S
    | _ => .stk
def evOrV : CEs → En → Sto → R D
  | .nil, _, _ => .stk
  | .cons e .nil, q, S => evE e q S
  | .cons e (.cons e2 es), q, S => (evE e q S).bind fun d S => match d with
    | .bl false => evOrV (.cons e2 es) q S
    | .bl true => .ok (.bl true) S
    | _ => .stk
/-- a test -/
def evT : CE → En → Sto → R Bool
  | .and es, q, S => evAndT es q S
  | .or es, q, S => evOrT es q S
  | .not a, q, S => (evT a q S).bind fun b S => .ok (!b) S
  | .var i, q, S => (optR (lkD q i) S).bind fun d S => optR (truD S d) S
  | .cmp op a b, q, S => (evE a q S).bind fun d S => (evE b q S).bind fun e S => (cmpD op d e S).bind fun x S => match x with
    | .bl b => .ok b S
    | _ => .stk
  | .chain op op2 a b c, q, S => (evE a q S).bind fun d S => (evE b q S).bind fun e S => (cmpD op d e S).bind fun x S => match x with
    | .bl true => (evE c q S).bind fun f S => (cmpD op2 e f S).bind fun y S => match y with
      | .bl b => .ok b S
      | _ => .stk
    | .bl false => .ok false S
    | _ => .stk
  | .call f es, q, S => (evEs es q S).bind fun ds S => (cl f ds S).bind fun d S => optR (truD S d) S
  | .callk i es ks, q, S => (evEs es q S).bind fun ds S => (evEs ks q S).bind fun zs S => match p.kws[i]? with
    | some k => ifR (decide (ds.length = k.np ∧ zs.length = k.ks.length)) ((cl k.f (k.perm.map fun j => (ds ++ zs).getD j .non) S).bind fun d S => optR (truD S d) S)
    | none => .stk
  | .blt b es, q, S => (evEs es q S).bind fun ds S => (bltD b ds S).bind fun d S => optR (truD S d) S
  | .bl b, _, S => .ok b S
  | .isi ts a, q, S => (evE a q S).bind fun d S => optB (typD S d) fun t => .ok (ts.any (isiD t)) S
  | .idx a b, q, S => (evE a q S).bind fun d S => (evE b q S).bind fun e S => (idxD d e S).bind fun d S => optR (truD S d) S
  | _, _, _ => .stk
def evAndT : CEs → En → Sto → R Bool
  | .nil, _, _ => .stk
  | .cons e .nil, q, S => evT e q S
  | .cons e (.cons e2 es), q, S => (evT e q S).bind fun b S => match b with
    | true => evAndT (.cons e2 es) q S
    | false => .ok false S
def evOrT : CEs → En → Sto → R Bool
  | .nil, _, _ => .stk
  | .cons e .nil, q, S => evT e q S
  | .cons e (.cons e2 es), q, S => (evT e q S).bind fun b S => match b with
    | false => evOrT (.cons e2 es) q S
    | true => .ok true S
def evO : CO → En → Sto → R (Option Int)
  | .none, _, S => .ok none S
  | .some e, q, S => (evE e q S).bind fun d S => match d with
    | .int i => .ok (some i) S
    | _ => .stk
def evF : CF → En → Sto → R Bool
  | .none, _, S => .ok true S
  | .some e, q, S => evT e q S
def evI : CI → En → Sto → R Sr
  | .seq e, q, S => (evE e q S).bind fun d S => seqS d S
  | .rng es, q, S => (evEs es q S).bind fun ds S => rngS ds S
  | .enum e, q, S => (evE e q S).bind fun d S => enumS d S
/-- a value goes to a target -/
def evT1 : CT → D → En → Sto → R En
  | .name i, d, q, S => .ok (q.set i (some d)) S
  | .tup ts, d, q, S => match d with
    | .tup ds => evTs ts ds q S
    | _ => .stk
  | .sub a b, d, q, S => (noX (evE a q S)).bind fun o S => (noX (evE b q S)).bind fun e S => (setD o e d S).bind fun _ S => .ok q S
def evTs : CTs → List D → En → Sto → R En
  | .nil, ds, q, S => match ds with
    | [] => .ok q S
    | _ :: _ => .stk
  | .cons t ts, ds, q, S => match ds with
    | [] => .stk
    | d :: ds => (evT1 t d q S).bind fun q S => evTs ts ds q S
end
def isSub (c e : Nat) : Bool := match p.exs[c]? with
  | some x => x.sup.contains e
  | none => false
def okX (x : XN) : Bool := match p.exs[x.cls]? with
  | some e => x.fs.all fun kv => e.fs.contains kv.1
  | none => false
def canRaise (c : Nat) : Bool := match p.exs[c]? with
  | some e => decide (e.fs = [("thing" : Str)])
  | none => false
/-! in an except suite; x the error in hand -/
mutual
def evH (x : XN) : HX → En → Sto → R D
  | .pl e, q, S => evE p cl e q S
  | .fld f, _, S => optR (x.fs.lookup f) S
  | .isE c, _, S => .ok (.bl (isSub p x.cls c)) S
  | .tup es, q, S => (evHs x es q S).bind fun ds S => ifR (decide (ds.length ≤ LM)) (.ok (.tup ds) S)
  | .and2 a b, q, S => (evH x a q S).bind fun d S => match d with
    | .bl true => evH x b q S
    | .bl false => .ok (.bl false) S
    | _ => .stk
  | .cmp op a b, q, S => (evH x a q S).bind fun d S => (evH x b q S).bind fun e S => cmpD op d e S
def evHs (x : XN) : HXs → En → Sto → R (List D)
  | .nil, _, S => .ok [] S
  | .cons e es, q, S => (evH x e q S).bind fun d S => (evHs x es q S).bind fun ds S => .ok (d :: ds) S
end
def exH (x : XN) (i : Nat) : HS → En → Sto → R Fl
  | .ret e, q, S => (noX (evH p cl x e (q.set i none) S)).bind fun d S => .ok (.ret d) S
  | .asg j e, q, S => (noX (evH p cl x e (q.set i none) S)).bind fun d S => .ok (.next (((q.set i none).set j (some d)).set i none)) S
def catchD (r : R Fl) (c i : Nat) (h : HS) : R Fl := match r with
  | .ok (.exn x q) S => ifR (okX p x && decide (i < q.length)) (match isSub p x.cls c with
    | true => exH p cl x i h q S
    | false => .ok (.exn x q) S)
  | r => r
def raiseD (c : Nat) (ds : List D) (q : En) (S : Sto) : R Fl := match ds with
  | [d] => .ok (.exn ⟨c, [("thing", d)]⟩ q) S
  | _ => .stk
def ipD (op : Operator) (d e : D) (S : Sto) : R D := match op, d, e with
  | .Add, .int i, .int j => .ok (.int (i + j)) S
  | .Sub, .int i, .int j => .ok (.int (i - j)) S
  | .Add, .str x, .str y => ifR (decide (x.length + y.length ≤ LM)) (.ok (.str (x ++ y)) S)
  | _, _, _ => .stk
mutual
def exS : CS → En → Sto → R Fl
  | .raise c es, q, S => ifR (canRaise p c) (bindE q (evEs p cl es q S) fun ds S => raiseD c ds q S)
  | .try_ b c i h, q, S => catchD p cl (exSs b q S) c i h
  | .expr e, q, S => bindE q (evE p cl e q S) fun _ S => .ok (.next q) S
  | .asg t e, q, S => bindE q (evE p cl e q S) fun d S => bindE q (evT1 p cl t d q S) fun q S => .ok (.next q) S
  | .par2 i j a b, q, S => bindE q (evE p cl a q S) fun d S => bindE q (evE p cl b q S) fun e S => .ok (.next ((q.set i (some d)).set j (some e))) S
  | .par3 i j l a b c, q, S => bindE q (evE p cl a q S) fun d S => bindE q (evE p cl b q S) fun e S => bindE q (evE p cl c q S) fun f S => .ok (.next (((q.set i (some d)).set j (some e)).set l (some f))) S
  | .aug i op e, q, S => match lkD q i with
    | none => .stk
    | some d => bindE q (evE p cl e q S) fun x S => bindE q (ipD op d x S) fun y S => .ok (.next (q.set i (some y))) S
  | .ret e, q, S => bindE q (evE p cl e q S) fun d S => .ok (.ret d) S
  | .retN, q, S => .ok (.ret .non) S
  | .ite c a b, q, S => bindE q (evT p cl c q S) fun t S => match t with
    | true => exSs a q S
    | false => exSs b q S
  | .for t it b, q, S => bindE q (evI p cl it q S) fun s S => forL (fun d q S => bindE q (evT1 p cl t d q S) fun q S => exSs b q S) s FU 0 q S
  | .wh c b, q, S => whL (evT p cl c) (exSs b) FU q S
  | .pass, q, S => .ok (.next q) S
  | .brk, q, S => .ok (.brk q) S
  | .cnt, q, S => .ok (.cnt q) S
  | .never, _, _ => .stk
def exSs : CSs → En → Sto → R Fl
  | .nil, q, S => .ok (.next q) S
  | .cons s ss, q, S => (exS s q S).bind fun f S => match f with
    | .next q => exSs ss q S
    | f => .ok f S
end
end
def startD (ds : List D) (n : Nat) : En := ds.map some ++ List.replicate (n - ds.length) none
def runB (p : PG) (cl : Nat → List D → Sto → R D) (c : FC) (ds : List D) (S : Sto) : R D := ifR (decide (ds.length = c.np)) (match exSs p cl c.body (startD ds c.nl) S with
  | .ok (.ret d) S => .ok d S
  | .ok (.next _) S => .ok .non S
  | .ok (.exn x _) S => .exn x S
  | _ => .stk)
/-! ### a call that is given no object runs in a store of its own -/
mutual
def rf : D → Bool
  | .ref _ => false
  | .tup ds => rfs ds
  | .cl ds => rfs ds
  | .non => true
  | .bl _ => true
  | .int _ => true
  | .str _ => true
def rfs : List D → Bool
  | [] => true
  | d :: ds => rf d && rfs ds
end
mutual
def shD (n : Nat) : D → D
  | .ref i => .ref (n + i)
  | .tup ds => .tup (shDs n ds)
  | .cl ds => .cl (shDs n ds)
  | .non => .non
  | .bl b => .bl b
  | .int i => .int i
  | .str x => .str x
def shDs (n : Nat) : List D → List D
  | [] => []
  | d :: ds => shD n d :: shDs n ds
end
def shK (n : Nat) : List (Key × D) → List (Key × D)
  | [] => []
  | (k, d) :: r => (k, shD n d) :: shK n r
def shO (n : Nat) : O → O
  | .lst ds => .lst (shDs n ds)
  | .fz ds => .fz (shDs n ds)
  | .dk kvs => .dk (shK n kvs)
def lstRf (d : D) (S1 : Sto) : Option (List D) := match d with
  | .ref j => match S1[j]? with
    | some (.lst ds) => if rfs ds then some ds else none
    | _ => none
  | _ => none
def adoptR (d : D) (S1 S : Sto) : R D := match rf d with
  | true => .ok d S
  | false => match lstRf d S1 with
    | some ds => .ok (.ref S.length) (S ++ [.lst ds])
    | none => .ok (shD S.length d) (S ++ S1.map (shO S.length))
/-- a call that is given lists of plain data runs in a store of these lists alone -/
def refsD : List D → Option (List Nat)
  | [] => some []
  | d :: ds => match d with
    | .ref i => (refsD ds).map (i :: ·)
    | d => if rf d then refsD ds else none
def renD (n : Nat) : List D → List D
  | [] => []
  | d :: ds => match d with
    | .ref _ => .ref n :: renD (n + 1) ds
    | d => d :: renD n ds
def flatO : O → Bool
  | .lst es => rfs es
  | .fz es => rfs es
  | .dk _ => false
def subS (S : Sto) : List Nat → Option (List O)
  | [] => some []
  | i :: R => match S[i]? with
    | some o => if flatO o && !R.contains i then (subS S R).map (o :: ·) else none
    | none => none
def backS (S : Sto) : List Nat → List O → Option Sto
  | [], _ => some S
  | i :: R, os => match os with
    | [] => none
    | o :: os => if flatO o then backS (S.set i o) R os else none
def newR (n : Nat) (d : D) (S1 : Sto) : Option (List D) := match d with
  | .ref j => if n ≤ j then lstRf (.ref j) S1 else none
  | _ => none
def isoR (c : List D → Sto → R D) (ds : List D) (S : Sto) : Option (R D) := match refsD ds with
  | none => none
  | some R => match subS S R with
    | none => none
    | some T => match c (renD 0 ds) T with
      | .ok d S1 => match backS S R S1 with
        | none => none
        | some S' => match rf d with
          | true => some (.ok d S')
          | false => match newR R.length d S1 with
            | some es => some (.ok (.ref S'.length) (S' ++ [.lst es]))
            | none => none
      | _ => none
def pureC (c : List D → Sto → R D) (ds : List D) (S : Sto) : R D := match rfs ds with
  | true => match c ds [] with
    | .ok d S1 => adoptR d S1 S
    | .exn x _ => ifR (rfs (x.fs.map (·.2))) (.exn x S)
    | .stk => .stk
  | false => match isoR c ds S with
    | some r => r
    | none => c ds S
def runF (p : PG) : Nat → Nat → List D → Sto → R D
  | 0, _, _, _ => .stk
  | k + 1, f, ds, S => match p.fns[f]? with
    | some c => pureC (runB p (runF p k) c) ds S
    | none => .stk
end DI
/-! DI: which text a code is the code of, and what is known where it stands. -/
namespace DI
open PySem L2

structure GS where
  fns : List (Str × List Str)
  cons : List Str
  blts : List Str
  exs : List Str
structure SC where
  N : List Str
  sc : Scope
  fb : Option Scope
def okN (x : Str) : Bool := !(x == ("__debug__" : Str)) && !(x == ("__classdict__" : Str)) && !(x == ("__name__" : Str))
def visB (sc : Scope) (x : Str) : Bool := match sc.names.lookup x with
  | some .local => true
  | some .cell => true
  | some .free => true
  | _ => false
def glB (sc : Scope) (x : Str) : Bool := match sc.names.lookup x with
  | some .globalImplicit => true
  | _ => false
def locB (sc : Scope) (x : Str) : Bool := match sc.names.lookup x with
  | some .local => true
  | _ => false
def stB (c : SC) (x : Str) : Bool := match c.sc.names.lookup x with
  | some .local => true
  | some .cell => match c.fb with
    | none => true
    | some s => match s.names.lookup x with
      | some .cell => true
      | _ => false
  | _ => false
def nostar : Expr → Bool
  | .Starred .. => false
  | _ => true
def plainB : Expr → Bool
  | .Slice _ _ none _ => false
  | _ => true
def noCall : Expr → Bool
  | .Call .. => false
  | _ => true
def noComp : Expr → Bool
  | .ListComp .. => false
  | .SetComp .. => false
  | .DictComp .. => false
  | _ => true
def noSet : Expr → Bool
  | .Set .. => false
  | _ => true
def noTup : Expr → Bool
  | .Tuple .. => false
  | .List .. => false
  | _ => true
def blN : Bl → Str
  | .len => "len" | .tuple => "tuple" | .list => "list" | .sorted => "sorted" | .all => "all" | .any => "any" | .max2 => "max" | .min2 => "min" | .int => "int" | .repr => "repr"
  | .isInt => "isinstance" | .isBool => "isinstance" | .isStr => "isinstance" | .isTup => "isinstance" | .isLst => "isinstance" | .sum => "sum" | .str => "str" | .abs => "abs"
def blA : Bl → Nat
  | .max2 => 2 | .min2 => 2 | _ => 1
def blOk : Bl → Bool
  | .len => true | .tuple => true | .list => true | .all => true | .any => true | .max2 => true | .min2 => true | .int => true | .abs => true | .sorted => true | .repr => true | _ => false
def meN : Me → Str
  | .append => "append" | .pop => "pop" | .extend => "extend" | .join => "join" | .index => "index" | .count => "count" | .reverse => "reverse"
def meOk : Me → Nat → Bool
  | .append, 1 => true | .pop, 0 => true | .extend, 1 => true | .join, 1 => true | _, _ => false
def relC (scope sc : Scope) : Scope := { scope with names := scope.names.map fun (n, k) => if (k == NameKind.free && sc.kind == .function && sc.names.lookup n == some .cell) then (n, NameKind.cell) else (n, k) }
def blkS (c : SC) (scope : Scope) : SC := ⟨c.N, relC scope c.sc, some scope⟩
def ownS (N : List Str) (vs : List Nat) : List (Str × Nat) := vs.map fun i => (N.getD i Str.empty, i)
mutual
def tgIn : CT → List Nat → Bool
  | .name i, vs => vs.contains i
  | .tup ts, vs => tgsIn ts vs
  | .sub _ _, _ => false
def tgsIn : CTs → List Nat → Bool
  | .nil, _ => true
  | .cons t ts, vs => tgIn t vs && tgsIn ts vs
end
def keyE (k : Key) : Option Expr → Bool
  | some (.Constant (.int i) _ _) => match k with
    | .inl j => decide (i = j)
    | _ => false
  | some (.Constant (.str x) _ _) => match k with
    | .inr y => decide (x = y)
    | _ => false
  | _ => false
def keysE : List Key → List (Option Expr) → Bool
  | [], [] => true
  | k :: ks, e :: es => keyE k e && keysE ks es
  | _, _ => false
/-- the names of built-in types -/
def tysB (g : GS) (sc : Scope) : List Nat → List Expr → Bool
  | [], [] => true
  | t :: ts, .Name x _ :: es => decide (t < 6) && decide (x = Str.ofString (TN t)) && g.blts.contains x && glB sc x && okN x && tysB g sc ts es
  | _, _ => false
section
variable (g : GS) (kws : List KP)
mutual
def chE : CE → SC → Expr → Bool
  | .var i, c, e => match e with
    | .Name x _ => decide (c.N[i]? = some x) && visB c.sc x && okN x
    | _ => false
  | .int i, _, e => match e with
    | .Constant (.int j) _ _ => decide (i = j)
    | _ => false
  | .bl i, _, e => match e with
    | .Constant (.bool j) _ _ => decide (i = j)
    | _ => false
  | .non, _, e => match e with
    | .Constant .none _ _ => true
    | _ => false
  | .str i, _, e => match e with
    | .Constant (.str j) _ _ => decide (i = j)
    | _ => false
  | .glob i, c, e => match e with
    | .Name x _ => decide (g.cons[i]? = some x) && glB c.sc x && okN x
    | _ => false
  | .tup es, c, e => match e with
    | .Tuple l _ _ => chEs es c l
    | _ => false
  | .lst es, c, e => match e with
    | .List l _ => chEs es c l
    | _ => false
  | .dict ks es, c, e => match e with
    | .Dict keys vals _ => keysE ks keys && chEs es c vals && decide (keys.length = vals.length ∧ keys.length ≤ 15)
    | _ => false
  | .bin op a b, c, e => match e with
    | .BinOp x o y _ => decide (op = o) && chE a c x && chE b c y
    | _ => false
  | .neg a, c, e => match e with
    | .UnaryOp .USub x _ => chE a c x
    | _ => false
  | .cmp op a b, c, e => match e with
    | .Compare x [o] [y] _ => decide (op = o) && chE a c x && chE b c y && !(behindInMarks op y)
    | _ => false
  | .chain op op2 a b d, c, e => match e with
    | .Compare x [o, o2] [y, z] _ => decide (op = o) && decide (op2 = o2) && chE a c x && chE b c y && chE d c z && !(lastMarks [op, op2] [y, z])
    | _ => false
  | .and es, c, e => match e with
    | .BoolOp .And l _ => chEs es c l
    | _ => false
  | .or es, c, e => match e with
    | .BoolOp .Or l _ => chEs es c l
    | _ => false
  | .not a, c, e => match e with
    | .UnaryOp .Not x _ => chE a c x
    | _ => false
  | .ite t a b, c, e => match e with
    | .IfExp x y z _ => chE t c x && chE a c y && chE b c z
    | _ => false
  | .idx a b, c, e => match e with
    | .Subscript x y _ => chE a c x && chE b c y && plainB y
    | _ => false
  | .slice a lo hi, c, e => match e with
    | .Subscript x (.Slice l h none _) _ => chE a c x && chO lo c l && chO hi c h
    | _ => false
  | .rev a, c, e => match e with
    | .Subscript x (.Slice none none (some (.UnaryOp .USub (.Constant (.int i) _ _) _)) _) _ => decide (i = 1) && chE a c x
    | _ => false
  | .call f es, c, e => match e with
    | .Call (.Name x _) l [] _ => decide (g.fns[f]?.map (fun z => (z.1, z.2.length)) = some (x, l.length)) && glB c.sc x && okN x && chEs es c l && !l.isEmpty
    | _ => false
  | .callk i es ks, c, e => match e with
    | .Call (.Name x _) l kw _ => match kws[i]? with
      | some k => decide (g.fns[k.f]?.map (·.1) = some x) && glB c.sc x && okN x && chEs es c l && chKs k.ks ks c kw && !kw.isEmpty
      | none => false
    | _ => false
  | .blt b es, c, e => match e with
    | .Call (.Name x _) l [] _ => blOk b && decide (x = blN b) && g.blts.contains x && glB c.sc x && okN x && chEs es c l && decide (l.length = blA b)
    | _ => false
  | .isi ts a, c, e => match e with
    | .Call (.Name f _) [x, y] [] _ => decide (f = ("isinstance" : Str)) && g.blts.contains f && glB c.sc f && nostar x && chE a c x && (match y with
      | .Name _ _ => decide (ts.length = 1) && tysB g c.sc ts [y]
      | .Tuple l _ _ => decide (ts.length < 20) && tysB g c.sc ts l
      | _ => false)
    | _ => false
  | .lrng es, c, e => match e with
    | .Call (.Name f _) [.Call (.Name r _) l [] _] [] _ => decide (f = ("list" : Str)) && g.blts.contains f && glB c.sc f && decide (r = ("range" : Str)) && g.blts.contains r && glB c.sc r && chEs es c l && decide (1 ≤ l.length ∧ l.length ≤ 3)
    | _ => false
  | .meth m a es, c, e => match e with
    | .Call (.Attribute x n ap) l [] cp => decide (n = meN m) && chE a c x && chEs es c l && noCall x && meOk m l.length && decide (l.length < 20) && (ap.endLine == cp.line)
    | _ => false
  | .comp t it f x vs, c, e => match e with
    | .ListComp elt gens scope _ => match gens with
      | [⟨tg, iter, ifs, 0⟩] => chI it c tg iter && noSet iter && blkC c.N c.sc scope (ownS c.N vs) && decide (vs.Nodup) && tgIn t vs && chT t (blkS c scope) tg && chF f (blkS c scope) ifs && chE x (blkS c scope) elt
      | _ => false
    | _ => false
  | .comp2 t it f t1 it1 f1 x vs vs1, c, e => match e with
    | .ListComp elt gens scope _ => match gens with
      | [⟨tg, iter, ifs, 0⟩, ⟨tg1, iter1, ifs1, 0⟩] => chI it c tg iter && noSet iter && blkC c.N c.sc scope (ownS c.N vs) && decide (vs.Nodup) && tgIn t vs && chT t (blkS c scope) tg && chF f (blkS c scope) ifs && vs1.all (vs.contains ·) && tgIn t1 vs1 && chI it1 (blkS c scope) tg1 iter1 && noSet iter1 && chT t1 (blkS c scope) tg1 && chF f1 (blkS c scope) ifs1 && chE x (blkS c scope) elt
      | _ => false
    | _ => false
def chEs : CEs → SC → List Expr → Bool
  | .nil, _, l => match l with
    | [] => true
    | _ :: _ => false
  | .cons e es, c, l => match l with
    | [] => false
    | x :: r => nostar x && chE e c x && chEs es c r
def chKs : List Str → CEs → SC → List Keyword → Bool
  | ns, .nil, _, l => match ns, l with
    | [], [] => true
    | _, _ => false
  | ns, .cons e es, c, l => match ns, l with
    | n :: ns, k :: r => decide (k.arg = some n) && chE e c k.value && chKs ns es c r
    | _, _ => false
termination_by structural _ es => es
def chO : CO → SC → Option Expr → Bool
  | .none, _, e => match e with
    | none => true
    | some _ => false
  | .some a, c, e => match e with
    | none => false
    | some x => chE a c x
def chF : CF → SC → List Expr → Bool
  | .none, _, e => match e with
    | [] => true
    | _ => false
  | .some a, c, e => match e with
    | [x] => chE a c x
    | _ => false
def chI : CI → SC → Expr → Expr → Bool
  | .seq e, c, _, x => chE e c x
  | .rng es, c, _, x => match x with
    | .Call (.Name n _) l [] _ => decide (n = ("range" : Str)) && g.blts.contains n && glB c.sc n && chEs es c l && decide (1 ≤ l.length ∧ l.length ≤ 3)
    | _ => false
  | .enum e, c, tg, x => match x, tg with
    | .Call (.Name n _) [y] [] _, .Tuple .. => decide (n = ("enumerate" : Str)) && g.blts.contains n && glB c.sc n && nostar y && chE e c y
    | _, _ => false
def chT : CT → SC → Expr → Bool
  | .name i, c, e => match e with
    | .Name x _ => decide (c.N[i]? = some x) && stB c x
    | _ => false
  | .tup ts, c, e => match e with
    | .Tuple l _ _ => chTs ts c l
    | _ => false
  | .sub a b, c, e => match e with
    | .Subscript x y _ => chE a c x && chE b c y && plainB y
    | _ => false
def chTs : CTs → SC → List Expr → Bool
  | .nil, _, l => match l with
    | [] => true
    | _ :: _ => false
  | .cons t ts, c, l => match l with
    | [] => false
    | x :: r => nostar x && chT t c x && chTs ts c r
end
/-- name = [comprehension]: whether the name's old value is set aside -/
def swB (c : SC) : Expr → Expr → Nat → Bool
  | .Name x p, .ListComp _ _ s q, l => locB c.sc x && (p.line == l) && (q.line == p.line) && !(s.names.any fun (n, k) => n == x && (k == .local || k == .cell))
  | _, _, _ => false
def nmB (sc : Scope) : Expr → Bool
  | .Name x _ => locB sc x
  | _ => false
/-- a tuple goes to targets, and no store changes its place -/
def swNo (sc : Scope) : Expr → Expr → Bool
  | .Tuple ts _ _, .Tuple vs _ _ => !(ts.length == 2 || ts.length == 3) || ts.any (fun x => !nmB sc x) || vs.all (foldedForSure 8)
  | t, e => noTup t || noTup e
/-- a comprehension's value isn't exchanged with the target's old one -/
def swC (sc : Scope) (t e : Expr) : Bool := noComp e || match t with
  | .Name x _ => !locB sc x
  | _ => true
/-- plain codes that neither call nor walk -/
def coldB : CE → Bool
  | .var _ => true
  | .int _ => true
  | .bl _ => true
  | .non => true
  | .str _ => true
  | .bin _ a b => coldB a && coldB b
  | _ => false
mutual
def chX (n : Str) : HX → SC → Expr → Bool
  | .pl a, c, e => coldB a && chE g kws a c e
  | .fld f, c, e => match e with
    | .Attribute (.Name y _) f' _ => decide (y = n ∧ f' = f) && okN n
    | _ => false
  | .isE i, c, e => match e with
    | .Call (.Name y _) [.Name z _, .Name x _] [] _ => decide (y = ("isinstance" : Str) ∧ z = n ∧ g.exs[i]? = some x) && g.blts.contains y && glB c.sc y && glB c.sc x && okN x && okN n
    | _ => false
  | .tup es, c, e => match e with
    | .Tuple l _ _ => chXs n es c l
    | _ => false
  | .and2 a b, c, e => match e with
    | .BoolOp .And [x, y] _ => chX n a c x && chX n b c y
    | _ => false
  | .cmp op a b, c, e => match e with
    | .Compare x [o] [y] _ => decide (op = o) && chX n a c x && chX n b c y && !(behindInMarks op y)
    | _ => false
def chXs (n : Str) : HXs → SC → List Expr → Bool
  | .nil, _, l => match l with
    | [] => true
    | _ :: _ => false
  | .cons a as, c, l => match l with
    | [] => false
    | x :: r => nostar x && chX n a c x && chXs n as c r
end
def chH (n : Str) (i : Nat) : HS → SC → Stmt → Bool
  | .ret e, c, s => match s with
    | .Return (some x) _ => chX g kws n e c x
    | _ => false
  | .asg j e, c, s => match s with
    | .Assign [.Name y _] x _ => decide (c.N[j]? = some y ∧ j ≠ i) && locB c.sc y && stB c y && chX g kws n e c x && noComp x
    | _ => false
mutual
def chS : CS → SC → Stmt → Bool
  | .raise k es, c, s => match s with
    | .Raise (some (.Call (.Name x _) [a] [] _)) none _ => decide (g.exs[k]? = some x) && glB c.sc x && okN x && chEs g kws es c [a]
    | _ => false
  | .try_ b k i h, c, s => match s with
    | .Try body [.ExceptHandler (some (.Name x _)) (some n) [s1] _] [] [] _ => decide (g.exs[k]? = some x ∧ c.N[i]? = some n) && glB c.sc x && okN x && locB c.sc n && okN n && c.fb.isNone && chSs b c body && chH g kws n i h c s1
    | _ => false
  | .expr e, c, s => match s with
    | .Expr x _ => chE g kws e c x && noComp x
    | _ => false
  | .asg t e, c, s => match s with
    | .Assign [tg] x p => chT g kws t c tg && chE g kws e c x && nostar tg && ((swNo c.sc tg x && swC c.sc tg x) || swB c tg x p.line)
    | _ => false
  | .par2 i j a b, c, s => match s with
    | .Assign [.Tuple [.Name x px, .Name y py] _ _] (.Tuple [d, e] _ _) _ => decide (c.N[i]? = some x ∧ c.N[j]? = some y ∧ i ≠ j ∧ x ≠ y ∧ py.line = px.line) && locB c.sc x && locB c.sc y && chE g kws a c d && chE g kws b c e && nostar d && nostar e && !([d, e].all (foldedForSure 8)) && !([d, e].all (constantsAlone 8))
    | _ => false
  | .par3 i j l a b f, c, s => match s with
    | .Assign [.Tuple [.Name x px, .Name y py, .Name z pz] _ _] (.Tuple [d, e, r] _ _) _ => decide (c.N[i]? = some x ∧ c.N[j]? = some y ∧ c.N[l]? = some z ∧ i ≠ j ∧ i ≠ l ∧ j ≠ l ∧ x ≠ y ∧ x ≠ z ∧ y ≠ z ∧ py.line = px.line ∧ pz.line = px.line) && locB c.sc x && locB c.sc y && locB c.sc z &&
        chE g kws a c d && chE g kws b c e && chE g kws f c r && nostar d && nostar e && nostar r && !([d, e, r].all (foldedForSure 8)) && !([d, e, r].all (constantsAlone 8))
    | _ => false
  | .aug i op e, c, s => match s with
    | .AugAssign (.Name x _) o y _ => decide (c.N[i]? = some x) && stB c x && decide (op = o) && chE g kws e c y
    | _ => false
  | .ret e, c, s => match s with
    | .Return (some x) _ => chE g kws e c x
    | _ => false
  | .retN, _, s => match s with
    | .Return none _ => true
    | _ => false
  | .ite t a b, c, s => match s with
    | .If x y z _ => chE g kws t c x && chSs a c y && chSs b c z
    | _ => false
  | .for t it b, c, s => match s with
    | .For tg iter body [] _ => chI g kws it c tg iter && noSet iter && chT g kws t c tg && chSs b c body
    | _ => false
  | .wh t b, c, s => match s with
    | .While x body [] _ => chE g kws t c x && chSs b c body
    | _ => false
  | .pass, _, s => match s with
    | .Pass _ => true
    | _ => false
  | .brk, _, s => match s with
    | .Break _ => true
    | _ => false
  | .cnt, _, s => match s with
    | .Continue _ => true
    | _ => false
  | .never, _, _ => true
def chSs : CSs → SC → List Stmt → Bool
  | .nil, _, l => match l with
    | [] => true
    | _ :: _ => false
  | .cons s ss, c, l => match l with
    | [] => false
    | x :: r => chS s c x && chSs ss c r
end
end
end DI
set_option maxHeartbeats 4000000
/-! DI: errors of classes of the program over Exception: how one is made, read, asked. -/
namespace DI
open PySem L2
abbrev exTail : List Value := [.type "Exception", .type "BaseException", .type "object"]
/-- self.f = v, the first field of an error of a class over Exception -/
theorem field_new {prog : Program} {w : World} {A : Around} {R : Result → Shared → Prop} {hp : Heap} {g : Array GenState} {d : Drawn} {t : Nat} {os : OsState} {K : PySem.W.Frag} {f : Str} {tk : Tok} {v : Value} {x C : Addr} {fv : Array Value}
    (KX : K.In hp) (hx : hp.get? x = some { cls := .ref C, data := .fields fv }) (hov : PySem.W.excOver K C exTail = true) (hdct : PySem.W.hasDictIn K C = true) (htk : PySem.W.takerIn K C f = some none)
    (fin : ∀ h' tk' dx, (∀ b o, b ≠ x → hp.get? b = some o → h'.get? b = some o) → hp.objs.size ≤ dx → dx ≠ x → h'.get? x = some { cls := .ref C, dict := some dx, data := .fields fv } →
      h'.Ns1 dx (fun y => if y = f then some v else none) → R (.ok (.ret .none)) ⟨h', g, d, tk', os⟩) :
    codeAny (model prog w) A (.call (.builtin "object.__setattr__") ⟨[.ref x, .str f tk, v], []⟩) R ⟨hp, g, d, t, os⟩ := by
  have inst : PySem.W.InstAt hp x { cls := .ref C, data := .fields fv } C none := ⟨hx, rfl, rfl, trivial⟩
  refine PySem.W.osa_openX (s := ⟨hp, g, d, t, os⟩) PySem.F.store_Exception KX inst hov htk fun b => ?_
  dsimp only
  have away : x ≠ hp.objs.size := Nat.ne_of_lt (Heap.lt_size hx)
  obtain ⟨cd, hcd, hdi⟩ := PySem.W.any_some hdct
  have look : PySem.W.Looks (model prog w) hp (classData C) cd := PySem.W.looks_clsIn KX hcd
  obtain ⟨nm, bs, mro, ns, qn, hd, sn, sb, ab, col, del⟩ := cd
  dsimp only at hdi
  subst hdi
  unfold Builtin.ObjectAttr.storeInOwnDict Builtin.ObjectAttr.ownDictForStores
  repeat (first | with_reducible refine PySem.HandSPX.store_in_new ?_ ?_ | with_reducible refine wpAny_loadPart_at hx ?_ | with_reducible refine look.at ?_ | wp_step)
  · exact ⟨_, #[], _, (Heap.get?_update_ne _ _ _ _ away.symm).trans (Heap.get?_push_at rfl rfl), rfl, fun e he => absurd he (by simp), fun _ => rfl⟩
  · intro h' tk' hn' hs
    have there : (hp.push { cls := .type "dict", data := .dict #[] }).get? x = some { cls := .ref C, data := .fields fv } := Heap.get?_push_of_some _ hx
    refine fin h' tk' hp.objs.size (fun b o hb ho => ?_) (Nat.le_refl _) away.symm ?_ hn'
    · exact (hs.2 b (Nat.ne_of_lt (Heap.lt_size ho))).trans ((Heap.get?_update_ne _ _ _ _ hb).trans (Heap.get?_push_of_some _ ho))
    · exact (hs.2 x away).trans (Heap.get?_update_self _ there rfl)
end DI
set_option maxHeartbeats 4000000
/-! DI: an error whose __init__ keeps its one parameter. -/
namespace DI
open PySem L2
open PySem.W PySem.Calls PyProof.Rows PySem.HandSPX in
section
def thA (p1 p2 : Pos) : Arguments := { posonlyargs := [], args := [{ arg := "self", annotation := none, pos := p1 }, { arg := "thing", annotation := none, pos := p2 }], vararg := none, kwonlyargs := [], kw_defaults := [], kwarg := none, defaults := [] }
def thB (q1 q2 q3 q4 : Pos) : List Stmt := [.Assign [.Attribute (.Name "self" q1) "thing" q2] (.Name "thing" q3) q4]
def thS : Scope := { kind := .function, names := [(PySem.Str.ofString "self", .local), (PySem.Str.ofString "thing", .local)], isGenerator := false, isCoroutine := false, more := [] }
end
/-- what the top says of the class x, at C, whose __init__, at fI, keeps f -/
structure ErT (K : PySem.W.Frag) (mg : Str → Option Value) (x f qn : Str) (ar : Pos → Pos → Arguments) (bo : Pos → Pos → Pos → Pos → List Stmt) (sc : Scope) (C fI : Addr) : Prop where
  gC : mg x = some (.ref C)
  kC : PySem.W.keepIn K (.ref C) = true
  ini : PySem.W.excInitIn K C exTail "Exception.__new__" = true
  ov : PySem.W.excOver K C exTail = true
  xf : XfC K C
  sa : PySem.W.findIn K (.ref C) "__setattr__" = some (some (.builtin "object.__setattr__"))
  tk : PySem.W.takerIn K C f = some none
  no : PySem.W.findIn K (.ref C) f = some none
  iC : PySem.W.findIn K (.ref C) "__init__" = some (some (.ref fI))
  tI : PySem.W.typeIn K (.ref fI) = some (.type "function")
  tyC : PySem.W.typeIn K (.ref C) = some (.type "type")
  fn : ∃ (oc : Value) (od : Option Addr) (doc pm : Value) (an : Option Addr) (cdv ct : Value) (osl : Array (Option Value)) (p1 p2 q1 q2 q3 q4 : Pos),
    K.lookup fI = some ⟨oc, od, .func (PySem.W.fnOf "__init__" qn (ar p1 p2) (bo q1 q2 q3 q4) sc .none .none doc pm an cdv ct), osl⟩ ∧ PySem.W.codeIn K cdv qn = true
/-- a fresh error x behind its __init__: its dict, at dx, holds f -/
structure Inited (h h' : Heap) (x C dx t : Addr) (f : Str) (v : Value) : Prop where
  keep : ∀ b o, b ≠ x → h.get? b = some o → h'.get? b = some o
  obj : h'.get? x = some { cls := .ref C, dict := some dx, data := .fields #[.ref t, .none, .none, .none, .bool false, .none] }
  big : h.objs.size ≤ dx
  ne : dx ≠ x
  ns : h'.Ns1 dx (fun y => if y = f then some v else none)
/-- an error that was made -/
structure Made (h h' : Heap) (e C dx : Addr) (f : Str) (v : Value) : Prop where
  keep : ∀ b o, h.get? b = some o → h'.get? b = some o
  new : h.objs.size ≤ e
  obj : ∃ oe vs, h'.get? e = some oe ∧ oe.cls = .ref C ∧ oe.dict = some dx ∧ oe.data = .fields vs ∧ vs[1]? = some .none
  big : h.objs.size ≤ dx
  ne : dx ≠ e
  ns : h'.Ns1 dx (fun y => if y = f then some v else none)
theorem get_name {M : Model} {s : Shared} {name : Str} {scope : Scope} {L a : Addr} {cd : Value} {m : Str → Option Value} {x : Str} {pos : Pos} {v : Value} {Q : Value → Shared → Prop} {A : Around} {E : Value → Shared → Prop} (hn : s.heap.Ns L m) (hv : m x = some v) (h : Q v s)
    (hk : scope.kind = .function := by rfl) (hl : (PyProof.Rows.envOfC name scope L a cd).kindOf x = some .local := by rfl) (hd : (x == ("__debug__" : Str)) = false := by decide) :
    wpAny M A (eval (.Name x pos) (PyProof.Rows.envOfC name scope L a cd)) Q E s := wpAny_Name (wpAny_loadName_local hk hl hn hv h) hd
end DI
/-! DI: what is known where code runs; lemmas of single steps. -/
namespace DI
open PySem L2

/-! ### what is known -/
def XR (xc : Nat → Value) (K : PySem.W.Frag) (H : Hp) (m : List Addr) (x : XN) (cls : Value) (d : Option Addr) : Prop :=
  cls = xc x.cls ∧ ((x.fs = [] ∧ d = none) ∨ ∃ da fs, d = some da ∧ H da = some (.xd fs) ∧ fs.map (·.1) = x.fs.map (·.1) ∧ RVs K H m (x.fs.map (·.2)) (fs.map (·.2)))
abbrev Cl := Nat → List D → Sto → R D
def PostE (K : PySem.W.Frag) (H : Hp) (m : List Addr) (Q : VK) : D → Sto → Prop := fun d S' => ∀ v H' m', Ext H m H' m' → SR K H' m' S' → RV K H' m' d v → Q v H'
def spI (xc : Nat → Value) (K : PySem.W.Frag) (cl : Cl) (i n : Nat) : Sp := fun vs H Q Ex => vs.length = n ∧ ∃ ds S m, SR K H m S ∧ RVs K H m ds vs ∧
  (cl i ds S).holds (PostE K H m Q) (fun x S' => ∀ H' m' cls d, Ext H m H' m' → SR K H' m' S' → XR xc K H' m' x cls d → Ex cls d H')
def kwG (n nk : Nat) (perm : List Nat) (us ws : List Value) : List Value := if us.length = n ∧ ws.length = nk then perm.map fun j => (us ++ ws).getD j .none else []
def kwV (n nk : Nat) (perm : List Nat) (us ws : List V) : List V := if us.length = n ∧ ws.length = nk then perm.map fun j => (us ++ ws).getD j .non else []
/-- a def keeps its promise where no repr is under way -/
structure FnG (P : Program) (w : World) (K : PySem.W.Frag) (mg : Str → Option Value) (base : Heap) (CX : CXT) (k : Nat) (f : Addr) (fd : FuncData) (ps : List Str) (sp : Sp) : Prop where
  len : ∀ vs H Q E, sp vs H Q E → vs.length = ps.length
  run : ∀ (A : Around) (outer : List Env) (s : Shared) (H : Hp) (args : Args) (us : List Value) (vs : List V) (Q : VK) (E : XK), A.guards = some [] → Room k A → Env0 P w K mg base A outer s H → BindsTo s fd args (ps.zip us) → Vals vs us → sp vs H Q E →
    codeAny (model P w) A (.call (.ref f) args) (CR CX outer P w H s Q E) s
/-- what the top says of a class of errors -/
structure ErF (K : PySem.W.Frag) (mg : Str → Option Value) (x : Str) (C : Addr) (e : EC) : Prop where
  gC : mg x = some (.ref C)
  xf : XfC K C
  isC : ExcC K C
  no : ∀ f ∈ e.fs, PySem.W.findIn K (.ref C) f = some none
  mkT : e.fs = [("thing" : Str)] → ∃ qn fI, ErT K mg x "thing" qn thA thB thS C fI
structure GOk (xc : Nat → Value) (g : GS) (p : PG) (cl : Cl) (k : Nat) (P : Program) (w : World) (K : PySem.W.Frag) (mg : Str → Option Value) (base : Heap) : Prop where
  fn : ∀ (i : Nat) (x : Str) (ps : List Str), g.fns[i]? = some (x, ps) → ∃ f fd, mg x = some (.ref f) ∧ PySem.W.keepIn K (.ref f) = true ∧ FnG P w K mg base (L2.CX P w) k f fd ps (spI xc K cl i ps.length) ∧ Binds K fd ps [] ∧
    ∀ q ∈ p.kws, q.f = i → q.perm.length = ps.length ∧ ∀ (s : Shared) (us ws : List Value), K.In s.heap → (kwG q.np q.ks.length q.perm us ws).length = ps.length → BindsTo s fd ⟨us, q.ks.zip ws⟩ (ps.zip (kwG q.np q.ks.length q.perm us ws))
  con : ∀ (i : Nat) (x : Str), g.cons[i]? = some x → ∃ u v d, mg x = some u ∧ RelV v u ∧ p.cons[i]? = some d ∧ ∀ H m, RV K H m d v
  blt : ∀ (x : Str), g.blts.contains x = true → mg x = none
  exl : g.exs.length = p.exs.length
  exc : ∀ (i : Nat) (x : Str) (e : EC), g.exs[i]? = some x → p.exs[i]? = some e → ∃ C, xc i = .ref C ∧ ErF K mg x C e
  sub : ∀ (i j : Nat), i < p.exs.length → j < p.exs.length → PySem.W.exmOne K (xc i) (xc j) = some (isSub p i j) ∧ PySem.W.kitOne K (xc i) (xc j) = some (isSub p i j)
abbrev EX := XN → En → Sto → Prop
structure ST (K : PySem.W.Frag) (H0 : Hp) (m0 : List Addr) (q : En) (S : Sto) (qV : St) (H : Hp) (m : List Addr) : Prop where
  sr : SR K H m S
  fr : FR K H m q qV
  ex : Ext H0 m0 H m
theorem ST.go {K : PySem.W.Frag} {H0 : Hp} {m0 : List Addr} {q : En} {S S1 : Sto} {qV : St} {H H1 : Hp} {m m1 : List Addr} (s : ST K H0 m0 q S qV H m) (e : Ext H m H1 m1) (r : SR K H1 m1 S1) : ST K H0 m0 q S1 qV H1 m1 :=
  ⟨r, s.fr.mono s.sr e, s.ex.trans e⟩
def XW (xc : Nat → Value) (K : PySem.W.Frag) (E : EX) (H0 : Hp) (m0 : List Addr) : WX := fun cls d qV H => ∃ x q S m, E x q S ∧ ST K H0 m0 q S qV H m ∧ XR xc K H m x cls d
structure SX (xc : Nat → Value) (g : GS) (p : PG) (cl : Cl) (k : Nat) (c : SC) (E : EX) (H0 : Hp) (m0 : List Addr) (X : Cx) : Prop where
  hN : X.N = c.N
  nd : c.N.Nodup
  hsc : X.env.scope = c.sc
  hk : c.sc.kind = .function
  fn : ∀ x, stB c x = true → X.fn x = true ∨ c.sc.names.lookup x = some .local
  calm : X.calm = true
  room : Room k X.A
  po : PassesOwn (model X.prog X.w) X.A X.env X.xe
  tk : Takes X (XW xc X.K E H0 m0)
  top : c.fb = none → X.stack = X.env :: X.outer ∧ X.env.frame = some X.env.locals
  gok : GOk xc g p cl k X.prog X.w X.K X.mg X.base
  gd : X.A.guards = some []

variable {xc : Nat → Value} {g : GS} {p : PG} {cl : Cl} {k : Nat} {c : SC} {E : EX} {H0 : Hp} {m0 : List Addr} {X : Cx}
theorem SX.hu (s : SX xc g p cl k c E H0 m0 X) : X.A.units + 64 < cLine := s.room.units
theorem SX.vis (s : SX xc g p cl k c E H0 m0 X) {x : Str} (h : visB c.sc x = true) : Vis X.env.scope x := by
  unfold Vis
  rw [s.hsc]
  unfold visB at h
  split at h
  · exact .inl (by assumption)
  · exact .inr (.inl (by assumption))
  · exact .inr (.inr (by assumption))
  · cases h
theorem SX.gl (s : SX xc g p cl k c E H0 m0 X) {x : Str} (h : glB c.sc x = true) : Gl X x := by
  show X.env.scope.names.lookup x = _
  rw [s.hsc]
  unfold glB at h
  split at h
  · assumption
  · cases h
theorem SX.loc (s : SX xc g p cl k c E H0 m0 X) {x : Str} (h : stB c x = true) : L2.Loc X.env.scope x := by
  unfold L2.Loc
  rw [s.hsc]
  unfold stB at h
  split at h
  · exact .inl (by assumption)
  · exact .inr (by assumption)
  · cases h
theorem okN_d {x : Str} (h : okN x = true) : (x == ("__debug__" : Str)) = false := by
  unfold okN at h
  simp only [Bool.and_eq_true, Bool.not_eq_true'] at h
  exact h.1.1
theorem okN_c {x : Str} (h : okN x = true) : (x == ("__classdict__" : Str)) = false := by
  unfold okN at h
  simp only [Bool.and_eq_true, Bool.not_eq_true'] at h
  exact h.1.2
theorem okN_n {x : Str} (h : okN x = true) : x ≠ "__name__" := by
  unfold okN at h
  simp only [Bool.and_eq_true, Bool.not_eq_true'] at h
  exact beq_eq_false_iff_ne.mp h.2

/-! ### lists of arguments without stars -/
theorem star1 {e : Expr} {es : List Expr} {env : Env} (h : nostar e = true) : starEach (e :: es) env = (false, eval e env) :: starEach es env := by
  cases e <;> first | rfl | exact (Bool.false_ne_true h).elim
theorem back1 {pos : Pos} {es : List Expr} {env : Env} : (∀ e ∈ es, nostar e = true) → (backTo pos (starEach es env)).any (·.1) = false := by
  induction es with
  | nil => intro _; rfl
  | cons e es ih =>
    intro h
    rw [star1 (h e List.mem_cons_self)]
    show (false || (backTo pos (starEach es env)).any (·.1)) = false
    rw [ih fun x hx => h x (List.mem_cons_of_mem _ hx)]
    rfl
theorem back2 {pos : Pos} {es : List Expr} {env : Env} : (∀ e ∈ es, nostar e = true) → (backTo pos (starEach es env)).all (fun x => !x.1) = true := by
  induction es with
  | nil => intro _; rfl
  | cons e es ih =>
    intro h
    rw [star1 (h e List.mem_cons_self)]
    show (true && (backTo pos (starEach es env)).all (fun x => !x.1)) = true
    rw [ih fun x hx => h x (List.mem_cons_of_mem _ hx)]
    rfl
theorem plain_ix {b : Expr} (h : plainB b = true) : PlainIx b := by
  intro o i
  cases b with
  | Slice l u s q =>
    cases s with
    | none => exact (Bool.false_ne_true h).elim
    | some _ => rfl
  | _ => rfl
theorem base_no {o : Expr} {a : Str} {env : Env} (h : noCall o = true) : attributeBase o a env (eval o env) = eval o env := by
  cases o <;> first | rfl | exact (Bool.false_ne_true h).elim
theorem fold_no {e : Expr} {env : Env} (h : noSet e = true) (x : Value) : foldedSetIterable e env x = pure x := by
  cases e <;> first | rfl | exact (Bool.false_ne_true h).elim
theorem swap_no {e : Expr} {t : Option Expr} {n : Nat} {env : Env} (h : noComp e = true) : swapsWith e t n env = pure false := by
  cases e <;> first | rfl | exact (Bool.false_ne_true h).elim

/-! ### data: equality -/
theorem optAll_cons {A : Type} {x : Option A} {xs : List (Option A)} {r : List A} (h : optAll (x :: xs) = some r) : ∃ a r', x = some a ∧ optAll xs = some r' ∧ r = a :: r' := by
  cases x with
  | none =>
    cases h
  | some a =>
    cases e : optAll xs with
    | none =>
      have h' : (match some a, optAll xs with | some a, some r => some (a :: r) | _, _ => none) = some r := h
      rw [e] at h'
      cases h'
    | some r' =>
      have h' : (match some a, optAll xs with | some a, some r => some (a :: r) | _, _ => none) = some r := h
      rw [e] at h'
      exact ⟨a, r', rfl, rfl, (Option.some.inj h').symm⟩
theorem dp_all {K : PySem.W.Frag} {H : Hp} {m : List Addr} {f : D → Option PyData} (ih : ∀ d v y, RV K H m d v → f d = some y → Dp K H v y) : ∀ {ds : List D} {vs : List V} {ys : List PyData}, RVs K H m ds vs → optAll (ds.map f) = some ys → DpAll K H vs ys
  | _, _, _, .nil, h => by
    cases h
    exact .nil
  | _, _, _, .cons r t, h => by
    obtain ⟨a, r', h1, h2, rfl⟩ := optAll_cons h
    exact .cons (ih _ _ _ r h1) (dp_all ih t h2)
theorem dp_of {K : PySem.W.Frag} {H : Hp} {m : List Addr} {S : Sto} (s : SR K H m S) : ∀ (n : Nat) (d : D) (v : V) (y : PyData), RV K H m d v → pyD n S d = some y → Dp K H v y
  | 0, _, _, _, _, h => by cases h
  | n + 1, d, v, y, r, h => by
    cases r with
    | non => cases h; exact .non
    | bl b => cases h; exact .bl b
    | int i => cases h; exact .int i
    | str x => cases h; exact .str x
    | @tup a xs ds hs hr =>
      have h' : (optAll (ds.map (pyD n S))).map PyData.tuple = some y := h
      obtain ⟨ys, e1, rfl⟩ := Option.map_eq_some_iff.mp h'
      exact .tup hs (dp_all (fun d v y => dp_of s n d v y) hr e1)
    | cl _ _ => cases h
    | @ref i a hi =>
      have h' : (match S[i]? with | some (.lst ds) => (optAll (ds.map (pyD n S))).map PyData.list | _ => none) = some y := h
      cases e : S[i]? with
      | none => rw [e] at h'; cases h'
      | some o =>
        rw [e] at h'
        cases o with
        | lst ds =>
          obtain ⟨ys, e1, rfl⟩ := Option.map_eq_some_iff.mp h'
          obtain ⟨ho, h1, h2⟩ := s.at_ i a _ hi e
          cases h2 with
          | lst hr => exact .lst (SqL.of h1) (dp_all (fun d v y => dp_of s n d v y) hr e1)
        | fz ds => cases h'
        | dk kvs => cases h'
theorem eqD_some {S : Sto} {d e : D} {b : Bool} (h : eqD S d e = some b) : ∃ y z, pyD 60 S d = some y ∧ pyD 60 S e = some z ∧ SeqAt.shaped y = true ∧ SeqAt.shaped z = true ∧ PyData.eqv y z = b := by
  unfold eqD at h
  cases e1 : pyD 60 S d with
  | none => rw [e1] at h; cases h
  | some y =>
    cases e2 : pyD 60 S e with
    | none => rw [e1, e2] at h; cases h
    | some z =>
      rw [e1, e2] at h
      dsimp only at h
      split at h
      · rename_i hc
        rw [Bool.and_eq_true] at hc
        exact ⟨y, z, rfl, rfl, hc.1, hc.2, Option.some.inj h⟩
      · cases h
theorem flat_of {K : PySem.W.Frag} {H : Hp} {m : List Addr} {d : D} {v : V} (r : RV K H m d v) (h : flatD d = true) : flatV v = true := by
  cases r <;> first | rfl | cases h
theorem eqF_of {K : PySem.W.Frag} {H : Hp} {m : List Addr} {d e : D} {v w : V} (r : RV K H m d v) (s : RV K H m e w) (h : flatD d = true) (k : flatD e = true) : eqV v w = eqF d e := by
  cases r <;> first | (cases h; done) | (cases s <;> first | rfl | (cases k; done))
theorem flats_of {K : PySem.W.Frag} {H : Hp} {m : List Addr} : ∀ {ds : List D} {vs : List V}, RVs K H m ds vs → ds.all flatD = true → vs.all flatV = true
  | _, _, .nil, _ => rfl
  | _, _, .cons r t, h => by
    rw [List.all_cons, Bool.and_eq_true] at h
    rw [List.all_cons, flat_of r h.1, flats_of t h.2]
    rfl
theorem inV_of {K : PySem.W.Frag} {H : Hp} {m : List Addr} {d : D} {v : V} (r : RV K H m d v) (hd : flatD d = true) : ∀ {ds : List D} {vs : List V}, RVs K H m ds vs → ds.all flatD = true → inV v vs = ds.any fun y => eqF y d
  | _, _, .nil, _ => rfl
  | _, _, .cons s t, h => by
    rw [List.all_cons, Bool.and_eq_true] at h
    rw [List.any_cons, ← inV_of r hd t h.2, ← eqF_of s r h.1 hd]
    rfl
theorem sz_of {n : Nat} (h : n ≤ LM) : n ≤ sizeLine := Nat.le_trans h (by unfold LM; decide)
theorem sz_lt {n : Nat} (h : n < LM) : n < sizeLine := Nat.lt_of_lt_of_le h (by unfold LM; decide)
/-- a list or a tuple of the store, to be read -/
theorem seq_of {K : PySem.W.Frag} {H : Hp} {m : List Addr} {S : Sto} (s : SR K H m S) {d : D} {v : V} {ds : List D} (r : RV K H m d v) (h : seqD S d = some ds) : ∃ a xs, v = .ref a ∧ (SqL K H a xs ∨ SqT K H a xs) ∧ RVs K H m ds xs := by
  cases r with
  | non => cases h
  | bl b => cases h
  | int i => cases h
  | str x => cases h
  | @tup a xs ds' hs hr =>
    cases h
    exact ⟨a, xs, rfl, .inr hs, hr⟩
  | @cl a xs ds' hs hr =>
    cases h
    exact ⟨a, xs, rfl, .inl (.inr hs), hr⟩
  | @ref i a hi =>
    have h' : (match S[i]? with | some (.lst ds) => some ds | some (.fz ds) => some ds | _ => none) = some ds := h
    cases e : S[i]? with
    | none => rw [e] at h'; cases h'
    | some o =>
      rw [e] at h'
      obtain ⟨ho, h1, h2⟩ := s.at_ i a _ hi e
      cases h2 with
      | lst hr =>
        cases h'
        exact ⟨a, _, rfl, .inl (SqL.of h1), hr⟩
      | fz hr =>
        cases h'
        exact ⟨a, _, rfl, .inl (.inl (.inr ⟨_, h1⟩)), hr⟩
      | dk _ _ => cases h'
theorem lst_at {K : PySem.W.Frag} {H : Hp} {m : List Addr} {S : Sto} (s : SR K H m S) {i : Nat} {a : Addr} {ds : List D} (hi : m[i]? = some a) (h : S[i]? = some (.lst ds)) : ∃ xs, H a = some (.lst xs) ∧ RVs K H m ds xs := by
  obtain ⟨ho, h1, h2⟩ := s.at_ i a _ hi h
  cases h2 with
  | lst hr => exact ⟨_, h1, hr⟩
theorem fz_at {K : PySem.W.Frag} {H : Hp} {m : List Addr} {S : Sto} (s : SR K H m S) {i : Nat} {a : Addr} {ds : List D} (hi : m[i]? = some a) (h : S[i]? = some (.fz ds)) : ∃ o xs, H a = some (.frz o (.lst xs)) ∧ RVs K H m ds xs := by
  obtain ⟨ho, h1, h2⟩ := s.at_ i a _ hi h
  cases h2 with
  | fz hr => exact ⟨_, _, h1, hr⟩
theorem dk_at {K : PySem.W.Frag} {H : Hp} {m : List Addr} {S : Sto} (s : SR K H m S) {i : Nat} {a : Addr} {kvs : List (Key × D)} (hi : m[i]? = some a) (h : S[i]? = some (.dk kvs)) : ∃ kvs', H a = some (.dK kvs') ∧ kvs'.map (·.1) = kvs.map (·.1) ∧ RVs K H m (kvs.map (·.2)) (kvs'.map (·.2)) := by
  obtain ⟨ho, h1, h2⟩ := s.at_ i a _ hi h
  cases h2 with
  | dk e hr => exact ⟨_, h1, e, hr⟩
theorem lstD_some {S : Sto} {d : D} {ds : List D} (h : lstD S d = some ds) : ∃ i, d = .ref i ∧ S[i]? = some (.lst ds) := by
  cases d with
  | ref i =>
    have h' : (match S[i]? with | some (.lst ds) => some ds | _ => none) = some ds := h
    cases e : S[i]? with
    | none => rw [e] at h'; cases h'
    | some o =>
      rw [e] at h'
      cases o with
      | lst _ =>
        cases h'
        exact ⟨i, rfl, e⟩
      | fz _ => cases h'
      | dk _ => cases h'
  | _ => cases h
/-- a new list at the store's end -/
theorem post_lst {K : PySem.W.Frag} {H : Hp} {m : List Addr} {S : Sto} {Q : VK} {ds : List D} {xs : List V} (s : SR K H m S) (r : RVs K H m ds xs) (q : PostE K H m Q (.ref S.length) (S ++ [.lst ds])) (a : Addr) (ha : H a = none) : Q (.ref a) (upd H a (.lst xs)) := by
  refine q _ _ (m ++ [a]) (ext_push s ha) (sr_push s ha (.lst r)) (.ref ?_)
  rw [← s.len, List.getElem?_append_right (Nat.le_refl _), Nat.sub_self]
  rfl
theorem post_tup {K : PySem.W.Frag} {H : Hp} {m : List Addr} {S : Sto} {Q : VK} {ds : List D} {xs : List V} (s : SR K H m S) (r : RVs K H m ds xs) (q : PostE K H m Q (.tup ds) S) (a : Addr) (ha : H a = none) : Q (.ref a) (upd H a (.tup xs)) :=
  q _ _ m (ext_new s ha) (sr_new s ha) (.tup (SqT.of upd_same) (r.mono s (ext_new s ha)))
theorem post_val {K : PySem.W.Frag} {H : Hp} {m : List Addr} {S : Sto} {Q : VK} {d : D} {v : V} (s : SR K H m S) (r : RV K H m d v) (q : PostE K H m Q d S) : Q v H := q v H m (Ext.refl H m) s r
theorem PostE.go {K : PySem.W.Frag} {H H1 : Hp} {m m1 : List Addr} {Q : VK} {d : D} {S : Sto} (q : PostE K H m Q d S) (e : Ext H m H1 m1) : PostE K H1 m1 Q d S := fun v H' m' e' s r => q v H' m' (e.trans e') s r
end DI
set_option maxHeartbeats 4000000
/-! DI: raise X(e) of an error that keeps "thing". -/
namespace DI
open PySem L2 PySem.Calls PyProof.Rows
section
variable {prog : Program} {w : World} {A : Around} {R : Result → Shared → Prop} {s : Shared} {K : PySem.W.Frag} {mg : Str → Option Value} {C fI : Addr} {x qn : Str}
theorem thing_init (T : ErT K mg x "thing" qn thA thB thS C fI) {e t0 : Addr} {v : Value} (KX : K.In s.heap) (lim : s.heap.NoLimit) (he : s.heap.get? e = some (PySem.HandSPX.excO C t0)) (room : A.depth < recursionLimit)
    (fin : ∀ h' tk dx, Inited s.heap h' e C dx t0 "thing" v → R (.ok (.ret .none)) { s with heap := h', toks := tk }) :
    codeAny (model prog w) A (.call (.ref fI) ⟨[.ref e, v], []⟩) R s := by
  obtain ⟨oc, od, doc, pm, an, cdv, ct, osl, p1, p2, q1, q2, q3, q4, lk, hcd⟩ := T.fn
  refine Att.call_fn (binds := [("self", .ref e), ("thing", v)]) KX lim lk hcd room (BindsTo.of_eq (by first | rfl | with_unfolding_all rfl)) (by first | rfl | decide | with_unfolding_all rfl) (fun s1 IC => ?_) rfl rfl rfl
  obtain ⟨h1, tk1, rfl⟩ := IC.toInCall.same
  have old := IC.toInCall.keep
  have hn := IC.toInCall.ns
  have he1 := old _ _ he
  show wpAny _ _ (execs _ _) _ _ _
  refine wpAny_execs_cons (plainObj_wpAny_Assign_Attribute ?_)
  refine get_name (v := v) hn (by first | rfl | with_unfolding_all rfl | kernel_rfl) (get_name (v := .ref e) hn (by first | rfl | with_unfolding_all rfl | kernel_rfl) ?_)
  refine PySem.W.set_plain (KX.keeps old) (ox := PySem.HandSPX.excO C t0) (od := none) ⟨he1, rfl, rfl, trivial⟩ T.sa ?_
  refine field_new (KX.keeps old) he1 T.ov T.xf.hdC T.tk fun h3 tk3 dx k3 big ne he3 hn3 => ?_
  show wpAny _ _ (execs _ _) _ _ _
  have lt : s.heap.objs.size < h1.objs.size := hn.lt
  exact wpAny_execs_nil (fin h3 tk3 dx ⟨fun b o hb q => k3 b o hb (old b o q), he3, Nat.le_of_lt (Nat.lt_of_lt_of_le lt big), ne, hn3⟩)
theorem thing_made (T : ErT K mg x "thing" qn thA thB thS C fI) {v : Value} (KX : K.In s.heap) (lim : s.heap.NoLimit) (room : A.depth + 1 < recursionLimit)
    (fin : ∀ h' tk e d, Made s.heap h' e C d "thing" v → R (.ok (.ret (.ref e))) { s with heap := h', toks := tk }) :
    codeAny (model prog w) A (.call (.ref C) ⟨[v], []⟩) R s := by
  obtain ⟨nm, N, qnm, bs, bm, hdct, sn, sub, ab, col, dd, k0, k1, k2, k3, k5, hC, hT⟩ := PySem.W.excInit_of KX T.ini
  obtain ⟨hp, g, dr, tk, os⟩ := s
  have up : ∀ b o, hp.get? b = some o → ((hp.push (PySem.W.kdv_tup [v])).push (PySem.HandSPX.excO C hp.objs.size)).get? b = some o := fun b o q => Heap.get?_push_of_some _ (Heap.get?_push_of_some _ q)
  have fresh : ((hp.push (PySem.W.kdv_tup [v])).push (PySem.HandSPX.excO C hp.objs.size)).get? (hp.objs.size + 1) = some (PySem.HandSPX.excO C hp.objs.size) := by heap_get
  refine PySem.HandSPX.call_own PySem.F.excBase_Exception hT hC (PySem.W.looks_findIn KX T.iC) (fun self => PySem.W.bind_fn KX self T.tI) (by rw [sizeLine_eq]; exact (by decide : 1 ≤ 16777216)) ?_
  refine thing_init (s := ⟨(hp.push (PySem.W.kdv_tup [v])).push (PySem.HandSPX.excO C hp.objs.size), g, dr, tk, os⟩) T (KX.keeps up) (lim.keeps up) fresh ?_ fun h' tk' dx I => ?_
  · show A.depth + 1 < recursionLimit
    exact room
  · have old : ∀ b o, hp.get? b = some o → h'.get? b = some o := fun b o q => I.keep b o (Nat.ne_of_lt (Nat.lt_succ_of_lt (Heap.lt_size q))) (up b o q)
    have z : hp.objs.size + 1 + 1 ≤ dx := by
      have q := I.big
      simpa only [Heap.size_push] using q
    exact ⟨rfl, fin h' tk' (hp.objs.size + 1) dx ⟨old, Nat.le_succ _, ⟨_, _, I.obj, rfl, rfl, rfl, rfl⟩, Nat.le_trans (Nat.le_trans (Nat.le_succ _) (Nat.le_succ _)) z, I.ne, I.ns⟩⟩
end
theorem relO_one {f : Str} {v : V} {u : Value} (r : RelV v u) (y : Str) : RelO (List.lookup y [(f, v)]) (if y = f then some u else none) := by
  by_cases h : y = f
  · subst h
    rw [if_pos rfl, show List.lookup y [(y, v)] = some v by simp [List.lookup]]
    exact r
  · have q : (y == f) = false := by simpa using h
    rw [if_neg h, show List.lookup y [(f, v)] = none by simp [List.lookup, q]]
    trivial
section
variable {X : Cx} {C fI : Addr} {x qn : Str}
/-- X(e) -/
def tMkEr (C : Addr) (f : Str) (ta : TA) : L2.St → Hp → XK → Prop := fun σ H Q => ta σ H fun vs H1 => ∃ v, vs = [v] ∧ ∀ d, H1 d = none → Q (.ref C) (some d) (upd H1 d (.xd [(f, v)]))
theorem pmk_thing {a : Expr} {ta : TA} {p pos : Pos} {k : Nat} (T : ErT X.K X.mg x "thing" qn thA thB thS C fI) (hr : Room k X.A) (ha : PA X [a] ta) (hg : Gl X x) (hdb : (x == ("__debug__" : Str)) = false) (hs : nostar a = true) :
    PMk X (.Call (.Name x p) [a] [] pos) (tMkEr C "thing" ta) := by
  intro pins s σ H Q I h
  refine wpAny_Call_Name_kw (ld_glob I hg T.gC ?_ hdb)
  refine PySem.W.callWith_K (h₀ := X.base) I.ok.mod.kin T.kC (thn (ha.run pos pins s σ H _ I h) fun us s1 hh => ?_) (star1 hs) rfl
  obtain ⟨vs, H1, I1, r1, v, ev, q1⟩ := hh
  subst ev
  refine ⟨I1.kIn, ?_⟩
  cases r1 with
  | cons rv rn =>
    rename_i v' us'
    cases rn
    show wpAny _ _ (call (.ref C) [v']) _ _ _
    have lim := I1.nolimit
    obtain ⟨hp, g, dr, tk, os⟩ := s1
    refine wpAny_call (thing_made T I1.kIn lim (by have := hr.dp; omega) fun h' tk' e d M => ?_)
    show MkP X pins σ Q (.ref e) ⟨h', g, dr, tk', os⟩
    obtain ⟨oe, fv, hoe, hc, hd, hdat, h1⟩ := M.obj
    have hns := M.ns
    obtain ⟨G, g1, g2⟩ := restrict h' fun b => decide (b ≠ e)
    have off : ∀ b, b ≠ e → G.get? b = h'.get? b := fun b hb => g1 b (decide_eq_true hb)
    have gone : G.get? e = none := g2 e (by simp)
    have old : ∀ b o, hp.get? b = some o → G.get? b = some o := fun b o q => (off b (Nat.ne_of_lt (Nat.lt_of_lt_of_le (Heap.lt_size q) M.new))).trans (M.keep b o q)
    have ob : ObjOk X.prog X.w (upd H1 d (.xd [(("thing" : Str), v)])) G d (.xd [(("thing" : Str), v)]) := ⟨_, hns.at (fun o q => (off d M.ne).trans q), fun f => relO_one rv f⟩
    have J : Inv X pins σ (upd H1 d (.xd [(("thing" : Str), v)])) ⟨G, g, dr, tk', os⟩ := I1.laid (t' := tk') old M.big ob
    refine ⟨e, oe, fv, ⟨G, g, dr, tk', os⟩, _, .ref C, some d, rfl, J, fun b o q => ?_, gone, hoe, ⟨hc, hd⟩, hdat, h1, ?_, rfl, I1.bare, raises_own T.xf.exC T.tyC, q1 d (I1.hok.fresh M.big)⟩
    · by_cases hb : b = e
      · have q' : G.get? b = some o := q
        rw [hb, gone] at q'
        cases q'
      · exact (off b hb).symm.trans q
    · rw [upd_ne (Ne.symm M.ne)]
      exact I1.hok.fresh M.new
end
end DI
set_option maxHeartbeats 4000000
/-! DI: isinstance of a caught error that has a dict. -/
namespace DI
open PySem L2 PySem.Calls PyProof.Rows
section
variable {prog : Program} {w : World} {A : Around} {E : Value → Shared → Prop} {s : Shared} {K : PySem.W.Frag} {e C : Addr} {oe : Obj} {od : Option Obj}
theorem find_data {D : Addr} {n : Str} {a u : Value} (c : (PySem.W.clsIn K D).isSome = true) (fa : PySem.W.findIn K (.ref D) n = some (some a)) (fg : PySem.W.specialIn K a "__get__" = some (some u)) (ft : PySem.W.takesIn K a = some true) : PySem.W.findObj K D od n = some (.bind u a) := by
  obtain ⟨cd, c⟩ := Option.isSome_iff_exists.mp c
  unfold PySem.W.findObj
  rw [c, Option.bind_some, fa, Option.bind_some]
  simp [fg, ft]
open Builtin Builtin.ObjectAttr in
theorem class_of {Q : Option Value → Shared → Prop} (T : ExcC K C) (KX : K.In s.heap) (I : PySem.W.InstAt s.heap e oe C od) (h : Q (some (.ref C)) { s with toks := s.toks + 1 }) : wpAny (model prog w) A (getAttr? (.ref e) "__class__") Q E s := by
  have found : PySem.W.findObj K C od "__class__" = some (.bind (.builtin "getset_descriptor.__get__") (.builtin "object.__class__")) := find_data (by obtain ⟨cd, hc, _⟩ := PySem.W.any_some T.hd; rw [hc]; rfl) T.ha T.hn T.ht
  obtain ⟨hp, g, d, t, os⟩ := s
  have ty := I.type (M := model prog w)
  have lg := PySem.W.looks_findIn (M := model prog w) KX T.hg
  have lk := PySem.W.looks_findIn (M := model prog w) KX T.hk
  have lf := PySem.W.looks_find (M := model prog w) KX I found
  have isB : PySem.W.Looks (model prog w) hp (isInstance (.ref e) (.type "BaseException")) true := ty.andThen (PySem.W.looks_subIn KX T.hs)
  have no1 : (false && onTheHeap (Value.builtin "BaseException.__getattribute__")) = false := rfl
  have no2 : (Value.builtin "BaseException.__getattribute__" == Value.builtin "object.__getattribute__") = false := by decide +kernel
  have no3 : (onTheHeap (Value.ref C) && Value.builtin "BaseException.__getattribute__" == Value.builtin "object.__getattribute__") = false := by rw [no2]; rfl
  unfold getAttr? getAttrBy? getAttrBy
  refine wpAny_bind (wpAny_mkText (wpAny_bind (wpAny_attempt (wpAny_holding (wpAny_bind (ty.at (wpAny_bind (lg.at ?_))))))))
  show wpAny _ _ (if (onTheHeap (Value.ref C) && Value.builtin "BaseException.__getattribute__" == Value.builtin "object.__getattribute__") = true then _ else _) _ _ _
  rw [no3, if_neg Bool.false_ne_true]
  unfold getAttrByItsOwn hookBefore
  refine wpAny_bind ?_
  rw [if_pos (show onTheHeap (Value.ref C) = true from rfl)]
  refine lk.at ?_
  refine wpAny_bind (wpAny_attempt (wpAny_holding ?_))
  unfold callGetattribute
  rw [no1, if_neg Bool.false_ne_true]
  unfold boundAndCalled
  rw [PySem.F.excAttr_ValueError.ga.bind (.ref e)]
  refine wpAny_bind (wpAny_pure ?_)
  show wpAny _ _ (call (.builtin "BaseException.__getattribute__") [.ref e, .str "__class__" t]) _ _ _
  refine wpAny_call (codeAny_call_builtin PySem.F.excAttr_ValueError.ga.plain PySem.F.entry_bexc_ga ?_)
  refine @PySem.W.check_slot (model prog w) _ _ ⟨hp, g, d, t + 1, os⟩ "BaseException.__getattribute__" "BaseException" "__getattribute__" (.ref e) [.str "__class__" t] [] _ (by decide +kernel) (by decide +kernel) isB (PySem.F.args_bexc_ga (.ref e) (.str "__class__" t)) ?_
  unfold Builtin.«object.__getattribute__»
  refine wpAny_bind (wpAny_of_eq (a := ((Value.ref e : Value), [Value.str "__class__" t])) (by first | rfl | (simp only [slotArgs]; rfl)) ?_)
  refine wpAny_bind (wpAny_pure (wpAny_bind (ty.at (wpAny_bind (lf.at ?_)))))
  show wpAny _ _ (holding [Value.builtin "object.__class__"] (call (.builtin "getset_descriptor.__get__") [.builtin "object.__class__", .ref e, .ref C]) >>= ret) _ _ _
  refine wpAny_bind (wpAny_holding (wpAny_call (PySem.W.class_get (s := ⟨hp, g, d, t + 1, os⟩) (ox := oe) (od := od) KX I T.hm ?_)))
  refine wpAny_pure ?_
  show wpAny _ _ (handedOut (.ref C)) _ _ _
  rw [PySem.W.handedOut_of (v := .ref C) rfl]
  first
    | exact wpAny_pure (wpAny_pure h)
    | exact wpAny_pure h
    | exact wpAny_pure (wpAny_bind (wpAny_pure (wpAny_pure h)))
theorem kit_of (T : ExcC K C) : PySem.W.KitX K (.ref e) (.ref C) (fun h => PySem.W.InstAt h e oe C od) where
  ty := fun _ _ _ I => I.type
  it := fun _ _ KX _ => by
    obtain ⟨cd, hc, _⟩ := PySem.W.any_some T.hd
    unfold PySem.W.clsIn at hc
    split at hc
    · rename_i c1 d1 cd1 sl1 lk
      intro A1 Q1 E1 s1 up q
      unfold isType loadHead
      exact wpAny_bind (wpAny_loadPart (up _ _ (KX _ _ lk)) (wpAny_pure q))
    · cases hc
  ne := fun h tp dd its n sl KX at_ => by
    obtain ⟨cd, hc, _⟩ := PySem.W.any_some T.hd
    refine Bool.eq_false_iff.mpr fun q => ?_
    have same : C = tp := Value.ref.inj (beq_iff_eq.mp q)
    subst same
    unfold PySem.W.clsIn at hc
    split at hc
    · rename_i c1 d1 cd1 sl1 lk
      have z := (KX _ _ lk).symm.trans at_
      cases z
    · cases hc
  ca := fun KX I k => class_of T KX I k
end
end DI
/-! DI: operators, subscripts, built-in functions and methods on data. -/
namespace DI
open PySem L2
variable {K : PySem.W.Frag} {H : Hp} {m : List Addr} {S : Sto} {Q : VK} {X : Cx}
abbrev noE : XN → Sto → Prop := fun _ _ => False

theorem opD_ok {op : Operator} {d e : D} {v w : V} {E : XN → Sto → Prop} (s : SR X.K H m S) (r : RV X.K H m d v) (t : RV X.K H m e w) (h : (opD op d e S).holds (PostE X.K H m Q) E) : WR X (binaryOp op) v w H Q := by
  unfold opD at h
  split at h
  · cases r; cases t
    exact ⟨_, op_add, _, _, rfl, rfl, post_val s (.int _) h⟩
  · cases r; cases t
    exact ⟨_, op_sub, _, _, rfl, rfl, post_val s (.int _) h⟩
  · cases r; cases t
    obtain ⟨hc, h⟩ := holds_ifR h
    exact ⟨_, op_mulW, _, _, rfl, rfl, (by have z := of_decide_eq_true hc; exact z), post_val s (.int _) h⟩
  · cases r; cases t
    obtain ⟨hc, h⟩ := holds_ifR h
    exact ⟨_, op_fdivW, _, _, rfl, rfl, (by have z := of_decide_eq_true hc; exact z), post_val s (.int _) h⟩
  · cases r; cases t
    obtain ⟨hc, h⟩ := holds_ifR h
    exact ⟨_, op_mod, _, _, rfl, rfl, of_decide_eq_true hc, post_val s (.int _) h⟩
  · cases r; cases t
    obtain ⟨hc, h⟩ := holds_ifR h
    exact ⟨_, op_pow, _, _, rfl, rfl, (by have z := of_decide_eq_true hc; exact z), post_val s (.int _) h⟩
  · cases r; cases t
    obtain ⟨hc, h⟩ := holds_ifR h
    exact ⟨_, op_add_str, _, _, rfl, rfl, sz_of (of_decide_eq_true hc), post_val s (.str _) h⟩
  · rename_i xs ys
    cases r with
    | tup hs hr =>
      cases t with
      | tup ht htr =>
        obtain ⟨hc, h⟩ := holds_ifR h
        refine ⟨_, op_catA, _, _, _, _, rfl, rfl, hs, ht, ?_, ?_, ?_, ?_⟩
        · rw [← hr.length, ← htr.length]
          exact sz_of (of_decide_eq_true hc)
        · intro e
          subst e
          cases hr
          exact post_val s (.tup ht htr) h
        · intro _ e
          subst e
          cases htr
          rw [List.append_nil] at h
          exact post_val s (.tup hs hr) h
        · intro _ _ p hp
          exact post_tup s (hr.app htr) h p hp
  · cases r with
    | ref hi =>
      cases t with
      | ref hj =>
        split at h
        · rename_i e1 e2
          obtain ⟨hc, h⟩ := holds_ifR h
          obtain ⟨xs, h1, r1⟩ := lst_at s hi e1
          obtain ⟨ys, h2, r2⟩ := lst_at s hj e2
          refine ⟨_, op_cat, _, _, _, _, rfl, rfl, h1, h2, ?_, fun p hp => post_lst s (r1.app r2) h p hp⟩
          rw [← r1.length, ← r2.length]
          exact sz_of (of_decide_eq_true hc)
        · exact h.elim
  · cases r with
    | ref hi =>
      cases t with
      | int k =>
        split at h
        · rename_i e1
          obtain ⟨hc, h⟩ := holds_ifR h
          obtain ⟨xs, h1, r1⟩ := lst_at s hi e1
          have hc' := of_decide_eq_true hc
          have rep : ∀ n, RVs X.K H m (List.replicate n _).flatten (List.replicate n xs).flatten := fun n => by
            induction n with
            | zero => exact .nil
            | succ n ih =>
              rw [List.replicate_succ, List.replicate_succ, List.flatten_cons, List.flatten_cons]
              exact r1.app ih
          refine ⟨_, op_rep, _, _, _, rfl, rfl, h1, by omega, by omega, ?_, fun p hp => post_lst s (rep _) h p hp⟩
          rw [← r1.length]
          exact sz_of hc'.2.2
        · exact h.elim
  · exact h.elim

theorem op_In_dk (hu : X.A.units + 64 < cLine) : OpR X (compareOp .In) (fun x y H Q => ∃ a ov, y = .ref a ∧ DGet H a x ov ∧ Q (.bl ov.isSome) H) := by
  intro pins s σ H x y v u Q I rx ry h
  obtain ⟨a, ov, rfl, g, q⟩ := h
  obtain rfl : u = Value.ref a := ry
  exact d_in (by omega) I g rx fun s' I' => ⟨.bl ov.isSome, H, I', rfl, q⟩
theorem op_NotIn_dk (hu : X.A.units + 64 < cLine) : OpR X (compareOp .NotIn) (fun x y H Q => ∃ a ov, y = .ref a ∧ DGet H a x ov ∧ Q (.bl (!ov.isSome)) H) := by
  intro pins s σ H x y v u Q I rx ry h
  obtain ⟨a, ov, rfl, g, q⟩ := h
  obtain rfl : u = Value.ref a := ry
  exact d_notIn (by omega) I g rx fun s' I' => ⟨.bl (!ov.isSome), H, I', rfl, q⟩
theorem keyD_kV {d : D} {v : V} {ky : Key} (r : RV K H m d v) (h : keyD d = some ky) : v = kV ky := by
  cases r <;> cases h <;> rfl
theorem isSome_of {ky : Key} : ∀ {kvs : List (Key × D)} {kvs' : List (Key × V)}, kvs'.map (·.1) = kvs.map (·.1) → (dkGet kvs ky).isSome = (valV kvs' ky).isSome
  | [], [], _ => rfl
  | [], _ :: _, e => by cases e
  | _ :: _, [], e => by cases e
  | (k, d) :: r, (k', v) :: r', e => by
    simp only [List.map_cons, List.cons.injEq] at e
    obtain ⟨e1, e2⟩ := e
    subst e1
    have ih := isSome_of (ky := ky) e2
    unfold dkGet valV at ih ⊢
    simp only [List.find?]
    by_cases h : k' = ky
    · simp [h]
    · simp [h]
      simpa using ih
theorem inDk_of {d e : D} {v w : V} {b : Bool} (s : SR K H m S) (r : RV K H m d v) (t : RV K H m e w) (h : inDk d e S = some b) : ∃ a ov, w = .ref a ∧ DGet H a v ov ∧ b = ov.isSome := by
  unfold inDk at h
  split at h
  · split at h
    · rename_i j kvs hj
      split at h
      · rename_i ky hk
        cases h
        cases t with
        | ref ha =>
          obtain ⟨ho, h1, h2⟩ := s.at_ _ _ _ ha hj
          cases h2 with
          | dk e1 e2 =>
            rename_i kvs'
            refine ⟨_, valV kvs' ky, rfl, ?_, isSome_of e1⟩
            rw [keyD_kV r hk]
            exact DGet.k h1
      · cases h
    · cases h
  · cases h
theorem op_inDL (hu : X.A.units + 64 < cLine) : OpR X (compareOp .In) (fun x y H Q => ∃ d ds, Dp X.K H x d ∧ Dp X.K H y (.list ds) ∧ SeqAt.shaped d = true ∧ SeqAt.shaped (.list ds) = true ∧ d.depth ≤ 60 ∧ Q (.bl (ds.any fun z => PyData.eqv z d)) H) := by
  intro pins s σ H x y v u Q I rx ry h
  obtain ⟨d, ds, hd, he, sd, se, dd, q⟩ := h
  obtain ⟨as, r1⟩ := Dp.reads I d x v hd rx
  obtain ⟨bs, r2⟩ := Dp.reads I (.list ds) y u he ry
  exact SeqAt.in_list_reads r2 r1 (SeqAt.canLay_of_shaped se) (SeqAt.canLay_of_shaped sd) (by have := Nat.min_le_right (PyData.depthAll ds) d.depth; omega) ⟨.bl _, H, I, rfl, q⟩
theorem op_notInDL (hu : X.A.units + 64 < cLine) : OpR X (compareOp .NotIn) (fun x y H Q => ∃ d ds, Dp X.K H x d ∧ Dp X.K H y (.list ds) ∧ SeqAt.shaped d = true ∧ SeqAt.shaped (.list ds) = true ∧ d.depth ≤ 60 ∧ Q (.bl (!ds.any fun z => PyData.eqv z d)) H) := by
  intro pins s σ H x y v u Q I rx ry h
  obtain ⟨d, ds, hd, he, sd, se, dd, q⟩ := h
  obtain ⟨as, r1⟩ := Dp.reads I d x v hd rx
  obtain ⟨bs, r2⟩ := Dp.reads I (.list ds) y u he ry
  exact SeqAt.notIn_list_reads r2 r1 (SeqAt.canLay_of_shaped se) (SeqAt.canLay_of_shaped sd) (by have := Nat.min_le_right (PyData.depthAll ds) d.depth; omega) ⟨.bl _, H, I, rfl, q⟩
theorem op_inT (hu : X.A.units + 64 < cLine) : OpR X (compareOp .In) (fun x y H Q => ∃ d ds, Dp X.K H x d ∧ Dp X.K H y (.tuple ds) ∧ SeqAt.shaped d = true ∧ SeqAt.shaped (.tuple ds) = true ∧ d.depth ≤ 60 ∧ Q (.bl (ds.any fun z => PyData.eqv z d)) H) := by
  intro pins s σ H x y v u Q I rx ry h
  obtain ⟨d, ds, hd, he, sd, se, dd, q⟩ := h
  obtain ⟨as, r1⟩ := Dp.reads I d x v hd rx
  obtain ⟨bs, r2⟩ := Dp.reads I (.tuple ds) y u he ry
  exact SeqAt.in_tuple_reads r2 r1 (SeqAt.canLay_of_shaped se) (SeqAt.canLay_of_shaped sd) (by have := Nat.min_le_right (PyData.depthAll ds) d.depth; omega) ⟨.bl _, H, I, rfl, q⟩
theorem op_notInT (hu : X.A.units + 64 < cLine) : OpR X (compareOp .NotIn) (fun x y H Q => ∃ d ds, Dp X.K H x d ∧ Dp X.K H y (.tuple ds) ∧ SeqAt.shaped d = true ∧ SeqAt.shaped (.tuple ds) = true ∧ d.depth ≤ 60 ∧ Q (.bl (!ds.any fun z => PyData.eqv z d)) H) := by
  intro pins s σ H x y v u Q I rx ry h
  obtain ⟨d, ds, hd, he, sd, se, dd, q⟩ := h
  obtain ⟨as, r1⟩ := Dp.reads I d x v hd rx
  obtain ⟨bs, r2⟩ := Dp.reads I (.tuple ds) y u he ry
  exact SeqAt.notIn_tuple_reads r2 r1 (SeqAt.canLay_of_shaped se) (SeqAt.canLay_of_shaped sd) (by have := Nat.min_le_right (PyData.depthAll ds) d.depth; omega) ⟨.bl _, H, I, rfl, q⟩
theorem inDt_some {d e : D} {b : Bool} (h : inDt d e S = some b) : ∃ y ys, pyD 60 S d = some y ∧ SeqAt.shaped y = true ∧ y.depth ≤ 60 ∧ b = (ys.any fun z => PyData.eqv z y) ∧ ((pyD 60 S e = some (.list ys) ∧ SeqAt.shaped (.list ys) = true) ∨ (pyD 60 S e = some (.tuple ys) ∧ SeqAt.shaped (.tuple ys) = true)) := by
  unfold inDt at h
  split at h
  · rename_i y ys h1 h2
    split at h
    · rename_i hc
      simp only [Bool.and_eq_true, decide_eq_true_eq] at hc
      exact ⟨y, ys, h1, hc.1.1, hc.2, (Option.some.inj h).symm, .inl ⟨h2, hc.1.2⟩⟩
    · cases h
  · rename_i y ys h1 h2
    split at h
    · rename_i hc
      simp only [Bool.and_eq_true, decide_eq_true_eq] at hc
      exact ⟨y, ys, h1, hc.1.1, hc.2, (Option.some.inj h).symm, .inr ⟨h2, hc.1.2⟩⟩
    · cases h
  · cases h
theorem cmpD_ok {op : CmpOp} {d e : D} {v w : V} {E : XN → Sto → Prop} (hu : X.A.units + 64 < cLine) (s : SR X.K H m S) (r : RV X.K H m d v) (t : RV X.K H m e w) (h : (cmpD op d e S).holds (PostE X.K H m Q) E) : WR X (compareOp op) v w H Q := by
  cases op with
  | Eq =>
    have h' : (match eqD S d e with | some b => R.ok (.bl b) S | none => .stk : R D).holds (PostE X.K H m Q) E := h
    cases e1 : eqD S d e with
    | none => rw [e1] at h'; exact h'.elim
    | some b =>
      rw [e1] at h'
      obtain ⟨y, z, h1, h2, s1, s2, rfl⟩ := eqD_some e1
      exact ⟨_, op_eqD hu, y, z, dp_of s _ _ _ _ r h1, dp_of s _ _ _ _ t h2, s1, s2, post_val s (.bl _) h'⟩
  | NotEq =>
    have h' : (match eqD S d e with | some b => R.ok (.bl (!b)) S | none => .stk : R D).holds (PostE X.K H m Q) E := h
    cases e1 : eqD S d e with
    | none => rw [e1] at h'; exact h'.elim
    | some b =>
      rw [e1] at h'
      obtain ⟨y, z, h1, h2, s1, s2, rfl⟩ := eqD_some e1
      exact ⟨_, op_neD hu, y, z, dp_of s _ _ _ _ r h1, dp_of s _ _ _ _ t h2, s1, s2, post_val s (.bl _) h'⟩
  | Lt =>
    cases r <;> first | exact h.elim | (cases t <;> first | exact h.elim | exact ⟨_, op_lt, _, _, rfl, rfl, post_val s (.bl _) h⟩)
  | LtE =>
    cases r <;> first | exact h.elim | (cases t <;> first | exact h.elim | exact ⟨_, op_le, _, _, rfl, rfl, post_val s (.bl _) h⟩)
  | Gt =>
    cases r <;> first | exact h.elim | (cases t <;> first | exact h.elim | exact ⟨_, op_gt, _, _, rfl, rfl, post_val s (.bl _) h⟩)
  | GtE =>
    cases r <;> first | exact h.elim | (cases t <;> first | exact h.elim | exact ⟨_, op_ge, _, _, rfl, rfl, post_val s (.bl _) h⟩)
  | Is =>
    cases t with
    | non =>
      refine ⟨_, op_isN, rfl, ?_⟩
      cases r <;> exact post_val s (.bl _) h
    | bl b =>
      cases r <;> first | exact h.elim | exact ⟨_, op_isBl, _, _, rfl, rfl, post_val s (.bl _) h⟩
    | int _ => cases r <;> exact h.elim
    | str _ => cases r <;> exact h.elim
    | tup _ _ => cases r <;> exact h.elim
    | ref _ => cases r <;> exact h.elim
    | cl _ _ => cases r <;> exact h.elim
  | IsNot =>
    cases t with
    | non =>
      refine ⟨_, op_notN, rfl, ?_⟩
      cases r <;> exact post_val s (.bl _) h
    | bl b =>
      cases r <;> first | exact h.elim | exact ⟨_, op_notBl, _, _, rfl, rfl, post_val s (.bl _) h⟩
    | int _ => cases r <;> exact h.elim
    | str _ => cases r <;> exact h.elim
    | tup _ _ => cases r <;> exact h.elim
    | ref _ => cases r <;> exact h.elim
    | cl _ _ => cases r <;> exact h.elim
  | In =>
    have h' : (match seqD S e with | some es => (if (flatD d && es.all flatD) = true then .ok (.bl (es.any fun y => eqF y d)) S else match inDt d e S with | some b => .ok (.bl b) S | none => .stk) | none => match inDk d e S with | some b => .ok (.bl b) S | none => .stk : R D).holds (PostE X.K H m Q) E := h
    cases e1 : seqD S e with
    | none =>
      rw [e1] at h'
      dsimp only at h'
      cases e2 : inDk d e S with
      | none => rw [e2] at h'; exact h'.elim
      | some b =>
        rw [e2] at h'
        obtain ⟨a, ov, g1, g2, g3⟩ := inDk_of s r t e2
        subst g1 g3
        exact ⟨_, op_In_dk hu, a, ov, rfl, g2, post_val s (.bl _) h'⟩
    | some es =>
      rw [e1] at h'
      dsimp only at h'
      by_cases hc : (flatD d && es.all flatD) = true
      · rw [if_pos hc] at h'
        rw [Bool.and_eq_true] at hc
        obtain ⟨a, xs, rfl, hs, hr⟩ := seq_of s t e1
        refine ⟨_, op_in_seq, a, xs, rfl, hs, flat_of r hc.1, flats_of hr hc.2, ?_⟩
        rw [← inV_of r hc.1 hr hc.2] at h'
        exact post_val s (.bl _) h'
      · rw [if_neg hc] at h'
        cases e2 : inDt d e S with
        | none => rw [e2] at h'; exact h'.elim
        | some b =>
          rw [e2] at h'
          obtain ⟨y, ys, y1, y2, y3, rfl, z⟩ := inDt_some e2
          rcases z with ⟨z1, z2⟩ | ⟨z1, z2⟩
          · exact ⟨_, op_inDL hu, y, ys, dp_of s _ _ _ _ r y1, dp_of s _ _ _ _ t z1, y2, z2, y3, post_val s (.bl _) h'⟩
          · exact ⟨_, op_inT hu, y, ys, dp_of s _ _ _ _ r y1, dp_of s _ _ _ _ t z1, y2, z2, y3, post_val s (.bl _) h'⟩
  | NotIn =>
    have h' : (match seqD S e with | some es => (if (flatD d && es.all flatD) = true then .ok (.bl (!(es.any fun y => eqF y d))) S else match inDt d e S with | some b => .ok (.bl (!b)) S | none => .stk) | none => match inDk d e S with | some b => .ok (.bl (!b)) S | none => .stk : R D).holds (PostE X.K H m Q) E := h
    cases e1 : seqD S e with
    | none =>
      rw [e1] at h'
      dsimp only at h'
      cases e2 : inDk d e S with
      | none => rw [e2] at h'; exact h'.elim
      | some b =>
        rw [e2] at h'
        obtain ⟨a, ov, g1, g2, g3⟩ := inDk_of s r t e2
        subst g1 g3
        exact ⟨_, op_NotIn_dk hu, a, ov, rfl, g2, post_val s (.bl _) h'⟩
    | some es =>
      rw [e1] at h'
      dsimp only at h'
      by_cases hc : (flatD d && es.all flatD) = true
      · rw [if_pos hc] at h'
        rw [Bool.and_eq_true] at hc
        obtain ⟨a, xs, rfl, hs, hr⟩ := seq_of s t e1
        refine ⟨_, op_notIn_seq, a, xs, rfl, hs, flat_of r hc.1, flats_of hr hc.2, ?_⟩
        rw [← inV_of r hc.1 hr hc.2] at h'
        exact post_val s (.bl _) h'
      · rw [if_neg hc] at h'
        cases e2 : inDt d e S with
        | none => rw [e2] at h'; exact h'.elim
        | some b =>
          rw [e2] at h'
          obtain ⟨y, ys, y1, y2, y3, rfl, z⟩ := inDt_some e2
          rcases z with ⟨z1, z2⟩ | ⟨z1, z2⟩
          · exact ⟨_, op_notInDL hu, y, ys, dp_of s _ _ _ _ r y1, dp_of s _ _ _ _ t z1, y2, z2, y3, post_val s (.bl _) h'⟩
          · exact ⟨_, op_notInT hu, y, ys, dp_of s _ _ _ _ r y1, dp_of s _ _ _ _ t z1, y2, z2, y3, post_val s (.bl _) h'⟩

theorem tru_of {d : D} {v : V} {b : Bool} (s : SR K H m S) (r : RV K H m d v) (h : truD S d = some b) : TruV K v H b := by
  cases r with
  | non => cases h; rfl
  | bl b => cases h; rfl
  | int i => cases h; rfl
  | str x =>
    have h' : (if x.length ≤ LM then some ((x.length : Int) != 0) else none) = some b := h
    split at h'
    · cases h'
      exact ⟨sz_of (by assumption), rfl⟩
    · cases h'
  | @tup a xs ds hs hr =>
    cases h
    refine .inr (.inl ⟨xs, hs, ?_⟩)
    cases hr <;> rfl
  | cl _ _ => cases h
  | @ref i a hi =>
    have h' : (match S[i]? with | some (.lst ds) => some (!ds.isEmpty) | _ => none) = some b := h
    cases e : S[i]? with
    | none => rw [e] at h'; cases h'
    | some o =>
      rw [e] at h'
      cases o with
      | lst ds =>
        cases h'
        obtain ⟨xs, h1, hr⟩ := lst_at s hi e
        refine .inl ⟨xs, SqL.of h1, ?_⟩
        cases hr <;> rfl
      | fz _ => cases h'
      | dk _ => cases h'

theorem keyD_some {d : D} {v : V} {ky : Key} (r : RV K H m d v) (h : keyD d = some ky) : v = kV ky := by
  cases r <;> first | (cases h; rfl) | (cases h; done)
theorem dkGet_of {ky : Key} {d : D} : ∀ {kvs : List (Key × D)} {kvs' : List (Key × V)}, kvs'.map (·.1) = kvs.map (·.1) → RVs K H m (kvs.map (·.2)) (kvs'.map (·.2)) → dkGet kvs ky = some d → ∃ v, valV kvs' ky = some v ∧ RV K H m d v
  | [], _, _, _, h => by cases h
  | (k1, d1) :: r, [], e, _, _ => by cases e
  | (k1, d1) :: r, (k2, v2) :: r', e, q, h => by
    have e1 : k2 = k1 := (List.cons.inj e).1
    have e2 := (List.cons.inj e).2
    subst e1
    cases q with
    | cons q1 q2 =>
      unfold dkGet at h
      unfold valV
      rw [List.find?_cons] at h ⊢
      by_cases hk : k2 = ky
      · have hd : decide (k2 = ky) = true := decide_eq_true hk
        dsimp only at h ⊢
        rw [hd] at h ⊢
        cases h
        exact ⟨v2, rfl, q1⟩
      · have hd : decide (k2 = ky) = false := decide_eq_false hk
        dsimp only at h ⊢
        rw [hd] at h ⊢
        exact dkGet_of e2 q2 h
theorem atI_of {ds : List D} {xs : List V} {i : Int} {d : D} (r : RVs K H m ds xs) (h : atI ds i = some d) : ∃ v, atI xs i = some v ∧ RV K H m d v := by
  unfold atI at h ⊢
  rw [← r.length]
  cases e : ixN ds.length i with
  | none => rw [e] at h; cases h
  | some j =>
    rw [e] at h
    exact r.get h

/-! ### expressions: one step each -/
def SndE (E : EX) (H0 : Hp) (m0 : List Addr) (X : Cx) (ev : En → Sto → R D) (e : Expr) : Prop := ∀ (q : En) (S : Sto) (qV : L2.St) (H : Hp) (m : List Addr), ST X.K H0 m0 q S qV H m → ∀ (Qd : D → Sto → Prop) (Q : VK),
  (ev q S).holds Qd (fun x S' => E x q S') → (∀ d S' v H' m', Qd d S' → Ext H m H' m' → SR X.K H' m' S' → RV X.K H' m' d v → Q v H') → WE X e qV H Q
def SndT (E : EX) (H0 : Hp) (m0 : List Addr) (X : Cx) (ev : En → Sto → R Bool) (e : Expr) : Prop := ∀ (q : En) (S : Sto) (qV : L2.St) (H : Hp) (m : List Addr), ST X.K H0 m0 q S qV H m → ∀ (Qd : Bool → Sto → Prop) (Q : Bool → Hp → Prop),
  (ev q S).holds Qd (fun x S' => E x q S') → (∀ d S' H' m', Qd d S' → Ext H m H' m' → SR X.K H' m' S' → Q d H') → WT X e qV H Q
def SndA (E : EX) (H0 : Hp) (m0 : List Addr) (X : Cx) (ev : En → Sto → R (List D)) (es : List Expr) : Prop := ∀ (q : En) (S : Sto) (qV : L2.St) (H : Hp) (m : List Addr), ST X.K H0 m0 q S qV H m → ∀ (Qd : List D → Sto → Prop) (Q : List V → Hp → Prop),
  (ev q S).holds Qd (fun x S' => E x q S') → (∀ d S' v H' m', Qd d S' → Ext H m H' m' → SR X.K H' m' S' → RVs X.K H' m' d v → Q v H') → WA X es qV H Q
variable {E : EX} {H0 : Hp} {m0 : List Addr} {xc : Nat → Value} {g : GS} {p : PG} {cl : Cl} {k : Nat} {c : SC} {pos : Pos}
variable {ea eb ec : En → Sto → R D} {ta tb tc : En → Sto → R Bool} {a b d : Expr}
theorem SndE.imp {ev ev' : En → Sto → R D} {e : Expr} (h : SndE E H0 m0 X ev e) (q : ∀ q S, ev' q S = ev q S) : SndE E H0 m0 X ev' e := fun q0 S qV H m st Qd Q hh => h q0 S qV H m st Qd Q (by rw [← q]; exact hh)
/-- the value's test -/
theorem snd_const {d : D} {v : V} (h : ∀ H m, RV X.K H m d v) (hp : PE X a (tC v)) : SndE E H0 m0 X (fun _ S => .ok d S) a := fun q S qV H m st Qd Q hh kk =>
  ⟨_, hp, kk _ _ _ _ m hh (Ext.refl _ _) st.sr (h H m)⟩
theorem snd_var (sx : SX xc g p cl k c E H0 m0 X) {i : Nat} {x : Str} (hi : c.N[i]? = some x) (hv : visB c.sc x = true) (ho : okN x = true) : SndE E H0 m0 X (fun q S => optR (lkD q i) S) (.Name x pos) := by
  intro q S qV H m st Qd Q hh kk
  obtain ⟨d, hd, hq⟩ := holds_optR hh
  have hd' : q[i]? = some (some d) := by
    unfold lkD at hd
    split at hd
    · cases hd
      assumption
    · cases hd
  obtain ⟨v, h1, h2⟩ := st.fr.at_ i d hd'
  exact ⟨_, pe_var (by rw [sx.hN]; exact hi) (sx.vis hv) (okN_d ho) (okN_c ho), v, h1, kk d S v H m hq (Ext.refl _ _) st.sr h2⟩
theorem snd_glob (sx : SX xc g p cl k c E H0 m0 X) {i : Nat} {x : Str} (hi : g.cons[i]? = some x) (hg : glB c.sc x = true) (ho : okN x = true) : SndE E H0 m0 X (fun q S => optR p.cons[i]? S) (.Name x pos) := by
  intro q S qV H m st Qd Q hh kk
  obtain ⟨u, v, d, h1, h2, h3, h4⟩ := sx.gok.con i x hi
  rw [h3] at hh
  exact ⟨_, pe_glob (sx.gl hg) h1 h2 (okN_d ho), kk d S v H m hh (Ext.refl _ _) st.sr (h4 H m)⟩
theorem snd_bin {op : Operator} (ha : SndE E H0 m0 X ea a) (hb : SndE E H0 m0 X eb b) : SndE E H0 m0 X (fun q S => (ea q S).bind fun d S => (eb q S).bind fun e S => opD op d e S) (.BinOp a op b pos) := by
  intro q S qV H m st Qd Q hh kk
  refine ⟨_, pe_op opr_w pe_w pe_w, ha q S qV H m st _ _ (holds_bind.mp hh) fun d S1 v H1 m1 h1 e1 s1 r1 => hb q S1 qV H1 m1 (st.go e1 s1) _ _ (holds_bind.mp h1) fun e S2 w H2 m2 h2 e2 s2 r2 => ?_⟩
  exact opD_ok s2 (r1.mono s1 e2) r2 (holds_imp h2 (fun d3 S3 h3 v3 H3 m3 e3 s3 r3 => kk d3 S3 v3 H3 m3 h3 ((e1.trans e2).trans e3) s3 r3) fun _ _ z => z)
theorem snd_neg (ha : SndE E H0 m0 X ea a) : SndE E H0 m0 X (fun q S => (ea q S).bind fun d S => match d with | .int i => .ok (.int (-i)) S | _ => .stk) (.UnaryOp .USub a pos) := by
  intro q S qV H m st Qd Q hh kk
  refine ⟨_, pe_un un_neg pe_w, ha q S qV H m st _ _ (holds_bind.mp hh) fun d S1 v H1 m1 h1 e1 s1 r1 => ?_⟩
  cases r1 <;> first | exact h1.elim | exact ⟨_, rfl, kk _ S1 _ H1 m1 h1 e1 s1 (.int _)⟩
theorem cmp_step {op : CmpOp} (hu : X.A.units + 64 < cLine) (ha : SndE E H0 m0 X ea a) (hb : SndE E H0 m0 X eb b) {q : En} {S : Sto} {qV : L2.St} {H : Hp} {m : List Addr} (st : ST X.K H0 m0 q S qV H m) {Qd : D → Sto → Prop} {Q : VK}
    (hh : ((ea q S).bind fun d S => (eb q S).bind fun e S => cmpD op d e S).holds Qd (fun x S' => E x q S')) (kk : ∀ d S' v H' m', Qd d S' → Ext H m H' m' → SR X.K H' m' S' → RV X.K H' m' d v → Q v H') : tOp (WR X (compareOp op)) (WE X a) (WE X b) qV H Q :=
  ha q S qV H m st _ _ (holds_bind.mp hh) fun d S1 v H1 m1 h1 e1 s1 r1 => hb q S1 qV H1 m1 (st.go e1 s1) _ _ (holds_bind.mp h1) fun e S2 w H2 m2 h2 e2 s2 r2 =>
    cmpD_ok hu s2 (r1.mono s1 e2) r2 (holds_imp h2 (fun d3 S3 h3 v3 H3 m3 e3 s3 r3 => kk d3 S3 v3 H3 m3 h3 ((e1.trans e2).trans e3) s3 r3) fun _ _ z => z)
theorem snd_cmp {op : CmpOp} (hu : X.A.units + 64 < cLine) (hm : behindInMarks op b = false) (ha : SndE E H0 m0 X ea a) (hb : SndE E H0 m0 X eb b) : SndE E H0 m0 X (fun q S => (ea q S).bind fun d S => (eb q S).bind fun e S => cmpD op d e S) (.Compare a [op] [b] pos) :=
  fun q S qV H m st Qd Q hh kk => ⟨_, pe_cmpR opr_w pe_w pe_w hm, cmp_step hu ha hb st hh kk⟩
theorem snt_cmp {op : CmpOp} (hu : X.A.units + 64 < cLine) (hm : behindInMarks op b = false) (ha : SndE E H0 m0 X ea a) (hb : SndE E H0 m0 X eb b) :
    SndT E H0 m0 X (fun q S => (ea q S).bind fun d S => (eb q S).bind fun e S => (cmpD op d e S).bind fun x S => match x with | .bl b => .ok b S | _ => .stk) (.Compare a [op] [b] pos) := by
  intro q S qV H m st Qd Q hh kk
  have hh' : ((ea q S).bind fun d S => (eb q S).bind fun e S => cmpD op d e S).holds (fun d S => ∃ b, d = .bl b ∧ Qd b S) (fun x S' => E x q S') := by
    rw [holds_bind] at hh ⊢
    refine holds_imp hh (fun d S1 h1 => ?_) fun _ _ z => z
    rw [holds_bind] at h1 ⊢
    refine holds_imp h1 (fun e S2 h2 => ?_) fun _ _ z => z
    rw [holds_bind] at h2
    refine holds_imp h2 (fun x S3 h3 => ?_) fun _ _ z => z
    cases x <;> first | exact h3.elim | exact ⟨_, rfl, h3⟩
  exact ⟨_, pt_cmpR opr_w pe_w pe_w hm, cmp_step hu ha hb st hh' fun d S' v H' m' ⟨b, e, h⟩ e1 s1 r1 => by
    subst e
    cases r1
    exact ⟨b, rfl, kk b S' H' m' h e1 s1⟩⟩
theorem chain_step {op op2 : CmpOp} (hu : X.A.units + 64 < cLine) (ha : SndE E H0 m0 X ea a) (hb : SndE E H0 m0 X eb b) (hc : SndE E H0 m0 X ec d) {q : En} {S : Sto} {qV : L2.St} {H : Hp} {m : List Addr} (st : ST X.K H0 m0 q S qV H m) {Qd : D → Sto → Prop} {Q : VK}
    (hh : ((ea q S).bind fun d S => (eb q S).bind fun e S => (cmpD op d e S).bind fun x S => match x with | .bl true => (ec q S).bind fun f S => cmpD op2 e f S | .bl false => .ok (.bl false) S | _ => .stk).holds Qd (fun x S' => E x q S'))
    (kk : ∀ d S' v H' m', Qd d S' → Ext H m H' m' → SR X.K H' m' S' → RV X.K H' m' d v → Q v H') : tChain (WR X (compareOp op)) (WR X (compareOp op2)) (WE X a) (WE X b) (WE X d) qV H Q := by
  refine ha q S qV H m st _ _ (holds_bind.mp hh) fun d S1 v H1 m1 h1 e1 s1 r1 => hb q S1 qV H1 m1 (st.go e1 s1) _ _ (holds_bind.mp h1) fun e S2 w H2 m2 h2 e2 s2 r2 => ?_
  refine cmpD_ok hu s2 (r1.mono s1 e2) r2 (holds_imp (holds_bind.mp h2) (fun d3 S3 h3 v3 H3 m3 e3 s3 r3 => ?_) fun _ _ z => z)
  have st3 : ST X.K H0 m0 q S3 qV H3 m3 := (st.go e1 s1).go e2 s2 |>.go e3 s3
  cases r3 with
  | bl x =>
    cases x with
    | true =>
      refine ⟨true, rfl, ?_⟩
      rw [if_pos rfl]
      refine hc q S3 qV H3 m3 st3 _ _ (holds_bind.mp h3) fun f S4 u H4 m4 h4 e4 s4 r4 => ?_
      exact cmpD_ok hu s4 ((r2.mono s2 e3).mono s3 e4) r4 (holds_imp h4 (fun d5 S5 h5 v5 H5 m5 e5 s5 r5 => kk d5 S5 v5 H5 m5 h5 ((((e1.trans e2).trans e3).trans e4).trans e5) s5 r5) fun _ _ z => z)
    | false =>
      refine ⟨false, rfl, ?_⟩
      rw [if_neg Bool.false_ne_true]
      exact kk _ S3 _ H3 m3 h3 ((e1.trans e2).trans e3) s3 (.bl false)
  | _ => exact h3.elim
theorem snd_chain {op op2 : CmpOp} (hu : X.A.units + 64 < cLine) (hm : lastMarks [op, op2] [b, d] = false) (ha : SndE E H0 m0 X ea a) (hb : SndE E H0 m0 X eb b) (hc : SndE E H0 m0 X ec d) :
    SndE E H0 m0 X (fun q S => (ea q S).bind fun d S => (eb q S).bind fun e S => (cmpD op d e S).bind fun x S => match x with | .bl true => (ec q S).bind fun f S => cmpD op2 e f S | .bl false => .ok (.bl false) S | _ => .stk) (.Compare a [op, op2] [b, d] pos) :=
  fun q S qV H m st Qd Q hh kk => ⟨_, pe_chain opr_w opr_w pe_w pe_w pe_w hm, chain_step hu ha hb hc st hh kk⟩
theorem snt_chain {op op2 : CmpOp} (hu : X.A.units + 64 < cLine) (hm : lastMarks [op, op2] [b, d] = false) (ha : SndE E H0 m0 X ea a) (hb : SndE E H0 m0 X eb b) (hc : SndE E H0 m0 X ec d) :
    SndT E H0 m0 X (fun q S => (ea q S).bind fun d S => (eb q S).bind fun e S => (cmpD op d e S).bind fun x S => match x with
      | .bl true => (ec q S).bind fun f S => (cmpD op2 e f S).bind fun y S => match y with
        | .bl b => .ok b S
        | _ => .stk
      | .bl false => .ok false S
      | _ => .stk) (.Compare a [op, op2] [b, d] pos) := by
  intro q S qV H m st Qd Q hh kk
  have hh' : ((ea q S).bind fun d S => (eb q S).bind fun e S => (cmpD op d e S).bind fun x S => match x with | .bl true => (ec q S).bind fun f S => cmpD op2 e f S | .bl false => .ok (.bl false) S | _ => .stk).holds (fun d S => ∃ b, d = .bl b ∧ Qd b S) (fun x S' => E x q S') := by
    rw [holds_bind] at hh ⊢
    refine holds_imp hh (fun d S1 h1 => ?_) fun _ _ z => z
    rw [holds_bind] at h1 ⊢
    refine holds_imp h1 (fun e S2 h2 => ?_) fun _ _ z => z
    rw [holds_bind] at h2 ⊢
    refine holds_imp h2 (fun x S3 h3 => ?_) fun _ _ z => z
    cases x with
    | bl x =>
      cases x with
      | true =>
        dsimp only at h3 ⊢
        rw [holds_bind] at h3 ⊢
        refine holds_imp h3 (fun f S4 h4 => ?_) fun _ _ z => z
        rw [holds_bind] at h4
        refine holds_imp h4 (fun x S3 h3 => ?_) fun _ _ z => z
        cases x <;> first | exact h3.elim | exact ⟨_, rfl, h3⟩
      | false => exact ⟨_, rfl, h3⟩
    | _ => exact h3.elim
  exact ⟨_, pt_chain opr_w opr_w pe_w pe_w pe_w hm, chain_step hu ha hb hc st hh' fun d S' v H' m' ⟨b, e, h⟩ e1 s1 r1 => by
    subst e
    cases r1
    exact ⟨b, rfl, kk b S' H' m' h e1 s1⟩⟩
theorem snd_not (ha : SndE E H0 m0 X ea a) : SndE E H0 m0 X (fun q S => (ea q S).bind fun d S => match d with | .bl b => .ok (.bl (!b)) S | _ => .stk) (.UnaryOp .Not a pos) := by
  intro q S qV H m st Qd Q hh kk
  refine ⟨_, pe_not pe_w, ha q S qV H m st _ _ (holds_bind.mp hh) fun d S1 v H1 m1 h1 e1 s1 r1 => ?_⟩
  cases r1 <;> first | exact h1.elim | exact ⟨_, rfl, kk _ S1 _ H1 m1 h1 e1 s1 (.bl _)⟩
theorem snt_not (ha : SndT E H0 m0 X ta a) : SndT E H0 m0 X (fun q S => (ta q S).bind fun b S => .ok (!b) S) (.UnaryOp .Not a pos) := by
  intro q S qV H m st Qd Q hh kk
  exact ⟨_, pt_not pt_w, ha q S qV H m st _ _ (holds_bind.mp hh) fun d S1 H1 m1 h1 e1 s1 => kk _ S1 H1 m1 h1 e1 s1⟩
/-- an expression's truth -/
theorem snt_tru (ha : SndE E H0 m0 X ea a) (he : ∀ whole, isTrue a X.env whole = (do let v ← whole; standAt a.pos; holding [v] (truthy v))) : SndT E H0 m0 X (fun q S => (ea q S).bind fun d S => optR (truD S d) S) a := by
  intro q S qV H m st Qd Q hh kk
  refine ⟨_, pt_truth pe_w he, ha q S qV H m st _ _ (holds_bind.mp hh) fun d S1 v H1 m1 h1 e1 s1 r1 => ?_⟩
  obtain ⟨b, hb, hq⟩ := holds_optR h1
  exact ⟨b, tru_of s1 r1 hb, kk b S1 H1 m1 hq e1 s1⟩
theorem snd_ite (hc : SndT E H0 m0 X tc d) (ha : SndE E H0 m0 X ea a) (hb : SndE E H0 m0 X eb b) : SndE E H0 m0 X (fun q S => (tc q S).bind fun t S => match t with | true => ea q S | false => eb q S) (.IfExp d a b pos) := by
  intro q S qV H m st Qd Q hh kk
  refine ⟨_, pe_ifExp pt_w pe_w pe_w, hc q S qV H m st _ _ (holds_bind.mp hh) fun t S1 H1 m1 h1 e1 s1 => ?_⟩
  cases t with
  | true =>
    rw [if_pos rfl]
    exact ha q S1 qV H1 m1 (st.go e1 s1) _ _ h1 fun d S' v H' m' h e2 s2 r2 => kk d S' v H' m' h (e1.trans e2) s2 r2
  | false =>
    rw [if_neg Bool.false_ne_true]
    exact hb q S1 qV H1 m1 (st.go e1 s1) _ _ h1 fun d S' v H' m' h e2 s2 r2 => kk d S' v H' m' h (e1.trans e2) s2 r2
end DI
/-! DI: lists of arguments, and, or, displays, subscripts, calls. -/
namespace DI
open PySem L2
variable {K : PySem.W.Frag} {H : Hp} {m : List Addr} {S : Sto} {X : Cx}
variable {E : EX} {H0 : Hp} {m0 : List Addr} {xc : Nat → Value} {g : GS} {p : PG} {cl : Cl} {k : Nat} {c : SC} {pos : Pos}
variable {ea eb ec : En → Sto → R D} {ta tb tc : En → Sto → R Bool} {a b d : Expr}

inductive AllE (p : PG) (cl : Cl) (E : EX) (H0 : Hp) (m0 : List Addr) (X : Cx) : CEs → List Expr → Prop
  | nil : AllE p cl E H0 m0 X .nil []
  | cons {a : CE} {as : CEs} {e : Expr} {es : List Expr} : nostar e = true → SndE E H0 m0 X (evE p cl a) e → SndT E H0 m0 X (evT p cl a) e → AllE p cl E H0 m0 X as es → AllE p cl E H0 m0 X (.cons a as) (e :: es)
theorem AllE.stars {as : CEs} {es : List Expr} (h : AllE p cl E H0 m0 X as es) : ∀ e ∈ es, nostar e = true := by
  induction h with
  | nil => intro e h; cases h
  | cons h1 _ _ _ ih =>
    intro e h
    rcases List.mem_cons.mp h with rfl | h
    · exact h1
    · exact ih e h
theorem AllE.args {as : CEs} {es : List Expr} (h : AllE p cl E H0 m0 X as es) : ∀ (q : En) (S : Sto) (qV : L2.St) (H : Hp) (m : List Addr), ST X.K H0 m0 q S qV H m → ∀ (Qd : List D → Sto → Prop) (Q : List V → Hp → Prop),
    (evEs p cl as q S).holds Qd (fun x S' => E x q S') → (∀ d S' v H' m', Qd d S' → d.length = es.length → Ext H m H' m' → SR X.K H' m' S' → RVs X.K H' m' d v → Q v H') → WA X es qV H Q := by
  induction h with
  | nil =>
    intro q S qV H m st Qd Q hh kk
    exact ⟨_, pa_nil, kk [] S [] H m hh rfl (Ext.refl _ _) st.sr .nil⟩
  | @cons a as e es hs ha _ _ ih =>
    intro q S qV H m st Qd Q hh kk
    have hh' : ((evE p cl a q S).bind fun d S => (evEs p cl as q S).bind fun ds S => .ok (d :: ds) S).holds Qd (fun x S' => E x q S') := hh
    refine ⟨_, pa_cons pe_w pa_w (star1 hs), ha q S qV H m st _ _ (holds_bind.mp hh') fun d S1 v H1 m1 h1 e1 s1 r1 => ih q S1 qV H1 m1 (st.go e1 s1) _ _ (holds_bind.mp h1) fun ds S2 vs H2 m2 h2 hl e2 s2 r2 => ?_⟩
    exact kk (d :: ds) S2 (v :: vs) H2 m2 h2 (by rw [List.length_cons, List.length_cons, hl]) (e1.trans e2) s2 (.cons (r1.mono s1 e2) r2)
/-! ### and, or -/
theorem AllE.andV {as : CEs} {es : List Expr} (h : AllE p cl E H0 m0 X as es) : SndE E H0 m0 X (evAndV p cl as) (.BoolOp .And es pos) := by
  induction h with
  | nil => intro q S qV H m st Qd Q hh kk; exact hh.elim
  | @cons a as e es hs ha _ hr ih =>
    intro q S qV H m st Qd Q hh kk
    cases hr with
    | nil => exact ⟨_, pe_one pe_w, ha q S qV H m st Qd Q hh kk⟩
    | @cons a2 as e2 es hs2 ha2 _ hr =>
      have hh' : ((evE p cl a q S).bind fun d S => match d with | .bl true => evAndV p cl (.cons a2 as) q S | .bl false => .ok (.bl false) S | _ => .stk).holds Qd (fun x S' => E x q S') := hh
      refine ⟨_, pe_and pe_w pe_w, ha q S qV H m st _ _ (holds_bind.mp hh') fun d S1 v H1 m1 h1 e1 s1 r1 => ?_⟩
      cases r1 with
      | bl x =>
        cases x with
        | true =>
          refine ⟨true, rfl, ?_⟩
          rw [if_pos rfl]
          exact ih q S1 qV H1 m1 (st.go e1 s1) _ _ h1 fun d S' v H' m' h e2 s2 r2 => kk d S' v H' m' h (e1.trans e2) s2 r2
        | false =>
          refine ⟨false, rfl, ?_⟩
          rw [if_neg Bool.false_ne_true]
          exact kk _ S1 _ H1 m1 h1 e1 s1 (.bl false)
      | _ => exact h1.elim
theorem AllE.orV {as : CEs} {es : List Expr} (h : AllE p cl E H0 m0 X as es) : SndE E H0 m0 X (evOrV p cl as) (.BoolOp .Or es pos) := by
  induction h with
  | nil => intro q S qV H m st Qd Q hh kk; exact hh.elim
  | @cons a as e es hs ha _ hr ih =>
    intro q S qV H m st Qd Q hh kk
    cases hr with
    | nil => exact ⟨_, pe_one pe_w, ha q S qV H m st Qd Q hh kk⟩
    | @cons a2 as e2 es hs2 ha2 _ hr =>
      have hh' : ((evE p cl a q S).bind fun d S => match d with | .bl false => evOrV p cl (.cons a2 as) q S | .bl true => .ok (.bl true) S | _ => .stk).holds Qd (fun x S' => E x q S') := hh
      refine ⟨_, pe_or pe_w pe_w, ha q S qV H m st _ _ (holds_bind.mp hh') fun d S1 v H1 m1 h1 e1 s1 r1 => ?_⟩
      cases r1 with
      | bl x =>
        cases x with
        | false =>
          refine ⟨false, rfl, ?_⟩
          rw [if_neg Bool.false_ne_true]
          exact ih q S1 qV H1 m1 (st.go e1 s1) _ _ h1 fun d S' v H' m' h e2 s2 r2 => kk d S' v H' m' h (e1.trans e2) s2 r2
        | true =>
          refine ⟨true, rfl, ?_⟩
          rw [if_pos rfl]
          exact kk _ S1 _ H1 m1 h1 e1 s1 (.bl true)
      | _ => exact h1.elim
def WW (X : Cx) (e : Expr) : TT := fun q H Q => ∃ t, PW X e t ∧ t q H Q
theorem pw_w {e : Expr} : PW X e (WW X e) := ⟨fun wh pins s q H Q I ⟨t, p, h⟩ => p.run wh pins s q H Q I h⟩
def SndW (E : EX) (H0 : Hp) (m0 : List Addr) (X : Cx) (ev : En → Sto → R Bool) (e : Expr) : Prop := ∀ (q : En) (S : Sto) (qV : L2.St) (H : Hp) (m : List Addr), ST X.K H0 m0 q S qV H m → ∀ (Qd : Bool → Sto → Prop) (Q : Bool → Hp → Prop),
  (ev q S).holds Qd (fun x S' => E x q S') → (∀ d S' H' m', Qd d S' → Ext H m H' m' → SR X.K H' m' S' → Q d H') → WW X e qV H Q
theorem SndW.pt {ev : En → Sto → R Bool} {e : Expr} (h : SndW E H0 m0 X ev e) : SndT E H0 m0 X ev e := fun q S qV H m st Qd Q hh kk => ⟨_, PW.pt pw_w, h q S qV H m st Qd Q hh kk⟩
theorem AllE.andT {as : CEs} {es : List Expr} (h : AllE p cl E H0 m0 X as es) : SndW E H0 m0 X (evAndT p cl as) (.BoolOp .And es pos) := by
  induction h with
  | nil => intro q S qV H m st Qd Q hh kk; exact hh.elim
  | @cons a as e es hs _ ha hr ih =>
    intro q S qV H m st Qd Q hh kk
    cases hr with
    | nil => exact ⟨_, pw_and1 pt_w, ha q S qV H m st Qd Q hh kk⟩
    | @cons a2 as e2 es hs2 _ ha2 hr =>
      have hh' : ((evT p cl a q S).bind fun b S => match b with | true => evAndT p cl (.cons a2 as) q S | false => .ok false S).holds Qd (fun x S' => E x q S') := hh
      refine ⟨_, pw_and pt_w pw_w, ha q S qV H m st _ _ (holds_bind.mp hh') fun d S1 H1 m1 h1 e1 s1 => ?_⟩
      cases d with
      | true =>
        rw [if_pos rfl]
        exact ih q S1 qV H1 m1 (st.go e1 s1) _ _ h1 fun d S' H' m' h e2 s2 => kk d S' H' m' h (e1.trans e2) s2
      | false =>
        rw [if_neg Bool.false_ne_true]
        exact kk _ S1 H1 m1 h1 e1 s1
theorem AllE.orT {as : CEs} {es : List Expr} (h : AllE p cl E H0 m0 X as es) : SndW E H0 m0 X (evOrT p cl as) (.BoolOp .Or es pos) := by
  induction h with
  | nil => intro q S qV H m st Qd Q hh kk; exact hh.elim
  | @cons a as e es hs _ ha hr ih =>
    intro q S qV H m st Qd Q hh kk
    cases hr with
    | nil => exact ⟨_, pw_or1 pt_w, ha q S qV H m st Qd Q hh kk⟩
    | @cons a2 as e2 es hs2 _ ha2 hr =>
      have hh' : ((evT p cl a q S).bind fun b S => match b with | false => evOrT p cl (.cons a2 as) q S | true => .ok true S).holds Qd (fun x S' => E x q S') := hh
      refine ⟨_, pw_or pt_w pw_w, ha q S qV H m st _ _ (holds_bind.mp hh') fun d S1 H1 m1 h1 e1 s1 => ?_⟩
      cases d with
      | false =>
        rw [if_neg Bool.false_ne_true]
        exact ih q S1 qV H1 m1 (st.go e1 s1) _ _ h1 fun d S' H' m' h e2 s2 => kk d S' H' m' h (e1.trans e2) s2
      | true =>
        rw [if_pos rfl]
        exact kk _ S1 H1 m1 h1 e1 s1
/-! ### displays -/
theorem AllE.tup {as : CEs} {es : List Expr} {n : Nat} (h : AllE p cl E H0 m0 X as es) : SndE E H0 m0 X (fun q S => (evEs p cl as q S).bind fun ds S => ifR (decide (ds.length ≤ LM)) (.ok (.tup ds) S)) (.Tuple es n pos) := by
  intro q S qV H m st Qd Q hh kk
  refine ⟨_, pe_tup pa_w, h.args q S qV H m st _ _ (holds_bind.mp hh) fun ds S1 vs H1 m1 h1 hl e1 s1 r1 => ?_⟩
  obtain ⟨hc, h1⟩ := holds_ifR h1
  refine ⟨by rw [← r1.length]; exact sz_of (of_decide_eq_true hc), fun a ha => ?_⟩
  exact post_tup s1 r1 (Q := Q) (fun v H' m' e' s' r' => kk _ S1 v H' m' h1 (e1.trans e') s' r') a ha
theorem AllE.lst {as : CEs} {es : List Expr} (h : AllE p cl E H0 m0 X as es) : SndE E H0 m0 X (fun q S => (evEs p cl as q S).bind fun ds S => ifR (decide (ds.length ≤ LM)) (.ok (.ref S.length) (S ++ [.lst ds]))) (.List es pos) := by
  intro q S qV H m st Qd Q hh kk
  refine ⟨_, pe_lst pa_w, h.args q S qV H m st _ _ (holds_bind.mp hh) fun ds S1 vs H1 m1 h1 hl e1 s1 r1 => ?_⟩
  obtain ⟨hc, h1⟩ := holds_ifR h1
  refine ⟨by rw [← r1.length]; exact sz_of (of_decide_eq_true hc), fun a ha => ?_⟩
  exact post_lst s1 r1 (Q := Q) (fun v H' m' e' s' r' => kk _ _ v H' m' h1 (e1.trans e') s' r') a ha
/-! ### subscripts -/
theorem idx_dk {S : Sto} {d e : D} {Qd : D → Sto → Prop} {Ee : XN → Sto → Prop} (h : (idxD d e S).holds Qd Ee) : (∃ j kvs ky x, d = .ref j ∧ S[j]? = some (.dk kvs) ∧ keyD e = some ky ∧ dkGet kvs ky = some x ∧ Qd x S) ∨ (∀ j kvs, d = .ref j → S[j]? ≠ some (.dk kvs)) := by
  cases d with
  | ref j =>
    have h' : (match S[j]? with | some o => idxO o e S | none => .stk : R D).holds Qd Ee := h
    cases e1 : S[j]? with
    | none => exact .inr fun j' kvs z w => by cases z; rw [e1] at w; cases w
    | some o =>
      cases o with
      | lst _ => exact .inr fun j' kvs z w => by cases z; rw [e1] at w; cases w
      | fz _ => exact .inr fun j' kvs z w => by cases z; rw [e1] at w; cases w
      | dk kvs =>
        rw [e1] at h'
        have h' : (match keyD e with | some k => optR (dkGet kvs k) S | none => .stk : R D).holds Qd Ee := h'
        cases e2 : keyD e with
        | none => rw [e2] at h'; exact h'.elim
        | some ky =>
          rw [e2] at h'
          obtain ⟨x, h3, h4⟩ := holds_optR h'
          exact .inl ⟨j, kvs, ky, x, rfl, e1, rfl, h3, h4⟩
  | _ => exact .inr fun j kvs z => by cases z
theorem idx_seq {S : Sto} {d e : D} {v w : V} {Q : VK} {Ee : XN → Sto → Prop} (s : SR X.K H m S) (r : RV X.K H m d v) (t : RV X.K H m e w) (n : ∀ j kvs, d = .ref j → S[j]? ≠ some (.dk kvs)) (h : (idxD d e S).holds (PostE X.K H m Q) Ee) : rIx X.K v w H Q := by
  cases r with
  | @tup a xs ds hs hr =>
    cases t with
    | int i =>
      obtain ⟨x, h1, h2⟩ := holds_optR (show (optR (atI ds i) S).holds _ _ from h)
      obtain ⟨y, h3, h4⟩ := atI_of hr h1
      exact .inr (.inl ⟨a, xs, i, y, rfl, rfl, hs, h3, post_val s h4 h2⟩)
    | _ => exact h.elim
  | str z =>
    cases t with
    | int i =>
      obtain ⟨hc, h1⟩ := holds_ifR (show (ifR (decide (z.length ≤ LM)) (match atI z.cps.toList i with | some c => .ok (.str ⟨#[c]⟩) S | none => .stk) : R D).holds _ _ from h)
      cases e1 : atI z.cps.toList i with
      | none => rw [e1] at h1; exact h1.elim
      | some c =>
        rw [e1] at h1
        exact .inr (.inr ⟨z, i, c, rfl, rfl, sz_of (of_decide_eq_true hc), e1, post_val s (.str _) h1⟩)
    | _ => exact h.elim
  | @ref j a hj =>
    have h' : (match S[j]? with | some o => idxO o e S | none => .stk : R D).holds (PostE X.K H m Q) Ee := h
    cases e1 : S[j]? with
    | none => rw [e1] at h'; exact h'.elim
    | some o =>
      rw [e1] at h'
      cases o with
      | dk kvs => exact (n j kvs rfl e1).elim
      | lst ds =>
        cases t with
        | int i =>
          obtain ⟨x, h1, h2⟩ := holds_optR (show (optR (atI ds i) S).holds _ _ from h')
          obtain ⟨xs, h3, hr⟩ := lst_at s hj e1
          obtain ⟨y, h4, h5⟩ := atI_of hr h1
          exact .inl ⟨a, xs, i, y, rfl, rfl, SqL.of h3, h4, post_val s h5 h2⟩
        | _ => exact h'.elim
      | fz ds =>
        cases t with
        | int i =>
          obtain ⟨x, h1, h2⟩ := holds_optR (show (optR (atI ds i) S).holds _ _ from h')
          obtain ⟨o, xs, h3, hr⟩ := fz_at s hj e1
          obtain ⟨y, h4, h5⟩ := atI_of hr h1
          exact .inl ⟨a, xs, i, y, rfl, rfl, .inl (.inr ⟨_, h3⟩), h4, post_val s h5 h2⟩
        | _ => exact h'.elim
  | _ => exact h.elim
/-- an outcome is one -/
theorem holds_is {A : Type} {r : R A} {Q : A → Sto → Prop} {Ee : XN → Sto → Prop} (h : r.holds Q Ee) : r.holds (fun a S => r = .ok a S ∧ Q a S) (fun x S => r = .exn x S ∧ Ee x S) := by
  cases r with
  | stk => exact h
  | ok a S => exact ⟨rfl, h⟩
  | exn x S => exact ⟨rfl, h⟩
theorem snd_idx (hu : X.A.units + 64 < cLine) (hb' : plainB b = true) (ha : SndE E H0 m0 X ea a) (hb : SndE E H0 m0 X eb b) : SndE E H0 m0 X (fun q S => (ea q S).bind fun d S => (eb q S).bind fun e S => idxD d e S) (.Subscript a b pos) := by
  intro q S qV H m st Qd Q hh kk
  have hh2 := holds_bind.mp hh
  by_cases hdk : ∃ j S1 e S2 kvs, ea q S = .ok (.ref j) S1 ∧ eb q S1 = .ok e S2 ∧ S2[j]? = some (.dk kvs)
  · obtain ⟨j, T1, e', T2, kvs, q1, q2, q3⟩ := hdk
    refine ⟨_, pe_dget (by omega) pe_w pe_w (plain_ix hb'), ha q S qV H m st _ _ (holds_imp (holds_is hh2) (fun _ _ z => z) fun _ _ z => z.2) fun d S1 v H1 m1 h1 e1 s1 r1 => ?_⟩
    obtain ⟨z1, h1⟩ := h1
    rw [q1] at z1
    cases z1
    refine hb q _ qV H1 m1 (st.go e1 s1) _ _ (holds_imp (holds_is (holds_bind.mp h1)) (fun _ _ z => z) fun _ _ z => z.2) fun e S2 w H2 m2 h2 e2 s2 r2 => ?_
    obtain ⟨z2, h2⟩ := h2
    rw [q2] at z2
    cases z2
    rcases idx_dk h2 with ⟨j', kvs', ky, x, z, w1, w2, w3, w4⟩ | no
    · cases z
      cases r1 with
      | ref hj =>
        obtain ⟨kvs2, g1, g2, g3⟩ := dk_at s2 (e2.get hj) w1
        obtain ⟨y, g4, g5⟩ := dkGet_of g2 g3 w3
        refine ⟨_, y, rfl, ?_, kk x _ y H2 m2 w4 (e1.trans e2) s2 g5⟩
        rw [keyD_some r2 w2, ← g4]
        exact DGet.k g1
    · exact (no j kvs rfl q3).elim
  · refine ⟨_, pe_ix ix_seq pe_w pe_w (plain_ix hb'), ha q S qV H m st _ _ (holds_imp (holds_is hh2) (fun _ _ z => z) fun _ _ z => z.2) fun d S1 v H1 m1 h1 e1 s1 r1 => ?_⟩
    obtain ⟨z1, h1⟩ := h1
    refine hb q S1 qV H1 m1 (st.go e1 s1) _ _ (holds_imp (holds_is (holds_bind.mp h1)) (fun _ _ z => z) fun _ _ z => z.2) fun e S2 w H2 m2 h2 e2 s2 r2 => ?_
    obtain ⟨z2, h2⟩ := h2
    refine idx_seq s2 (r1.mono s1 e2) r2 (fun j kvs z w => ?_) (holds_imp h2 (fun d3 S3 h3 v3 H3 m3 e3 s3 r3 => kk d3 S3 v3 H3 m3 h3 ((e1.trans e2).trans e3) s3 r3) fun _ _ z => z)
    subst z
    exact hdk ⟨j, S1, e, S2, kvs, z1, z2, w⟩
end DI
set_option maxHeartbeats 4000000
/-! DI: t[::-1] of a tuple. -/
namespace DI
open PySem L2 PySem.Spec PyProof.Rows
section
variable {prog : Program} {w : World} {A : Around} {E : Value → Shared → Prop} {s : Shared}
theorem fm_congr {B C : Type} {f g : B → Option C} : ∀ l : List B, (∀ m ∈ l, f m = g m) → l.filterMap f = l.filterMap g
  | [], _ => rfl
  | b :: l, h => by
    rw [List.filterMap_cons, List.filterMap_cons, h b List.mem_cons_self, fm_congr l fun m hm => h m (List.mem_cons_of_mem _ hm)]
theorem back_adjust (n : Nat) : Builtin.Slice.sliceAdjust none none (-1) (n : Int) = ((n : Int) - 1, -1) := by
  unfold Builtin.Slice.sliceAdjust
  simp
theorem back_places (n : Nat) : Builtin.Slice.slicePlaces ((n : Int) - 1) (-1) (-1) = n := by
  unfold Builtin.Slice.slicePlaces
  have no : ¬ ((-1 : Int) > 0) := by omega
  simp only [no, if_false]
  split
  · rw [show (- -1 : Int) = 1 by decide, Int.ediv_one]
    omega
  · omega
theorem back_pick (xs : Array Value) : ((List.range xs.size).filterMap fun (m : Nat) => xs[(((xs.size : Int) - 1) + (m : Int) * (-1)).toNat]?).toArray = xs.toList.reverse.toArray := by
  congr 1
  have e : ∀ l : List Value, (List.range l.length).filterMap (fun (m : Nat) => l[(((l.length : Int) - 1) + (m : Int) * (-1)).toNat]?) = l.reverse := fun l => by
    have z : ∀ m ∈ List.range l.length, l[(((l.length : Int) - 1) + (m : Int) * (-1)).toNat]? = l.reverse[m]? := fun m hm => by
      have hm := List.mem_range.mp hm
      rw [List.getElem?_reverse hm]
      congr 1
      omega
    rw [fm_congr _ z, ← List.length_reverse]
    generalize l.reverse = r
    induction r with
    | nil => rfl
    | cons a r ih =>
      rw [List.length_cons, List.range_succ_eq_map, List.filterMap_cons]
      simp only [List.getElem?_cons_zero, List.filterMap_map]
      have e2 : ((fun m => (a :: r)[m]?) ∘ Nat.succ) = fun m => r[m]? := by
        funext m
        simp
      rw [e2, ih]
  have := e xs.toList
  rw [Array.length_toList] at this
  rw [← this]
  refine fm_congr _ fun m _ => ?_
  rw [Array.getElem?_toList]
theorem back_applied {sl : Addr} {vs : Value} {n : Nat} {Q : Int × Int × Nat → Shared → Prop} (hs : s.heap.IsSliceOf sl .none .none vs) (ps : IsPart vs (some (-1))) (h : Q ((n : Int) - 1, -1, n) s) :
    wpAny (model prog w) A (Builtin.Slice.sliceApplied (.ref sl) (pure (n : Int))) Q E s := by
  obtain ⟨o, ho, hc, hd⟩ := id hs
  unfold Builtin.Slice.sliceApplied Builtin.Slice.sliceFields
  refine wpAny_bind (wpAny_bind (wpAny_field ho hd (x := .none) rfl (wpAny_bind (wpAny_field ho hd (x := .none) rfl (wpAny_bind (wpAny_field ho hd (x := vs) rfl (wpAny_pure ?_)))))))
  refine wpAny_bind (HT.slicePart_ ps ?_)
  show wpAny _ _ (if ((-1 : Int) == 0) = true then _ else _) _ _ s
  rw [if_neg (by decide)]
  refine wpAny_bind (HT.slicePart_ .none (wpAny_bind (HT.slicePart_ .none (wpAny_bind (wpAny_pure ?_)))))
  show wpAny _ _ (match Builtin.Slice.sliceAdjust none none (-1) (n : Int) with | (lo, hi) => pure (lo, (-1 : Int), Builtin.Slice.slicePlaces lo hi (-1))) _ _ s
  rw [back_adjust n]
  show wpAny _ _ (pure ((n : Int) - 1, (-1 : Int), Builtin.Slice.slicePlaces ((n : Int) - 1) (-1) (-1))) _ _ s
  rw [back_places]
  exact wpAny_pure h
theorem item_back {t sl : Addr} {items : Array Value} {vs : Value} {Q : Value → Shared → Prop} (ht : IsTup s.heap t items) (hs : s.heap.IsSliceOf sl .none .none vs) (ps : IsPart vs (some (-1)))
    (h : Q (.ref s.heap.objs.size) { s with heap := s.heap.push { cls := .type "tuple", data := .seq items.toList.reverse.toArray } }) (hz : items.size ≤ sizeLine) : wpAny (model prog w) A (getItem (.ref t) (.ref sl)) Q E s := by
  have small : sizeOk (.seq items.toList.reverse.toArray) := by
    show items.toList.reverse.toArray.size ≤ sizeLine
    simpa using hz
  obtain ⟨o, ho, hc, hd⟩ := id hs
  have isS : s.TypeIs (.ref sl) "slice" := ⟨o, ho, hc⟩
  unfold getItem
  try with_reducible refine wpAny_holding ?_
  first | refine wpAny_bind (wpAny_pure ?_) | skip
  refine wpAny_bind (wpAny_sequenceKey ht.typeIs (by decide) ?_)
  refine wpAny_bind (wpAny_callSpecial?_slot (name := Str.ofString "__getitem__") ht.typeIs PyProof.Rows.slot_tuple_getitem (wpAny_call_entry PyProof.Rows.slot_tuple_getitem ht.typeIs entry_tuple_getitem ?_ (args_tuple_getitem _ _)))
  show wpAny _ _ (Builtin.Tuple.tupleItemsOf (.ref t) >>= _) _ _ s
  refine wpAny_bind (tupleItemsOf_ ht (wpAny_bind (wpAny_typeOf isS ?_)))
  rw [if_pos (by decide)]
  refine wpAny_bind (back_applied hs ps ?_)
  have no : ¬ ((((items.size : Int) - 1) == 0 && (-1 : Int) == 1 && items.size == items.size) = true) := by simp
  show wpAny _ _ (if (((items.size : Int) - 1) == 0 && (-1 : Int) == 1 && items.size == items.size) = true then _ else _) _ _ s
  rw [if_neg no, back_pick]
  first
    | exact wpAny_bind (m := Builtin.Tuple.tupleExact _) (wpAny_newObj_type (wpAny_pure ⟨_, rfl, wpAny_pure h⟩) small)
    | exact wpAny_bind (m := Builtin.Tuple.tupleExact _) (wpAny_newObj_type (wpAny_bind (wpAny_pure (wpAny_pure ⟨_, rfl, wpAny_pure h⟩))) small)
    | exact wpAny_bind (wpAny_bind (m := Builtin.Tuple.tupleExact _) (wpAny_newObj_type (wpAny_pure (wpAny_pure ⟨_, rfl, wpAny_pure h⟩)) small))
    | exact wpAny_bind (wpAny_bind (m := Builtin.Tuple.tupleExact _) (wpAny_newObj_type (wpAny_pure ⟨_, rfl, wpAny_pure h⟩) small))
end
/-- t[::-1] -/
theorem pe_revT {X : Cx} {e : Expr} {te : TE} {k : Nat} {p1 p2 p3 pos : Pos} (he : PE X e te) : PE X (.Subscript e (.Slice none none (some (.UnaryOp .USub (.Constant (.int 1) k p1) p2)) p3) pos) (fun σ H Q => te σ H fun x H1 => ∃ a xs, x = .ref a ∧ SqT X.K H1 a xs ∧ ∀ p, H1 p = none → Q (.ref p) (upd H1 p (.tup xs.reverse))) := by
  refine ⟨fun pins s σ H Q I h => ?_⟩
  refine Subscript_ (thn (he.run pins s σ H _ I h) fun v s1 ⟨x, H1, I1, r1, q1⟩ => ?_)
  obtain ⟨a, xs, ex, hx, q⟩ := q1
  subst ex
  cases r1
  have step : PO X (some (.UnaryOp .USub (.Constant (.int 1) k p1) p2)) (tPart (tUn (rU fun i => .int (-i)) (tC (.int 1)))) := po_some (pe_un un_neg pe_int)
  refine wpAny_Slice (thn (po_none.run pins s1 σ H1 (fun o H2 => o = none ∧ H2 = H1) I1 ⟨rfl, rfl⟩) fun v1 s2 ⟨l, H2, I2, pl, e1, e2⟩ => ?_)
  subst e1 e2
  refine thn (po_none.run pins s2 σ H2 (fun o H3 => o = none ∧ H3 = H2) I2 ⟨rfl, rfl⟩) fun v2 s3 ⟨u, H3, I3, pu, e1, e2⟩ => ?_
  subst e1 e2
  refine thn (step.run pins s3 σ H3 (fun o H4 => o = some (-1) ∧ H4 = H3) I3 ⟨1, rfl, -1, rfl, rfl, rfl⟩) fun v3 s4 ⟨o, H4, I4, ps, e1, e2⟩ => ?_
  subst e1 e2
  cases pl
  cases pu
  have I5 : L2.Inv X pins σ H4 { s4 with heap := s4.heap.push { cls := .type "slice", data := .fields #[.none, .none, v3] } } := I4.kept (t' := s4.toks) fun b ob z => Heap.get?_push_of_some _ z
  obtain ⟨its, r, ht, hz⟩ := I5.tuple hx
  have hlen := r.length
  show wpAny (model X.prog X.w) X.A (subscriptTail e (.Slice none none (some (.UnaryOp .USub (.Constant (.int 1) k p1) p2)) p3) (.ref a) (.ref s4.heap.objs.size)) (EP X pins σ Q) X.xe { s4 with heap := s4.heap.push { cls := .type "slice", data := .fields #[.none, .none, v3] } }
  refine tail_any (ops := [.ref a, .ref s4.heap.objs.size]) ht.typeIs PyProof.Rows.slot_tuple_getitem.lookup ?_ (by with_unfolding_all rfl)
  refine item_back ht (Heap.IsSliceOf.new _ .none .none v3) ps ?_ (by rw [List.size_toArray]; omega)
  refine ⟨.ref _, _, I5.laid (t' := s4.toks) (o := .tup xs.reverse) (fun b ob z => Heap.get?_push_of_some _ z) (Nat.le_refl _) ?_, rfl, q _ (I5.hok.fresh (Nat.le_refl _))⟩
  exact ⟨by rw [List.length_reverse]; exact hz, _, r.reverse, IsTup.new _ _⟩
end DI
/-! DI: slices, calls, built-in functions, methods. -/
namespace DI
open PySem L2
variable {K : PySem.W.Frag} {H : Hp} {m : List Addr} {S : Sto} {X : Cx}
variable {E : EX} {H0 : Hp} {m0 : List Addr} {xc : Nat → Value} {g : GS} {p : PG} {cl : Cl} {k : Nat} {c : SC} {pos : Pos}
variable {ea eb ec : En → Sto → R D} {ta tb tc : En → Sto → R Bool} {a b d : Expr}

/-! ### order -/
mutual
theorem salike_eu : ∀ (d x y : PyData), salike d x = true → salike d y = true → PySem.W.alike x y = true
  | .none, x, y, h, k => by
    cases x <;> first | (cases h; done) | (cases y <;> first | (cases k; done) | rfl)
  | .bool _, x, y, h, k => by
    cases x <;> first | (cases h; done) | (cases y <;> first | (cases k; done) | rfl)
  | .int _, x, y, h, k => by
    cases x <;> first | (cases h; done) | (cases y <;> first | (cases k; done) | rfl)
  | .str _, x, y, h, k => by
    cases x <;> first | (cases h; done) | (cases y <;> first | (cases k; done) | rfl)
  | .list ds, x, y, h, k => by
    cases x <;> first | (cases h; done) | (cases y <;> first | (cases k; done) | exact salikes_eu ds _ _ h k)
  | .tuple ds, x, y, h, k => by
    cases x <;> first | (cases h; done) | (cases y <;> first | (cases k; done) | exact salikes_eu ds _ _ h k)
  | .dict _, x, y, h, k => by
    cases x <;> cases h
theorem salikes_eu : ∀ (ds xs ys : List PyData), salikes ds xs = true → salikes ds ys = true → PySem.W.alikeAll xs ys = true
  | [], [], [], _, _ => rfl
  | [], [], _ :: _, _, k => (Bool.false_ne_true k).elim
  | [], _ :: _, _, h, _ => (Bool.false_ne_true h).elim
  | _ :: _, [], _, h, _ => (Bool.false_ne_true h).elim
  | _ :: _, _ :: _, [], _, k => (Bool.false_ne_true k).elim
  | d :: ds, x :: xs, y :: ys, h, k => by
    have h' : (salike d x && salikes ds xs) = true := h
    have k' : (salike d y && salikes ds ys) = true := k
    rw [Bool.and_eq_true] at h' k'
    show (PySem.W.alike x y && PySem.W.alikeAll xs ys) = true
    rw [salike_eu d x y h'.1 k'.1, salikes_eu ds xs ys h'.2 k'.2]
    rfl
end
theorem hk_alike : ∀ (k : Nat) (x y : PyData), hkB k x = true → hkB k y = true → PySem.W.alike x y = true
  | 0, .int _, .int _, _, _ => rfl
  | k + 1, .tuple xs, .tuple ys, h, h2 => by
    have h : xs.all (hkB k) = true := h
    have h2 : ys.all (hkB k) = true := h2
    rw [List.all_eq_true] at h h2
    show PySem.W.alikeAll xs ys = true
    have go : ∀ xs ys : List PyData, (∀ x ∈ xs, hkB k x = true) → (∀ x ∈ ys, hkB k x = true) → PySem.W.alikeAll xs ys = true := by
      intro xs
      induction xs with
      | nil => intro ys _ _; cases ys <;> rfl
      | cons x xs ih =>
        intro ys a b
        cases ys with
        | nil => rfl
        | cons y ys =>
          show (PySem.W.alike x y && PySem.W.alikeAll xs ys) = true
          rw [hk_alike k x y (a x (List.mem_cons_self)) (b y (List.mem_cons_self)), ih ys (fun z hz => a z (List.mem_cons_of_mem _ hz)) fun z hz => b z (List.mem_cons_of_mem _ hz)]
          rfl
    exact go xs ys h h2
  | 0, .none, _, h, _ => by cases h
  | 0, .bool _, _, h, _ => by cases h
  | 0, .str _, _, h, _ => by cases h
  | 0, .list _, _, h, _ => by cases h
  | 0, .tuple _, _, h, _ => by cases h
  | 0, .dict _, _, h, _ => by cases h
  | 0, .int _, .none, _, h => by cases h
  | 0, .int _, .bool _, _, h => by cases h
  | 0, .int _, .str _, _, h => by cases h
  | 0, .int _, .list _, _, h => by cases h
  | 0, .int _, .tuple _, _, h => by cases h
  | 0, .int _, .dict _, _, h => by cases h
  | _ + 1, .none, _, h, _ => by cases h
  | _ + 1, .bool _, _, h, _ => by cases h
  | _ + 1, .int _, _, h, _ => by cases h
  | _ + 1, .str _, _, h, _ => by cases h
  | _ + 1, .list _, _, h, _ => by cases h
  | _ + 1, .dict _, _, h, _ => by cases h
  | _ + 1, .tuple _, .none, _, h => by cases h
  | _ + 1, .tuple _, .bool _, _, h => by cases h
  | _ + 1, .tuple _, .int _, _, h => by cases h
  | _ + 1, .tuple _, .str _, _, h => by cases h
  | _ + 1, .tuple _, .list _, _, h => by cases h
  | _ + 1, .tuple _, .dict _, _, h => by cases h
theorem hks_alike {k : Nat} {ys : List PyData} (h : ys.all (hkB k) = true) : PySem.W.AllAlike ys := fun d hd e he => hk_alike k d e (List.all_eq_true.mp h d hd) (List.all_eq_true.mp h e he)
theorem alB_ok {ys : List PyData} (h : alB ys = true) : PySem.W.AllAlike ys := by
  unfold alB at h
  rw [Bool.or_eq_true] at h
  rcases h with h | h
  · rw [Bool.or_eq_true, Bool.or_eq_true] at h
    rcases h with h | h | h <;> exact hks_alike h
  rw [Bool.or_eq_true] at h
  rcases h with h | h
  · cases ys with
    | nil => intro d hd; cases hd
    | cons y r =>
      rw [Bool.and_eq_true, List.all_eq_true] at h
      have z : ∀ d ∈ y :: r, salike y d = true := fun d hd => by
        rcases List.mem_cons.mp hd with e | e
        · rw [e]; exact h.1
        · exact h.2 d e
      exact fun d hd d' hd' => salike_eu y d d' (z d hd) (z d' hd')
  · rw [List.all_eq_true] at h
    exact fun d hd d' hd' => List.all_eq_true.mp (h d hd) d' hd'
theorem sblB_ok {ys : List PyData} (h : sblB ys = true) : Sortable2 ys := by
  unfold sblB at h
  rw [Bool.or_eq_true, List.all_eq_true, List.all_eq_true] at h
  rcases h with h | h
  · refine .inl fun d hd => ?_
    have q := h d hd
    split at q
    · exact ⟨_, rfl⟩
    · cases q
  · refine .inr fun d hd => ?_
    have q := h d hd
    split at q
    · cases q
    · cases q
    · rename_i n1 n2
      exact ⟨n1, fun xs z => n2 xs z⟩
theorem leB_eq : leB = PySem.W.dataLe false ordD := rfl
theorem leB_tot : PySem.W.TotalLe leB := by
  rw [leB_eq]
  exact PySem.W.sortLe_total _ _ _
theorem insB_mem {p x : D × PyData} : ∀ {l : List (D × PyData)}, x ∈ insB p l → x = p ∨ x ∈ l
  | [], h => .inl (by simpa [insB] using h)
  | q :: r, h => by
    unfold insB at h
    split at h
    · exact List.mem_cons.mp h
    · rcases List.mem_cons.mp h with e | e
      · exact .inr (by rw [e]; exact List.mem_cons_self)
      · rcases insB_mem e with e | e
        · exact .inl e
        · exact .inr (List.mem_cons_of_mem _ e)
theorem insB_srt (p : D × PyData) : ∀ {l : List (D × PyData)}, l.Pairwise (fun a b => leB a b = true) → (insB p l).Pairwise (fun a b => leB a b = true)
  | [], _ => List.pairwise_singleton _ _
  | q :: r, h => by
    obtain ⟨h1, h2⟩ := List.pairwise_cons.mp h
    unfold insB
    split
    · rename_i hc
      refine List.pairwise_cons.mpr ⟨fun x hx => ?_, h⟩
      rcases List.mem_cons.mp hx with e | e
      · rw [e]; exact hc
      · exact leB_tot.trans _ _ _ hc (h1 x e)
    · rename_i hc
      refine List.pairwise_cons.mpr ⟨fun x hx => ?_, insB_srt p h2⟩
      rcases insB_mem hx with e | e
      · rw [e]
        rcases leB_tot.total p q with z | z
        · exact (hc z).elim
        · exact z
      · exact h1 x e
theorem insB_flt (p c : D × PyData) : ∀ (l : List (D × PyData)), (insB p l).filter (PySem.W.sameRank leB c) = (p :: l).filter (PySem.W.sameRank leB c)
  | [] => rfl
  | q :: r => by
    unfold insB
    split
    · rfl
    · rename_i hc
      rw [List.filter_cons, insB_flt p c r, List.filter_cons, List.filter_cons, List.filter_cons]
      by_cases hp : PySem.W.sameRank leB c p = true
      · have hq : ¬ PySem.W.sameRank leB c q = true := fun hq => by
          unfold PySem.W.sameRank at hp hq
          rw [Bool.and_eq_true] at hp hq
          exact hc (leB_tot.trans _ _ _ hp.2 hq.1)
        rw [if_pos hp, if_neg hq, if_neg hq, if_pos hp]
      · rw [if_neg hp, if_neg hp]
theorem srtB_eq : ∀ l : List (D × PyData), (srtB l).Pairwise (fun a b => leB a b = true) ∧ ∀ c, (srtB l).filter (PySem.W.sameRank leB c) = l.filter (PySem.W.sameRank leB c)
  | [] => ⟨.nil, fun _ => rfl⟩
  | p :: r => by
    obtain ⟨h1, h2⟩ := srtB_eq r
    refine ⟨insB_srt p h1, fun c => ?_⟩
    show (insB p (srtB r)).filter _ = _
    rw [insB_flt, List.filter_cons, h2 c, List.filter_cons]
theorem each_zip {K : PySem.W.Frag} {H : Hp} {m : List Addr} : ∀ {es : List D} {xs : List V} (ys : List PyData), RVs K H m es xs → PySem.W.EachIs (fun (p : D × PyData) (q : V × PyData) => RV K H m p.1 q.1 ∧ p.2 = q.2) (es.zip ys) (xs.zip ys)
  | _, _, _, .nil => .nil
  | _, _, [], .cons _ _ => .nil
  | _, _, y :: ys, .cons r t => .cons ⟨r, rfl⟩ (each_zip ys t)
theorem rvs_each {K : PySem.W.Frag} {H : Hp} {m : List Addr} : ∀ {ps : List (D × PyData)} {qs : List (V × PyData)}, PySem.W.EachIs (fun (p : D × PyData) (q : V × PyData) => RV K H m p.1 q.1 ∧ p.2 = q.2) ps qs → RVs K H m (ps.map (·.1)) (qs.map (·.1))
  | _, _, .nil => .nil
  | _, _, .cons r t => .cons r.1 (rvs_each t)
theorem sort_ok {K : PySem.W.Frag} {H : Hp} {m : List Addr} {es zs : List D} {xs : List V} {ys : List PyData} (r : RVs K H m es xs) (h : sortD es ys = some zs) : PySem.W.AllAlike ys ∧ Sortable2 ys ∧ (∀ d ∈ ys, d.depth ≤ 60) ∧ RVs K H m zs (srtV xs ys) := by
  unfold sortD at h
  split at h
  · rename_i hc
    simp only [Bool.and_eq_true, List.all_eq_true, decide_eq_true_eq] at hc
    refine ⟨alB_ok hc.1.1, sblB_ok hc.1.2, hc.2, ?_⟩
    obtain ⟨h1, h2⟩ := srtB_eq (es.zip ys)
    have e := PySem.W.sort_unique leB_tot h1 h2
    cases h
    rw [e]
    exact rvs_each (PySem.W.sort_each (each_zip ys r) fun p hp q hq => by
      have e1 := (each_zip ys r).zip p hp
      have e2 := (each_zip ys r).zip q hq
      show (!PySem.W.dataLt q.1.2 p.1.2) = (!PySem.W.dataLt q.2.2 p.2.2)
      rw [e1.2, e2.2])
  · cases h
theorem allS_rel {K : PySem.W.Frag} {H : Hp} {m : List Addr} : ∀ {ds : List D} {xs : List V} {bs : List Str}, RVs K H m ds xs → allS ds = some bs → xs = bs.map V.str
  | _, _, _, .nil, h => by
    cases h
    rfl
  | _, _, _, .cons r t, h => by
    cases r with
    | str b =>
      obtain ⟨bs, h1, rfl⟩ := Option.map_eq_some_iff.mp (show (allS _).map (b :: ·) = some _ from h)
      rw [allS_rel t h1]
      rfl
    | _ => cases h
/-! ### slices -/
def SndO (E : EX) (H0 : Hp) (m0 : List Addr) (X : Cx) (ev : En → Sto → R (Option Int)) (e : Option Expr) : Prop := ∀ (q : En) (S : Sto) (qV : L2.St) (H : Hp) (m : List Addr), ST X.K H0 m0 q S qV H m → ∀ (Qd : Option Int → Sto → Prop) (Q : Option Int → Hp → Prop),
  (ev q S).holds Qd (fun x S' => E x q S') → (∀ d S' H' m', Qd d S' → Ext H m H' m' → SR X.K H' m' S' → Q d H') → WO X e qV H Q
theorem sno_none : SndO E H0 m0 X (fun _ S => .ok none S) none := fun q S qV H m st Qd Q hh kk => ⟨_, po_none, kk none S H m hh (Ext.refl _ _) st.sr⟩
theorem sno_some (ha : SndE E H0 m0 X ea a) : SndO E H0 m0 X (fun q S => (ea q S).bind fun d S => match d with | .int i => .ok (some i) S | _ => .stk) (some a) := by
  intro q S qV H m st Qd Q hh kk
  refine ⟨_, po_some pe_w, ha q S qV H m st _ _ (holds_bind.mp hh) fun d S1 v H1 m1 h1 e1 s1 r1 => ?_⟩
  cases r1 <;> first | exact h1.elim | exact ⟨_, rfl, kk _ S1 H1 m1 h1 e1 s1⟩
theorem cut_rel {lo hi : Option Int} {ds : List D} {xs : List V} (r : RVs K H m ds xs) : RVs K H m (cut ds lo hi) (cutV xs lo hi) := by
  unfold cut cutV
  rw [r.length]
  exact (r.drop _).take _
theorem cut_whole {A : Type} {xs : List A} {lo hi : Option Int} (h : HT.sIx xs.length 0 lo = 0 ∧ HT.sIx xs.length xs.length hi = xs.length) : cut xs lo hi = xs := by
  unfold cut
  rw [h.1, h.2, Nat.sub_zero, List.drop_zero, List.take_length]
theorem sliceD_ok {d : D} {v : V} {lo hi : Option Int} {Q : VK} {Ee : XN → Sto → Prop} (s : SR X.K H m S) (r : RV X.K H m d v) (h : (sliceD d lo hi S).holds (PostE X.K H m Q) Ee) : rSlL X.K v lo hi H Q ∨ rSlA X.K v lo hi H Q := by
  cases r with
  | @tup a xs ds hs hr =>
    refine .inr ⟨a, xs, rfl, hs, fun w => ?_, fun w y hy => post_tup s (cut_rel hr) h y hy⟩
    have h' : PostE X.K H m Q (.tup (cut ds lo hi)) S := h
    rw [cut_whole (xs := ds) (by rw [hr.length]; exact w)] at h'
    exact post_val s (.tup hs hr) h'
  | @cl a xs ds hs hr => exact .inl ⟨a, xs, rfl, .inr hs, fun y hy => post_lst s (cut_rel hr) h y hy⟩
  | @ref j a hj =>
    have h' : (match S[j]? with | some (.lst ds) => .ok (.ref S.length) (S ++ [.lst (cut ds lo hi)]) | some (.fz ds) => .ok (.ref S.length) (S ++ [.lst (cut ds lo hi)]) | _ => .stk : R D).holds (PostE X.K H m Q) Ee := h
    cases e : S[j]? with
    | none => rw [e] at h'; exact h'.elim
    | some o =>
      rw [e] at h'
      cases o with
      | lst ds =>
        obtain ⟨xs, h1, hr⟩ := lst_at s hj e
        exact .inl ⟨a, xs, rfl, SqL.of h1, fun y hy => post_lst s (cut_rel hr) h' y hy⟩
      | fz ds =>
        obtain ⟨o, xs, h1, hr⟩ := fz_at s hj e
        exact .inl ⟨a, xs, rfl, .inl (.inr ⟨_, h1⟩), fun y hy => post_lst s (cut_rel hr) h' y hy⟩
      | dk _ => exact h'.elim
  | _ => exact h.elim
theorem snd_slice {el eh : En → Sto → R (Option Int)} {lo hi : Option Expr} {p2 : Pos} (ha : SndE E H0 m0 X ea a) (hl : SndO E H0 m0 X el lo) (hh : SndO E H0 m0 X eh hi) :
    SndE E H0 m0 X (fun q S => (ea q S).bind fun d S => (el q S).bind fun l S => (eh q S).bind fun h S => sliceD d l h S) (.Subscript a (.Slice lo hi none p2) pos) := by
  intro q S qV H m st Qd Q h0 kk
  refine ⟨_, pe_slice (SlR.or sl_list sl_tupA) pe_w po_w po_w, ha q S qV H m st _ _ (holds_bind.mp h0) fun d S1 v H1 m1 h1 e1 s1 r1 => hl q S1 qV H1 m1 (st.go e1 s1) _ _ (holds_bind.mp h1) fun l S2 H2 m2 h2 e2 s2 =>
    hh q S2 qV H2 m2 ((st.go e1 s1).go e2 s2) _ _ (holds_bind.mp h2) fun u S3 H3 m3 h3 e3 s3 => ?_⟩
  exact sliceD_ok s3 ((r1.mono s1 e2).mono s2 e3) (holds_imp h3 (fun d4 S4 h4 v4 H4 m4 e4 s4 r4 => kk d4 S4 v4 H4 m4 h4 (((e1.trans e2).trans e3).trans e4) s4 r4) fun _ _ z => z)
theorem snd_rev {n : Nat} {p1 p2 p3 : Pos} (ha : SndE E H0 m0 X ea a) : SndE E H0 m0 X (fun q S => (ea q S).bind fun d S => revD d S)
    (.Subscript a (.Slice none none (some (.UnaryOp .USub (.Constant (.int 1) n p1) p2)) p3) pos) := by
  intro q S qV H m st Qd Q hh kk
  have hh2 := holds_is (holds_bind.mp hh)
  by_cases ht : ∃ ds S1, ea q S = .ok (.tup ds) S1
  · obtain ⟨ds, T1, et⟩ := ht
    refine ⟨_, pe_revT pe_w, ha q S qV H m st _ _ (holds_imp hh2 (fun _ _ z => z) fun _ _ z => z.2) fun d S1 v H1 m1 h1 e1 s1 r1 => ?_⟩
    obtain ⟨z1, h1⟩ := h1
    rw [et] at z1
    cases z1
    cases r1 with
    | tup hs hr => exact ⟨_, _, rfl, hs, fun y hy => post_tup s1 hr.reverse (Q := Q) (fun v H' m' e' s' r' => kk _ _ v H' m' h1 (e1.trans e') s' r') y hy⟩
  · refine ⟨_, pe_revL pe_w, ha q S qV H m st _ _ (holds_imp hh2 (fun _ _ z => z) fun _ _ z => z.2) fun d S1 v H1 m1 h1 e1 s1 r1 => ?_⟩
    obtain ⟨z1, h1⟩ := h1
    replace h1 : (optB (lstD S1 d) fun ds => .ok (.ref S1.length) (S1 ++ [.lst ds.reverse]) : R D).holds Qd (fun x S' => E x q S') := by
      cases d with
      | tup ds => exact (ht ⟨ds, S1, z1⟩).elim
      | _ => exact h1
    clear hh hh2
    revert h1
    intro h1
    cases e : lstD S1 d with
    | none => rw [e] at h1; exact h1.elim
    | some ds =>
      rw [e] at h1
      obtain ⟨i, rfl, hi⟩ := lstD_some e
      cases r1 with
      | @ref _ a hj =>
        obtain ⟨xs, h2, hr⟩ := lst_at s1 hj hi
        exact ⟨a, xs, rfl, SqL.of h2, fun y hy => post_lst s1 hr.reverse (Q := Q) (fun v H' m' e' s' r' => kk _ _ v H' m' h1 (e1.trans e') s' r') y hy⟩

/-! ### calls -/
theorem xw_of {q : En} {qV : L2.St} {S S1 : Sto} {H H1 : Hp} {m m1 : List Addr} (st : ST X.K H0 m0 q S1 qV H1 m1) {x : XN} {S' : Sto} (hx : E x q S') : ∀ H' m' cls d, Ext H1 m1 H' m' → SR X.K H' m' S' → XR xc X.K H' m' x cls d → L2.WE (XW xc X.K E H0 m0) qV cls d H' :=
  fun H' m' cls d e s r => ⟨x, q, S', m', hx, st.go e s, r⟩
theorem len2 {A B C : Type} {f : A → B × C} {o : Option A} {x : B} {n : C} (h : o.map f = some (x, n)) : ∃ a, o = some a ∧ (f a).1 = x ∧ (f a).2 = n := by
  cases o with
  | none => cases h
  | some a =>
    have h' := Option.some.inj h
    exact ⟨a, rfl, congrArg Prod.fst h', congrArg Prod.snd h'⟩
theorem ends_G {CX : CXT} {Ex : L2.St → XK} {pins : List (Addr × Obj)} {qV : L2.St} {H : Hp} {s : Shared} {Q : VK} {f : Addr} {as : Args} (hx : PassesAt CX X qV (Ex qV)) (I : Inv X pins qV H s)
    (h : codeAny (model X.prog X.w) X.A (.call (.ref f) as) (CR CX X.stack X.prog X.w H s Q (Ex qV)) s) : codeAny (model X.prog X.w) X.A (.call (.ref f) as) (fun r s' => match r with | .ok (.ret u) => EP X pins qV Q u s' | .ok _ => False | .error e => X.xe e s') s := by
  refine codeAny_mono h fun r s' hq => ?_
  cases r with
  | error e => exact hx pins H s e s' I hq
  | ok fl =>
    cases fl with
    | ret u => exact I.after hq
    | _ => exact hq.elim
def tCallG (sp : Sp) (Ex : L2.St → XK) (t : TA) : TE := fun q H Q => t q H fun vs H1 => sp vs H1 Q (Ex q)
theorem pe_callG {CX : CXT} {f : Addr} {fd : FuncData} {ps : List Str} {sp : Sp} {Ex : L2.St → XK} {x : Str} {p1 : Pos} {e : Expr} {es : List Expr} {t : TA} (F : FnG X.prog X.w X.K X.mg X.base CX k f fd ps sp) (gd : X.A.guards = some []) (hr : Room k X.A) (hg : Gl X x) (hm : X.mg x = some (.ref f))
    (hk : PySem.W.keepIn X.K (.ref f) = true) (hb : Binds X.K fd ps []) (hx : ∀ qV, PassesAt CX X qV (Ex qV)) (ha : PA X (e :: es) t) (hdb : (x == ("__debug__" : Str)) = false) (hst : ∀ y ∈ e :: es, nostar y = true) : PE X (.Call (.Name x p1) (e :: es) [] pos) (tCallG sp Ex t) := by
  refine ⟨fun pins s q H Q I h => ?_⟩
  refine wpAny_Call_Name_kw (ld_glob I hg hm ?_ hdb)
  refine PySem.W.callWith_K (h₀ := X.base) I.ok.mod.kin hk (thn (ha.run pos pins s q H _ I h) fun us s1 ⟨vs, H1, I1, r, q1⟩ => ⟨I1.kIn, ?_⟩) (star1 (hst e List.mem_cons_self)) (back1 fun y hy => hst y (List.mem_cons_of_mem _ hy))
  have hl : (us ++ []).length = ps.length := by rw [List.append_nil, ← r.length]; exact F.len _ _ _ _ q1
  have hb2 := hb s1 us I1.kIn hl
  rw [List.append_nil] at hb2
  exact wpAny_call (ends_G (hx q) I1 (F.run X.A X.stack s1 H1 ⟨us, []⟩ us vs Q (Ex q) gd hr I1.env0 hb2 r q1))
theorem snd_call (sx : SX xc g p cl k c E H0 m0 X) {f : Nat} {x : Str} {as : CEs} {e : Expr} {es : List Expr} {p0 : Pos} (hf : g.fns[f]?.map (fun z => (z.1, z.2.length)) = some (x, (e :: es).length)) (hg : glB c.sc x = true) (ho : okN x = true)
    (al : AllE p cl E H0 m0 X as (e :: es)) : SndE E H0 m0 X (fun q S => (evEs p cl as q S).bind fun ds S => cl f ds S) (.Call (.Name x p0) (e :: es) [] pos) := by
  obtain ⟨⟨x', ps⟩, hf1, hx, hl⟩ := len2 hf
  have hx : x' = x := hx
  have hl : ps.length = (e :: es).length := hl
  subst hx
  obtain ⟨fa, fd, hm, hk, hF, hb, _⟩ := sx.gok.fn f x' ps hf1
  have hs := al.stars
  intro q S qV H m st Qd Q hh kk
  refine ⟨_, pe_callG hF sx.gd sx.room (sx.gl hg) hm hk hb (fun qV => passAt sx.tk qV) pa_w (okN_d ho) hs,
    al.args q S qV H m st _ _ (holds_bind.mp hh) fun ds S1 vs H1 m1 h1 hn e1 s1 r1 => ?_⟩
  show spI xc X.K cl f ps.length vs H1 Q _
  refine ⟨by rw [← r1.length, hn, hl], ds, S1, m1, s1, r1, holds_imp h1 (fun d2 S2 h2 v2 H2 m2 e2 s2 r2 => kk d2 S2 v2 H2 m2 h2 (e1.trans e2) s2 r2) fun x S' hx => xw_of (S := S) (H := H) (m := m) (st.go e1 s1) hx⟩

/-! ### keywords -/
inductive AllK (p : PG) (cl : Cl) (E : EX) (H0 : Hp) (m0 : List Addr) (X : Cx) : List Str → CEs → List Keyword → Prop
  | nil : AllK p cl E H0 m0 X [] .nil []
  | cons {n : Str} {ns : List Str} {a : CE} {as : CEs} {kw : Keyword} {ks : List Keyword} : kw.arg = some n → SndE E H0 m0 X (evE p cl a) kw.value → AllK p cl E H0 m0 X ns as ks → AllK p cl E H0 m0 X (n :: ns) (.cons a as) (kw :: ks)
theorem AllK.names {ns : List Str} {as : CEs} {ks : List Keyword} (h : AllK p cl E H0 m0 X ns as ks) : (backToKw pos (keywordEach ks X.env)).all (·.1.isSome) = true ∧ (backToKw pos (keywordEach ks X.env)).any (·.1.isNone) = false ∧ (backToKw pos (keywordEach ks X.env)).filterMap (·.1) = ns := by
  induction h with
  | nil => exact ⟨rfl, rfl, rfl⟩
  | @cons n ns a as kw ks ha _ _ ih =>
    obtain ⟨nm, v, kp⟩ := kw
    have ha : nm = some n := ha
    subst ha
    obtain ⟨i1, i2, i3⟩ := ih
    refine ⟨?_, ?_, ?_⟩
    · show (true && (backToKw pos (keywordEach ks X.env)).all (·.1.isSome)) = true
      rw [i1] <;> rfl
    · show (false || (backToKw pos (keywordEach ks X.env)).any (·.1.isNone)) = false
      rw [i2] <;> rfl
    · show n :: (backToKw pos (keywordEach ks X.env)).filterMap (·.1) = n :: ns
      rw [i3]
theorem AllK.args {ns : List Str} {as : CEs} {ks : List Keyword} (h : AllK p cl E H0 m0 X ns as ks) : ∀ (q : En) (S : Sto) (qV : L2.St) (H : Hp) (m : List Addr), ST X.K H0 m0 q S qV H m → ∀ (Qd : List D → Sto → Prop) (Q : List V → Hp → Prop),
    (evEs p cl as q S).holds Qd (fun x S' => E x q S') → (∀ d S' v H' m', Qd d S' → d.length = ns.length → Ext H m H' m' → SR X.K H' m' S' → RVs X.K H' m' d v → Q v H') → WK X ks qV H Q := by
  induction h with
  | nil =>
    intro q S qV H m st Qd Q hh kk
    exact ⟨_, pk_nil, kk [] S [] H m hh rfl (Ext.refl _ _) st.sr .nil⟩
  | @cons n ns a as kw ks ha1 ha _ ih =>
    intro q S qV H m st Qd Q hh kk
    obtain ⟨nm, v, kp⟩ := kw
    have hh' : ((evE p cl a q S).bind fun d S => (evEs p cl as q S).bind fun ds S => .ok (d :: ds) S).holds Qd (fun x S' => E x q S') := hh
    refine ⟨_, pk_cons pe_w pk_w, ha q S qV H m st _ _ (holds_bind.mp hh') fun d S1 v H1 m1 h1 e1 s1 r1 => ih q S1 qV H1 m1 (st.go e1 s1) _ _ (holds_bind.mp h1) fun ds S2 vs H2 m2 h2 hl e2 s2 r2 => ?_⟩
    exact kk (d :: ds) S2 (v :: vs) H2 m2 h2 (by rw [List.length_cons, List.length_cons, hl]) (e1.trans e2) s2 (.cons (r1.mono s1 e2) r2)
section
variable {CX : CXT} {f : Addr} {fd : FuncData} {ps ks : List Str} {sp : Sp} {Ex : L2.St → XK} {x : Str} {p1 : Pos} {e : Expr} {es : List Expr} {kws : List Keyword} {t tk : TA} {gf : List Value → List Value → List Value} {gV : List V → List V → List V}
theorem run_kS {pins : List (Addr × Obj)} {qV : L2.St} {H : Hp} {s : Shared} {Q : VK} {us ws : List Value} {vs zs : List V} (F : FnG X.prog X.w X.K X.mg X.base CX k f fd ps sp) (gd : X.A.guards = some []) (hr : Room k X.A) (hb : KBinds X.K fd ps ks gf gV) (hx : PassesAt CX X qV (Ex qV))
    (I : Inv X pins qV H s) (r : Vals vs us) (rz : Vals zs ws) (h : sp (gV vs zs) H Q (Ex qV)) : wpAny (model X.prog X.w) X.A (call (.ref f) us (ks.zip ws)) (EP X pins qV Q) X.xe s := by
  have r2 := hb.rel r rz
  have hl : (gf us ws).length = ps.length := by rw [← r2.length]; exact F.len _ _ _ _ h
  exact wpAny_call (ends_G hx I (F.run X.A X.stack s H ⟨us, ks.zip ws⟩ (gf us ws) (gV vs zs) Q (Ex qV) gd hr I.env0 (hb.to s us ws I.kIn hl) r2 h))
def tCallKS (sp : Sp) (gV : List V → List V → List V) (Ex : L2.St → XK) (t tk : TA) : TE := fun q H Q => t q H fun vs H1 => tk q H1 fun zs H2 => sp (gV vs zs) H2 Q (Ex q)
theorem pe_callKS (F : FnG X.prog X.w X.K X.mg X.base CX k f fd ps sp) (gd : X.A.guards = some []) (hr : Room k X.A) (hg : Gl X x) (hm : X.mg x = some (.ref f)) (hk : PySem.W.keepIn X.K (.ref f) = true) (hb : KBinds X.K fd ps ks gf gV) (hx : ∀ qV, PassesAt CX X qV (Ex qV))
    (ha : PA X (e :: es) t) (hkw : PK X kws tk) (hall : (backToKw pos (keywordEach kws X.env)).all (·.1.isSome) = true) (hno : (backToKw pos (keywordEach kws X.env)).any (·.1.isNone) = false) (hks : (backToKw pos (keywordEach kws X.env)).filterMap (·.1) = ks)
    (hdb : (x == ("__debug__" : Str)) = false) (hst : ∀ y ∈ e :: es, nostar y = true) : PE X (.Call (.Name x p1) (e :: es) kws pos) (tCallKS sp gV Ex t tk) := by
  refine ⟨fun pins s q H Q I h => ?_⟩
  refine wpAny_Call_Name_kw (ld_glob I hg hm ?_ hdb)
  refine PySem.W.callWith_KW (h₀ := X.base) I.ok.mod.kin hk hall (thn (ha.run pos pins s q H _ I h) fun us s1 ⟨vs, H1, I1, r, q1⟩ => ?_) (by rw [back1 hst, hno]; rfl) (star1 (hst e List.mem_cons_self))
  refine thn (hkw.run pos pins s1 q H1 _ I1 q1) fun ws s2 ⟨zs, H2, I2, rz, q2⟩ => ⟨I2.kIn, ?_⟩
  rw [hks]
  exact run_kS F gd hr hb (hx q) I2 r rz q2
theorem pe_callKS0 (F : FnG X.prog X.w X.K X.mg X.base CX k f fd ps sp) (gd : X.A.guards = some []) (hr : Room k X.A) (hg : Gl X x) (hm : X.mg x = some (.ref f)) (hk : PySem.W.keepIn X.K (.ref f) = true) (hb : KBinds X.K fd ps ks gf gV) (hx : ∀ qV, PassesAt CX X qV (Ex qV))
    (hkw : PK X kws tk) (hall : (backToKw pos (keywordEach kws X.env)).all (·.1.isSome) = true) (hno : (backToKw pos (keywordEach kws X.env)).any (·.1.isNone) = false) (hks : (backToKw pos (keywordEach kws X.env)).filterMap (·.1) = ks)
    (hdb : (x == ("__debug__" : Str)) = false) : PE X (.Call (.Name x p1) [] kws pos) (tCallKS sp gV Ex tNil tk) := by
  refine ⟨fun pins s q H Q I h => ?_⟩
  refine wpAny_Call_Name_kw (ld_glob I hg hm ?_ hdb)
  refine PySem.W.callWith_KW0 (h₀ := X.base) I.ok.mod.kin hk hall ?_ (by rw [hno]; rfl)
  refine thn (hkw.run pos pins s q H _ I h) fun ws s2 ⟨zs, H2, I2, rz, q2⟩ => ⟨I2.kIn, ?_⟩
  rw [hks]
  exact run_kS F gd hr hb (hx q) (us := []) (vs := []) I2 .nil rz q2
end
theorem kw_rel {n nk : Nat} {perm : List Nat} {vs zs : List V} {us ws : List Value} (r : Vals vs us) (z : Vals zs ws) : Vals (kwV n nk perm vs zs) (kwG n nk perm us ws) := by
  unfold kwV kwG
  rw [r.length, z.length]
  split
  · have q := r.append z
    induction perm with
    | nil => exact .nil
    | cons j js ih =>
      refine .cons ?_ ih
      show RelV ((vs ++ zs).getD j V.non) ((us ++ ws).getD j Value.none)
      cases e : (vs ++ zs)[j]? with
      | none =>
        have e2 := q.none_of e
        rw [List.getD_eq_getElem?_getD, List.getD_eq_getElem?_getD, e, e2]
        rfl
      | some v =>
        obtain ⟨u, e2, ru⟩ := q.get e
        rw [List.getD_eq_getElem?_getD, List.getD_eq_getElem?_getD, e, e2]
        exact ru
  · exact .nil
theorem kw_data {K : PySem.W.Frag} {H : Hp} {m : List Addr} {perm : List Nat} {ds : List D} {vs : List V} (r : RVs K H m ds vs) : RVs K H m (perm.map fun j => ds.getD j .non) (perm.map fun j => vs.getD j .non) := by
  induction perm with
  | nil => exact .nil
  | cons j js ih =>
    refine .cons ?_ ih
    show RV K H m (ds.getD j .non) (vs.getD j .non)
    cases e : ds[j]? with
    | none =>
      have e2 : vs[j]? = none := by
        rw [List.getElem?_eq_none_iff] at e ⊢
        rw [← r.length]
        exact e
      rw [List.getD_eq_getElem?_getD, List.getD_eq_getElem?_getD, e, e2]
      exact .non
    | some d =>
      obtain ⟨v, e2, rv⟩ := r.get e
      rw [List.getD_eq_getElem?_getD, List.getD_eq_getElem?_getD, e, e2]
      exact rv
theorem snd_callk (sx : SX xc g p cl k c E H0 m0 X) {i : Nat} {kp : KP} {x : Str} {as bs : CEs} {es : List Expr} {kws : List Keyword} {p0 : Pos} (hi : p.kws[i]? = some kp) (hf : g.fns[kp.f]?.map (·.1) = some x) (hg : glB c.sc x = true) (ho : okN x = true)
    (al : AllE p cl E H0 m0 X as es) (ak : AllK p cl E H0 m0 X kp.ks bs kws) : SndE E H0 m0 X (fun q S => (evEs p cl as q S).bind fun ds S => (evEs p cl bs q S).bind fun zs S => match p.kws[i]? with
      | some k => ifR (decide (ds.length = k.np ∧ zs.length = k.ks.length)) (cl k.f (k.perm.map fun j => (ds ++ zs).getD j .non) S)
      | none => .stk) (.Call (.Name x p0) es kws pos) := by
  obtain ⟨⟨x', ps⟩, hf1, hx⟩ := Option.map_eq_some_iff.mp hf
  have hx : x' = x := hx
  subst hx
  obtain ⟨fa, fd, hm, hk, hF, hb, hkw⟩ := sx.gok.fn kp.f x' ps hf1
  obtain ⟨hpl, hto⟩ := hkw kp (List.mem_of_getElem? hi) rfl
  have hs := al.stars
  obtain ⟨n1, n2, n3⟩ := ak.names (pos := pos)
  have kb : KBinds X.K fd ps kp.ks (kwG kp.np kp.ks.length kp.perm) (kwV kp.np kp.ks.length kp.perm) := ⟨hto, fun r z => kw_rel r z⟩
  intro q S qV H m st Qd Q hh kk
  have fin : ∀ (ds zs : List D) (vs ws : List V) (S1 S2 : Sto) (H1 H2 : Hp) (m1 m2 : List Addr), ST X.K H0 m0 q S1 qV H1 m1 → Ext H m H1 m1 → RVs X.K H1 m1 ds vs → Ext H1 m1 H2 m2 → SR X.K H2 m2 S2 → RVs X.K H2 m2 zs ws → 
      (match p.kws[i]? with
      | some k => ifR (decide (ds.length = k.np ∧ zs.length = k.ks.length)) (cl k.f (k.perm.map fun j => (ds ++ zs).getD j .non) S2)
      | none => .stk : R D).holds Qd (fun x S' => E x q S') → spI xc X.K cl kp.f ps.length (kwV kp.np kp.ks.length kp.perm vs ws) H2 Q (L2.WE (XW xc X.K E H0 m0) qV) := by
    intro ds zs vs ws S1 S2 H1 H2 m1 m2 st1 e1 r1 e2 s2 r2 h2
    rw [hi] at h2
    obtain ⟨hc, h2⟩ := holds_ifR h2
    have hc' := of_decide_eq_true hc
    have ev : kwV kp.np kp.ks.length kp.perm vs ws = kp.perm.map fun j => (vs ++ ws).getD j .non := by
      unfold kwV
      rw [if_pos ⟨by rw [← r1.length]; exact hc'.1, by rw [← r2.length]; exact hc'.2⟩]
    rw [ev]
    refine ⟨by rw [List.length_map, hpl], _, S2, m2, s2, kw_data ((r1.mono st1.sr e2).app r2), holds_imp h2 (fun d3 S3 h3 v3 H3 m3 e3 s3 r3 => kk d3 S3 v3 H3 m3 h3 ((e1.trans e2).trans e3) s3 r3) fun x S' hx => xw_of (S := S) (H := H) (m := m) (st1.go e2 s2) hx⟩
  cases al with
  | nil =>
    refine ⟨_, pe_callKS0 hF sx.gd sx.room (sx.gl hg) hm hk kb (fun qV => passAt sx.tk qV) pk_w n1 n2 n3 (okN_d ho), ?_⟩
    have hh' := holds_bind.mp hh
    refine ak.args q S qV H m st _ _ (holds_bind.mp hh') fun zs S2 ws H2 m2 h2 hl e2 s2 r2 => ?_
    exact fin [] zs [] ws S S2 H H2 m m2 st (Ext.refl _ _) .nil e2 s2 r2 h2
  | @cons a1 as e es h1 h2 h3 al =>
    refine ⟨_, pe_callKS hF sx.gd sx.room (sx.gl hg) hm hk kb (fun qV => passAt sx.tk qV) pa_w pk_w n1 n2 n3 (okN_d ho) hs, ?_⟩
    refine (AllE.cons h1 h2 h3 al).args q S qV H m st _ _ (holds_bind.mp hh) fun ds S1 vs H1 m1 hh1 hl e1 s1 r1 => ?_
    refine ak.args q S1 qV H1 m1 (st.go e1 s1) _ _ (holds_bind.mp hh1) fun zs S2 ws H2 m2 h2 hl e2 s2 r2 => ?_
    exact fin ds zs vs ws S1 S2 H1 H2 m1 m2 (st.go e1 s1) e1 r1 e2 s2 r2 h2

/-! ### built-in functions -/
theorem holds_mt {A B : Type} {o : Option A} {f : A → R B} {Q : B → Sto → Prop} {Ee : XN → Sto → Prop} (h : (optB o f).holds Q Ee) : ∃ a, o = some a ∧ (f a).holds Q Ee := by
  cases o with
  | none => exact h.elim
  | some a => exact ⟨a, rfl, h⟩
theorem allB_rel {K : PySem.W.Frag} {H : Hp} {m : List Addr} : ∀ {ds : List D} {xs : List V} {bs : List Bool}, RVs K H m ds xs → allB ds = some bs → xs = bs.map V.bl
  | _, _, _, .nil, h => by cases h; rfl
  | _, _, _, .cons r t, h => by
    cases r with
    | bl b =>
      obtain ⟨r', h1, rfl⟩ := Option.map_eq_some_iff.mp (show (allB _).map (b :: ·) = some _ from h)
      rw [allB_rel t h1]
      rfl
    | _ => cases h
theorem one1 {K : PySem.W.Frag} {H : Hp} {m : List Addr} {ds : List D} {vs : List V} (r : RVs K H m ds vs) (h : ds.length = 1) : ∃ d v, ds = [d] ∧ vs = [v] ∧ RV K H m d v := by
  cases r with
  | nil => cases h
  | cons r t =>
    cases t with
    | nil => exact ⟨_, _, rfl, rfl, r⟩
    | cons r2 t2 =>
      rw [List.length_cons, List.length_cons] at h
      omega
theorem one2 {K : PySem.W.Frag} {H : Hp} {m : List Addr} {ds : List D} {vs : List V} (r : RVs K H m ds vs) (h : ds.length = 2) : ∃ d v d2 v2, ds = [d, d2] ∧ vs = [v, v2] ∧ RV K H m d v ∧ RV K H m d2 v2 := by
  cases r with
  | nil => cases h
  | cons r t =>
    rw [List.length_cons] at h
    obtain ⟨d2, v2, rfl, rfl, r2⟩ := one1 t (by omega)
    exact ⟨_, _, _, _, rfl, rfl, r, r2⟩
theorem ref_list {K : PySem.W.Frag} {H : Hp} {m : List Addr} {S : Sto} (s : SR K H m S) {i : Nat} {a : Addr} {ds : List D} (hi : m[i]? = some a) (h : seqD S (.ref i) = some ds) : ∃ xs, SqL K H a xs ∧ RVs K H m ds xs := by
  have h' : (match S[i]? with | some (.lst ds) => some ds | some (.fz ds) => some ds | _ => none) = some ds := h
  cases e : S[i]? with
  | none => rw [e] at h'; cases h'
  | some o =>
    rw [e] at h'
    obtain ⟨ho, h1, h2⟩ := s.at_ i a _ hi e
    cases h2 with
    | lst hr =>
      cases h'
      exact ⟨_, SqL.of h1, hr⟩
    | fz hr =>
      cases h'
      exact ⟨_, .inl (.inr ⟨_, h1⟩), hr⟩
    | dk _ _ => cases h'
theorem snd_blt (sx : SX xc g p cl k c E H0 m0 X) {bl : Bl} (hbl : blOk bl = true) {x : Str} {as : CEs} {es : List Expr} {p0 : Pos} (hx : x = blN bl) (hm : g.blts.contains x = true) (hg : glB c.sc x = true) (hn : es.length = blA bl) (al : AllE p cl E H0 m0 X as es) :
    SndE E H0 m0 X (fun q S => (evEs p cl as q S).bind fun ds S => bltD bl ds S) (.Call (.Name x p0) es [] pos) := by
  have hs := al.stars
  have hmg := sx.gok.blt x hm
  have hgl := sx.gl hg
  intro q S qV H m st Qd Q hh kk
  have hc := sx.calm
  have two : ∀ {id : String} {r : List V → Hp → VK → Prop} (e : Expr) (es' : List Expr), es = e :: es' → CallR X (.builtin id) r → bootBuiltins x = some (.builtin id) → x ≠ "__name__" → (x == ("__debug__" : Str)) = false → 
      (∀ ds S1 vs H1 m1, (bltD bl ds S1).holds (PostE X.K H1 m1 Q) (fun x S' => E x q S') → ds.length = es.length → SR X.K H1 m1 S1 → RVs X.K H1 m1 ds vs → r vs H1 Q) → WE X (.Call (.Name x p0) es [] pos) qV H Q := by
    intro id r e es' hes hr hv hnn hd kk2
    subst hes
    refine ⟨_, pe_callB hr hgl hmg hv pa_w hnn hd (star1 (hs e List.mem_cons_self)) (back1 fun y hy => hs y (List.mem_cons_of_mem _ hy)), al.args q S qV H m st _ _ (holds_bind.mp hh) fun ds S1 vs H1 m1 h1 hl e1 s1 r1 => ?_⟩
    exact kk2 ds S1 vs H1 m1 (holds_imp h1 (fun d2 S2 h2 v2 H2 m2 e2 s2 r2 => kk d2 S2 v2 H2 m2 h2 (e1.trans e2) s2 r2) fun _ _ z => z) hl s1 r1
  have twoT : ∀ {id : String} {r : List V → Hp → VK → Prop} (e : Expr) (es' : List Expr), es = e :: es' → CallR X (.type id) r → bootBuiltins x = some (.type id) → x ≠ "__name__" → (x == ("__debug__" : Str)) = false → 
      (∀ ds S1 vs H1 m1, (bltD bl ds S1).holds (PostE X.K H1 m1 Q) (fun x S' => E x q S') → ds.length = es.length → SR X.K H1 m1 S1 → RVs X.K H1 m1 ds vs → r vs H1 Q) → WE X (.Call (.Name x p0) es [] pos) qV H Q := by
    intro id r e es' hes hr hv hnn hd kk2
    subst hes
    refine ⟨_, pe_callTy hr hgl hmg hv pa_w hnn hd (star1 (hs e List.mem_cons_self)) (back1 fun y hy => hs y (List.mem_cons_of_mem _ hy)), al.args q S qV H m st _ _ (holds_bind.mp hh) fun ds S1 vs H1 m1 h1 hl e1 s1 r1 => ?_⟩
    exact kk2 ds S1 vs H1 m1 (holds_imp h1 (fun d2 S2 h2 v2 H2 m2 e2 s2 r2 => kk d2 S2 v2 H2 m2 h2 (e1.trans e2) s2 r2) fun _ _ z => z) hl s1 r1
  cases es with
  | nil => exact absurd hn (by cases bl <;> decide)
  | cons e es =>
    subst hx
    cases bl with
    | len =>
      refine two e es rfl (CallR.or call_len_str call_len_seq) (by decide +kernel) (by decide +kernel) (by decide +kernel) fun ds S1 vs H1 m1 h1 hl s1 r1 => ?_
      obtain ⟨d, v, rfl, rfl, rv⟩ := one1 r1 (hl.trans hn)
      have go : ∀ d v, RV X.K H1 m1 d v → (optB (seqD S1 d) fun es => .ok (.int es.length) S1 : R D).holds (PostE X.K H1 m1 Q) (fun x S' => E x q S') → ∃ p ys, [v] = [V.ref p] ∧ (SqL X.K H1 p ys ∨ SqT X.K H1 p ys) ∧ Q (.int ys.length) H1 := by
        intro d v rv h1
        obtain ⟨es', e1, h2⟩ := holds_mt h1
        obtain ⟨a, xs, rfl, hs', hr⟩ := seq_of s1 rv e1
        refine ⟨a, xs, rfl, hs', ?_⟩
        rw [← hr.length]
        exact post_val s1 (.int _) h2
      cases rv with
      | str x =>
        obtain ⟨hcc, h2⟩ := holds_ifR (show (ifR (decide (x.length ≤ LM)) (.ok (.int x.length) S1) : R D).holds _ _ from h1)
        exact .inl ⟨x, rfl, sz_of (of_decide_eq_true hcc), post_val s1 (.int _) h2⟩
      | tup hs' hr => exact .inr (go _ _ (.tup hs' hr) h1)
      | ref hi => exact .inr (go _ _ (.ref hi) h1)
      | cl hs' hr => exact .inr (go _ _ (.cl hs' hr) h1)
      | _ => exact h1.elim
    | tuple =>
      refine twoT e es rfl call_tuple_of (by decide +kernel) (by decide +kernel) (by decide +kernel) fun ds S1 vs H1 m1 h1 hl s1 r1 => ?_
      obtain ⟨d, v, rfl, rfl, rv⟩ := one1 r1 (hl.trans hn)
      cases rv with
      | tup hs' hr => exact ⟨_, _, rfl, .inr ⟨hs', post_val s1 (.tup hs' hr) h1⟩⟩
      | @ref i a hi =>
        obtain ⟨es', e1, h2⟩ := holds_mt (show (optB (seqD S1 (.ref i)) fun es => .ok (.tup es) S1 : R D).holds _ _ from h1)
        obtain ⟨a', xs, z, hs', hr⟩ := seq_of s1 (.ref hi) e1
        cases z
        rcases ref_list s1 hi e1 with ⟨xs', q1, q2⟩
        exact ⟨a, xs', rfl, .inl ⟨q1, fun y hy => post_tup s1 q2 h2 y hy⟩⟩
      | cl hs' hr => exact ⟨_, _, rfl, .inl ⟨.inr hs', fun y hy => post_tup s1 hr h1 y hy⟩⟩
      | _ => exact h1.elim
    | list =>
      refine twoT e es rfl call_list_of (by decide +kernel) (by decide +kernel) (by decide +kernel) fun ds S1 vs H1 m1 h1 hl s1 r1 => ?_
      obtain ⟨d, v, rfl, rfl, rv⟩ := one1 r1 (hl.trans hn)
      obtain ⟨es', e1, h2⟩ := holds_mt (show (optB (seqD S1 d) fun es => .ok (.ref S1.length) (S1 ++ [.lst es]) : R D).holds _ _ from h1)
      obtain ⟨a', xs, rfl, hs', hr⟩ := seq_of s1 rv e1
      exact ⟨a', xs, rfl, hs', fun y hy => post_lst s1 hr h2 y hy⟩
    | all =>
      refine two e es rfl (cr_all hc) (by decide +kernel) (by decide +kernel) (by decide +kernel) fun ds S1 vs H1 m1 h1 hl s1 r1 => ?_
      obtain ⟨d, v, rfl, rfl, rv⟩ := one1 r1 (hl.trans hn)
      obtain ⟨es', e1, h2⟩ := holds_mt (show (optB (lstD S1 d) fun es => optB (allB es) fun bs => .ok (.bl (bs.all id)) S1 : R D).holds _ _ from h1)
      obtain ⟨bs, e2, h3⟩ := holds_mt h2
      obtain ⟨i, rfl, hi⟩ := lstD_some e1
      cases rv with
      | ref hj =>
        obtain ⟨xs, g1, g2⟩ := lst_at s1 hj hi
        rw [allB_rel g2 e2] at g1
        exact ⟨_, bs, rfl, SqL.of g1, post_val s1 (.bl _) h3⟩
    | any =>
      refine two e es rfl (cr_any hc) (by decide +kernel) (by decide +kernel) (by decide +kernel) fun ds S1 vs H1 m1 h1 hl s1 r1 => ?_
      obtain ⟨d, v, rfl, rfl, rv⟩ := one1 r1 (hl.trans hn)
      obtain ⟨es', e1, h2⟩ := holds_mt (show (optB (lstD S1 d) fun es => optB (allB es) fun bs => .ok (.bl (bs.any id)) S1 : R D).holds _ _ from h1)
      obtain ⟨bs, e2, h3⟩ := holds_mt h2
      obtain ⟨i, rfl, hi⟩ := lstD_some e1
      cases rv with
      | ref hj =>
        obtain ⟨xs, g1, g2⟩ := lst_at s1 hj hi
        rw [allB_rel g2 e2] at g1
        exact ⟨_, bs, rfl, SqL.of g1, post_val s1 (.bl _) h3⟩
    | max2 =>
      refine two e es rfl (call_max2 hc) (by decide +kernel) (by decide +kernel) (by decide +kernel) fun ds S1 vs H1 m1 h1 hl s1 r1 => ?_
      obtain ⟨d, v, d2, v2, rfl, rfl, rv, rv2⟩ := one2 r1 (hl.trans hn)
      cases rv <;> first | exact h1.elim | (cases rv2 <;> first | exact h1.elim | exact ⟨_, _, rfl, post_val s1 (.int _) h1⟩)
    | min2 =>
      refine two e es rfl (call_min2 hc) (by decide +kernel) (by decide +kernel) (by decide +kernel) fun ds S1 vs H1 m1 h1 hl s1 r1 => ?_
      obtain ⟨d, v, d2, v2, rfl, rfl, rv, rv2⟩ := one2 r1 (hl.trans hn)
      cases rv <;> first | exact h1.elim | (cases rv2 <;> first | exact h1.elim | exact ⟨_, _, rfl, post_val s1 (.int _) h1⟩)
    | int =>
      refine twoT e es rfl call_int1 (by decide +kernel) (by decide +kernel) (by decide +kernel) fun ds S1 vs H1 m1 h1 hl s1 r1 => ?_
      obtain ⟨d, v, rfl, rfl, rv⟩ := one1 r1 (hl.trans hn)
      cases rv <;> first | exact h1.elim | exact .inl ⟨_, rfl, post_val s1 (.int _) h1⟩
    | sorted =>
      refine two e es rfl (cr_srt sx.hu) (by decide +kernel) (by decide +kernel) (by decide +kernel) fun ds S1 vs H1 m1 h1 hl s1 r1 => ?_
      obtain ⟨d, v, rfl, rfl, rv⟩ := one1 r1 (hl.trans hn)
      obtain ⟨es', e1, h2⟩ := holds_mt (show (optB (seqD S1 d) fun es => optB (optAll (es.map (pyD 60 S1))) fun ys => optB (sortD es ys) fun zs => .ok (.ref S1.length) (S1 ++ [.lst zs]) : R D).holds _ _ from h1)
      obtain ⟨ys, e2, h3⟩ := holds_mt h2
      obtain ⟨zs, e3, h4⟩ := holds_mt h3
      obtain ⟨a', xs, rfl, hs', hr⟩ := seq_of s1 rv e1
      have hdp := dp_all (fun d v y => dp_of s1 60 d v y) hr e2
      obtain ⟨q1, q2, q3, q4⟩ := sort_ok hr e3
      exact ⟨a', xs, ys, rfl, hs', hdp, q1, q2, q3, fun y hy => post_lst s1 q4 h4 y hy⟩
    | repr =>
      refine two e es rfl (cr_rep sx.hu sx.gd) (by decide +kernel) (by decide +kernel) (by decide +kernel) fun ds S1 vs H1 m1 h1 hl s1 r1 => ?_
      obtain ⟨d, v, rfl, rfl, rv⟩ := one1 r1 (hl.trans hn)
      obtain ⟨y, e1, h2⟩ := holds_mt (show (optB (pyD 60 S1 d) fun y => ifR (y.showable && !y.hasDict && decide (y.depth ≤ 60) && decide (y.shown.length ≤ LM)) (.ok (.str y.shown) S1) : R D).holds _ _ from h1)
      obtain ⟨hcc, h3⟩ := holds_ifR h2
      simp only [Bool.and_eq_true, Bool.not_eq_true', decide_eq_true_eq] at hcc
      exact ⟨v, y, rfl, dp_of s1 60 d v y rv e1, hcc.1.1.1, hcc.1.1.2, hcc.1.2, sz_of hcc.2, post_val s1 (.str _) h3⟩
    | abs =>
      refine two e es rfl call_abs (by decide +kernel) (by decide +kernel) (by decide +kernel) fun ds S1 vs H1 m1 h1 hl s1 r1 => ?_
      obtain ⟨d, v, rfl, rfl, rv⟩ := one1 r1 (hl.trans hn)
      cases rv <;> first | exact h1.elim | exact ⟨_, rfl, post_val s1 (.int _) h1⟩
    | _ => exact (Bool.false_ne_true hbl).elim
/-! ### methods -/
theorem snd_meth {me : Me} {o : Expr} {x : Str} {as : CEs} {es : List Expr} {ap : Pos} (hx : x = meN me) (ho : noCall o = true) (hl : es.length < 20) (hn : (ap.endLine == pos.line) = true) (hme : meOk me es.length = true) (ha : SndE E H0 m0 X ea o) (al : AllE p cl E H0 m0 X as es) :
    SndE E H0 m0 X (fun q S => (ea q S).bind fun d S => ifR (meK me d S) ((evEs p cl as q S).bind fun ds S => methD me d ds S)) (.Call (.Attribute o x ap) es [] pos) := by
  have hs := al.stars
  subst hx
  intro q S qV H m st Qd Q hh kk
  cases me with
  | append =>
    cases es with
    | nil => exact (Bool.false_ne_true hme).elim
    | cons e es =>
      refine ⟨_, pe_bm PySem.F.plainAttrs_list PySem.F.slot_list_append PySem.F.type_list_append mt_append pe_w pa_w (base_no ho) ?_ hn (star1 (hs e List.mem_cons_self)) (back1 fun y hy => hs y (List.mem_cons_of_mem _ hy)), ?_⟩
      · rw [back2 hs]
        show (true && true && decide _) = true
        have : (e :: es).length + ([] : List Keyword).length + (if ([] : List Keyword).isEmpty then 0 else 1) < 30 := by
          show (e :: es).length + 0 + 0 < 30
          omega
        rw [decide_eq_true this]
        rfl
      · refine ha q S qV H m st _ _ (holds_bind.mp hh) fun d S1 v H1 m1 h1 e1 s1 r1 => ?_
        obtain ⟨hk, h1⟩ := holds_ifR h1
        obtain ⟨ds, hds⟩ := Option.isSome_iff_exists.mp (show (lstD S1 d).isSome = true from hk)
        obtain ⟨i, rfl, hi⟩ := lstD_some hds
        cases r1 with
        | @ref _ a hj =>
          obtain ⟨xs, g1, g2⟩ := lst_at s1 hj hi
          refine ⟨.inl ⟨rfl, xs, SqL.of g1⟩, al.args q S1 qV H1 m1 (st.go e1 s1) _ _ (holds_bind.mp h1) fun es2 S2 vs H2 m2 h2 hl2 e2 s2 r2 => ?_⟩
          have hl3 : es2.length = 1 := by
            rw [hl2]
            cases es with
            | nil => rfl
            | cons e3 es => exact (Bool.false_ne_true (show meOk .append (es.length + 1 + 1) = true from hme)).elim
          obtain ⟨d2, v2, rfl, rfl, rv2⟩ := one1 r2 hl3
          obtain ⟨ds2, q1, q2⟩ := holds_mt (show (optB (lstD S2 (.ref i)) fun ds => ifR (decide (ds.length < LM)) (.ok .non (S2.set i (.lst (ds ++ [d2])))) : R D).holds _ _ from h2)
          obtain ⟨hc, q3⟩ := holds_ifR q2
          obtain ⟨i', z, hi2⟩ := lstD_some q1
          cases z
          obtain ⟨xs2, g3, g4⟩ := lst_at s2 (e2.get hj) hi2
          refine ⟨a, xs2, v2, rfl, rfl, g3, by rw [← g4.length]; exact sz_lt (of_decide_eq_true hc), ?_⟩
          exact kk _ _ _ _ m2 q3 ((e1.trans e2).trans (ext_upd (e2.get hj))) (sr_upd s2 (e2.get hj) (.lst (g4.app (.cons rv2 .nil)))) .non
  | pop =>
    cases es with
    | cons e es => exact (Bool.false_ne_true (show meOk .pop (es.length + 1) = true from hme)).elim
    | nil =>
      refine ⟨_, pe_bm0 PySem.F.plainAttrs_list PySem.F.slot_list_pop PySem.F.type_list_pop mt_pop pe_w (base_no ho) hn, ?_⟩
      refine ha q S qV H m st _ _ (holds_bind.mp hh) fun d S1 v H1 m1 h1 e1 s1 r1 => ?_
      obtain ⟨hk, h1⟩ := holds_ifR h1
      obtain ⟨ds, hds⟩ := Option.isSome_iff_exists.mp (show (lstD S1 d).isSome = true from hk)
      obtain ⟨i, rfl, hi⟩ := lstD_some hds
      cases al
      cases r1 with
      | @ref _ a hj =>
        obtain ⟨xs, g1, g2⟩ := lst_at s1 hj hi
        refine ⟨.inl ⟨rfl, xs, SqL.of g1⟩, ?_⟩
        obtain ⟨ds2, q1, q2⟩ := holds_mt (show (optB (lstD S1 (.ref i)) fun ds => optB ds[ds.length - 1]? fun e => .ok e (S1.set i (.lst ds.dropLast)) : R D).holds _ _ from h1)
        rw [hds] at q1
        cases q1
        obtain ⟨d2, q3, q4⟩ := holds_mt q2
        obtain ⟨v2, g3, g4⟩ := g2.get q3
        refine ⟨a, xs, v2, rfl, rfl, g1, by rw [← g2.length]; exact g3, ?_⟩
        have dl : RVs X.K H1 m1 ds.dropLast xs.dropLast := by
          rw [List.dropLast_eq_take, List.dropLast_eq_take, g2.length]
          exact g2.take _
        have ex := ext_upd (H := H1) (o := .lst xs.dropLast) hj
        exact kk _ _ _ _ m1 q4 (e1.trans ex) (sr_upd s1 hj (.lst dl)) (g4.mono s1 ex)
  | extend =>
    cases es with
    | nil => exact (Bool.false_ne_true hme).elim
    | cons e es =>
      refine ⟨_, pe_bm PySem.F.plainAttrs_list PySem.F.slot_list_extend PySem.F.type_list_extend mt_extend pe_w pa_w (base_no ho) ?_ hn (star1 (hs e List.mem_cons_self)) (back1 fun y hy => hs y (List.mem_cons_of_mem _ hy)), ?_⟩
      · rw [back2 hs]
        show (true && true && decide _) = true
        have : (e :: es).length + ([] : List Keyword).length + (if ([] : List Keyword).isEmpty then 0 else 1) < 30 := by
          show (e :: es).length + 0 + 0 < 30
          omega
        rw [decide_eq_true this]
        rfl
      · refine ha q S qV H m st _ _ (holds_bind.mp hh) fun d S1 v H1 m1 h1 e1 s1 r1 => ?_
        obtain ⟨hk, h1⟩ := holds_ifR h1
        obtain ⟨ds, hds⟩ := Option.isSome_iff_exists.mp (show (lstD S1 d).isSome = true from hk)
        obtain ⟨i, rfl, hi⟩ := lstD_some hds
        cases r1 with
        | @ref _ a hj =>
          obtain ⟨xs, g1, g2⟩ := lst_at s1 hj hi
          refine ⟨.inl ⟨rfl, xs, SqL.of g1⟩, al.args q S1 qV H1 m1 (st.go e1 s1) _ _ (holds_bind.mp h1) fun es2 S2 vs H2 m2 h2 hl2 e2 s2 r2 => ?_⟩
          have hl3 : es2.length = 1 := by
            rw [hl2]
            cases es with
            | nil => rfl
            | cons e3 es => exact (Bool.false_ne_true (show meOk .extend (es.length + 1 + 1) = true from hme)).elim
          obtain ⟨d2, v2, rfl, rfl, rv2⟩ := one1 r2 hl3
          obtain ⟨ds2, q1, q2⟩ := holds_mt (show (optB (lstD S2 (.ref i)) fun ds => optB (lstD S2 d2) fun zs => ifR (decide (ds.length + zs.length ≤ LM)) (.ok .non (S2.set i (.lst (ds ++ zs)))) : R D).holds _ _ from h2)
          obtain ⟨zs, q3, q4⟩ := holds_mt q2
          obtain ⟨hc, q5⟩ := holds_ifR q4
          obtain ⟨i', z, hi2⟩ := lstD_some q1
          cases z
          obtain ⟨j', rfl, hi3⟩ := lstD_some q3
          obtain ⟨xs2, g3, g4⟩ := lst_at s2 (e2.get hj) hi2
          cases rv2 with
          | @ref _ b hb =>
            obtain ⟨xs3, g5, g6⟩ := lst_at s2 hb hi3
            refine ⟨a, b, xs2, xs3, rfl, rfl, g3, g5, by rw [← g4.length, ← g6.length]; exact sz_of (of_decide_eq_true hc), ?_⟩
            exact kk _ _ _ _ m2 q5 ((e1.trans e2).trans (ext_upd (e2.get hj))) (sr_upd s2 (e2.get hj) (.lst (g4.app g6))) .non
  | join =>
    cases es with
    | nil => exact (Bool.false_ne_true hme).elim
    | cons e es =>
      refine ⟨_, pe_bm PySem.F.plainAttrs_str PySem.F.slot_str_join PySem.F.type_str_join mt_join pe_w pa_w (base_no ho) ?_ hn (star1 (hs e List.mem_cons_self)) (back1 fun y hy => hs y (List.mem_cons_of_mem _ hy)), ?_⟩
      · rw [back2 hs]
        show (true && true && decide _) = true
        have : (e :: es).length + ([] : List Keyword).length + (if ([] : List Keyword).isEmpty then 0 else 1) < 30 := by
          show (e :: es).length + 0 + 0 < 30
          omega
        rw [decide_eq_true this]
        rfl
      · refine ha q S qV H m st _ _ (holds_bind.mp hh) fun d S1 v H1 m1 h1 e1 s1 r1 => ?_
        obtain ⟨hk, h1⟩ := holds_ifR h1
        cases r1 with
        | str x =>
          refine ⟨rfl, al.args q S1 qV H1 m1 (st.go e1 s1) _ _ (holds_bind.mp h1) fun es2 S2 vs H2 m2 h2 hl2 e2 s2 r2 => ?_⟩
          have hl3 : es2.length = 1 := by
            rw [hl2]
            cases es with
            | nil => rfl
            | cons e3 es => exact (Bool.false_ne_true (show meOk .join (es.length + 1 + 1) = true from hme)).elim
          obtain ⟨d2, v2, rfl, rfl, rv2⟩ := one1 r2 hl3
          obtain ⟨es', q1, q2⟩ := holds_mt (show (optB (seqD S2 d2) fun es => optB (allS es) fun ys => ifR (decide ((ys.map (·.length)).sum + ys.length * x.length ≤ 16777216)) (.ok (.str (Txt.join x ys)) S2) : R D).holds _ _ from h2)
          obtain ⟨ys, q3, q4⟩ := holds_mt q2
          obtain ⟨hc, q5⟩ := holds_ifR q4
          obtain ⟨a', xs, rfl, hs', hr⟩ := seq_of s2 rv2 q1
          rw [allS_rel hr q3] at hs'
          exact ⟨x, a', ys, rfl, rfl, hs', of_decide_eq_true hc, kk _ _ _ _ m2 q5 (e1.trans e2) s2 (.str _)⟩
        | _ => exact (Bool.false_ne_true hk).elim
  | _ => exact (Bool.false_ne_true (show false = true by cases es with | nil => exact hme | cons _ es => (cases es <;> exact hme))).elim
end DI
/-! DI: what is walked, targets, comprehensions. -/
namespace DI
open PySem L2
variable {K : PySem.W.Frag} {H : Hp} {m : List Addr} {S : Sto} {X : Cx}
variable {E : EX} {H0 : Hp} {m0 : List Addr} {xc : Nat → Value} {g : GS} {p : PG} {cl : Cl} {k : Nat} {c : SC} {pos : Pos}
variable {ea eb ec : En → Sto → R D} {ta tb tc : En → Sto → R Bool} {a b d : Expr}

theorem holds_isE {A : Type} {r : R A} {Q : A → Sto → Prop} {Ee : XN → Sto → Prop} (h : r.holds Q Ee) : r.holds (fun a S => r = .ok a S ∧ Q a S) Ee := by
  cases r with
  | stk => exact h
  | ok a S => exact ⟨rfl, h⟩
  | exn x S => exact h
/-! ### what is walked -/
inductive JR (K : PySem.W.Frag) (H : Hp) (m : List Addr) : Sr → It → Prop
  | lst {j : Nat} {a : Addr} : m[j]? = some a → JR K H m (.lst j) (Itl K a)
  | tup {a : Addr} {xs : List V} {ds : List D} : SqT K H a xs → RVs K H m ds xs → JR K H m (.tup ds) (Itt K a)
  | rng (lo : Int) (n : Nat) : JR K H m (.rng lo n) (Itr lo n)
  | rngc (lo c : Int) (n : Nat) : JR K H m (.rngc lo c n) (Itc lo c n)
  | str (x : Str) : JR K H m (.str x) (Its x)
  | enumL {j : Nat} {a : Addr} : m[j]? = some a → JR K H m (.enumL j) (Ite K a)
  | enumT {a : Addr} {xs : List V} {ds : List D} : SqT K H a xs → RVs K H m ds xs → JR K H m (.enumT ds) (Jet K a)
  | enumS (x : Str) : JR K H m (.enumS x) (Jes x)
theorem JR.mono {K : PySem.W.Frag} {H H' : Hp} {m m' : List Addr} {S : Sto} {s : Sr} {J : It} (r : SR K H m S) (e : Ext H m H' m') (j : JR K H m s J) : JR K H' m' s J := by
  cases j with
  | lst h => exact .lst (e.get h)
  | tup h t => exact .tup (sqt_mono r e h) (t.mono r e)
  | rng lo n => exact .rng lo n
  | rngc lo c n => exact .rngc lo c n
  | str x => exact .str x
  | enumL h => exact .enumL (e.get h)
  | enumT h t => exact .enumT (sqt_mono r e h) (t.mono r e)
  | enumS x => exact .enumS x
theorem seq_at {K : PySem.W.Frag} {H : Hp} {m : List Addr} {S : Sto} (s : SR K H m S) {j : Nat} {a : Addr} (hj : m[j]? = some a) {A : Type} {f : List D → Option (Option D)} {o : Option D}
    (h : (match S[j]? with | some (.lst ds) => f ds | some (.fz ds) => f ds | _ => none) = some o) : ∃ ds xs, SqL K H a xs ∧ RVs K H m ds xs ∧ f ds = some o := by
  cases e : S[j]? with
  | none => rw [e] at h; cases h
  | some ob =>
    rw [e] at h
    cases ob with
    | lst ds =>
      obtain ⟨xs, h1, h2⟩ := lst_at s hj e
      exact ⟨ds, xs, SqL.of h1, h2, h⟩
    | fz ds =>
      obtain ⟨o', xs, h1, h2⟩ := fz_at s hj e
      exact ⟨ds, xs, .inl (.inr ⟨_, h1⟩), h2, h⟩
    | dk _ => cases h
theorem src_stop {K : PySem.W.Frag} {H : Hp} {m : List Addr} {S : Sto} {s : Sr} {J : It} {i : Nat} (r : SR K H m S) (j : JR K H m s J) (h : srcAt s i S = some none) : J.stop i H := by
  cases j with
  | @lst j a hj =>
    obtain ⟨ds, xs, h1, h2, h3⟩ := seq_at (A := Unit) (f := fun ds => some ds[i]?) r hj h
    refine ⟨xs, h1, ?_⟩
    rw [← h2.length]
    exact List.getElem?_eq_none_iff.mp (Option.some.inj h3)
  | @tup a xs ds hs hr =>
    have h3 : some ds[i]? = some none := h
    refine ⟨xs, hs, ?_⟩
    rw [← hr.length]
    exact List.getElem?_eq_none_iff.mp (Option.some.inj h3)
  | rng lo n =>
    have h3 : some (if i < n then some (D.int (lo + i)) else none) = some none := h
    by_cases hl : i < n
    · rw [if_pos hl] at h3; cases h3
    · exact Nat.le_of_not_lt hl
  | rngc lo c n =>
    have h3 : some (if i < n then some (D.int (lo + i * c)) else none) = some none := h
    by_cases hl : i < n
    · rw [if_pos hl] at h3; cases h3
    · exact Nat.le_of_not_lt hl
  | str x =>
    have h3 : some (x.cps[i]?.map fun c => D.str ⟨#[c]⟩) = some none := h
    have h4 := Option.some.inj h3
    rw [Option.map_eq_none_iff] at h4
    exact Array.getElem?_eq_none_iff.mp h4
  | @enumL j a hj =>
    obtain ⟨ds, xs, h1, h2, h3⟩ := seq_at (A := Unit) (f := fun ds => some (ds[i]?.map fun d => D.tup [.int i, d])) r hj h
    refine ⟨xs, h1, ?_⟩
    rw [← h2.length]
    have h4 := Option.some.inj h3
    rw [Option.map_eq_none_iff] at h4
    exact List.getElem?_eq_none_iff.mp h4
  | @enumT a xs ds hs hr =>
    have h3 : some (ds[i]?.map fun d => D.tup [.int i, d]) = some none := h
    refine ⟨xs, hs, ?_⟩
    rw [← hr.length]
    have h4 := Option.some.inj h3
    rw [Option.map_eq_none_iff] at h4
    exact List.getElem?_eq_none_iff.mp h4
  | enumS x =>
    have h3 : some (x.cps[i]?.map fun c => D.tup [.int i, .str ⟨#[c]⟩]) = some none := h
    have h4 := Option.some.inj h3
    rw [Option.map_eq_none_iff] at h4
    exact Array.getElem?_eq_none_iff.mp h4
theorem src_go {K : PySem.W.Frag} {H : Hp} {m : List Addr} {S : Sto} {s : Sr} {J : It} {i : Nat} {d : D} (r : SR K H m S) (j : JR K H m s J) (h : srcAt s i S = some (some d)) :
    J.go i H ∧ ∀ x H', J.yld i H x H' → Ext H m H' m ∧ SR K H' m S ∧ RV K H' m d x := by
  cases j with
  | @lst j a hj =>
    obtain ⟨ds, xs, h1, h2, h3⟩ := seq_at (A := Unit) (f := fun ds => some ds[i]?) r hj h
    obtain ⟨v, h4, h5⟩ := h2.get (Option.some.inj h3)
    refine ⟨⟨xs, v, h1, h4⟩, fun x H' y => ?_⟩
    obtain ⟨e, y⟩ := y
    subst e
    have q := y xs h1
    rw [h4] at q
    cases q
    exact ⟨Ext.refl _ _, r, h5⟩
  | @tup a xs ds hs hr =>
    have h3 : some ds[i]? = some (some d) := h
    obtain ⟨v, h4, h5⟩ := hr.get (Option.some.inj h3)
    refine ⟨⟨xs, v, hs, h4⟩, fun x H' y => ?_⟩
    obtain ⟨e, y⟩ := y
    subst e
    have q := y xs hs
    rw [h4] at q
    cases q
    exact ⟨Ext.refl _ _, r, h5⟩
  | rng lo n =>
    have h3 : some (if i < n then some (D.int (lo + i)) else none) = some (some d) := h
    by_cases hl : i < n
    · rw [if_pos hl] at h3
      cases h3
      refine ⟨hl, fun x H' y => ?_⟩
      obtain ⟨e, y⟩ := y
      subst e y
      exact ⟨Ext.refl _ _, r, .int _⟩
    · rw [if_neg hl] at h3; cases h3
  | rngc lo c n =>
    have h3 : some (if i < n then some (D.int (lo + i * c)) else none) = some (some d) := h
    by_cases hl : i < n
    · rw [if_pos hl] at h3
      cases h3
      refine ⟨hl, fun x H' y => ?_⟩
      obtain ⟨e, y⟩ := y
      subst e y
      exact ⟨Ext.refl _ _, r, .int _⟩
    · rw [if_neg hl] at h3; cases h3
  | str x =>
    have h3 : some (x.cps[i]?.map fun c => D.str ⟨#[c]⟩) = some (some d) := h
    obtain ⟨c, h4, h5⟩ := Option.map_eq_some_iff.mp (Option.some.inj h3)
    refine ⟨(Array.getElem?_eq_some_iff.mp h4).1, fun y H' z => ?_⟩
    obtain ⟨e, c', q1, q2⟩ := z
    subst e
    rw [h4] at q1
    cases q1
    rw [q2, ← h5]
    exact ⟨Ext.refl _ _, r, .str _⟩
  | @enumL j a hj =>
    obtain ⟨ds, xs, h1, h2, h3⟩ := seq_at (A := Unit) (f := fun ds => some (ds[i]?.map fun d => D.tup [.int i, d])) r hj h
    obtain ⟨d', h4, h5⟩ := Option.map_eq_some_iff.mp (Option.some.inj h3)
    obtain ⟨v, h6, h7⟩ := h2.get h4
    refine ⟨⟨xs, v, h1, h6⟩, fun x H' y => ?_⟩
    obtain ⟨T, x', e1, e2, e3, y⟩ := y
    have q := y xs h1
    rw [h6] at q
    cases q
    subst e3
    rw [e1, ← h5]
    exact ⟨ext_new r e2, sr_new r e2, .tup (SqT.of upd_same) (.cons (.int _) (.cons (h7.mono r (ext_new r e2)) .nil))⟩
  | @enumT a xs ds hs hr =>
    have h3 : some (ds[i]?.map fun d => D.tup [.int i, d]) = some (some d) := h
    obtain ⟨d', h4, h5⟩ := Option.map_eq_some_iff.mp (Option.some.inj h3)
    obtain ⟨v, h6, h7⟩ := hr.get h4
    refine ⟨⟨xs, v, hs, h6⟩, fun x H' y => ?_⟩
    obtain ⟨T, x', e1, e2, e3, y⟩ := y
    have q := y xs hs
    rw [h6] at q
    cases q
    subst e3
    rw [e1, ← h5]
    exact ⟨ext_new r e2, sr_new r e2, .tup (SqT.of upd_same) (.cons (.int _) (.cons (h7.mono r (ext_new r e2)) .nil))⟩
  | enumS x =>
    have h3 : some (x.cps[i]?.map fun c => D.tup [.int i, .str ⟨#[c]⟩]) = some (some d) := h
    obtain ⟨c, h4, h5⟩ := Option.map_eq_some_iff.mp (Option.some.inj h3)
    refine ⟨(Array.getElem?_eq_some_iff.mp h4).1, fun y H' z => ?_⟩
    obtain ⟨T, c', e1, e2, e3, e4⟩ := z
    rw [h4] at e3
    cases e3
    subst e4
    rw [e1, ← h5]
    exact ⟨ext_new r e2, sr_new r e2, .tup (SqT.of upd_same) (.cons (.int _) (.cons (.str _) .nil))⟩
def SndI (E : EX) (H0 : Hp) (m0 : List Addr) (X : Cx) (ev : En → Sto → R Sr) (tg e : Expr) : Prop := ∀ (q : En) (S : Sto) (qV : L2.St) (H : Hp) (m : List Addr), ST X.K H0 m0 q S qV H m → ∀ (Qd : Sr → Sto → Prop) (Q : It → Hp → Prop),
  (ev q S).holds Qd (fun x S' => E x q S') → (∀ d S' J H' m', Qd d S' → Ext H m H' m' → SR X.K H' m' S' → JR X.K H' m' d J → Q J H') → WI X tg e qV H Q
theorem sni_seq {tg : Expr} (ha : SndE E H0 m0 X ea a) : SndI E H0 m0 X (fun q S => (ea q S).bind fun d S => seqS d S) tg a := by
  intro q S qV H m st Qd Q hh kk
  have hh2 := holds_bind.mp hh
  cases e : ea q S with
  | stk => rw [e] at hh2; exact hh2.elim
  | exn x S' =>
    refine ⟨_, pi_list pe_w, ha q S qV H m st _ _ (holds_isE hh2) fun d S1 v H1 m1 h1 e1 s1 r1 => ?_⟩
    rw [e] at h1
    cases h1.1
  | ok d0 S0 =>
    cases d0 with
    | tup ds0 =>
      refine ⟨_, pi_tup pe_w, ha q S qV H m st _ _ (holds_isE hh2) fun d S1 v H1 m1 h1 e1 s1 r1 => ?_⟩
      obtain ⟨z, h1⟩ := h1
      rw [e] at z
      cases z
      cases r1 with
      | @tup a xs _ hs hr => exact ⟨a, rfl, ⟨xs, hs⟩, kk _ S0 _ H1 m1 h1 e1 s1 (.tup hs hr)⟩
    | str x0 =>
      refine ⟨_, pi_str pe_w, ha q S qV H m st _ _ (holds_isE hh2) fun d S1 v H1 m1 h1 e1 s1 r1 => ?_⟩
      obtain ⟨z, h1⟩ := h1
      rw [e] at z
      cases z
      cases r1
      exact ⟨x0, rfl, kk _ S0 _ H1 m1 h1 e1 s1 (.str x0)⟩
    | ref j =>
      refine ⟨_, pi_list pe_w, ha q S qV H m st _ _ (holds_isE hh2) fun d S1 v H1 m1 h1 e1 s1 r1 => ?_⟩
      obtain ⟨z, h1⟩ := h1
      rw [e] at z
      cases z
      obtain ⟨hk, h1⟩ := holds_ifR (show (ifR (seqD S0 (.ref j)).isSome (.ok (.lst j) S0) : R Sr).holds _ _ from h1)
      obtain ⟨ds, hds⟩ := Option.isSome_iff_exists.mp hk
      cases r1 with
      | @ref _ a hj =>
        obtain ⟨xs, h2, _⟩ := ref_list s1 hj hds
        exact ⟨a, rfl, ⟨xs, h2⟩, kk _ S0 _ H1 m1 h1 e1 s1 (.lst hj)⟩
    | _ => rw [e] at hh2; exact hh2.elim
theorem sni_enum {elts : List Expr} {kz : Nat} {tpos p0 : Pos} (sx : SX xc g p cl k c E H0 m0 X) (hm : g.blts.contains "enumerate" = true) (hg : glB c.sc "enumerate" = true) (hs : nostar a = true) (ha : SndE E H0 m0 X ea a) : SndI E H0 m0 X (fun q S => (ea q S).bind fun d S => enumS d S) (.Tuple elts kz tpos) (.Call (.Name "enumerate" p0) [a] [] pos) := by
  intro q S qV H m st Qd Q hh kk
  have hh2 := holds_bind.mp hh
  cases e : ea q S with
  | stk => rw [e] at hh2; exact hh2.elim
  | exn x S' =>
    refine ⟨_, pi_enum (sx.gl hg) (sx.gok.blt _ hm) (pa_cons pe_w pa_nil (star1 hs)) (star1 hs), ha q S qV H m st _ _ (holds_isE hh2) fun d S1 v H1 m1 h1 e1 s1 r1 => ?_⟩
    rw [e] at h1
    cases h1.1
  | ok d0 S0 =>
    cases d0 with
    | ref j =>
      refine ⟨_, pi_enum (sx.gl hg) (sx.gok.blt _ hm) (pa_cons pe_w pa_nil (star1 hs)) (star1 hs), ha q S qV H m st _ _ (holds_isE hh2) fun d S1 v H1 m1 h1 e1 s1 r1 => ?_⟩
      obtain ⟨z, h1⟩ := h1
      rw [e] at z
      cases z
      cases r1 with
      | @ref j a hj =>
        obtain ⟨hk, h1⟩ := holds_ifR (show (ifR (seqD S0 (.ref j)).isSome (.ok (.enumL j) S0) : R Sr).holds _ _ from h1)
        obtain ⟨ds, hds⟩ := Option.isSome_iff_exists.mp hk
        obtain ⟨xs, h2, _⟩ := ref_list s1 hj hds
        exact ⟨a, xs, rfl, h2, kk _ S0 _ H1 m1 h1 e1 s1 (.enumL hj)⟩
    | tup ds0 =>
      refine ⟨_, pi_enumT (sx.gl hg) (sx.gok.blt _ hm) (pa_cons pe_w pa_nil (star1 hs)) (star1 hs), ha q S qV H m st _ _ (holds_isE hh2) fun d S1 v H1 m1 h1 e1 s1 r1 => ?_⟩
      obtain ⟨z, h1⟩ := h1
      rw [e] at z
      cases z
      cases r1 with
      | @tup a xs _ hs' hr => exact ⟨a, xs, rfl, hs', kk _ S0 _ H1 m1 h1 e1 s1 (.enumT hs' hr)⟩
    | str x0 =>
      refine ⟨_, pi_enumS (sx.gl hg) (sx.gok.blt _ hm) (pa_cons pe_w pa_nil (star1 hs)) (star1 hs), ha q S qV H m st _ _ (holds_isE hh2) fun d S1 v H1 m1 h1 e1 s1 r1 => ?_⟩
      obtain ⟨z, h1⟩ := h1
      rw [e] at z
      cases z
      cases r1
      exact ⟨x0, rfl, kk _ S0 _ H1 m1 h1 e1 s1 (.enumS x0)⟩
    | _ => rw [e] at hh2; exact hh2.elim
theorem sni_rng {tg : Expr} {as : CEs} {es : List Expr} {p0 : Pos} (sx : SX xc g p cl k c E H0 m0 X) (hm : g.blts.contains "range" = true) (hg : glB c.sc "range" = true) (hl : 1 ≤ es.length ∧ es.length ≤ 3) (al : AllE p cl E H0 m0 X as es) :
    SndI E H0 m0 X (fun q S => (evEs p cl as q S).bind fun ds S => rngS ds S) tg (.Call (.Name "range" p0) es [] pos) := by
  intro q S qV H m st Qd Q hh kk
  have hs := al.stars
  match es, hl, al, hs with
  | [e], _, al, hs =>
    refine ⟨_, pi_range1 (sx.gl hg) (sx.gok.blt _ hm) pa_w (star1 (hs e (by simp))), al.args q S qV H m st _ _ (holds_bind.mp hh) fun ds S1 vs H1 m1 h1 hl2 e1 s1 r1 => ?_⟩
    obtain ⟨d, v, rfl, rfl, rv⟩ := one1 r1 hl2
    cases rv with
    | int j =>
      obtain ⟨hc, h2⟩ := holds_ifR (show (ifR (decide (-(2 ^ 62) ≤ j ∧ j < 2 ^ 62)) (.ok (.rng 0 j.toNat) S1) : R Sr).holds _ _ from h1)
      have hc' := of_decide_eq_true hc
      exact ⟨j, rfl, hc'.1, hc'.2, kk _ S1 _ H1 m1 h2 e1 s1 (.rng _ _)⟩
    | _ => exact h1.elim
  | [e, e2], _, al, hs =>
    refine ⟨_, pi_range2 (sx.gl hg) (sx.gok.blt _ hm) pa_w (by rw [star1 (hs e (by simp)), star1 (hs e2 (by simp))]; rfl) (star1 (hs e2 (by simp))), al.args q S qV H m st _ _ (holds_bind.mp hh) fun ds S1 vs H1 m1 h1 hl2 e1 s1 r1 => ?_⟩
    obtain ⟨d, v, d2, v2, rfl, rfl, rv, rv2⟩ := one2 r1 hl2
    cases rv with
    | int i =>
      cases rv2 with
      | int j =>
        obtain ⟨hc, h2⟩ := holds_ifR (show (ifR (decide (-(2 ^ 62) ≤ i ∧ i < 2 ^ 62 ∧ -(2 ^ 62) ≤ j ∧ j < 2 ^ 62)) (.ok (.rng i (j - i).toNat) S1) : R Sr).holds _ _ from h1)
        exact ⟨i, j, rfl, of_decide_eq_true hc, kk _ S1 _ H1 m1 h2 e1 s1 (.rng _ _)⟩
      | _ => exact h1.elim
    | _ => cases rv2 <;> exact h1.elim
  | [e, e2, e3], _, al, hs =>
    refine ⟨_, pi_range3 (sx.gl hg) (sx.gok.blt _ hm) pa_w (star1 (hs e (by simp))) (back1 fun y hy => hs y (List.mem_cons_of_mem _ hy)), al.args q S qV H m st _ _ (holds_bind.mp hh) fun ds S1 vs H1 m1 h1 hl2 e1 s1 r1 => ?_⟩
    cases r1 with
    | nil => cases hl2
    | cons rv r1 =>
      rw [List.length_cons] at hl2
      obtain ⟨d2, v2, d3, v3, rfl, rfl, rv2, rv3⟩ := one2 r1 (Nat.succ.inj hl2)
      cases rv with
      | int i =>
        cases rv2 with
        | int j =>
          cases rv3 with
          | int l =>
            obtain ⟨hc, h2⟩ := holds_ifR (show (ifR (decide (l ≠ 0 ∧ l.natAbs < 1073741824) && Builtin.Range.small i j l && decide (0 ≤ Builtin.Range.rangeSize i j l)) (.ok (.rngc i l (Builtin.Range.rangeSize i j l).toNat) S1) : R Sr).holds _ _ from h1)
            rw [Bool.and_eq_true, Bool.and_eq_true] at hc
            have hc1 := of_decide_eq_true hc.1.1
            have hc2 := of_decide_eq_true hc.2
            exact ⟨i, j, l, _, rfl, ⟨hc1.1, hc1.2, hc.1.2, by omega⟩, kk _ S1 _ H1 m1 h2 e1 s1 (.rngc _ _ _)⟩
          | _ => exact h1.elim
        | _ => cases rv3 <;> exact h1.elim
      | _ => cases rv2 <;> (cases rv3 <;> exact h1.elim)
/-! ### isinstance, list(range(..)) -/
theorem typ_of {S : Sto} {d : D} {v : V} {t : Nat} (s : SR K H m S) (r : RV K H m d v) (h : typD S d = some t) : TyX K H v (.type (TN t)) := by
  cases r with
  | non => cases h; exact .base .non
  | bl b => cases h; exact .base (.bl b)
  | int i => cases h; exact .base (.int i)
  | str x => cases h; exact .base (.str x)
  | cl hs _ =>
    cases h
    obtain ⟨o, its, n, h1, h2, _⟩ := hs
    exact .kList h1 h2
  | @tup a xs ds hs hr =>
    cases h
    rcases hs with (hs | ⟨o, hs⟩) | ⟨o, its, n, h1, h2, _⟩
    · exact .base (.tup hs)
    · exact .fTuple hs
    · exact .kTuple h1 h2
  | @ref i a hi =>
    have h' : (match S[i]? with | some (.lst _) => some 4 | some (.fz _) => some 4 | some (.dk _) => some 5 | none => none) = some t := h
    cases e : S[i]? with
    | none => rw [e] at h'; cases h'
    | some o =>
      rw [e] at h'
      obtain ⟨ho, h1, h2⟩ := s.at_ i a _ hi e
      cases h2 with
      | lst _ => cases h'; exact .base (.lst h1)
      | fz _ => cases h'; exact .base (.frz h1)
      | dk _ _ => cases h'; exact .base (.dK h1)
theorem kit_tn : ∀ t < 7, t ≠ 6 ∨ t = 6 → ∀ c < 6, kitB (TN t) (TN c) = some (isiD t c) := by decide +kernel
theorem typD_lt {S : Sto} {d : D} {t : Nat} (h : typD S d = some t) : t < 7 := by
  cases d with
  | ref i =>
    have h' : (match S[i]? with | some (.lst _) => some 4 | some (.fz _) => some 4 | some (.dk _) => some 5 | none => none) = some t := h
    cases e : S[i]? with
    | none => rw [e] at h'; cases h'
    | some o =>
      rw [e] at h'
      cases o <;> (cases h'; decide)
  | _ => cases h <;> decide
theorem boot_tn : ∀ t < 6, bootBuiltins (Str.ofString (TN t)) = some (.type (TN t)) := by decide +kernel
theorem tys_pe (sx : SX xc g p cl k c E H0 m0 X) : ∀ {ts : List Nat} {es : List Expr}, tysB g c.sc ts es = true → PA X es (fun q H Q => Q (ts.map fun t => V.ty (TN t)) H) ∧ (∀ y ∈ es, nostar y = true) ∧ ∀ t ∈ ts, t < 6
  | [], [], _ => ⟨pa_nil, fun y hy => (by cases hy), fun t ht => (by cases ht)⟩
  | [], _ :: _, h => (Bool.false_ne_true h).elim
  | t :: ts, [], h => (Bool.false_ne_true h).elim
  | t :: ts, e :: es, h => by
    cases e with
    | Name x px =>
      have h' : (decide (t < 6) && decide (x = Str.ofString (TN t)) && g.blts.contains x && glB c.sc x && okN x && tysB g c.sc ts es) = true := h
      simp only [Bool.and_eq_true, decide_eq_true_eq] at h'
      obtain ⟨⟨⟨⟨⟨h1, h2⟩, h3⟩, h4⟩, h5⟩, h6⟩ := h'
      obtain ⟨i1, i2, i3⟩ := tys_pe sx h6
      subst h2
      have hp : PE X (.Name (Str.ofString (TN t)) px) (tC (.ty (TN t))) := pe_bltn (sx.gl h4) (sx.gok.blt _ h3) (boot_tn t h1) rfl (okN_n h5) (okN_d h5)
      refine ⟨pa_cons hp i1 (star1 rfl), fun y hy => ?_, fun u hu => ?_⟩
      · rcases List.mem_cons.mp hy with rfl | hy
        · rfl
        · exact i2 y hy
      · rcases List.mem_cons.mp hu with rfl | hu
        · exact h1
        · exact i3 u hu
    | _ => exact (Bool.false_ne_true h).elim
theorem kit_any {K : PySem.W.Frag} {t : Nat} (ht : t < 7) : ∀ {ts : List Nat}, (∀ c ∈ ts, c < 6) → PySem.W.kitAny K (.type (TN t)) (ts.map fun c => Value.type (TN c)) = some (ts.any (isiD t))
  | [], _ => rfl
  | c :: ts, h => by
    refine kitAny_cons (b := isiD t c) (kit_ty (kit_tn t ht (by omega) c (h c List.mem_cons_self))) (fun hb => ?_) fun hb => ?_
    · rw [List.any_cons, hb, Bool.false_or]
      exact kit_any ht fun c hc => h c (List.mem_cons_of_mem _ hc)
    · rw [List.any_cons, hb, Bool.true_or]
theorem pair_ty : ∀ ts : List Nat, Paired ClsV (ts.map fun c => V.ty (TN c)) (ts.map fun c => Value.type (TN c))
  | [] => .nil
  | c :: ts => .cons (.ty _) (pair_ty ts)
theorem boot_isi : bootBuiltins "isinstance" = some (.builtin "isinstance") := by decide +kernel
theorem snd_isi1 (sx : SX xc g p cl k c E H0 m0 X) {t0 : Nat} {y : Expr} {p0 : Pos} (hm : g.blts.contains "isinstance" = true) (hg : glB c.sc "isinstance" = true) (hs : nostar a = true) (hy : tysB g c.sc [t0] [y] = true) (ha : SndE E H0 m0 X ea a) :
    SndE E H0 m0 X (fun q S => (ea q S).bind fun d S => optB (typD S d) fun t => .ok (.bl ([t0].any (isiD t))) S) (.Call (.Name "isinstance" p0) [a, y] [] pos) := by
  obtain ⟨h1, h2, h3⟩ := tys_pe sx hy
  intro q S qV H m st Qd Q hh kk
  refine ⟨_, pe_callB call_isi (sx.gl hg) (sx.gok.blt _ hm) boot_isi (pa_cons pe_w h1 (star1 hs)) (by decide +kernel) (by decide +kernel) (star1 hs) (back1 h2), ha q S qV H m st _ _ (holds_bind.mp hh) fun d S1 v H1 m1 g1 e1 s1 r1 => ?_⟩
  obtain ⟨t, g2, g3⟩ := holds_mt g1
  have ht := h3 t0 (by simp)
  refine ⟨v, .ty (TN t0), .type (TN t), .type (TN t0), isiD t t0, rfl, .ty _, typ_of s1 r1 g2, kit_ty (kit_tn t (typD_lt g2) (by omega) t0 ht), ?_⟩
  rw [List.any_cons, List.any_nil, Bool.or_false] at g3
  exact kk _ S1 _ H1 m1 g3 e1 s1 (.bl _)
theorem snd_isiT (sx : SX xc g p cl k c E H0 m0 X) {ts : List Nat} {l : List Expr} {nk : Nat} {p0 p2 : Pos} (hm : g.blts.contains "isinstance" = true) (hg : glB c.sc "isinstance" = true) (hs : nostar a = true) (hlen : ts.length < 20) (hy : tysB g c.sc ts l = true) (ha : SndE E H0 m0 X ea a) :
    SndE E H0 m0 X (fun q S => (ea q S).bind fun d S => optB (typD S d) fun t => .ok (.bl (ts.any (isiD t))) S) (.Call (.Name "isinstance" p0) [a, .Tuple l nk p2] [] pos) := by
  obtain ⟨h1, h2, h3⟩ := tys_pe sx hy
  intro q S qV H m st Qd Q hh kk
  refine ⟨_, pe_callB call_isiT (sx.gl hg) (sx.gok.blt _ hm) boot_isi (pa_cons pe_w (pa_cons (pe_tup h1) pa_nil (star1 rfl)) (star1 hs)) (by decide +kernel) (by decide +kernel) (star1 hs) (back1 fun y hy => by rw [List.mem_singleton.mp hy]; rfl), ha q S qV H m st _ _ (holds_bind.mp hh) fun d S1 v H1 m1 g1 e1 s1 r1 => ?_⟩
  obtain ⟨t, g2, g3⟩ := holds_mt g1
  refine ⟨?_, fun T hT => ?_⟩
  · rw [List.length_map]
    exact Nat.le_trans (Nat.le_of_lt hlen) (by decide)
  · have ex : Ext H1 m1 (upd H1 T (.tup (ts.map fun t => V.ty (TN t)))) m1 := ext_new s1 hT
    have s2 := sr_new (o := .tup (ts.map fun t => V.ty (TN t))) s1 hT
    exact ⟨v, T, _, .type (TN t), _, _, rfl, upd_same, pair_ty ts, typ_of s2 (r1.mono s1 ex) g2, kit_any (typD_lt g2) h3, kk _ S1 _ _ m1 g3 (e1.trans ex) s2 (.bl _)⟩
/-- list(range(a, b, c)) -/
def rgVC (i c : Int) (n : Nat) : List V := (List.range n).map fun t => V.int (i + (t : Nat) * c)
def tLrg3 (ta tb tc : TE) : TE := fun σ H Q => ta σ H fun x H1 => tb σ H1 fun y H2 => tc σ H2 fun z H3 => ∃ (i j c : Int) (n : Nat), x = .int i ∧ y = .int j ∧ z = .int c ∧ c ≠ 0 ∧ c.natAbs < 1073741824 ∧ Builtin.Range.small i j c = true ∧ Builtin.Range.rangeSize i j c = n ∧ n ≤ 2 ^ 24 ∧ ∀ q, H3 q = none → Q (.ref q) (upd H3 q (.lst (rgVC i c n)))
theorem vals_rgC {i c : Int} {n : Nat} {acc : Array Value} (h : ItemsOf (fun j v => ∃ t, v = .int (i + j * c) t) acc n) : Vals (rgVC i c n) acc.toList := by
  have e : acc.toList.length = n := by rw [Array.length_toList]; exact h.1
  unfold rgVC
  rw [← e]
  refine vals_of_get acc.toList _ fun j u hj => ?_
  obtain ⟨t, rfl⟩ := h.2 j u (by rw [← hj, Array.getElem?_toList])
  exact ⟨t, rfl⟩
theorem prg_3 {x y z : Expr} {ta : TA} {p pos : Pos} (hg : Gl X "range") (hm : X.mg "range" = none) (ha : PA X [x, y, z] ta) (na : nostar x = true) (nb : nostar y = true) (nd : nostar z = true) (pins : List (Addr × Obj)) (s : Shared) (σ : L2.St) (H : Hp) (R : Int → Int → Int → Nat → Hp → Prop) (I : L2.Inv X pins σ H s)
    (h : ta σ H fun vs H1 => ∃ (i j c : Int) (n : Nat), vs = [.int i, .int j, .int c] ∧ RgC i j c n ∧ R i j c n H1) :
    wpAny (model X.prog X.w) X.A (eval (.Call (.Name "range" p) [x, y, z] [] pos) X.env) (fun v s' => ∃ r i j c n t u w H', v = .ref r ∧ PySem.IsRange s'.heap r i j c t u w ∧ RgC i j c n ∧ L2.Inv X pins σ H' s' ∧ R i j c n H') X.xe s := by
  refine PyProof.Rows.Call_ (ld_blt I hg hm PyProof.Rows.boot_range (PyProof.Rows.callWith_type1 (thn (ha.run pos pins s σ H _ I h) fun us s1 ⟨vs, H1, I1, r1, q1⟩ => ?_) (star1 na) (back1 fun e he => by
    rcases List.mem_cons.mp he with rfl | he
    · exact nb
    · rw [List.mem_singleton.mp he]
      exact nd)))
  obtain ⟨i, j, k, n, e, hr, q⟩ := q1
  subst e
  cases r1 with
  | cons r rr =>
    cases rr with
    | cons r' rr =>
      cases rr with
      | cons r'' rr =>
        cases rr
        obtain ⟨t, rfl⟩ := r
        obtain ⟨t', rfl⟩ := r'
        obtain ⟨t'', rfl⟩ := r''
        refine call_range_3 hr.1 ?_ (.inl (PyProof.noPylong_small hr.2.1))
        exact ⟨_, i, j, k, n, _, _, _, H1, rfl, IsRange.new _ _ _ _ _ _ _, hr, I1.kept fun b u e => Heap.get?_push_of_some _ e, q⟩
theorem pe_lrg3 {x y z : Expr} {ta : TA} {p0 p1 p2 pos : Pos} (hc : X.calm = true) (hg : Gl X "list") (hm : X.mg "list" = none) (hg2 : Gl X "range") (hm2 : X.mg "range" = none) (ha : PA X [x, y, z] ta) (na : nostar x = true) (nb : nostar y = true) (nd : nostar z = true) :
    PE X (.Call (.Name "list" p0) [.Call (.Name "range" p1) [x, y, z] [] p2] [] pos) (fun σ H Q => ta σ H fun vs H1 => ∃ (i j c : Int) (n : Nat), vs = [.int i, .int j, .int c] ∧ RgC i j c n ∧ n ≤ 2 ^ 24 ∧ ∀ q, H1 q = none → Q (.ref q) (upd H1 q (.lst (rgVC i c n)))) := by
  refine ⟨fun pins s σ H Q I h => ?_⟩
  have h' : ta σ H fun vs H1 => ∃ (i j c : Int) (n : Nat), vs = [.int i, .int j, .int c] ∧ RgC i j c n ∧ (n ≤ 2 ^ 24 ∧ ∀ q, H1 q = none → Q (.ref q) (upd H1 q (.lst (rgVC i c n)))) := h
  refine PyProof.Rows.Call_ (ld_blt I hg hm PyProof.Rows.boot_list (PyProof.Rows.callWith_type1 (PyProof.Rows.args_cons (thn (prg_3 (p := p1) (pos := p2) hg2 hm2 ha na nb nd pins s σ H (fun i j c n H1 => n ≤ 2 ^ 24 ∧ ∀ q, H1 q = none → Q (.ref q) (upd H1 q (.lst (rgVC i c n)))) I h') fun v s1 ⟨r, i, j, c, n, t, u, w, H1, ev, hr, hg, I1, hn, q⟩ => PyProof.Rows.args_nil ?_) (star1 rfl)) (star1 rfl)))
  subst ev
  refine call_list_range (n := n) (I1.ok.hd hc) hr hg.2.2.1 hg.2.2.2 hn fun h' tk acc c' hk e' hi => ?_
  refine ⟨.ref _, upd H1 _ (.lst (rgVC i c n)), I1.laid hk (Nat.le_refl _) (show ObjOk X.prog X.w _ _ _ (.lst (rgVC i c n)) from ⟨?_, acc.toList, c', vals_rgC hi, ?_⟩), rfl, q _ (I1.hok.fresh (Nat.le_refl _))⟩
  · unfold rgVC
    rw [List.length_map, List.length_range, sizeLine_eq]
    omega
  · rw [Array.toArray_toList]
    exact e'
theorem snd_lrng (sx : SX xc g p cl k c E H0 m0 X) {as : CEs} {es : List Expr} {p0 p1 p2 : Pos} (hm : g.blts.contains "list" = true) (hg : glB c.sc "list" = true) (hm2 : g.blts.contains "range" = true) (hg2 : glB c.sc "range" = true) (hl : 1 ≤ es.length ∧ es.length ≤ 3) (al : AllE p cl E H0 m0 X as es) :
    SndE E H0 m0 X (fun q S => (evEs p cl as q S).bind fun ds S => lrD ds S) (.Call (.Name "list" p0) [.Call (.Name "range" p1) es [] p2] [] pos) := by
  have go : ∀ {q : En} {S1 : Sto} {H H1 : Hp} {m m1 : List Addr} {i j : Int} {Qd : D → Sto → Prop} {Q : VK}, SR X.K H1 m1 S1 → (lrR i j S1).holds Qd (fun x S' => E x q S') → Ext H m H1 m1 → (∀ d S' v H' m', Qd d S' → Ext H m H' m' → SR X.K H' m' S' → RV X.K H' m' d v → Q v H') →
      RgOk i j ∧ ∀ y, H1 y = none → Q (.ref y) (upd H1 y (.lst (rgV i j))) := by
    intro q S1 H H1 m m1 i j Qd Q s1 h1 e1 kk
    obtain ⟨hc, h2⟩ := holds_ifR h1
    have hc := of_decide_eq_true hc
    have e1' : LM = 100000 := rfl
    rw [e1'] at hc
    refine ⟨RgOk.of_le hc.1 (by omega) (by omega) hc.2.2.1, fun y hy => ?_⟩
    have rr : RVs X.K H1 m1 (rgD i j) (rgV i j) := by
      unfold rgD rgV
      generalize List.range (j - i).toNat = l
      induction l with
      | nil => exact .nil
      | cons n l ih => exact .cons (.int _) ih
    exact post_lst s1 rr (Q := Q) (fun v H' m' e' s' r' => kk _ _ v H' m' h2 (e1.trans e') s' r') y hy
  intro q S qV H m st Qd Q hh kk
  have hs := al.stars
  have al0 := al
  have hh0 := hh
  cases al with
  | nil => exact absurd hl.1 (by decide)
  | @cons a1 as1 e es hs1 ha1 _ al1 =>
    have hh : ((evE p cl a1 q S).bind fun d S => (evEs p cl as1 q S).bind fun ds S => .ok (d :: ds) S).bind (fun ds S => lrD ds S) |>.holds Qd (fun x S' => E x q S') := hh
    cases al1 with
    | nil =>
      refine ⟨_, pe_listRg sx.calm (sx.gl hg) (sx.gok.blt _ hm) (prg_1 (sx.gl hg2) (sx.gok.blt _ hm2) pe_w (star1 hs1)) (star1 rfl), ha1 q S qV H m st _ _ (holds_bind.mp (holds_bind.mp hh)) fun d S1 v H1 m1 h1 e1 s1 r1 => ?_⟩
      have h1 : (lrD [d] S1).holds Qd (fun x S' => E x q S') := h1
      cases r1 with
      | int j => exact ⟨j, rfl, go s1 h1 e1 kk⟩
      | _ => exact h1.elim
    | @cons a2 as2 e2 es hs2 ha2 _ al2 =>
      cases al2 with
      | @cons a3 as3 e3 es3 hs3 ha3 _ al3 =>
        cases al3 with
        | cons _ _ _ _ => exact absurd hl.2 (by simp only [List.length_cons]; omega)
        | nil =>
          refine ⟨_, pe_lrg3 sx.calm (sx.gl hg) (sx.gok.blt _ hm) (sx.gl hg2) (sx.gok.blt _ hm2) pa_w hs1 hs2 hs3, al0.args q S qV H m st _ _ (holds_bind.mp hh0) fun ds S1 vs H1 m1 h1 hln e1 s1 r1 => ?_⟩
          cases r1 with
          | nil => cases hln
          | cons r1 rr =>
            cases rr with
            | nil => cases hln
            | cons r2 rr =>
              cases rr with
              | nil => cases hln
              | cons r3 rr =>
                cases rr with
                | cons _ _ => simp at hln
                | nil =>
                  rename_i d1 v1 d2 v2 d3 v3
                  cases r1 with
                  | int i =>
                    cases r2 with
                    | int j =>
                      cases r3 with
                      | int c =>
                        have h1 : (lr3 i j c S1).holds Qd (fun x S' => E x q S') := h1
                        obtain ⟨hc, h2⟩ := holds_ifR h1
                        simp only [Bool.and_eq_true, decide_eq_true_eq] at hc
                        obtain ⟨⟨⟨c0, c1⟩, c2⟩, c3, c4⟩ := hc
                        have e1' : LM = 100000 := rfl
                        rw [e1'] at c4
                        refine ⟨i, j, c, (Builtin.Range.rangeSize i j c).toNat, rfl, ⟨c0, c1, c2, (Int.toNat_of_nonneg c3).symm⟩, by omega, fun y hy => ?_⟩
                        have rr : ∀ l : List Nat, RVs X.K H1 m1 (l.map fun t => D.int (i + (t : Nat) * c)) (l.map fun t => V.int (i + (t : Nat) * c)) := fun l => by
                          induction l with
                          | nil => exact .nil
                          | cons n l ih => exact .cons (.int _) ih
                        exact post_lst s1 (rr (List.range (Builtin.Range.rangeSize i j c).toNat)) (Q := Q) (fun v H' m' e' s' r' => kk _ _ v H' m' h2 (e1.trans e') s' r') y hy
                      | _ => exact h1.elim
                    | _ => cases r3 <;> exact h1.elim
                  | _ => cases r2 <;> cases r3 <;> exact h1.elim
      | nil =>
        refine ⟨_, pe_listRg sx.calm (sx.gl hg) (sx.gok.blt _ hm) (prg_2 (sx.gl hg2) (sx.gok.blt _ hm2) pe_w pe_w (star1 hs1) (star1 hs2) (back1 fun y hy => by rw [List.mem_singleton.mp hy]; exact hs2)) (star1 rfl),
          ha1 q S qV H m st _ _ (holds_bind.mp (holds_bind.mp hh)) fun d S1 v H1 m1 h1 e1 s1 r1 => ?_⟩
        have h1 : (((evE p cl a2 q S1).bind fun d2 S => .ok [d2] S).bind fun ds S => .ok (d :: ds) S).holds (fun ds S => (lrD ds S).holds Qd (fun x S' => E x q S')) (fun x S' => E x q S') := h1
        refine ha2 q S1 qV H1 m1 (st.go e1 s1) _ _ (holds_bind.mp (holds_bind.mp h1)) fun d2 S2 v2 H2 m2 h2 e2 s2 r2 => ?_
        have h2 : (lrD [d, d2] S2).holds Qd (fun x S' => E x q S') := h2
        cases r1 with
        | int i =>
          cases r2 with
          | int j => exact ⟨i, j, rfl, rfl, go s2 h2 (e1.trans e2) kk⟩
          | _ => exact h2.elim
        | _ => cases r2 <;> exact h2.elim
end DI
/-! DI: targets, comprehensions. -/
namespace DI
open PySem L2
variable {K : PySem.W.Frag} {H : Hp} {m : List Addr} {S : Sto} {X : Cx}
variable {E : EX} {H0 : Hp} {m0 : List Addr} {xc : Nat → Value} {g : GS} {p : PG} {cl : Cl} {k : Nat} {c : SC} {pos : Pos}
variable {ea eb ec : En → Sto → R D} {ta tb tc : En → Sto → R Bool} {a b d : Expr}

theorem wipe_comm {q : L2.St} {i : Nat} {x : Option V} : ∀ {vs : List Nat}, i ∉ vs → wipe (q.set i x) vs = (wipe q vs).set i x
  | [], _ => rfl
  | v :: vs, h => by
    have h1 : v ≠ i := fun z => h (by simp [z])
    have h2 : i ∉ vs := fun z => h (List.mem_cons_of_mem _ z)
    show (wipe (q.set i x) vs).set v none = ((wipe q vs).set v none).set i x
    rw [wipe_comm h2, List.set_comm _ _ (Ne.symm h1)]
theorem wipe_set {q : L2.St} {i : Nat} {x : Option V} : ∀ {vs : List Nat}, i ∈ vs → wipe (q.set i x) vs = wipe q vs
  | [], h => by cases h
  | v :: vs, h => by
    show (wipe (q.set i x) vs).set v none = (wipe q vs).set v none
    by_cases hi : i ∈ vs
    · rw [wipe_set hi]
    · have hv : i = v := by
        rcases List.mem_cons.mp h with z | z
        · exact z
        · exact (hi z).elim
      rw [wipe_comm hi, hv, List.set_set]
theorem noX_holds {A : Type} {r : R A} {Q : A → Sto → Prop} {Ee Ef : XN → Sto → Prop} (h : (noX r).holds Q Ee) : r.holds Q Ef := by
  cases r with
  | stk => exact h
  | ok a S => exact h
  | exn x S => exact h.elim
theorem noX_of {A : Type} {r : R A} {Q : A → Sto → Prop} {Ee : XN → Sto → Prop} (h : r.holds Q (fun _ _ => False)) : (noX r).holds Q Ee := by
  cases r with
  | stk => exact h
  | ok a S => exact h
  | exn x S => exact h.elim
/-! ### targets -/
def SndG (E : EX) (H0 : Hp) (m0 : List Addr) (X : Cx) (t : CT) (ev : D → En → Sto → R En) (tg : Expr) : Prop := ∀ (q : En) (S : Sto) (qV : L2.St) (H : Hp) (m : List Addr) (d : D) (v : V), ST X.K H0 m0 q S qV H m → RV X.K H m d v →
  ∀ (Qd : En → Sto → Prop) (Q : L2.St → Hp → Prop), (ev d q S).holds Qd (fun _ _ => False) →
  (∀ q' S' qV' H' m', Qd q' S' → Ext H m H' m' → SR X.K H' m' S' → FR X.K H' m' q' qV' → (∀ vs, tgIn t vs = true → wipe qV' vs = wipe qV vs) → Q qV' H') → WG X tg v qV H Q
theorem sng_name (sx : SX xc g p cl k c E H0 m0 X) {i : Nat} {x : Str} (hi : c.N[i]? = some x) (hs : stB c x = true) : SndG E H0 m0 X (.name i) (fun d q S => .ok (q.set i (some d)) S) (.Name x pos) := by
  intro q S qV H m d v st rv Qd Q hh kk
  have hf : X.fn x = true ∨ X.env.scope.names.lookup x = some .local := by
    rw [sx.hsc]
    exact sx.fn x hs
  refine ⟨_, pg_name (by rw [sx.hN]; exact sx.nd) (by rw [sx.hN]; exact hi) (sx.loc hs) hf, ?_⟩
  exact kk _ S _ H m hh (Ext.refl _ _) st.sr (st.fr.set i rv) fun vs h => wipe_set (by
    have h' : vs.contains i = true := h
    simpa using h')
inductive AllG (p : PG) (cl : Cl) (E : EX) (H0 : Hp) (m0 : List Addr) (X : Cx) : CTs → List Expr → Prop
  | nil : AllG p cl E H0 m0 X .nil []
  | cons {t : CT} {ts : CTs} {e : Expr} {es : List Expr} : nostar e = true → SndG E H0 m0 X t (evT1 p cl t) e → AllG p cl E H0 m0 X ts es → AllG p cl E H0 m0 X (.cons t ts) (e :: es)
theorem asg1 {e : Expr} {es : List Expr} {env : Env} (h : nostar e = true) : (assignEach (e :: es) env).map (·.2) = assign e env :: (assignEach es env).map (·.2) := by
  cases e <;> first | rfl | exact (Bool.false_ne_true h).elim
theorem asg2 {e : Expr} {es : List Expr} {env : Env} (h : nostar e = true) : (assignEach (e :: es) env).findIdx? (·.1) = ((assignEach es env).findIdx? (·.1)).map (· + 1) := by
  cases e <;> first | exact (Bool.false_ne_true h).elim | (show List.findIdx? _ ((false, _) :: _) = _; rw [List.findIdx?_cons]; rfl)
theorem asg3 {e : Expr} {es : List Expr} {env : Env} (h : nostar e = true) : (assignEach (e :: es) env).length = (assignEach es env).length + 1 := by
  cases e <;> first | rfl | exact (Bool.false_ne_true h).elim
theorem AllG.len {ts : CTs} {es : List Expr} (h : AllG p cl E H0 m0 X ts es) : (assignEach es X.env).length = es.length ∧ (assignEach es X.env).findIdx? (·.1) = none := by
  induction h with
  | nil => exact ⟨rfl, rfl⟩
  | cons hs _ _ ih =>
    refine ⟨by rw [asg3 hs, ih.1]; rfl, by rw [asg2 hs, ih.2]; rfl⟩
def CTs.len : CTs → Nat
  | .nil => 0
  | .cons _ ts => ts.len + 1
theorem AllG.len2 {ts : CTs} {es : List Expr} (h : AllG p cl E H0 m0 X ts es) : es.length = ts.len := by
  induction h with
  | nil => rfl
  | cons _ _ _ ih => rw [List.length_cons, ih]; rfl
theorem evTs_len : ∀ {ts : CTs} {ds : List D} {q : En} {S : Sto} {Q : En → Sto → Prop}, (evTs p cl ts ds q S).holds Q (fun _ _ => False) → ds.length = ts.len
  | .nil, [], _, _, _, _ => rfl
  | .nil, _ :: _, _, _, _, h => h.elim
  | .cons _ _, [], _, _, _, h => h.elim
  | .cons t ts, d :: ds, q, S, Q, h => by
    have h2 := holds_bind.mp (show ((evT1 p cl t d q S).bind fun q S => evTs p cl ts ds q S).holds Q (fun _ _ => False) from h)
    cases e1 : evT1 p cl t d q S with
    | stk => rw [e1] at h2; exact h2.elim
    | exn x S' => rw [e1] at h2; exact h2.elim
    | ok q1 S1 =>
      rw [e1] at h2
      rw [List.length_cons, evTs_len h2]
      rfl
theorem AllG.go {ts : CTs} {es : List Expr} (h : AllG p cl E H0 m0 X ts es) : ∀ (q : En) (S : Sto) (qV : L2.St) (H : Hp) (m : List Addr) (ds : List D) (vs : List V), ST X.K H0 m0 q S qV H m → RVs X.K H m ds vs →
    ∀ (Qd : En → Sto → Prop) (Q : L2.St → Hp → Prop), (evTs p cl ts ds q S).holds Qd (fun _ _ => False) →
    (∀ q' S' qV' H' m', Qd q' S' → Ext H m H' m' → SR X.K H' m' S' → FR X.K H' m' q' qV' → (∀ vs, tgsIn ts vs = true → wipe qV' vs = wipe qV vs) → Q qV' H') → WGs X es vs qV H Q := by
  induction h with
  | nil =>
    intro q S qV H m ds vs st rv Qd Q hh kk
    cases rv with
    | nil => exact ⟨_, pgs_nil, rfl, kk q S qV H m hh (Ext.refl _ _) st.sr st.fr fun _ _ => rfl⟩
    | cons _ _ => exact hh.elim
  | @cons t ts e es hs ht _ ih =>
    intro q S qV H m ds vs st rv Qd Q hh kk
    cases rv with
    | nil => exact hh.elim
    | @cons d v ds vs r1 rt =>
      have hh' : ((evT1 p cl t d q S).bind fun q S => evTs p cl ts ds q S).holds Qd (fun _ _ => False) := hh
      refine ⟨_, pgs_cons pg_w pgs_w (asg1 hs), v, vs, rfl, ht q S qV H m d v st r1 _ _ (holds_bind.mp hh') fun q1 S1 qV1 H1 m1 h1 e1 s1 f1 w1 => ?_⟩
      refine ih q1 S1 qV1 H1 m1 ds vs ⟨s1, f1, st.ex.trans e1⟩ (rt.mono st.sr e1) _ _ h1 fun q2 S2 qV2 H2 m2 h2 e2 s2 f2 w2 => ?_
      refine kk q2 S2 qV2 H2 m2 h2 (e1.trans e2) s2 f2 fun vs hv => ?_
      have hv' : (tgIn t vs && tgsIn ts vs) = true := hv
      rw [Bool.and_eq_true] at hv'
      rw [w2 vs hv'.2, w1 vs hv'.1]
theorem sng_tup (sx : SX xc g p cl k c E H0 m0 X) {ts : CTs} {es : List Expr} {n : Nat} (al : AllG p cl E H0 m0 X ts es) : SndG E H0 m0 X (.tup ts) (fun d q S => match d with | .tup ds => evTs p cl ts ds q S | _ => .stk) (.Tuple es n pos) := by
  intro q S qV H m d v st rv Qd Q hh kk
  cases rv with
  | @tup a xs ds hs hr =>
    refine ⟨_, pg_tup sx.calm pgs_w al.len.1 al.len.2, a, xs, rfl, hs, ?_, al.go q S qV H m ds xs st hr Qd Q hh kk⟩
    rw [← hr.length, evTs_len hh, ← al.len2]
  | _ => exact hh.elim
theorem dkPut_rel {K : PySem.W.Frag} {H : Hp} {m : List Addr} {ky : Key} {d : D} {v : V} (rv : RV K H m d v) {kvs : List (Key × D)} {kvs' : List (Key × V)} (e : kvs'.map (·.1) = kvs.map (·.1)) (r : RVs K H m (kvs.map (·.2)) (kvs'.map (·.2))) :
    (putK kvs' ky v).map (·.1) = (dkPut kvs ky d).map (·.1) ∧ RVs K H m ((dkPut kvs ky d).map (·.2)) ((putK kvs' ky v).map (·.2)) := by
  have hs : (kvs.any fun kv => decide (kv.1 = ky)) = (kvs'.any fun kv => decide (kv.1 = ky)) := by
    have z : ∀ {A : Type} (l : List (Key × A)), (l.any fun kv => decide (kv.1 = ky)) = (l.map (·.1)).any fun q => decide (q = ky) := fun l => by
      rw [List.any_map] <;> rfl
    rw [z, z, e]
  unfold putK dkPut
  rw [hs]
  by_cases hb : (kvs'.any fun kv => decide (kv.1 = ky)) = true
  · rw [if_pos hb, if_pos hb]
    clear hs hb
    induction kvs generalizing kvs' with
    | nil =>
      cases kvs' with
      | nil => exact ⟨rfl, .nil⟩
      | cons _ _ => cases e
    | cons a kvs ih =>
      cases kvs' with
      | nil => cases e
      | cons b kvs' =>
        have e1 : b.1 = a.1 := (List.cons.inj e).1
        have e2 := (List.cons.inj e).2
        cases r with
        | cons r1 r2 =>
          obtain ⟨i1, i2⟩ := ih e2 r2
          rw [List.map_cons, List.map_cons, List.map_cons, List.map_cons, List.map_cons, List.map_cons]
          by_cases hk : a.1 = ky
          · rw [if_pos hk, if_pos (e1.trans hk)]
            exact ⟨by rw [i1]; exact congrArg (· :: _) e1, .cons rv i2⟩
          · rw [if_neg hk, if_neg (fun z => hk (e1.symm.trans z))]
            exact ⟨by rw [i1]; exact congrArg (· :: _) e1, .cons r1 i2⟩
  · rw [if_neg hb, if_neg hb, List.map_append, List.map_append, List.map_append, List.map_append, e]
    exact ⟨rfl, r.app (.cons rv .nil)⟩
def rSetDk : V → V → V → Hp → (Hp → Prop) → Prop := fun o i v H Q => ∃ a H', o = .ref a ∧ DPut H a i v H' ∧ Q H'
theorem set_dk (hu : X.A.units + 64 < cLine) : PSet X rSetDk := by
  intro pins s q H o i v ov iv u Q I ro ri rv h
  obtain ⟨a, H', e, hp, hq⟩ := h
  subst e
  obtain rfl : ov = Value.ref a := ro
  exact d_setItem (by omega) I hp ri rv fun s' I' => ⟨H', I', hq⟩
def WSet (X : Cx) : V → V → V → Hp → (Hp → Prop) → Prop := fun o i v H Q => ∃ t : V → V → V → Hp → (Hp → Prop) → Prop, PSet X t ∧ t o i v H Q
theorem set_w : PSet X (WSet X) := fun pins s q H o i v ov iv u Q I ro ri rv ⟨t, p, h⟩ => p pins s q H o i v ov iv u Q I ro ri rv h
theorem assign_sub {a b : Expr} (h : plainB b = true) (v : Value) : assign (.Subscript a b pos) X.env v = (do
      let ov ← holding [v] (eval a X.env)
      let iv ← holding [v, ov] (eval b X.env)
      standAt pos
      holding [v, ov, iv] (setItem ov iv v)
      release [v, ov, iv] []) := by
  cases b with
  | Slice l u s q =>
    cases s with
    | none => exact (Bool.false_ne_true h).elim
    | some _ => rfl
  | _ => rfl
theorem setD_ok {d e x : D} {v w y : V} {Qd : Unit → Sto → Prop} {Ee : XN → Sto → Prop} (hu : X.A.units + 64 < cLine) (s : SR X.K H m S) (r : RV X.K H m d v) (t : RV X.K H m e w) (ry : RV X.K H m x y) (h : (setD d e x S).holds Qd Ee)
    {Q : Hp → Prop} (kk : ∀ S' H', Qd () S' → Ext H m H' m → SR X.K H' m S' → Q H') : WSet X v w y H Q := by
  cases r with
  | @ref j a hj =>
    obtain ⟨o, e1, h1⟩ := holds_mt (show (optB S[j]? fun o => setO o j e x S).holds Qd Ee from h)
    cases o with
    | lst ds =>
      cases t with
      | int i =>
        obtain ⟨n, e2, h2⟩ := holds_mt (show (optB (ixN ds.length i) fun k => .ok () (S.set j (.lst (ds.set k x))) : R Unit).holds Qd Ee from h1)
        obtain ⟨xs, h3, hr⟩ := lst_at s hj e1
        refine ⟨_, set_list, a, xs, i, n, rfl, rfl, h3, by rw [← hr.length]; exact e2, ?_⟩
        exact kk _ _ h2 (ext_upd hj) (sr_upd s hj (.lst (hr.set ry n)))
      | _ => exact h1.elim
    | dk kvs =>
      obtain ⟨ky, e2, h2⟩ := holds_mt (show (optB (keyD e) fun k => ifR (decide (kvs.length < LM)) (.ok () (S.set j (.dk (dkPut kvs k x)))) : R Unit).holds Qd Ee from h1)
      obtain ⟨hc, h3⟩ := holds_ifR h2
      obtain ⟨kvs', g1, g2, g3⟩ := dk_at s hj e1
      have hl : kvs'.length = kvs.length := by
        have z := congrArg List.length g2
        rw [List.length_map, List.length_map] at z
        exact z
      obtain ⟨q1, q2⟩ := dkPut_rel (ky := ky) ry g2 g3
      refine ⟨_, set_dk hu, a, upd H a (.dK (putK kvs' ky y)), rfl, ?_, ?_⟩
      · rw [keyD_some t e2]
        exact DPut.k g1 (by rw [hl]; exact sz_lt (of_decide_eq_true hc))
      · exact kk _ _ h3 (ext_upd hj) (sr_upd s hj (.dk q1 q2))
    | fz _ => exact h1.elim
  | _ => exact h.elim
theorem sng_sub (sx : SX xc g p cl k c E H0 m0 X) {ca cb : CE} (hb' : plainB b = true) (ha : SndE E H0 m0 X ea a) (hb : SndE E H0 m0 X eb b) : SndG E H0 m0 X (.sub ca cb) (fun d q S => (noX (ea q S)).bind fun o S => (noX (eb q S)).bind fun e S => (setD o e d S).bind fun _ S => .ok q S) (.Subscript a b pos) := by
  intro q S qV H m d v st rv Qd Q hh kk
  refine ⟨_, pg_sub pe_w pe_w set_w (assign_sub hb'), ha q S qV H m st _ _ (noX_holds (holds_bind.mp hh)) fun o S1 vo H1 m1 h1 e1 s1 r1 => hb q S1 qV H1 m1 (st.go e1 s1) _ _ (noX_holds (holds_bind.mp h1)) fun e S2 ve H2 m2 h2 e2 s2 r2 => ?_⟩
  refine setD_ok sx.hu s2 (r1.mono s1 e2) r2 ((rv.mono st.sr e1).mono s1 e2) (holds_bind.mp h2) fun S3 H3 h3 e3 s3 => ?_
  exact kk q S3 qV H3 m2 h3 ((e1.trans e2).trans e3) s3 (((st.fr.mono st.sr e1).mono s1 e2).mono s2 e3) fun vs hv => rfl
end DI
/-! DI: comprehensions. -/
namespace DI
open PySem L2
variable {K : PySem.W.Frag} {H : Hp} {m : List Addr} {S : Sto} {X : Cx}
variable {E : EX} {H0 : Hp} {m0 : List Addr} {xc : Nat → Value} {g : GS} {p : PG} {cl : Cl} {k : Nat} {c : SC} {pos : Pos}
variable {ea eb ec : En → Sto → R D} {ta tb tc : En → Sto → R Bool} {a b d : Expr}

mutual
theorem RV.more {K : PySem.W.Frag} {H : Hp} {m r : List Addr} {d : D} {v : V} : RV K H m d v → RV K H (m ++ r) d v
  | .non => .non
  | .bl b => .bl b
  | .int i => .int i
  | .str x => .str x
  | .tup h hs => .tup h (RVs.more hs)
  | .ref h => .ref (by rw [List.getElem?_append_left (List.getElem?_eq_some_iff.mp h).1]; exact h)
  | .cl h hs => .cl h (RVs.more hs)
theorem RVs.more {K : PySem.W.Frag} {H : Hp} {m r : List Addr} {ds : List D} {vs : List V} : RVs K H m ds vs → RVs K H (m ++ r) ds vs
  | .nil => .nil
  | .cons h t => .cons (RV.more h) (RVs.more t)
end
theorem ORel.more {K : PySem.W.Frag} {H : Hp} {m r : List Addr} {o : O} {ho : HO} : ORel K H m o ho → ORel K H (m ++ r) o ho
  | .lst h => .lst h.more
  | .fz h => .fz h.more
  | .dk k h => .dk k h.more
/-- an object that was made aside comes into the store -/
theorem sr_adopt {K : PySem.W.Frag} {H : Hp} {m : List Addr} {S : Sto} (s : SR K H m S) {a : Addr} {o : O} {ho : HO} (ha : H a = some ho) (hn : a ∉ m) (r : ORel K H m o ho) : SR K H (m ++ [a]) (S ++ [o]) := by
  refine ⟨by rw [List.length_append, List.length_append, s.len] <;> rfl, ?_, fun i b u hi hu => ?_⟩
  · rw [List.nodup_append]
    refine ⟨s.nd, by simp, fun x hx y hy z => ?_⟩
    have hy' : y = a := by simpa using hy
    rw [z, hy'] at hx
    exact hn hx
  · by_cases hl : i < m.length
    · rw [List.getElem?_append_left hl] at hi
      rw [List.getElem?_append_left (by rw [← s.len]; exact hl)] at hu
      obtain ⟨ho', h1, h2⟩ := s.at_ i b u hi hu
      exact ⟨ho', h1, h2.more⟩
    · have hi' : i = m.length := by
        have h3 := (List.getElem?_eq_some_iff.mp hi).1
        rw [List.length_append] at h3
        have h4 : [a].length = 1 := rfl
        omega
      subst hi'
      rw [List.getElem?_append_right (Nat.le_refl _), Nat.sub_self] at hi
      rw [List.getElem?_append_right (by rw [s.len]; exact Nat.le_refl _), s.len, Nat.sub_self] at hu
      have hi2 : a = b := by simpa using hi
      have hu2 : o = u := by simpa using hu
      subst hi2
      subst hu2
      exact ⟨ho, ha, r.more⟩
mutual
theorem RV.side {K : PySem.W.Frag} {H H' : Hp} {m : List Addr} (n : ∀ b ys, SqT K H b ys → SqT K H' b ys) {d : D} {v : V} : RV K H m d v → RV K H' m d v
  | .non => .non
  | .bl b => .bl b
  | .int i => .int i
  | .str x => .str x
  | .tup h hs => .tup (n _ _ h) (RVs.side n hs)
  | .ref h => .ref h
  | .cl h hs => .cl h (RVs.side n hs)
theorem RVs.side {K : PySem.W.Frag} {H H' : Hp} {m : List Addr} (n : ∀ b ys, SqT K H b ys → SqT K H' b ys) {ds : List D} {vs : List V} : RVs K H m ds vs → RVs K H' m ds vs
  | .nil => .nil
  | .cons h t => .cons (RV.side n h) (RVs.side n t)
end
theorem ORel.side {K : PySem.W.Frag} {H H' : Hp} {m : List Addr} (n : ∀ b ys, SqT K H b ys → SqT K H' b ys) {o : O} {ho : HO} : ORel K H m o ho → ORel K H' m o ho
  | .lst h => .lst (h.side n)
  | .fz h => .fz (h.side n)
  | .dk k h => .dk k (h.side n)
theorem sr_side {K : PySem.W.Frag} {H H' : Hp} {m : List Addr} {S : Sto} (n : ∀ b ys, SqT K H b ys → SqT K H' b ys) (k : ∀ b, b ∈ m → H' b = H b) (s : SR K H m S) : SR K H' m S :=
  ⟨s.len, s.nd, fun i a o hi ho => by
    obtain ⟨u, h1, h2⟩ := s.at_ i a o hi ho
    exact ⟨u, by rw [k a (List.mem_of_getElem? hi)]; exact h1, h2.side n⟩⟩
abbrev E0 : EX := fun _ _ _ => False
theorem SX.blk {X : Cx} (sx : SX xc g p cl k c E H0 m0 X) {scope : Scope} {own : List (Str × Nat)} (ok : blkC c.N c.sc scope own = true) (H1 : Hp) (m1 : List Addr) (s : Shared) (Hs : Hp) (C : Addr) (cs : List (Str × Addr)) (fp : List Addr) :
    SX xc g p cl k (blkS c scope) E0 H1 m1 (X.blk s Hs scope (compEnvC scope cs C X.env) fp) := by
  have B := blkOk_by ok
  refine ⟨sx.hN, sx.nd, ?_, B.kind, fun x h => ?_, sx.calm, sx.room, PassesOwn.never, ?_, (fun z => by cases z), sx.gok, sx.gd⟩
  · show relabel scope X.env = relC scope c.sc
    unfold relabel relC Env.kindOf
    rw [sx.hsc]
  · unfold stB at h
    split at h
    · exact .inr (by assumption)
    · left
      show (scope.names.lookup x == some .cell) = true
      have h' : (match scope.names.lookup x with | some .cell => true | _ => false) = true := h
      split at h'
      · rename_i e
        rw [e]
        rfl
      · cases h'
    · cases h
  · intro u s' x
    obtain ⟨_, _, _, _, _, _, _, _, _, _, _, _, _, _, _, _, w⟩ := x
    obtain ⟨_, _, _, _, z, _⟩ := w
    exact z.elim
def SndC (E : EX) (H0 : Hp) (m0 : List Addr) (X : Cx) (ev : En → Sto → R Bool) (es : List Expr) : Prop := ∀ (q : En) (S : Sto) (qV : L2.St) (H : Hp) (m : List Addr), ST X.K H0 m0 q S qV H m → ∀ (Qd : Bool → Sto → Prop) (Q : Bool → Hp → Prop),
  (ev q S).holds Qd (fun x S' => E x q S') → (∀ d S' H' m', Qd d S' → Ext H m H' m' → SR X.K H' m' S' → Q d H') → WTs X es qV H Q
theorem snc_none : SndC E H0 m0 X (fun _ S => .ok true S) [] := fun q S qV H m st Qd Q hh kk => ⟨_, pts_nil, kk true S H m hh (Ext.refl _ _) st.sr⟩
theorem snc_some (h : SndT E H0 m0 X ta a) : SndC E H0 m0 X ta [a] := fun q S qV H m st Qd Q hh kk => ⟨_, pts_one pt_w, h q S qV H m st Qd Q hh kk⟩
theorem own_snd {N : List Str} : ∀ vs : List Nat, (ownS N vs).map (·.2) = vs
  | [] => rfl
  | v :: vs => by
    show v :: (ownS N vs).map (·.2) = v :: vs
    rw [own_snd vs]
theorem wipe_at {q : L2.St} {i : Nat} : ∀ (ws : List Nat), i ∈ ws → (wipe q ws)[i]? = some none ∨ (wipe q ws)[i]? = none
  | [], h => by cases h
  | v :: ws, h => by
    show ((wipe q ws).set v none)[i]? = some none ∨ ((wipe q ws).set v none)[i]? = none
    by_cases hv : v = i
    · subst hv
      by_cases hl : v < (wipe q ws).length
      · exact .inl (List.getElem?_set_self hl)
      · exact .inr (List.getElem?_eq_none_iff.mpr (by rw [List.length_set]; omega))
    · rw [List.getElem?_set_ne hv]
      rcases List.mem_cons.mp h with z | z
      · exact (hv z.symm).elim
      · exact wipe_at ws z
theorem wipe_id : ∀ (ws : List Nat) (q : L2.St), (∀ i ∈ ws, q[i]? = some none ∨ q[i]? = none) → wipe q ws = q
  | [], q, _ => rfl
  | v :: ws, q, hq => by
    show (wipe q ws).set v none = q
    rw [wipe_id ws q fun i hi => hq i (List.mem_cons_of_mem _ hi)]
    apply List.ext_getElem?
    intro j
    by_cases hj : v = j
    · subst hj
      rcases hq v List.mem_cons_self with h | h
      · rw [h]
        have hl := (List.getElem?_eq_some_iff.mp h).1
        rw [List.getElem?_set_self hl]
      · rw [h]
        have hl := List.getElem?_eq_none_iff.mp h
        exact List.getElem?_eq_none_iff.mpr (by rw [List.length_set]; exact hl)
    · rw [List.getElem?_set_ne hj]
theorem wipe_wipe {q : L2.St} {vs : List Nat} : wipe (wipe q vs) vs = wipe q vs := wipe_id vs _ fun i hi => wipe_at vs hi
abbrev gB (X : Cx) (scope : Scope) (tg : Expr) : TG := fun v q H Q => ∀ (s : Shared) (Hs : Hp) (C : Addr) (cs : List (Str × Addr)) (fp : List Addr), WG (X.blk s Hs scope (compEnvC scope cs C X.env) fp) tg v q H Q
abbrev ttB (X : Cx) (scope : Scope) (ifs : List Expr) : TT := fun q H Q => ∀ (s : Shared) (Hs : Hp) (C : Addr) (cs : List (Str × Addr)) (fp : List Addr), WTs (X.blk s Hs scope (compEnvC scope cs C X.env) fp) ifs q H Q
abbrev teB (X : Cx) (scope : Scope) (elt : Expr) : TE := fun q H Q => ∀ (s : Shared) (Hs : Hp) (C : Addr) (cs : List (Str × Addr)) (fp : List Addr), WE (X.blk s Hs scope (compEnvC scope cs C X.env) fp) elt q H Q
abbrev compR (ei : En → Sto → R Sr) (evT : D → En → Sto → R En) (evC : En → Sto → R Bool) (evX : En → Sto → R D) (vs : List Nat) : En → Sto → R D := fun q S => (ei q S).bind fun s S => (noX (compL (fun d S1 => (evT d (wipeD q vs) S1).bind fun q1 S2 => (evC q1 S2).bind fun b S3 => match b with
      | true => (evX q1 S3).bind fun x S4 => .ok (some x) S4
      | false => .ok none S3) s FU 0 [] S)).bind fun ds S => .ok (.ref S.length) (S ++ [.lst ds])
theorem comp_rd (sx : SX xc g p cl k c E H0 m0 X) {t : CT} {ei : En → Sto → R Sr} {evT : D → En → Sto → R En} {evC : En → Sto → R Bool} {evX : En → Sto → R D} {vs : List Nat} {elt tg iter : Expr} {ifs : List Expr} {scope : Scope}
    (ok : blkC c.N c.sc scope (ownS c.N vs) = true) (htg : tgIn t vs = true) (hi : SndI E H0 m0 X ei tg iter)
    (hG : ∀ X' H1 m1, SX xc g p cl k (blkS c scope) E0 H1 m1 X' → SndG E0 H1 m1 X' t evT tg) (hC : ∀ X' H1 m1, SX xc g p cl k (blkS c scope) E0 H1 m1 X' → SndC E0 H1 m1 X' evC ifs) (hX : ∀ X' H1 m1, SX xc g p cl k (blkS c scope) E0 H1 m1 X' → SndE E0 H1 m1 X' evX elt)
    (q : En) (S : Sto) (qV : L2.St) (H : Hp) (m : List Addr) (st : ST X.K H0 m0 q S qV H m) (Qd : D → Sto → Prop) (Q : VK)
    (hh : (compR ei evT evC evX vs q S).holds Qd (fun x S' => E x q S')) (kk : ∀ d S' v H' m', Qd d S' → Ext H m H' m' → SR X.K H' m' S' → RV X.K H' m' d v → Q v H') : tLc (WI X tg iter) (gB X scope tg) (ttB X scope ifs) (teB X scope elt) ((ownS c.N vs).map (·.2)) qV H Q := by
  rw [own_snd]
  refine hi q S qV H m st _ _ (holds_bind.mp hh) fun s S1 J H1 m1 h1 e1 s1 j1 => ?_
  intro A hA
  have st1 := st.go e1 s1
  refine ⟨fun i n H2 => ∃ (m2 : List Addr) (S2 : Sto) (acc : List D) (xs : List V), SR X.K H2 m2 S2 ∧ Ext H1 m1 H2 m2 ∧ A ∉ m2 ∧ H2 A = some (.lst xs) ∧ RVs X.K H2 m2 acc xs ∧
    (compL (fun d S1 => (evT d (wipeD q vs) S1).bind fun q1 S2 => (evC q1 S2).bind fun b S3 => match b with
      | true => (evX q1 S3).bind fun x S4 => .ok (some x) S4
      | false => .ok none S3) s n i acc S2).holds (fun (ds : List D) (S : Sto) => Qd (D.ref S.length) (S ++ [O.lst ds])) (fun _ _ => False),
    ⟨FU, m1, S1, [], [], sr_new s1 hA, ext_new s1 hA, s1.new hA, upd_same, .nil, noX_holds (holds_bind.mp h1)⟩, ?_⟩
  rintro i n H2 ⟨m2, S2, acc, xs, s2, e2, nA, hA2, r2, h2⟩
  have f2 : FR X.K H2 m2 (wipeD q vs) (wipe qV vs) := (st1.fr.mono s1 e2).wipe vs
  cases n with
  | zero => exact h2.elim
  | succ n =>
    have j2 := j1.mono s1 e2
    cases eS : srcAt s i S2 with
    | none =>
      unfold compL at h2
      rw [eS] at h2
      exact h2.elim
    | some o =>
      cases o with
      | none =>
        unfold compL at h2
        rw [eS] at h2
        refine .inl ⟨src_stop s2 j2 eS, ?_⟩
        refine kk (.ref S2.length) _ _ H2 (m2 ++ [A]) h2 ⟨?_, fun b o hb nb => ?_⟩ (sr_adopt s2 hA2 nA (.lst r2)) (.ref ?_)
        · obtain ⟨r, hr⟩ := (e1.trans e2).pre
          exact ⟨r ++ [A], by rw [hr, List.append_assoc]⟩
        · obtain ⟨q1, q2⟩ := (e1.trans e2).keep b o hb nb
          refine ⟨q1, fun z => ?_⟩
          rcases List.mem_append.mp z with z | z
          · exact q2 z
          · have z' : b = A := by simpa using z
            have q3 := (e1.keep b o hb nb).1
            rw [z', hA] at q3
            cases q3
        · rw [← s2.len, List.getElem?_append_right (Nat.le_refl _), Nat.sub_self]
          rfl
      | some d =>
        unfold compL at h2
        rw [eS] at h2
        have h3 := holds_bind.mp h2
        obtain ⟨g1, g2⟩ := src_go s2 j2 eS
        refine .inr ⟨g1, _, fun H' z => ⟨n, Nat.lt_succ_self n, z⟩, fun x H3 y => ?_⟩
        obtain ⟨e3, s3, r3⟩ := g2 x H3 y
        intro sa Hs Ca cs fp
        have sx' := sx.blk (H1 := H3) (m1 := m2) ok sa Hs Ca cs fp
        have st3 : ST X.K H3 m2 (wipeD q vs) S2 (wipe qV vs) H3 m2 := ⟨s3, f2.mono s2 e3, Ext.refl _ _⟩
        refine hG _ H3 m2 sx' (wipeD q vs) S2 (wipe qV vs) H3 m2 d x st3 r3 _ _ (holds_bind.mp h3) fun q1 S4 qV1 H4 m4 h4 e4 s4 f4 w4 => ⟨?_, fun sa2 Hs2 Ca2 cs2 fp2 => ?_⟩
        · rw [w4 vs htg, wipe_wipe]
        · have sx2 := sx.blk (H1 := H4) (m1 := m4) ok sa2 Hs2 Ca2 cs2 fp2
          have st4 : ST X.K H4 m4 q1 S4 qV1 H4 m4 := ⟨s4, f4, Ext.refl _ _⟩
          refine hC _ H4 m4 sx2 q1 S4 qV1 H4 m4 st4 _ _ (holds_bind.mp h4) fun bb S5 H5 m5 h5 e5 s5 => ?_
          have go : ∀ {H6 : Hp} {m6 : List Addr}, Ext H5 m5 H6 m6 → Ext H1 m1 H6 m6 ∧ A ∉ m6 ∧ H6 A = some (.lst xs) := fun {H6 m6} e6 => by
            have q1 := e3.keep A _ hA2 nA
            have q2 := e4.keep A _ q1.1 q1.2
            have q3 := e5.keep A _ q2.1 q2.2
            have q4 := e6.keep A _ q3.1 q3.2
            exact ⟨(((e2.trans e3).trans e4).trans e5).trans e6, q4.2, q4.1⟩
          cases bb with
          | true =>
            rw [if_pos rfl]
            intro sa3 Hs3 Ca3 cs3 fp3
            have sx3 := sx.blk (H1 := H5) (m1 := m5) ok sa3 Hs3 Ca3 cs3 fp3
            have st5 : ST X.K H5 m5 q1 S5 qV1 H5 m5 := ⟨s5, f4.mono s4 e5, Ext.refl _ _⟩
            refine hX _ H5 m5 sx3 q1 S5 qV1 H5 m5 st5 _ _ (holds_bind.mp h5) fun x6 S6 v6 H6 m6 h6 e6 s6 r6 => ?_
            obtain ⟨k1, k2, k3⟩ := go e6
            obtain ⟨hc, h7⟩ := holds_ifR (show (ifR (decide (acc.length < LM)) _).holds _ _ from h6)
            refine ⟨xs, k3, by rw [← r2.length]; exact sz_lt (of_decide_eq_true hc), ?_⟩
            have ra : RVs X.K H6 m6 acc xs := (((r2.mono s2 e3).mono s3 e4).mono s4 e5).mono s5 e6
            -- the accumulator changes outside the store
            have hx : ∀ b o, H6 b = some o → b ≠ A → (upd H6 A (.lst (xs ++ [v6]))) b = some o := fun b o hb hn => by rw [upd_ne hn]; exact hb
            have nT : ∀ b ys, SqT X.K H6 b ys → SqT X.K (upd H6 A (.lst (xs ++ [v6]))) b ys := fun b ys hs => by
              rcases hs with (hs | ⟨o, hs⟩) | hs
              · exact .inl (.inl (hx b _ hs fun z => by rw [z, k3] at hs; cases hs))
              · exact .inl (.inr ⟨o, hx b _ hs fun z => by rw [z, k3] at hs; cases hs⟩)
              · exact .inr hs
            refine ⟨m6, S6, acc ++ [x6], xs ++ [v6], sr_side nT (fun b hb => by rw [upd_ne (fun z => k2 (by rw [← z]; exact hb))]) s6, ?_, k2, upd_same, (ra.app (.cons r6 .nil)).side nT, h7⟩
            refine ⟨k1.pre, fun b o hb nb => ?_⟩
            obtain ⟨w1, w2⟩ := k1.keep b o hb nb
            refine ⟨hx b o w1 fun z => ?_, w2⟩
            rw [z, hA] at hb
            cases hb
          | false =>
            rw [if_neg Bool.false_ne_true]
            obtain ⟨k1, k2, k3⟩ := go (Ext.refl H5 m5)
            exact ⟨m5, S5, acc, xs, s5, k1, k2, k3, ((r2.mono s2 e3).mono s3 e4).mono s4 e5, h5⟩

theorem pg_b {scope : Scope} {tg : Expr} (s : Shared) (Hs : Hp) (C : Addr) (cs : List (Str × Addr)) (fp : List Addr) : L2.PG (X.blk s Hs scope (compEnvC scope cs C X.env) fp) tg (gB X scope tg) := ⟨fun pins s1 q H v u Q I r h => pg_w.run pins s1 q H v u Q I r (h s Hs C cs fp)⟩
theorem pts_b {scope : Scope} {ifs : List Expr} (s : Shared) (Hs : Hp) (C : Addr) (cs : List (Str × Addr)) (fp : List Addr) : PTs (X.blk s Hs scope (compEnvC scope cs C X.env) fp) ifs (ttB X scope ifs) := ⟨fun pins s1 q H Q I h => pts_w.run pins s1 q H Q I (h s Hs C cs fp)⟩
theorem pe_b {scope : Scope} {elt : Expr} (s : Shared) (Hs : Hp) (C : Addr) (cs : List (Str × Addr)) (fp : List Addr) : PE (X.blk s Hs scope (compEnvC scope cs C X.env) fp) elt (teB X scope elt) := ⟨fun pins s1 q H Q I h => pe_w.run pins s1 q H Q I (h s Hs C cs fp)⟩
theorem snd_comp (sx : SX xc g p cl k c E H0 m0 X) {t : CT} {ei : En → Sto → R Sr} {evT : D → En → Sto → R En} {evC : En → Sto → R Bool} {evX : En → Sto → R D} {vs : List Nat} {elt tg iter : Expr} {ifs : List Expr} {scope : Scope}
    (hset : noSet iter = true) (ok : blkC c.N c.sc scope (ownS c.N vs) = true) (htg : tgIn t vs = true) (hi : SndI E H0 m0 X ei tg iter)
    (hG : ∀ X' H1 m1, SX xc g p cl k (blkS c scope) E0 H1 m1 X' → SndG E0 H1 m1 X' t evT tg) (hC : ∀ X' H1 m1, SX xc g p cl k (blkS c scope) E0 H1 m1 X' → SndC E0 H1 m1 X' evC ifs) (hX : ∀ X' H1 m1, SX xc g p cl k (blkS c scope) E0 H1 m1 X' → SndE E0 H1 m1 X' evX elt) :
    SndE E H0 m0 X (compR ei evT evC evX vs) (.ListComp elt [⟨tg, iter, ifs, 0⟩] scope pos) := fun q S qV H m st Qd Q hh kk =>
  ⟨_, pe_lc (own := ownS c.N vs) sx.calm (by rw [sx.hN]; exact sx.nd) pi_w (blkOk_by (by rw [sx.hN, sx.hsc]; exact ok)) pg_b pts_b pe_b (fold_no hset), comp_rd sx ok htg hi hG hC hX q S qV H m st Qd Q hh kk⟩
theorem vs_in {N : List Str} {vs vs1 : List Nat} (h : vs1.all (vs.contains ·) = true) : ∀ i ∈ vs1, i ∈ (ownS N vs).map (·.2) := fun i hi => by
  rw [own_snd]
  have z := List.all_eq_true.mp h i hi
  simpa using z

/-! ### two fors -/
def offH (H : Hp) (A : Addr) : Hp := fun a => if a = A then none else H a
theorem off_ne {H : Hp} {A a : Addr} (h : a ≠ A) : offH H A a = H a := if_neg h
theorem off_some {H : Hp} {A a : Addr} {o : HO} (h : offH H A a = some o) : a ≠ A ∧ H a = some o := by
  unfold offH at h
  split at h
  · cases h
  · exact ⟨by assumption, h⟩
theorem off_sqt {K : PySem.W.Frag} {H : Hp} {A : Addr} {xs : List V} (hA : H A = some (.lst xs)) (b : Addr) (ys : List V) (h : SqT K H b ys) : SqT K (offH H A) b ys := by
  have ne : ∀ {o : HO}, H b = some o → (∀ zs, o ≠ .lst zs) → b ≠ A := fun {o} e n z => by
    rw [z, hA] at e
    exact n xs (Option.some.inj e).symm
  rcases h with (h | ⟨o, h⟩) | h
  · exact .inl (.inl (by rw [off_ne (ne h fun zs z => by cases z)]; exact h))
  · exact .inl (.inr ⟨o, by rw [off_ne (ne h fun zs z => by cases z)]; exact h⟩)
  · exact .inr h
theorem off_sr {K : PySem.W.Frag} {H : Hp} {m : List Addr} {S : Sto} {A : Addr} {xs : List V} (hA : H A = some (.lst xs)) (nA : A ∉ m) (s : SR K H m S) : SR K (offH H A) m S :=
  sr_side (off_sqt hA) (fun b hb => off_ne fun z => nA (by rw [← z]; exact hb)) s
theorem off_fr {K : PySem.W.Frag} {H : Hp} {m : List Addr} {A : Addr} {xs : List V} {q : En} {qV : L2.St} (hA : H A = some (.lst xs)) (f : FR K H m q qV) : FR K (offH H A) m q qV :=
  ⟨f.len, fun i d h => by
    obtain ⟨v, h1, h2⟩ := f.at_ i d h
    exact ⟨v, h1, h2.side (off_sqt hA)⟩⟩
theorem off_jr {K : PySem.W.Frag} {H : Hp} {m : List Addr} {A : Addr} {xs : List V} {s : Sr} {J : It} (hA : H A = some (.lst xs)) (j : JR K H m s J) : JR K (offH H A) m s J := by
  cases j with
  | lst h => exact .lst h
  | tup h t => exact .tup (off_sqt hA _ _ h) (t.side (off_sqt hA))
  | rng lo n => exact .rng lo n
  | rngc lo c n => exact .rngc lo c n
  | str x => exact .str x
  | enumL h => exact .enumL h
  | enumT h t => exact .enumT (off_sqt hA _ _ h) (t.side (off_sqt hA))
  | enumS x => exact .enumS x
theorem ext_off {H H' : Hp} {m m' : List Addr} {A : Addr} (hA : H A = none) (e : Ext H m H' m') : Ext H m (offH H' A) m' :=
  ⟨e.pre, fun a o h n => by
    obtain ⟨h1, h2⟩ := e.keep a o h n
    exact ⟨by rw [off_ne fun z => by rw [z, hA] at h; cases h]; exact h1, h2⟩⟩
theorem ext_on {H : Hp} {m : List Addr} {A : Addr} : Ext (offH H A) m H m := ⟨⟨[], (List.append_nil m).symm⟩, fun a o h n => ⟨(off_some h).2, n⟩⟩
abbrev wiB (X : Cx) (scope : Scope) (tg e : Expr) : TI := fun q H Q => ∀ (s : Shared) (Hs : Hp) (C : Addr) (cs : List (Str × Addr)) (fp : List Addr), WI (X.blk s Hs scope (compEnvC scope cs C X.env) fp) tg e q H Q
theorem pi_b {scope : Scope} {tg e : Expr} (s : Shared) (Hs : Hp) (C : Addr) (cs : List (Str × Addr)) (fp : List Addr) : L2.PI (X.blk s Hs scope (compEnvC scope cs C X.env) fp) tg e (wiB X scope tg e) := ⟨fun pins s1 q H Q I h => pi_w.run pins s1 q H Q I (h s Hs C cs fp)⟩
abbrev innT (evT1' : D → En → Sto → R En) (evC1 : En → Sto → R Bool) (evX : En → Sto → R D) (vs1 : List Nat) (q1 : En) : D → Sto → R (Option D) := fun d S5 => (evT1' d (wipeD q1 vs1) S5).bind fun q2 S6 => (evC1 q2 S6).bind fun b1 S7 => match b1 with
        | true => (evX q2 S7).bind fun x S8 => .ok (some x) S8
        | false => .ok none S7
abbrev outT (evT : D → En → Sto → R En) (evC : En → Sto → R Bool) (ei1 : En → Sto → R Sr) (evT1' : D → En → Sto → R En) (evC1 : En → Sto → R Bool) (evX : En → Sto → R D) (vs vs1 : List Nat) (q : En) : D → List D → Sto → R (List D) := fun d acc S1 => (evT d (wipeD q vs) S1).bind fun q1 S2 => (evC q1 S2).bind fun b S3 => match b with
      | true => (ei1 q1 S3).bind fun s1 S4 => compL (innT evT1' evC1 evX vs1 q1) s1 FU 0 acc S4
      | false => .ok acc S3
abbrev comp2R (ei : En → Sto → R Sr) (evT : D → En → Sto → R En) (evC : En → Sto → R Bool) (ei1 : En → Sto → R Sr) (evT1' : D → En → Sto → R En) (evC1 : En → Sto → R Bool) (evX : En → Sto → R D) (vs vs1 : List Nat) : En → Sto → R D := fun q S => (ei q S).bind fun s S => (noX (compO (outT evT evC ei1 evT1' evC1 evX vs vs1 q) s FU 0 [] S)).bind fun ds S => .ok (.ref S.length) (S ++ [.lst ds])
theorem bindA {A B C : Type} {r : R A} {f : A → Sto → R B} {h : B → Sto → R C} : (r.bind f).bind h = r.bind fun a S => (f a S).bind h := by
  cases r <;> rfl
theorem comp2_rd (sx : SX xc g p cl k c E H0 m0 X) {t t1 : CT} {ei ei1 : En → Sto → R Sr} {evT evT1' : D → En → Sto → R En} {evC evC1 : En → Sto → R Bool} {evX : En → Sto → R D} {vs vs1 : List Nat} {elt tg iter tg1 iter1 : Expr} {ifs ifs1 : List Expr} {scope : Scope}
    (ok : blkC c.N c.sc scope (ownS c.N vs) = true) (htg : tgIn t vs = true) (htg1 : tgIn t1 vs1 = true) (hi : SndI E H0 m0 X ei tg iter)
    (hG : ∀ X' H1 m1, SX xc g p cl k (blkS c scope) E0 H1 m1 X' → SndG E0 H1 m1 X' t evT tg) (hC : ∀ X' H1 m1, SX xc g p cl k (blkS c scope) E0 H1 m1 X' → SndC E0 H1 m1 X' evC ifs)
    (hI1 : ∀ X' H1 m1, SX xc g p cl k (blkS c scope) E0 H1 m1 X' → SndI E0 H1 m1 X' ei1 tg1 iter1)
    (hG1 : ∀ X' H1 m1, SX xc g p cl k (blkS c scope) E0 H1 m1 X' → SndG E0 H1 m1 X' t1 evT1' tg1) (hC1 : ∀ X' H1 m1, SX xc g p cl k (blkS c scope) E0 H1 m1 X' → SndC E0 H1 m1 X' evC1 ifs1)
    (hX : ∀ X' H1 m1, SX xc g p cl k (blkS c scope) E0 H1 m1 X' → SndE E0 H1 m1 X' evX elt)
    (q : En) (S : Sto) (qV : L2.St) (H : Hp) (m : List Addr) (st : ST X.K H0 m0 q S qV H m) (Qd : D → Sto → Prop) (Q : VK)
    (hh : (comp2R ei evT evC ei1 evT1' evC1 evX vs vs1 q S).holds Qd (fun x S' => E x q S')) (kk : ∀ d S' v H' m', Qd d S' → Ext H m H' m' → SR X.K H' m' S' → RV X.K H' m' d v → Q v H') :
    tLc2 (WI X tg iter) (gB X scope tg) (ttB X scope ifs) (wiB X scope tg1 iter1) (gB X scope tg1) (ttB X scope ifs1) (teB X scope elt) ((ownS c.N vs).map (·.2)) vs1 qV H Q := by
  rw [own_snd]
  refine hi q S qV H m st _ _ (holds_bind.mp hh) fun s S1 J H1 m1 h1 e1 s1 j1 => ?_
  intro A hA
  have st1 := st.go e1 s1
  let W : Nat → Nat → Hp → Prop := fun i n H2 => ∃ (m2 : List Addr) (S2 : Sto) (acc : List D) (xs : List V), SR X.K H2 m2 S2 ∧ Ext H1 m1 H2 m2 ∧ A ∉ m2 ∧ H2 A = some (.lst xs) ∧ RVs X.K H2 m2 acc xs ∧
    (compO (outT evT evC ei1 evT1' evC1 evX vs vs1 q) s n i acc S2).holds (fun (ds : List D) (S : Sto) => Qd (D.ref S.length) (S ++ [O.lst ds])) (fun _ _ => False)
  refine ⟨W, ⟨FU, m1, S1, [], [], sr_new s1 hA, ext_new s1 hA, s1.new hA, upd_same, .nil, noX_holds (holds_bind.mp h1)⟩, ?_⟩
  rintro i n H2 ⟨m2, S2, acc, xs, s2, e2, nA, hA2, r2, h2⟩
  have f2 : FR X.K H2 m2 (wipeD q vs) (wipe qV vs) := (st1.fr.mono s1 e2).wipe vs
  cases n with
  | zero => exact h2.elim
  | succ n =>
    have j2 := j1.mono s1 e2
    cases eS : srcAt s i S2 with
    | none =>
      unfold compO at h2
      rw [eS] at h2
      exact h2.elim
    | some o =>
      cases o with
      | none =>
        unfold compO at h2
        rw [eS] at h2
        refine .inl ⟨src_stop s2 j2 eS, ?_⟩
        refine kk (.ref S2.length) _ _ H2 (m2 ++ [A]) h2 ⟨?_, fun b o hb nb => ?_⟩ (sr_adopt s2 hA2 nA (.lst r2)) (.ref ?_)
        · obtain ⟨r, hr⟩ := (e1.trans e2).pre
          exact ⟨r ++ [A], by rw [hr, List.append_assoc]⟩
        · obtain ⟨q1, q2⟩ := (e1.trans e2).keep b o hb nb
          refine ⟨q1, fun z => ?_⟩
          rcases List.mem_append.mp z with z | z
          · exact q2 z
          · have z' : b = A := by simpa using z
            have q3 := (e1.keep b o hb nb).1
            rw [z', hA] at q3
            cases q3
        · rw [← s2.len, List.getElem?_append_right (Nat.le_refl _), Nat.sub_self]
          rfl
      | some d =>
        unfold compO at h2
        rw [eS] at h2
        dsimp only at h2
        have h3 := h2
        rw [bindA] at h3
        obtain ⟨g1, g2⟩ := src_go s2 j2 eS
        refine .inr ⟨g1, W (i + 1) n, fun H' z => ⟨n, Nat.lt_succ_self n, z⟩, fun x H3 y => ?_⟩
        obtain ⟨e3, s3, r3⟩ := g2 x H3 y
        intro sa Hs Ca cs fp
        have sx' := sx.blk (H1 := H3) (m1 := m2) ok sa Hs Ca cs fp
        have st3 : ST X.K H3 m2 (wipeD q vs) S2 (wipe qV vs) H3 m2 := ⟨s3, f2.mono s2 e3, Ext.refl _ _⟩
        refine hG _ H3 m2 sx' (wipeD q vs) S2 (wipe qV vs) H3 m2 d x st3 r3 _ _ (holds_bind.mp h3) fun q1 S4 qV1 H4 m4 h4 e4 s4 f4 w4 => ⟨?_, fun sa2 Hs2 Ca2 cs2 fp2 => ?_⟩
        · rw [w4 vs htg, wipe_wipe]
        · have sx2 := sx.blk (H1 := H4) (m1 := m4) ok sa2 Hs2 Ca2 cs2 fp2
          have st4 : ST X.K H4 m4 q1 S4 qV1 H4 m4 := ⟨s4, f4, Ext.refl _ _⟩
          rw [bindA] at h4
          refine hC _ H4 m4 sx2 q1 S4 qV1 H4 m4 st4 _ _ (holds_bind.mp h4) fun bb S5 H5 m5 h5 e5 s5 => ?_
          have go : ∀ {H6 : Hp} {m6 : List Addr}, Ext H5 m5 H6 m6 → Ext H1 m1 H6 m6 ∧ A ∉ m6 ∧ H6 A = some (.lst xs) := fun {H6 m6} e6 => by
            have q1 := e3.keep A _ hA2 nA
            have q2 := e4.keep A _ q1.1 q1.2
            have q3 := e5.keep A _ q2.1 q2.2
            have q4 := e6.keep A _ q3.1 q3.2
            exact ⟨(((e2.trans e3).trans e4).trans e5).trans e6, q4.2, q4.1⟩
          have r5 : RVs X.K H5 m5 acc xs := ((r2.mono s2 e3).mono s3 e4).mono s4 e5
          cases bb with
          | false =>
            rw [if_neg Bool.false_ne_true]
            obtain ⟨k1, k2, k3⟩ := go (Ext.refl H5 m5)
            exact ⟨m5, S5, acc, xs, s5, k1, k2, k3, r5, h5⟩
          | true =>
            rw [if_pos rfl]
            intro sb Hb Cb cb fb
            have sxb := sx.blk (H1 := H5) (m1 := m5) ok sb Hb Cb cb fb
            have st5 : ST X.K H5 m5 q1 S5 qV1 H5 m5 := ⟨s5, f4.mono s4 e5, Ext.refl _ _⟩
            have h5' : ((ei1 q1 S5).bind fun s1 S4 => (compL (innT evT1' evC1 evX vs1 q1) s1 FU 0 acc S4).bind fun acc S1 => compO (outT evT evC ei1 evT1' evC1 evX vs vs1 q) s n (i + 1) acc S1).holds (fun (ds : List D) (S : Sto) => Qd (D.ref S.length) (S ++ [O.lst ds])) (fun _ _ => False) := by
              rw [← bindA]
              exact h5
            refine hI1 _ H5 m5 sxb q1 S5 qV1 H5 m5 st5 _ _ (holds_bind.mp h5') fun s1' S6 J1 H6 m6 h6 e6 s6 j6 => ?_
            obtain ⟨k1, k2, k3⟩ := go e6
            have f6 := off_fr k3 ((f4.mono s4 e5).mono s5 e6)
            have so6 := off_sr k3 k2 s6
            have jo6 := off_jr k3 j6
            have eo6 := ext_off hA k1
            refine ⟨fun j kn H7 => ∃ (m7 : List Addr) (S7 : Sto) (acc7 : List D) (xs7 : List V), SR X.K H7 m7 S7 ∧ Ext (offH H6 A) m6 H7 m7 ∧ A ∉ m7 ∧ H7 A = some (.lst xs7) ∧ RVs X.K H7 m7 acc7 xs7 ∧
              ((compL (innT evT1' evC1 evX vs1 q1) s1' kn j acc7 S7).bind fun acc S1 => compO (outT evT evC ei1 evT1' evC1 evX vs vs1 q) s n (i + 1) acc S1).holds (fun (ds : List D) (S : Sto) => Qd (D.ref S.length) (S ++ [O.lst ds])) (fun _ _ => False),
              ⟨FU, m6, S6, acc, xs, s6, ext_on, k2, k3, r5.mono s5 e6, h6⟩, ?_⟩
            rintro j kn H7 ⟨m7, S7, acc7, xs7, s7, e7, n7, hA7, r7, h7⟩
            have f7 : FR X.K H7 m7 (wipeD q1 vs1) (wipe qV1 vs1) := (f6.mono so6 e7).wipe vs1
            have j7 := jo6.mono so6 e7
            cases kn with
            | zero => exact h7.elim
            | succ kn =>
              cases eS1 : srcAt s1' j S7 with
              | none =>
                unfold compL at h7
                rw [eS1] at h7
                exact h7.elim
              | some o1 =>
                cases o1 with
                | none =>
                  unfold compL at h7
                  rw [eS1] at h7
                  exact .inl ⟨src_stop s7 j7 eS1, m7, S7, acc7, xs7, s7, eo6.trans e7, n7, hA7, r7, h7⟩
                | some d1 =>
                  unfold compL at h7
                  rw [eS1] at h7
                  have h8 := holds_bind.mp h7
                  have h8 := holds_bind.mp h8
                  obtain ⟨g3, g4⟩ := src_go s7 j7 eS1
                  refine .inr ⟨g3, _, fun H' z => ⟨kn, Nat.lt_succ_self kn, z⟩, fun x1 H8 y1 => ?_⟩
                  obtain ⟨e8, s8, r8⟩ := g4 x1 H8 y1
                  intro sc Hc Cc cc fc
                  have sxc := sx.blk (H1 := H8) (m1 := m7) ok sc Hc Cc cc fc
                  have st8 : ST X.K H8 m7 (wipeD q1 vs1) S7 (wipe qV1 vs1) H8 m7 := ⟨s8, f7.mono s7 e8, Ext.refl _ _⟩
                  refine hG1 _ H8 m7 sxc (wipeD q1 vs1) S7 (wipe qV1 vs1) H8 m7 d1 x1 st8 r8 _ _ (holds_bind.mp h8) fun q2 S9 qV2 H9 m9 h9 e9 s9 f9 w9 => ⟨?_, fun sd Hd Cd cd fd => ?_⟩
                  · rw [w9 vs1 htg1, wipe_wipe]
                  · have sxd := sx.blk (H1 := H9) (m1 := m9) ok sd Hd Cd cd fd
                    have st9 : ST X.K H9 m9 q2 S9 qV2 H9 m9 := ⟨s9, f9, Ext.refl _ _⟩
                    refine hC1 _ H9 m9 sxd q2 S9 qV2 H9 m9 st9 _ _ (holds_bind.mp h9) fun b1 S10 H10 m10 h10 e10 s10 => ?_
                    have go1 : ∀ {H11 : Hp} {m11 : List Addr}, Ext H10 m10 H11 m11 → Ext (offH H6 A) m6 H11 m11 ∧ A ∉ m11 ∧ H11 A = some (.lst xs7) := fun {H11 m11} e11 => by
                      have q1 := e8.keep A _ hA7 n7
                      have q2 := e9.keep A _ q1.1 q1.2
                      have q3 := e10.keep A _ q2.1 q2.2
                      have q4 := e11.keep A _ q3.1 q3.2
                      exact ⟨(((e7.trans e8).trans e9).trans e10).trans e11, q4.2, q4.1⟩
                    have r10 : RVs X.K H10 m10 acc7 xs7 := ((r7.mono s7 e8).mono s8 e9).mono s9 e10
                    cases b1 with
                    | false =>
                      rw [if_neg Bool.false_ne_true]
                      obtain ⟨l1, l2, l3⟩ := go1 (Ext.refl H10 m10)
                      exact ⟨m10, S10, acc7, xs7, s10, l1, l2, l3, r10, holds_bind.mpr h10⟩
                    | true =>
                      rw [if_pos rfl]
                      intro se He Ce ce fe
                      have sxe := sx.blk (H1 := H10) (m1 := m10) ok se He Ce ce fe
                      have st10 : ST X.K H10 m10 q2 S10 qV2 H10 m10 := ⟨s10, f9.mono s9 e10, Ext.refl _ _⟩
                      refine hX _ H10 m10 sxe q2 S10 qV2 H10 m10 st10 _ _ (holds_bind.mp h10) fun x11 S11 v11 H11 m11 h11 e11 s11 r11 => ?_
                      obtain ⟨l1, l2, l3⟩ := go1 e11
                      have h12 : (ifR (decide (acc7.length < LM)) (compL (innT evT1' evC1 evX vs1 q1) s1' kn (j + 1) (acc7 ++ [x11]) S11)).holds _ _ := h11
                      obtain ⟨hc, h12⟩ := holds_ifR h12
                      refine ⟨xs7, l3, by rw [← r7.length]; exact sz_lt (of_decide_eq_true hc), ?_⟩
                      have ra : RVs X.K H11 m11 acc7 xs7 := r10.mono s10 e11
                      have hx : ∀ b o, H11 b = some o → b ≠ A → (upd H11 A (.lst (xs7 ++ [v11]))) b = some o := fun b o hb hn => by rw [upd_ne hn]; exact hb
                      have nT : ∀ b ys, SqT X.K H11 b ys → SqT X.K (upd H11 A (.lst (xs7 ++ [v11]))) b ys := fun b ys hs => by
                        rcases hs with (hs | ⟨o, hs⟩) | hs
                        · exact .inl (.inl (hx b _ hs fun z => by rw [z, l3] at hs; cases hs))
                        · exact .inl (.inr ⟨o, hx b _ hs fun z => by rw [z, l3] at hs; cases hs⟩)
                        · exact .inr hs
                      refine ⟨m11, S11, acc7 ++ [x11], xs7 ++ [v11], sr_side nT (fun b hb => by rw [upd_ne (fun z => l2 (by rw [← z]; exact hb))]) s11, ?_, l2, upd_same, (ra.app (.cons r11 .nil)).side nT, holds_bind.mpr h12⟩
                      refine ⟨l1.pre, fun b o hb nb => ?_⟩
                      obtain ⟨w1, w2⟩ := l1.keep b o hb nb
                      exact ⟨hx b o w1 (off_some hb).1, w2⟩
theorem snd_comp2 (sx : SX xc g p cl k c E H0 m0 X) {t t1 : CT} {ei ei1 : En → Sto → R Sr} {evT evT1' : D → En → Sto → R En} {evC evC1 : En → Sto → R Bool} {evX : En → Sto → R D} {vs vs1 : List Nat} {elt tg iter tg1 iter1 : Expr} {ifs ifs1 : List Expr} {scope : Scope}
    (hset : noSet iter = true) (hset1 : noSet iter1 = true) (hvs : vs1.all (vs.contains ·) = true) (ok : blkC c.N c.sc scope (ownS c.N vs) = true) (htg : tgIn t vs = true) (htg1 : tgIn t1 vs1 = true) (hi : SndI E H0 m0 X ei tg iter)
    (hG : ∀ X' H1 m1, SX xc g p cl k (blkS c scope) E0 H1 m1 X' → SndG E0 H1 m1 X' t evT tg) (hC : ∀ X' H1 m1, SX xc g p cl k (blkS c scope) E0 H1 m1 X' → SndC E0 H1 m1 X' evC ifs)
    (hI1 : ∀ X' H1 m1, SX xc g p cl k (blkS c scope) E0 H1 m1 X' → SndI E0 H1 m1 X' ei1 tg1 iter1)
    (hG1 : ∀ X' H1 m1, SX xc g p cl k (blkS c scope) E0 H1 m1 X' → SndG E0 H1 m1 X' t1 evT1' tg1) (hC1 : ∀ X' H1 m1, SX xc g p cl k (blkS c scope) E0 H1 m1 X' → SndC E0 H1 m1 X' evC1 ifs1)
    (hX : ∀ X' H1 m1, SX xc g p cl k (blkS c scope) E0 H1 m1 X' → SndE E0 H1 m1 X' evX elt) :
    SndE E H0 m0 X (comp2R ei evT evC ei1 evT1' evC1 evX vs vs1) (.ListComp elt [⟨tg, iter, ifs, 0⟩, ⟨tg1, iter1, ifs1, 0⟩] scope pos) := fun q S qV H m st Qd Q hh kk =>
  ⟨_, pe_lc2 (own := ownS c.N vs) (vs1 := vs1) sx.calm (by rw [sx.hN]; exact sx.nd) pi_w (blkOk_by (by rw [sx.hN, sx.hsc]; exact ok)) (vs_in hvs) pg_b pts_b pi_b pg_b pts_b pe_b (fold_no hset) (fun _ => fold_no hset1), comp2_rd sx ok htg htg1 hi hG hC hI1 hG1 hC1 hX q S qV H m st Qd Q hh kk⟩
end DI
/-! DI: statements. -/
namespace DI
open PySem L2
variable {K : PySem.W.Frag} {H : Hp} {m : List Addr} {S : Sto} {X : Cx}
variable {E : EX} {H0 : Hp} {m0 : List Addr} {xc : Nat → Value} {g : GS} {p : PG} {cl : Cl} {k : Nat} {c : SC} {pos : Pos}
variable {ea eb ec : En → Sto → R D} {ta tb tc : En → Sto → R Bool} {a b d : Expr}

theorem bindE_holds {A : Type} {q : En} {r : R A} {f : A → Sto → R Fl} {Q : Fl → Sto → Prop} (h : (bindE q r f).holds Q (fun _ _ => False)) : r.holds (fun a S => (f a S).holds Q (fun _ _ => False)) (fun x S => Q (.exn x q) S) := by
  cases r with
  | stk => exact h
  | ok a S => exact h
  | exn x S => exact h
theorem noexn_holds {A : Type} {r : R A} {Q : A → Sto → Prop} {Ee Ef : XN → Sto → Prop} (hn : ∀ x S', r ≠ .exn x S') (h : r.holds Q Ee) : r.holds Q Ef := by
  cases r with
  | stk => exact h
  | ok a S => exact h
  | exn x S => exact (hn x S rfl).elim
/-- what is wanted of a statement's ends -/
structure KK (E : EX) (X : Cx) (H : Hp) (m : List Addr) (Qd : Fl → Sto → Prop) (Dn : Ends) : Prop where
  nx : ∀ q' S' qV' H' m', Qd (.next q') S' → Ext H m H' m' → SR X.K H' m' S' → FR X.K H' m' q' qV' → Dn.nx qV' H'
  rt : ∀ d S' v H' m', Qd (.ret d) S' → Ext H m H' m' → SR X.K H' m' S' → RV X.K H' m' d v → Dn.rt v H'
  bk : ∀ q' S' qV' H' m', Qd (.brk q') S' → Ext H m H' m' → SR X.K H' m' S' → FR X.K H' m' q' qV' → Dn.bk qV' H'
  ct : ∀ q' S' qV' H' m', Qd (.cnt q') S' → Ext H m H' m' → SR X.K H' m' S' → FR X.K H' m' q' qV' → Dn.ct qV' H'
  ex : ∀ x q' S', Qd (.exn x q') S' → E x q' S'
theorem KK.go {Qd : Fl → Sto → Prop} {Dn : Ends} {H1 : Hp} {m1 : List Addr} (q : KK E X H m Qd Dn) (e : Ext H m H1 m1) : KK E X H1 m1 Qd Dn :=
  ⟨fun q' S' qV' H' m' h e' s f => q.nx q' S' qV' H' m' h (e.trans e') s f, fun d S' v H' m' h e' s f => q.rt d S' v H' m' h (e.trans e') s f, fun q' S' qV' H' m' h e' s f => q.bk q' S' qV' H' m' h (e.trans e') s f,
    fun q' S' qV' H' m' h e' s f => q.ct q' S' qV' H' m' h (e.trans e') s f, q.ex⟩
abbrev noF : XN → Sto → Prop := fun _ _ => False
def SndS (E : EX) (H0 : Hp) (m0 : List Addr) (X : Cx) (ev : En → Sto → R Fl) (s : Stmt) : Prop := ∀ (q : En) (S : Sto) (qV : L2.St) (H : Hp) (m : List Addr), ST X.K H0 m0 q S qV H m → ∀ (Qd : Fl → Sto → Prop) (Dn : Ends),
  (ev q S).holds Qd noF → KK E X H m Qd Dn → WS X s Dn qV H
def SndSs (E : EX) (H0 : Hp) (m0 : List Addr) (X : Cx) (ev : En → Sto → R Fl) (s : List Stmt) : Prop := ∀ (q : En) (S : Sto) (qV : L2.St) (H : Hp) (m : List Addr), ST X.K H0 m0 q S qV H m → ∀ (Qd : Fl → Sto → Prop) (Dn : Ends),
  (ev q S).holds Qd noF → KK E X H m Qd Dn → WSs X s Dn qV H
/-- an expression first -/
theorem ask {q : En} {S : Sto} {qV : L2.St} {f : D → Sto → R Fl} {Qd : Fl → Sto → Prop} {Dn : Ends} (ha : SndE E H0 m0 X ea a) (st : ST X.K H0 m0 q S qV H m) (hh : (bindE q (ea q S) f).holds Qd noF) (kk : KK E X H m Qd Dn) {Q : VK}
    (hq : ∀ d S' v H' m', (f d S').holds Qd noF → KK E X H' m' Qd Dn → ST X.K H0 m0 q S' qV H' m' → RV X.K H' m' d v → Ext H m H' m' → Q v H') : WE X a qV H Q :=
  ha q S qV H m st (fun d S' => (f d S').holds Qd noF) Q (holds_imp (bindE_holds hh) (fun _ _ z => z) fun x S' z => kk.ex x q S' z) fun d S' v H' m' h e s r => hq d S' v H' m' h (kk.go e) (st.go e s) r e
theorem askT {q : En} {S : Sto} {qV : L2.St} {f : Bool → Sto → R Fl} {Qd : Fl → Sto → Prop} {Dn : Ends} (ha : SndT E H0 m0 X ta a) (st : ST X.K H0 m0 q S qV H m) (hh : (bindE q (ta q S) f).holds Qd noF) (kk : KK E X H m Qd Dn) {Q : Bool → Hp → Prop}
    (hq : ∀ d S' H' m', (f d S').holds Qd noF → KK E X H' m' Qd Dn → ST X.K H0 m0 q S' qV H' m' → Ext H m H' m' → Q d H') : WT X a qV H Q :=
  ha q S qV H m st (fun d S' => (f d S').holds Qd noF) Q (holds_imp (bindE_holds hh) (fun _ _ z => z) fun x S' z => kk.ex x q S' z) fun d S' H' m' h e s => hq d S' H' m' h (kk.go e) (st.go e s) e
theorem sns_expr (hn : noComp a = true) (ha : SndE E H0 m0 X ea a) : SndS E H0 m0 X (fun q S => bindE q (ea q S) fun _ S => .ok (.next q) S) (.Expr a pos) := fun q S qV H m st Qd Dn hh kk =>
  ⟨_, ps_expr pe_w (swap_no hn), ask ha st hh kk fun d S' v H' m' h kk' st' r e => kk'.nx q S' qV H' m' h (Ext.refl _ _) st'.sr st'.fr⟩
theorem sns_ret (ha : SndE E H0 m0 X ea a) : SndS E H0 m0 X (fun q S => bindE q (ea q S) fun d S => .ok (.ret d) S) (.Return (some a) pos) := fun q S qV H m st Qd Dn hh kk =>
  ⟨_, ps_ret pe_w, ask ha st hh kk fun d S' v H' m' h kk' st' r e => kk'.rt d S' v H' m' h (Ext.refl _ _) st'.sr r⟩
theorem sns_retN : SndS E H0 m0 X (fun q S => .ok (.ret .non) S) (.Return none pos) := fun q S qV H m st Qd Dn hh kk =>
  ⟨_, ps_retN, kk.rt .non S .non H m hh (Ext.refl _ _) st.sr .non⟩
theorem sns_pass : SndS E H0 m0 X (fun q S => .ok (.next q) S) (.Pass pos) := fun q S qV H m st Qd Dn hh kk => ⟨_, ps_pass, kk.nx q S qV H m hh (Ext.refl _ _) st.sr st.fr⟩
theorem sns_brk : SndS E H0 m0 X (fun q S => .ok (.brk q) S) (.Break pos) := fun q S qV H m st Qd Dn hh kk => ⟨_, ps_break, kk.bk q S qV H m hh (Ext.refl _ _) st.sr st.fr⟩
theorem sns_cnt : SndS E H0 m0 X (fun q S => .ok (.cnt q) S) (.Continue pos) := fun q S qV H m st Qd Dn hh kk => ⟨_, ps_continue, kk.ct q S qV H m hh (Ext.refl _ _) st.sr st.fr⟩
theorem sns_never {s : Stmt} : SndS E H0 m0 X (fun q S => .stk) s := fun q S qV H m st Qd Dn hh kk => hh.elim
theorem sns_if {sa sb : En → Sto → R Fl} {xs ys : List Stmt} (ha : SndT E H0 m0 X ta a) (hx : SndSs E H0 m0 X sa xs) (hy : SndSs E H0 m0 X sb ys) : SndS E H0 m0 X (fun q S => bindE q (ta q S) fun t S => match t with | true => sa q S | false => sb q S) (.If a xs ys pos) := by
  intro q S qV H m st Qd Dn hh kk
  refine ⟨_, ps_if pt_w pss_w pss_w, askT ha st hh kk fun t S' H' m' h kk' st' e => ?_⟩
  cases t with
  | true =>
    rw [if_pos rfl]
    exact hx q S' qV H' m' st' Qd Dn h kk'
  | false =>
    rw [if_neg Bool.false_ne_true]
    exact hy q S' qV H' m' st' Qd Dn h kk'
theorem snss_nil : SndSs E H0 m0 X (fun q S => .ok (.next q) S) [] := fun q S qV H m st Qd Dn hh kk => ⟨_, pss_nil, kk.nx q S qV H m hh (Ext.refl _ _) st.sr st.fr⟩
theorem snss_cons {sa sb : En → Sto → R Fl} {s : Stmt} {ss : List Stmt} (h1 : SndS E H0 m0 X sa s) (h2 : SndSs E H0 m0 X sb ss) : SndSs E H0 m0 X (fun q S => (sa q S).bind fun f S => match f with | .next q => sb q S | f => .ok f S) (s :: ss) := by
  intro q S qV H m st Qd Dn hh kk
  refine ⟨_, pss_cons ps_w pss_w, h1 q S qV H m st _ _ (holds_bind.mp hh) ?_⟩
  refine ⟨fun q' S' qV' H' m' h e s f => ?_, fun d S' v H' m' h e s f => kk.rt d S' v H' m' h e s f, fun q' S' qV' H' m' h e s f => kk.bk q' S' qV' H' m' h e s f, fun q' S' qV' H' m' h e s f => kk.ct q' S' qV' H' m' h e s f, fun x q' S' h => kk.ex x q' S' h⟩
  exact h2 q' S' qV' H' m' ⟨s, f, st.ex.trans e⟩ Qd Dn h (kk.go e)
/-! ### assignments -/
theorem swapS_no {t e : Expr} {env : Env} (h : (noTup t || noTup e) = true) : swappedStores [t] e env = pure none := by
  cases e with
  | Tuple vs k2 p2 =>
    cases t with
    | Tuple ts k p => exact (Bool.false_ne_true h).elim
    | List ts p => exact (Bool.false_ne_true h).elim
    | _ => rfl
  | _ => cases t <;> rfl
theorem nm_no {sc : Scope} {env : Env} (he : env.scope = sc) {x : Str} (h : locB sc x = false) : (env.kindOf x == some .local) = false := by
  subst he
  unfold locB at h
  unfold Env.kindOf
  split at h
  · cases h
  · rename_i n
    exact beq_eq_false_iff_ne.mpr fun z => n z
theorem nm_len {line : Nat} {env : Env} : ∀ (ts : List Expr), (ts.filterMap fun | .Name id pos => if env.kindOf id == some .local && pos.line == line then some id else none | _ => none).length ≤ ts.length ∧ (ts.any (fun x => !nmB env.scope x) = true → (ts.filterMap fun | .Name id pos => if env.kindOf id == some .local && pos.line == line then some id else none | _ => none).length < ts.length)
  | [] => ⟨Nat.le_refl _, fun h => (Bool.false_ne_true h).elim⟩
  | t :: ts => by
    obtain ⟨i1, i2⟩ := nm_len (line := line) (env := env) ts
    rw [List.filterMap_cons, List.any_cons, List.length_cons]
    refine ⟨?_, fun h => ?_⟩
    · split
      · omega
      · rw [List.length_cons]
        omega
    · rw [Bool.or_eq_true] at h
      split
      · omega
      · rename_i hx
        rw [List.length_cons]
        rcases h with h | h
        · cases t with
          | Name x px =>
            have h' : locB env.scope x = false := by simpa [nmB] using h
            have q := nm_no rfl h'
            simp [q] at hx
          | _ => cases hx
        · have := i2 h
          omega
theorem swapS_none {t e : Expr} {env : Env} (h : swNo env.scope t e = true) : swappedStores [t] e env = pure none := by
  unfold swNo at h
  split at h
  · rename_i ts k p vs k2 p2
    unfold swappedStores
    dsimp only
    split
    · rfl
    · rename_i h1
      split
      · rfl
      · split
        · rfl
        · rename_i h3
          split
          · rfl
          · rename_i h4
            rw [Bool.or_eq_true, Bool.or_eq_true] at h
            rcases h with (h | h) | h
            · exact (h1 (by rw [h]; simp)).elim
            · have := (nm_len (line := (ts.head?.map (·.pos.line)).getD 0) (env := env) ts).2 h
              refine (h3 ?_).elim
              rw [Bool.or_eq_true]
              refine .inl ?_
              rw [bne_iff_ne]
              exact Nat.ne_of_lt this
            · exact (h4 h).elim
  · exact swapS_no h
theorem swapC_no {t e : Expr} {n : Nat} {env : Env} (h : swC env.scope t e = true) : swapsWithSole [t] e n env = pure false := by
  unfold swC at h
  rw [Bool.or_eq_true] at h
  rcases h with h | h
  · exact swap_no h
  · show swapsWith e (some t) n env = pure false
    cases t with
    | Name x px =>
      have h' : locB env.scope x = false := by simpa using h
      have q := nm_no rfl h'
      cases e <;> first | rfl | (unfold swapsWith; dsimp only; rw [q, Bool.and_false, Bool.false_and, Bool.false_and])
    | _ => cases e <;> rfl
theorem sns_asg (sx : SX xc g p cl k c E H0 m0 X) {t : CT} {evT : D → En → Sto → R En} {tg : Expr} (hn : swC c.sc tg a = true) (hs : nostar tg = true) (hw : swNo c.sc tg a = true) (hev : ∀ d q S x S', evT d q S ≠ .exn x S') (ha : SndE E H0 m0 X ea a) (ht : SndG E H0 m0 X t evT tg) :
    SndS E H0 m0 X (fun q S => bindE q (ea q S) fun d S => bindE q (evT d q S) fun q S => .ok (.next q) S) (.Assign [tg] a pos) := by
  intro q S qV H m st Qd Dn hh kk
  refine ⟨_, ps_asg pe_w pg_w (swapC_no (by rw [sx.hsc]; exact hn)) (swapS_none (by rw [sx.hsc]; exact hw)) (asg1 hs), ask ha st hh kk fun d S' v H' m' h kk' st' r e => ?_⟩
  have h' : (evT d q S').holds (fun q S => Qd (.next q) S) (fun _ _ => False) := by
    have h2 := bindE_holds h
    cases e1 : evT d q S' with
    | stk => rw [e1] at h2; exact h2
    | ok q1 S1 => rw [e1] at h2; exact h2
    | exn x S1 => exact (hev d q S' x S1 e1).elim
  exact ht q S' qV H' m' d v st' r _ _ h' fun q1 S1 qV1 H1 m1 h1 e1 s1 f1 _ => kk'.nx q1 S1 qV1 H1 m1 h1 e1 s1 f1
theorem sns_par2 (sx : SX xc g p cl k c E H0 m0 X) {i j : Nat} {x y : Str} {px py pt : Pos} {kt k2 : Nat} {pt2 : Pos} (hi : c.N[i]? = some x) (hj : c.N[j]? = some y) (hij : i ≠ j) (hx : locB c.sc x = true) (hy : locB c.sc y = true) (na : nostar a = true) (nb : nostar b = true)
    (hw : swappedStores [.Tuple [.Name x px, .Name y py] kt pt] (.Tuple [a, b] k2 pt2) X.env = pure (some [x, y])) (ha : SndE E H0 m0 X ea a) (hb : SndE E H0 m0 X eb b) :
    SndS E H0 m0 X (fun q S => bindE q (ea q S) fun d S => bindE q (eb q S) fun e S => .ok (.next ((q.set i (some d)).set j (some e))) S) (.Assign [.Tuple [.Name x px, .Name y py] kt pt] (.Tuple [a, b] k2 pt2) pos) := by
  intro q S qV H m st Qd Dn hh kk
  have l1 : ∀ {x : Str}, locB c.sc x = true → X.env.scope.names.lookup x = some .local := fun {x} h => by
    rw [sx.hsc]
    unfold locB at h
    split at h
    · assumption
    · cases h
  refine ⟨_, ps_par sx.calm (by rw [sx.hN]; exact sx.nd) (by rw [sx.hN]; exact hi) (by rw [sx.hN]; exact hj) hij (l1 hx) (l1 hy) (pa_cons pe_w (pa_cons pe_w pa_nil (star1 nb)) (star1 na)) hw, ask ha st hh kk fun d1 S1 v1 H1 m1 h1 k1 st1 r1 e1 => ?_⟩
  refine ask hb st1 h1 k1 fun d2 S2 v2 H2 m2 h2 k2 st2 r2 e2 => ?_
  exact ⟨v1, v2, rfl, k2.nx _ S2 _ H2 m2 h2 (Ext.refl _ _) st2.sr ((st2.fr.set i (r1.mono st1.sr e2)).set j r2)⟩
def WIp (X : Cx) (op : Operator) : TIp := fun x y H Q => ∃ t : TIp, PIp X op t ∧ t x y H Q
theorem pip_w {op : Operator} : PIp X op (WIp X op) := fun pins s q H x y v u Q I r1 r2 ⟨t, p, h⟩ => p pins s q H x y v u Q I r1 r2 h
theorem ipD_ok {op : Operator} {d e : D} {v w : V} {Q : VK} {Ee : XN → Sto → Prop} (s : SR X.K H m S) (r : RV X.K H m d v) (t : RV X.K H m e w) (h : (ipD op d e S).holds (PostE X.K H m Q) Ee) : WIp X op v w H Q := by
  unfold ipD at h
  split at h
  · cases r; cases t
    exact ⟨_, ip_add, _, _, rfl, rfl, post_val s (.int _) h⟩
  · cases r; cases t
    exact ⟨_, ip_sub, _, _, rfl, rfl, post_val s (.int _) h⟩
  · cases r; cases t
    obtain ⟨hc, h⟩ := holds_ifR h
    exact ⟨_, iop_add_str, _, _, rfl, rfl, sz_of (of_decide_eq_true hc), post_val s (.str _) h⟩
  · exact h.elim
theorem ipD_noexn {op : Operator} {d e : D} {x : XN} {S' : Sto} : ipD op d e S ≠ .exn x S' := by
  unfold ipD
  split <;> first | (intro z; cases z; done) | skip
  unfold ifR
  split <;> (intro z; cases z)
theorem sns_aug (sx : SX xc g p cl k c E H0 m0 X) {i : Nat} {x : Str} {op : Operator} {px : Pos} (hi : c.N[i]? = some x) (hs : stB c x = true) (ha : SndE E H0 m0 X ea a) :
    SndS E H0 m0 X (fun q S => match lkD q i with | none => .stk | some d => bindE q (ea q S) fun x S => bindE q (ipD op d x S) fun y S => .ok (.next (q.set i (some y))) S) (.AugAssign (.Name x px) op a pos) := by
  intro q S qV H m st Qd Dn hh kk
  cases e : lkD q i with
  | none => dsimp only at hh; rw [e] at hh; exact hh.elim
  | some d =>
    dsimp only at hh
    rw [e] at hh
    have hd' : q[i]? = some (some d) := by
      unfold lkD at e
      split at e
      · cases e
        assumption
      · cases e
    obtain ⟨v, h1, h2⟩ := st.fr.at_ i d hd'
    have hf : X.fn x = true ∨ X.env.scope.names.lookup x = some .local := by
      rw [sx.hsc]
      exact sx.fn x hs
    refine ⟨_, ps_aug (by rw [sx.hN]; exact sx.nd) (by rw [sx.hN]; exact hi) (sx.loc hs) pe_w pip_w hf, v, h1, ask ha st hh kk fun d1 S1 v1 H1 m1 g1 k1 st1 r1 e1 => ?_⟩
    have g2 := bindE_holds g1
    refine ipD_ok (Ee := fun _ _ => False) st1.sr (h2.mono st.sr e1) r1 ?_
    cases e2 : ipD op d d1 S1 with
    | stk => rw [e2] at g2; exact g2
    | exn x S' => exact (ipD_noexn e2).elim
    | ok y S2 =>
      rw [e2] at g2
      exact fun v2 H2 m2 e3 s3 r3 => k1.nx _ S2 _ H2 m2 g2 e3 s3 ((st1.fr.mono st1.sr e3).set i r3)
/-! ### loops -/
theorem sns_for (sx : SX xc g p cl k c E H0 m0 X) {t : CT} {ei : En → Sto → R Sr} {evT : D → En → Sto → R En} {sb : En → Sto → R Fl} {tg iter : Expr} {body : List Stmt} (hset : noSet iter = true) (hev : ∀ d q S x S', evT d q S ≠ .exn x S')
    (hi : SndI E H0 m0 X ei tg iter) (ht : SndG E H0 m0 X t evT tg) (hb : SndSs E H0 m0 X sb body) :
    SndS E H0 m0 X (fun q S => bindE q (ei q S) fun s S => forL (fun d q S => bindE q (evT d q S) fun q S => sb q S) s FU 0 q S) (.For tg iter body [] pos) := by
  intro q S qV H m st Qd Dn hh kk
  refine ⟨_, ps_for sx.po sx.calm pi_w pg_w pss_w (fold_no hset), hi q S qV H m st _ _ (holds_imp (bindE_holds hh) (fun _ _ z => z) fun x S' z => kk.ex x q S' z) fun s S1 J H1 m1 h1 e1 s1 j1 => ?_⟩
  have st1 := st.go e1 s1
  refine ⟨fun i n qV2 H2 => ∃ (m2 : List Addr) (q2 : En) (S2 : Sto), SR X.K H2 m2 S2 ∧ Ext H1 m1 H2 m2 ∧ FR X.K H2 m2 q2 qV2 ∧ (forL (fun d q S => bindE q (evT d q S) fun q S => sb q S) s n i q2 S2).holds Qd noF,
    ⟨FU, m1, q, S1, s1, Ext.refl _ _, st1.fr, h1⟩, ?_⟩
  rintro i n qV2 H2 ⟨m2, q2, S2, s2, e2, f2, h2⟩
  cases n with
  | zero => exact h2.elim
  | succ n =>
    have j2 := j1.mono s1 e2
    cases eS : srcAt s i S2 with
    | none =>
      unfold forL at h2
      rw [eS] at h2
      exact h2.elim
    | some o =>
      cases o with
      | none =>
        unfold forL at h2
        rw [eS] at h2
        exact .inl ⟨src_stop s2 j2 eS, kk.nx q2 S2 qV2 H2 m2 h2 (e1.trans e2) s2 f2⟩
      | some d =>
        unfold forL at h2
        rw [eS] at h2
        have h3 := bindE_holds (holds_bind.mp h2)
        obtain ⟨g1, g2⟩ := src_go s2 j2 eS
        refine .inr ⟨g1, _, fun qV' H' z => ⟨n, Nat.lt_succ_self n, z⟩, fun x H3 y => ?_⟩
        obtain ⟨e3, s3, r3⟩ := g2 x H3 y
        have st3 : ST X.K H0 m0 q2 S2 qV2 H3 m2 := ⟨s3, f2.mono s2 e3, (st1.ex.trans e2).trans e3⟩
        have h4 := noexn_holds (Ef := fun _ _ => False) (fun x S' => hev d q2 S2 x S') h3
        refine ht q2 S2 qV2 H3 m2 d x st3 r3 _ _ h4 fun q4 S4 qV4 H4 m4 h5 e4 s4 f4 _ => ?_
        have base : Ext H m H4 m4 := ((e1.trans e2).trans e3).trans e4
        refine hb q4 S4 qV4 H4 m4 ⟨s4, f4, st3.ex.trans e4⟩ _ _ h5 ⟨fun q5 S5 qV5 H5 m5 h6 e5 s5 f5 => ?_, fun d5 S5 v5 H5 m5 h6 e5 s5 f5 => ?_, fun q5 S5 qV5 H5 m5 h6 e5 s5 f5 => ?_, fun q5 S5 qV5 H5 m5 h6 e5 s5 f5 => ?_, fun x q5 S5 h6 => ?_⟩
        · exact ⟨m5, q5, S5, s5, ((e2.trans e3).trans e4).trans e5, f5, h6⟩
        · exact kk.rt d5 S5 v5 H5 m5 h6 (base.trans e5) s5 f5
        · exact kk.nx q5 S5 qV5 H5 m5 h6 (base.trans e5) s5 f5
        · exact ⟨m5, q5, S5, s5, ((e2.trans e3).trans e4).trans e5, f5, h6⟩
        · exact kk.ex x q5 S5 h6
theorem sns_wh (sx : SX xc g p cl k c E H0 m0 X) {sb : En → Sto → R Fl} {body : List Stmt} (hc : SndT E H0 m0 X ta a) (hb : SndSs E H0 m0 X sb body) : SndS E H0 m0 X (fun q S => whL ta sb FU q S) (.While a body [] pos) := by
  intro q S qV H m st Qd Dn hh kk
  refine ⟨_, ps_while sx.po pt_w pss_w, fun n qV2 H2 => ∃ (m2 : List Addr) (q2 : En) (S2 : Sto), SR X.K H2 m2 S2 ∧ Ext H m H2 m2 ∧ FR X.K H2 m2 q2 qV2 ∧ (whL ta sb n q2 S2).holds Qd noF, ⟨FU, m, q, S, st.sr, Ext.refl _ _, st.fr, hh⟩, ?_⟩
  rintro n qV2 H2 ⟨m2, q2, S2, s2, e2, f2, h2⟩
  cases n with
  | zero => exact h2.elim
  | succ n =>
    unfold whL at h2
    have st2 : ST X.K H0 m0 q2 S2 qV2 H2 m2 := ⟨s2, f2, st.ex.trans e2⟩
    refine askT hc st2 h2 (kk.go e2) fun b S3 H3 m3 h3 k3 st3 e3 => ?_
    cases b with
    | false =>
      rw [if_neg Bool.false_ne_true]
      exact k3.nx q2 S3 qV2 H3 m3 h3 (Ext.refl _ _) st3.sr st3.fr
    | true =>
      rw [if_pos rfl]
      refine ⟨_, fun qV' H' z => ⟨n, Nat.lt_succ_self n, z⟩, ?_⟩
      refine hb q2 S3 qV2 H3 m3 st3 _ _ (holds_bind.mp h3) ⟨fun q5 S5 qV5 H5 m5 h6 e5 s5 f5 => ?_, fun d5 S5 v5 H5 m5 h6 e5 s5 f5 => ?_, fun q5 S5 qV5 H5 m5 h6 e5 s5 f5 => ?_, fun q5 S5 qV5 H5 m5 h6 e5 s5 f5 => ?_, fun x q5 S5 h6 => ?_⟩
      · exact ⟨m5, q5, S5, s5, (e2.trans e3).trans e5, f5, h6⟩
      · exact k3.rt d5 S5 v5 H5 m5 h6 e5 s5 f5
      · exact k3.nx q5 S5 qV5 H5 m5 h6 e5 s5 f5
      · exact ⟨m5, q5, S5, s5, (e2.trans e3).trans e5, f5, h6⟩
      · exact k3.ex x q5 S5 h6
end DI
/-! DI: dict displays, stores of comprehensions, two names at once. -/
namespace DI
open PySem L2
variable {K : PySem.W.Frag} {H : Hp} {m : List Addr} {S : Sto} {X : Cx}
variable {E : EX} {H0 : Hp} {m0 : List Addr} {xc : Nat → Value} {g : GS} {p : PG} {cl : Cl} {k : Nat} {c : SC} {pos : Pos}
variable {ea eb ec : En → Sto → R D} {ta tb tc : En → Sto → R Bool} {a b d : Expr}

theorem adopt_end {K : PySem.W.Frag} {H1 H2 : Hp} {m1 m2 : List Addr} {S2 : Sto} {A : Addr} {o0 ho : HO} {o : O} (s : SR K H2 m2 S2) (e : Ext H1 m1 H2 m2) (hA : H1 A = none) (nA : A ∉ m2) (h2 : H2 A = some o0) (nt : ∀ xs, o0 ≠ .tup xs) (nf : ∀ x u, o0 ≠ .frz x u) (r : ORel K H2 m2 o ho) :
    SR K (upd H2 A ho) (m2 ++ [A]) (S2 ++ [o]) ∧ Ext H1 m1 (upd H2 A ho) (m2 ++ [A]) ∧ RV K (upd H2 A ho) (m2 ++ [A]) (.ref S2.length) (.ref A) := by
  have nT : ∀ b ys, SqT K H2 b ys → SqT K (upd H2 A ho) b ys := fun b ys hs => by
    rcases hs with (hs | ⟨x, hs⟩) | hs
    · refine .inl (.inl ?_)
      rw [upd_ne (fun z => by rw [z, h2] at hs; exact nt _ (Option.some.inj hs))]
      exact hs
    · refine .inl (.inr ⟨x, ?_⟩)
      rw [upd_ne (fun z => by rw [z, h2] at hs; exact nf _ _ (Option.some.inj hs))]
      exact hs
    · exact .inr hs
  have s' : SR K (upd H2 A ho) m2 S2 := sr_side nT (fun b hb => upd_ne (fun z => nA (by rw [← z]; exact hb))) s
  refine ⟨sr_adopt s' upd_same nA (r.side nT), ⟨?_, fun b u hb nb => ?_⟩, .ref ?_⟩
  · obtain ⟨r, hr⟩ := e.pre
    exact ⟨r ++ [A], by rw [hr, List.append_assoc]⟩
  · obtain ⟨q1, q2⟩ := e.keep b u hb nb
    have hne : b ≠ A := fun z => by
      rw [z, hA] at hb
      cases hb
    refine ⟨by rw [upd_ne hne]; exact q1, fun z => ?_⟩
    rcases List.mem_append.mp z with z | z
    · exact q2 z
    · exact hne (by simpa using z)
  · rw [← s.len, List.getElem?_append_right (Nat.le_refl _), Nat.sub_self]
    rfl
def trsOf (X : Cx) : List Key → List Expr → List (TE × TE)
  | k :: ks, e :: es => (tC (kV k), WE X e) :: trsOf X ks es
  | _, _ => []
theorem key_pe {ky : Key} {e : Option Expr} (h : keyE ky e = true) : ∃ x, e = some x ∧ PE X x (tC (kV ky)) := by
  unfold keyE at h
  split at h
  · split at h
    · rename_i i _ _ j
      have e1 := of_decide_eq_true h
      subst e1
      exact ⟨_, rfl, pe_int⟩
    · cases h
  · split at h
    · have e1 := of_decide_eq_true h
      subst e1
      exact ⟨_, rfl, pe_str⟩
    · cases h
  · cases h
theorem pps_of : ∀ {ks : List Key} {keys : List (Option Expr)} {es : List Expr}, keysE ks keys = true → keys.length = es.length → PPs X pos keys es (trsOf X ks es) ∧ keys.all (·.isSome) = true ∧ keys.length = ks.length
  | [], [], [], _, _ => ⟨pps_nil, rfl, rfl⟩
  | [], [], _ :: _, _, h => by cases h
  | [], _ :: _, _, h, _ => (Bool.false_ne_true h).elim
  | _ :: _, [], _, h, _ => (Bool.false_ne_true h).elim
  | _ :: _, _ :: _, [], _, h => by cases h
  | ky :: ks, e :: keys, x :: es, h, hl => by
    have h' : (keyE ky e && keysE ks keys) = true := h
    rw [Bool.and_eq_true] at h'
    obtain ⟨y, rfl, hy⟩ := key_pe (X := X) h'.1
    obtain ⟨i1, i2, i3⟩ := pps_of h'.2 (Nat.succ.inj hl)
    exact ⟨pps_cons hy pe_w i1, by rw [List.all_cons, i2]; rfl, by rw [List.length_cons, List.length_cons, i3]⟩
theorem AllE.pairs {as : CEs} {es : List Expr} (h : AllE p cl E H0 m0 X as es) : ∀ (ks : List Key) (q : En) (S : Sto) (qV : L2.St) (H : Hp) (m : List Addr), ks.length = es.length → ST X.K H0 m0 q S qV H m → ∀ (Qd : List D → Sto → Prop) (Q : List (V × V) → Hp → Prop),
    (evEs p cl as q S).holds Qd (fun x S' => E x q S') → (∀ d S' v H' m', Qd d S' → v.length = es.length → Ext H m H' m' → SR X.K H' m' S' → RVs X.K H' m' d v → Q ((ks.zip v).map fun kv => (kV kv.1, kv.2)) H') → tPairs (trsOf X ks es) qV H Q := by
  induction h with
  | nil =>
    intro ks q S qV H m hl st Qd Q hh kk
    cases ks with
    | nil => exact kk [] S [] H m hh rfl (Ext.refl _ _) st.sr .nil
    | cons _ _ => cases hl
  | @cons a as e es hs ha _ _ ih =>
    intro ks q S qV H m hl st Qd Q hh kk
    cases ks with
    | nil => cases hl
    | cons ky ks =>
      have hh' : ((evE p cl a q S).bind fun d S => (evEs p cl as q S).bind fun ds S => .ok (d :: ds) S).holds Qd (fun x S' => E x q S') := hh
      show tC (kV ky) qV H fun x H1 => WE X e qV H1 fun y H2 => tPairs (trsOf X ks es) qV H2 fun ps H3 => Q ((x, y) :: ps) H3
      refine ha q S qV H m st _ _ (holds_bind.mp hh') fun d S1 v H1 m1 h1 e1 s1 r1 => ?_
      refine ih ks q S1 qV H1 m1 (Nat.succ.inj hl) (st.go e1 s1) _ _ (holds_bind.mp h1) fun ds S2 vs H2 m2 h2 hl2 e2 s2 r2 => ?_
      exact kk (d :: ds) S2 (v :: vs) H2 m2 h2 (by rw [List.length_cons, List.length_cons, hl2]) (e1.trans e2) s2 (.cons (r1.mono s1 e2) r2)
theorem mergeK_nodup : ∀ (more kvs : List (Key × V)), ((kvs ++ more).map (·.1)).Nodup → mergeK kvs more = kvs ++ more
  | [], kvs, _ => (List.append_nil kvs).symm
  | x :: more, kvs, h => by
    show mergeK (putK kvs x.1 x.2) more = kvs ++ x :: more
    have hn : (kvs.any fun kv => decide (kv.1 = x.1)) = false := by
      rw [List.any_eq_false]
      intro y hy z
      have z' := of_decide_eq_true z
      rw [List.map_append, List.nodup_append] at h
      exact h.2.2 y.1 (List.mem_map.mpr ⟨y, hy, rfl⟩) x.1 (by simp) z'
    have e : putK kvs x.1 x.2 = kvs ++ [x] := by
      unfold putK
      rw [hn, if_neg Bool.false_ne_true]
    rw [e, mergeK_nodup more (kvs ++ [x]) (by rw [List.append_assoc]; exact h), List.append_assoc]
    rfl
theorem AllE.dict {as : CEs} {es : List Expr} {ks : List Key} {keys : List (Option Expr)} (h : AllE p cl E H0 m0 X as es) (hk : keysE ks keys = true) (hl : keys.length = es.length ∧ keys.length ≤ 15) :
    SndE E H0 m0 X (fun q S => (evEs p cl as q S).bind fun ds S => ifR (decide (ks.length = ds.length ∧ ks.Nodup)) (.ok (.ref S.length) (S ++ [.dk (ks.zip ds)]))) (.Dict keys es pos) := by
  obtain ⟨P, ha, hn⟩ := pps_of (X := X) (pos := pos) hk hl.1
  intro q S qV H m st Qd Q hh kk
  cases keys with
  | nil =>
    cases ks with
    | cons _ _ => cases hn
    | nil =>
      cases es with
      | cons _ _ => cases hl.1
      | nil =>
        cases h
        refine ⟨_, pe_dnewK, fun A hA => ?_⟩
        have hh2 := holds_bind.mp hh
        obtain ⟨_, h3⟩ := holds_ifR (show (ifR (decide (([] : List Key).length = ([] : List D).length ∧ ([] : List Key).Nodup)) (.ok (.ref S.length) (S ++ [.dk []])) : R D).holds Qd (fun x S' => E x q S') from hh2)
        refine kk _ _ _ _ (m ++ [A]) h3 (ext_push st.sr hA) (sr_push st.sr hA (.dk rfl .nil)) (.ref ?_)
        rw [← st.sr.len, List.getElem?_append_right (Nat.le_refl _), Nat.sub_self]
        rfl
  | cons e0 keys =>
    refine ⟨_, pe_disp P ha hl.1 (by simp) hl.2, fun A hA => ?_⟩
    have st1 : ST X.K H0 m0 q S qV (upd H A (.dK [])) m := st.go (ext_new st.sr hA) (sr_new st.sr hA)
    refine h.pairs ks q S qV _ m (hn.symm.trans hl.1) st1 _ _ (holds_bind.mp hh) fun ds S2 vs H2 m2 h2 hv e2 s2 r2 => ?_
    obtain ⟨hc, h3⟩ := holds_ifR h2
    have hc' := of_decide_eq_true hc
    have kA := e2.keep A _ upd_same (st.sr.new hA)
    have hlen : ks.length = vs.length := by rw [hv, ← hl.1, hn]
    have z1 : (ks.zip vs).map (·.1) = ks := List.map_fst_zip (by omega)
    have z2 : (ks.zip vs).map (·.2) = vs := List.map_snd_zip (by omega)
    have z3 : (ks.zip ds).map (·.1) = ks := List.map_fst_zip (by omega)
    have z4 : (ks.zip ds).map (·.2) = ds := List.map_snd_zip (by omega)
    refine ⟨kA.1, ks.zip vs, rfl, ?_, ?_⟩
    · rw [List.length_zip]
      have := hl.2
      omega
    · rw [mergeK_nodup (ks.zip vs) [] (by rw [List.nil_append, z1]; exact hc'.2), List.nil_append]
      have eH : Ext H m H2 m2 := (ext_new st.sr hA).trans e2
      obtain ⟨a1, a2, a3⟩ := adopt_end (o := .dk (ks.zip ds)) (ho := .dK (ks.zip vs)) s2 eH hA kA.2 kA.1 (fun _ z => by cases z) (fun _ _ z => by cases z) (.dk (z1.trans z3.symm) (by rw [z2, z4]; exact r2))
      exact kk _ _ _ _ _ h3 a2 a1 a3
theorem sns_setc (sx : SX xc g p cl k c E H0 m0 X) {t : CT} {ei : En → Sto → R Sr} {evT : D → En → Sto → R En} {evC : En → Sto → R Bool} {evX : En → Sto → R D} {vs : List Nat} {elt tg iter : Expr} {ifs : List Expr} {scope : Scope} {i : Nat} {y : Str} {py q0 : Pos}
    (hset : noSet iter = true) (ok : blkC c.N c.sc scope (ownS c.N vs) = true) (htg : tgIn t vs = true) (hi : SndI E H0 m0 X ei tg iter)
    (hG : ∀ X' H1 m1, SX xc g p cl k (blkS c scope) E0 H1 m1 X' → SndG E0 H1 m1 X' t evT tg) (hC : ∀ X' H1 m1, SX xc g p cl k (blkS c scope) E0 H1 m1 X' → SndC E0 H1 m1 X' evC ifs) (hX : ∀ X' H1 m1, SX xc g p cl k (blkS c scope) E0 H1 m1 X' → SndE E0 H1 m1 X' evX elt)
    (hy : c.N[i]? = some y) (hs : swB c (.Name y py) (.ListComp elt [⟨tg, iter, ifs, 0⟩] scope q0) pos.line = true) :
    SndS E H0 m0 X (fun q S => bindE q (compR ei evT evC evX vs q S) fun d S => bindE q (.ok (q.set i (some d)) S) fun q S => .ok (.next q) S) (.Assign [.Name y py] (.ListComp elt [⟨tg, iter, ifs, 0⟩] scope q0) pos) := by
  have hs' : (locB c.sc y && (py.line == pos.line) && (q0.line == py.line) && !(scope.names.any fun (n, k) => n == y && (k == .local || k == .cell))) = true := hs
  simp only [Bool.and_eq_true, Bool.not_eq_true'] at hs'
  obtain ⟨⟨⟨h1, h2⟩, h3⟩, h4⟩ := hs'
  have l1 : X.env.scope.names.lookup y = some .local := by
    rw [sx.hsc]
    unfold locB at h1
    split at h1
    · assumption
    · cases h1
  intro q S qV H m st Qd Dn hh kk
  have e1 : q0.line = py.line := beq_iff_eq.mp h3
  have e2 : py.line = pos.line := beq_iff_eq.mp h2
  refine ⟨_, ps_setLc (i := i) (own := ownS c.N vs) sx.calm (by rw [sx.hN]; exact sx.nd) (by rw [sx.hN]; exact hy) l1 (sw_true (by rw [sx.hsc]; exact sx.hk) l1 (by rw [e1]; exact beq_self_eq_true _) h4) pi_w (blkOk_by (by rw [sx.hN, sx.hsc]; exact ok)) pg_b pts_b pe_b (fold_no hset),
    comp_rd sx ok htg hi hG hC hX q S qV H m st (fun d S' => Qd (.next (q.set i (some d))) S') _ (holds_imp (bindE_holds hh) (fun _ _ z => z) fun x S' z => kk.ex x q S' z) fun d S' v H' m' h e s r => ?_⟩
  exact kk.nx _ S' _ H' m' h e s ((st.fr.mono st.sr e).set i r)
theorem sns_setc2 (sx : SX xc g p cl k c E H0 m0 X) {t t1 : CT} {ei ei1 : En → Sto → R Sr} {evT evT1' : D → En → Sto → R En} {evC evC1 : En → Sto → R Bool} {evX : En → Sto → R D} {vs vs1 : List Nat} {elt tg iter tg1 iter1 : Expr} {ifs ifs1 : List Expr} {scope : Scope} {i : Nat} {y : Str} {py q0 : Pos}
    (hset : noSet iter = true) (hset1 : noSet iter1 = true) (hvs : vs1.all (vs.contains ·) = true) (ok : blkC c.N c.sc scope (ownS c.N vs) = true) (htg : tgIn t vs = true) (htg1 : tgIn t1 vs1 = true) (hi : SndI E H0 m0 X ei tg iter)
    (hG : ∀ X' H1 m1, SX xc g p cl k (blkS c scope) E0 H1 m1 X' → SndG E0 H1 m1 X' t evT tg) (hC : ∀ X' H1 m1, SX xc g p cl k (blkS c scope) E0 H1 m1 X' → SndC E0 H1 m1 X' evC ifs)
    (hI1 : ∀ X' H1 m1, SX xc g p cl k (blkS c scope) E0 H1 m1 X' → SndI E0 H1 m1 X' ei1 tg1 iter1)
    (hG1 : ∀ X' H1 m1, SX xc g p cl k (blkS c scope) E0 H1 m1 X' → SndG E0 H1 m1 X' t1 evT1' tg1) (hC1 : ∀ X' H1 m1, SX xc g p cl k (blkS c scope) E0 H1 m1 X' → SndC E0 H1 m1 X' evC1 ifs1)
    (hX : ∀ X' H1 m1, SX xc g p cl k (blkS c scope) E0 H1 m1 X' → SndE E0 H1 m1 X' evX elt)
    (hy : c.N[i]? = some y) (hs : swB c (.Name y py) (.ListComp elt [⟨tg, iter, ifs, 0⟩, ⟨tg1, iter1, ifs1, 0⟩] scope q0) pos.line = true) :
    SndS E H0 m0 X (fun q S => bindE q (comp2R ei evT evC ei1 evT1' evC1 evX vs vs1 q S) fun d S => bindE q (.ok (q.set i (some d)) S) fun q S => .ok (.next q) S) (.Assign [.Name y py] (.ListComp elt [⟨tg, iter, ifs, 0⟩, ⟨tg1, iter1, ifs1, 0⟩] scope q0) pos) := by
  have hs' : (locB c.sc y && (py.line == pos.line) && (q0.line == py.line) && !(scope.names.any fun (n, k) => n == y && (k == .local || k == .cell))) = true := hs
  simp only [Bool.and_eq_true, Bool.not_eq_true'] at hs'
  obtain ⟨⟨⟨h1, h2⟩, h3⟩, h4⟩ := hs'
  have l1 : X.env.scope.names.lookup y = some .local := by
    rw [sx.hsc]
    unfold locB at h1
    split at h1
    · assumption
    · cases h1
  intro q S qV H m st Qd Dn hh kk
  have e1 : q0.line = py.line := beq_iff_eq.mp h3
  have e2 : py.line = pos.line := beq_iff_eq.mp h2
  refine ⟨_, ps_setLc2 (i := i) (own := ownS c.N vs) (vs1 := vs1) sx.calm (by rw [sx.hN]; exact sx.nd) (by rw [sx.hN]; exact hy) l1 (sw_true (by rw [sx.hsc]; exact sx.hk) l1 (by rw [e1]; exact beq_self_eq_true _) h4) pi_w (blkOk_by (by rw [sx.hN, sx.hsc]; exact ok)) (vs_in hvs) pg_b pts_b pi_b pg_b pts_b pe_b (fold_no hset) (fun _ => fold_no hset1),
    comp2_rd sx ok htg htg1 hi hG hC hI1 hG1 hC1 hX q S qV H m st (fun d S' => Qd (.next (q.set i (some d))) S') _ (holds_imp (bindE_holds hh) (fun _ _ z => z) fun x S' z => kk.ex x q S' z) fun d S' v H' m' h e s r => ?_⟩
  exact kk.nx _ S' _ H' m' h e s ((st.fr.mono st.sr e).set i r)
theorem swap2 {x y : Str} {px py pt p2 : Pos} {kt k2 : Nat} {env : Env} (hk : env.scope.kind = .function) (hx : env.scope.names.lookup x = some .local) (hy : env.scope.names.lookup y = some .local) (hl : py.line = px.line) (hxy : x ≠ y) (na : nostar a = true) (nb : nostar b = true)
    (h1 : [a, b].all (foldedForSure 8) = false) (h2 : [a, b].all (constantsAlone 8) = false) : swappedStores [.Tuple [.Name x px, .Name y py] kt pt] (.Tuple [a, b] k2 p2) env = pure (some [x, y]) := by
  have hb : env.blockKind = .function := by
    unfold Env.blockKind
    rw [hk]
    rfl
  have hst : ([a, b].any fun | .Starred .. => true | _ => false) = false := by
    have z : ∀ {e : Expr}, nostar e = true → (match e with | .Starred .. => true | _ => false) = false := fun {e} h => by
      cases e <;> first | rfl | exact (Bool.false_ne_true h).elim
    rw [List.any_cons, List.any_cons, z na, z nb]
    rfl
  have hbf : (env.blockKind != ScopeKind.function) = false := by rw [hb]; rfl
  unfold swappedStores
  dsimp only
  generalize hL : List.filterMap _ [Expr.Name x px, Expr.Name y py] = L
  have eL : L = [x, y] := by
    rw [← hL]
    simp [List.filterMap, Env.kindOf, hx, hy, hl, Expr.pos]
  subst eL
  have hd : ([x, y] : List Str).eraseDups = [x, y] := by
    have hyx : (y == x) = false := beq_eq_false_iff_ne.mpr (Ne.symm hxy)
    rw [List.eraseDups_cons, List.filter_cons, hyx]
    rfl
  rw [hd]
  refine (if_neg ?_).trans ((if_neg ?_).trans ((if_neg ?_).trans ((if_neg ?_).trans ((if_neg ?_).trans ?_))))
  · rw [hbf]
    simp
  · intro h
    exact Bool.false_ne_true (hst.symm.trans h)
  · simp
  · rw [h1]
    decide
  · rw [h2]
    decide
  · rfl
theorem swap3 {d : Expr} {x y z : Str} {px py pz pt p2 : Pos} {kt k2 : Nat} {env : Env} (hk : env.scope.kind = .function) (hx : env.scope.names.lookup x = some .local) (hy : env.scope.names.lookup y = some .local) (hz : env.scope.names.lookup z = some .local)
    (hl : py.line = px.line) (hl2 : pz.line = px.line) (hxy : x ≠ y) (hxz : x ≠ z) (hyz : y ≠ z) (na : nostar a = true) (nb : nostar b = true) (nd : nostar d = true)
    (h1 : [a, b, d].all (foldedForSure 8) = false) (h2 : [a, b, d].all (constantsAlone 8) = false) : swappedStores [.Tuple [.Name x px, .Name y py, .Name z pz] kt pt] (.Tuple [a, b, d] k2 p2) env = pure (some [x, y, z]) := by
  have hb : env.blockKind = .function := by
    unfold Env.blockKind
    rw [hk]
    rfl
  have hst : ([a, b, d].any fun | .Starred .. => true | _ => false) = false := by
    have z : ∀ {e : Expr}, nostar e = true → (match e with | .Starred .. => true | _ => false) = false := fun {e} h => by
      cases e <;> first | rfl | exact (Bool.false_ne_true h).elim
    rw [List.any_cons, List.any_cons, List.any_cons, z na, z nb, z nd]
    rfl
  have hbf : (env.blockKind != ScopeKind.function) = false := by rw [hb]; rfl
  unfold swappedStores
  dsimp only
  generalize hL : List.filterMap _ [Expr.Name x px, Expr.Name y py, Expr.Name z pz] = L
  have eL : L = [x, y, z] := by
    rw [← hL]
    simp [List.filterMap, Env.kindOf, hx, hy, hz, hl, hl2, Expr.pos]
  subst eL
  have hd : ([x, y, z] : List Str).eraseDups = [x, y, z] := by
    have h1 : (y == x) = false := beq_eq_false_iff_ne.mpr (Ne.symm hxy)
    have h2 : (z == x) = false := beq_eq_false_iff_ne.mpr (Ne.symm hxz)
    have h3 : (z == y) = false := beq_eq_false_iff_ne.mpr (Ne.symm hyz)
    rw [List.eraseDups_cons]
    simp [List.filter_cons, h1, h2, List.eraseDups_cons, h3]
  rw [hd]
  refine (if_neg ?_).trans ((if_neg ?_).trans ((if_neg ?_).trans ((if_neg ?_).trans ((if_neg ?_).trans ?_))))
  · rw [hbf]
    simp
  · intro h
    exact Bool.false_ne_true (hst.symm.trans h)
  · simp
  · rw [h1]
    decide
  · rw [h2]
    decide
  · rfl
theorem sns_par3 (sx : SX xc g p cl k c E H0 m0 X) {i j l : Nat} {x y z : Str} {px py pz pt : Pos} {kt k2 : Nat} {pt2 : Pos} (hi : c.N[i]? = some x) (hj : c.N[j]? = some y) (hl : c.N[l]? = some z) (hij : i ≠ j) (hil : i ≠ l) (hjl : j ≠ l) (hx : locB c.sc x = true) (hy : locB c.sc y = true) (hz : locB c.sc z = true) (na : nostar a = true) (nb : nostar b = true) (nd : nostar d = true)
    (hw : swappedStores [.Tuple [.Name x px, .Name y py, .Name z pz] kt pt] (.Tuple [a, b, d] k2 pt2) X.env = pure (some [x, y, z])) (ha : SndE E H0 m0 X ea a) (hb : SndE E H0 m0 X eb b) (hd : SndE E H0 m0 X ec d) :
    SndS E H0 m0 X (fun q S => bindE q (ea q S) fun d S => bindE q (eb q S) fun e S => bindE q (ec q S) fun f S => .ok (.next (((q.set i (some d)).set j (some e)).set l (some f))) S) (.Assign [.Tuple [.Name x px, .Name y py, .Name z pz] kt pt] (.Tuple [a, b, d] k2 pt2) pos) := by
  intro q S qV H m st Qd Dn hh kk
  have l1 : ∀ {x : Str}, locB c.sc x = true → X.env.scope.names.lookup x = some .local := fun {x} h => by
    rw [sx.hsc]
    unfold locB at h
    split at h
    · assumption
    · cases h
  refine ⟨_, ps_par3 sx.calm (by rw [sx.hN]; exact sx.nd) (by rw [sx.hN]; exact hi) (by rw [sx.hN]; exact hj) (by rw [sx.hN]; exact hl) hij hil hjl (l1 hx) (l1 hy) (l1 hz) (pa_cons pe_w (pa_cons pe_w (pa_cons pe_w pa_nil (star1 nd)) (star1 nb)) (star1 na)) hw, ask ha st hh kk fun d1 S1 v1 H1 m1 h1 k1 st1 r1 e1 => ?_⟩
  refine ask hb st1 h1 k1 fun d2 S2 v2 H2 m2 h2 k2 st2 r2 e2 => ?_
  refine ask hd st2 h2 k2 fun d3 S3 v3 H3 m3 h3 k3 st3 r3 e3 => ?_
  exact ⟨v1, v2, v3, rfl, k3.nx _ S3 _ H3 m3 h3 (Ext.refl _ _) st3.sr (((st3.fr.set i ((r1.mono st1.sr e2).mono st2.sr e3)).set j (r2.mono st2.sr e3)).set l r3)⟩
end DI
set_option maxHeartbeats 4000000
/-! DI: except suites, raise, try. -/
namespace DI
open PySem L2
variable {K : PySem.W.Frag} {H : Hp} {m : List Addr} {S : Sto} {X : Cx}
variable {E : EX} {H0 H1 : Hp} {m0 m1 : List Addr} {xc : Nat → Value} {g : GS} {p : PG} {cl : Cl} {k : Nat} {c : SC} {pos : Pos}
/-- plain codes in a suite -/
theorem cold_ok (sx : SX xc g p cl k c E H0 m0 X) {a : Addr} {pn : List (Addr × Obj)} {E1 : EX} {H1 : Hp} {m1 : List Addr} : ∀ (w : CE) (e : Expr), coldB w = true → chE g p.kws w c e = true → SndE E1 H1 m1 (X.suite a pn) (evE p cl w) e
  | .var i, e, _, h => by
    unfold chE at h
    split at h
    · simp only [Bool.and_eq_true] at h
      intro q S qV H m st Qd Q hh kk
      obtain ⟨d, hd, hq⟩ := holds_optR hh
      have hd' : q[i]? = some (some d) := by
        unfold lkD at hd
        split at hd
        · cases hd
          assumption
        · cases hd
      obtain ⟨v, h1, h2⟩ := st.fr.at_ i d hd'
      exact ⟨_, pe_var (by show X.N[i]? = _; rw [sx.hN]; exact of_decide_eq_true h.1.1) (sx.vis h.1.2) (okN_d h.2) (okN_c h.2), v, h1, kk d S v H m hq (Ext.refl _ _) st.sr h2⟩
    · cases h
  | .int i, e, _, h => by
    unfold chE at h
    split at h
    · have z := of_decide_eq_true h
      subst z
      exact snd_const (fun _ _ => .int _) pe_int
    · cases h
  | .bl i, e, _, h => by
    unfold chE at h
    split at h
    · have z := of_decide_eq_true h
      subst z
      exact snd_const (fun _ _ => .bl _) pe_bl
    · cases h
  | .non, e, _, h => by
    unfold chE at h
    split at h
    · exact snd_const (fun _ _ => .non) pe_non
    · cases h
  | .str i, e, _, h => by
    unfold chE at h
    split at h
    · have z := of_decide_eq_true h
      subst z
      exact snd_const (fun _ _ => .str _) pe_str
    · cases h
  | .bin op x y, e, hc, h => by
    unfold chE at h
    split at h
    · simp only [Bool.and_eq_true] at h
      have hc' : (coldB x && coldB y) = true := hc
      simp only [Bool.and_eq_true] at hc'
      have z := of_decide_eq_true h.1.1
      subst z
      exact snd_bin (cold_ok sx x _ hc'.1 h.1.2) (cold_ok sx y _ hc'.2 h.2)
    · cases h

theorem look_fs {K : PySem.W.Frag} {H : Hp} {m : List Addr} {f : Str} {d : D} : ∀ {fs : List (Str × D)} {gs : List (Str × V)}, gs.map (·.1) = fs.map (·.1) → RVs K H m (fs.map (·.2)) (gs.map (·.2)) → fs.lookup f = some d → ∃ v, gs.lookup f = some v ∧ RV K H m d v
  | [], _, _, _, h => by cases h
  | (k, x) :: fs, [], e, _, _ => by cases e
  | (k, x) :: fs, (k2, v) :: gs, e, r, h => by
    simp only [List.map_cons, List.cons.injEq] at e
    obtain ⟨e1, e2⟩ := e
    subst e1
    have r' : RVs K H m (x :: fs.map (·.2)) (v :: gs.map (·.2)) := r
    cases r' with
    | cons r1 rt =>
      simp only [List.lookup] at h ⊢
      cases hb : f == k2 with
      | true =>
        rw [hb] at h
        cases h
        exact ⟨v, rfl, r1⟩
      | false =>
        rw [hb] at h
        exact look_fs e2 rt h
/-- what is known in the suite: the error x, at a, in slot i -/
structure Hd (xc : Nat → Value) (p : PG) (c : SC) (X : Cx) (H0 : Hp) (m0 : List Addr) (S0 : Sto) (x : XN) (a : Addr) (oe : Obj) (cls : Value) (d : Option Addr) (n : Str) (i : Nat) (qV : L2.St) : Prop where
  hz : Zc cls d oe
  hf : ∃ vs, oe.data = .fields vs
  xr : XR xc X.K H0 m0 x cls d
  sr : SR X.K H0 m0 S0
  kn : okX p x = true
  hn : c.N[i]? = some n
  ln : locB c.sc n = true
  on : okN n = true
  sl : qV[i]? = some (some (.ref a))
/-- isinstance(e, C), e the caught error at a, with its dict at dd -/
def rEr (K : PySem.W.Frag) (C a : Addr) (d : Option Addr) : List V → Hp → VK → Prop := fun xs H Q => ∃ (cv : Value) (v : V) (b : Bool), xs = [.ref a, v] ∧ (∀ u, RelV v u → u = cv) ∧ PySem.W.kitOne K (.ref C) cv = some b ∧ (∀ dd, d = some dd → ∃ fs, H dd = some (.xd fs)) ∧ Q (.bl b) H
theorem call_er {a C : Addr} {oe : Obj} {d : Option Addr} {pn : List (Addr × Obj)} (T : ExcC X.K C) (hz : Zc (.ref C) d oe) (hf : ∃ vs, oe.data = .fields vs) : CallR (X.suite a ((a, oe) :: pn)) (.builtin "isinstance") (rEr X.K C a d) := by
  intro pins s σ H xs us Q I r h
  obtain ⟨cv, v, b, rfl, hcv, e, hd, q⟩ := h
  cases r with
  | cons rx rr =>
    cases rr with
    | cons rt rr =>
      cases rr
      cases rx
      have ec := hcv _ rt
      subst ec
      obtain ⟨at_, _⟩ := I.pin (a, oe) (List.mem_append.mpr (.inl List.mem_cons_self))
      obtain ⟨vs, hv⟩ := hf
      have nc : PySem.W.notCls oe = true := by
        unfold PySem.W.notCls
        rw [hv]
      have J : ∃ od, PySem.W.InstAt s.heap a oe C od := by
        cases d with
        | none => exact ⟨none, at_, hz.1, nc, by rw [hz.2]; trivial⟩
        | some dd =>
          obtain ⟨fs, hx⟩ := hd dd rfl
          have hx' : ObjOk X.prog X.w H s.heap dd (.xd fs) := I.hok dd _ hx
          obtain ⟨mA, hns, _⟩ := hx'
          obtain ⟨od, ho, _⟩ := lookIn_ns hns
          exact ⟨some od, at_, hz.1, nc, by rw [hz.2]; exact ho⟩
      obtain ⟨od, J⟩ := J
      exact PySem.W.kia_one (kit_of T) I.kIn J e (fun z => nomatch z) fun tk => ⟨.bl b, H, I.kept (t' := tk) fun _ _ z => z, rfl, q⟩

section
variable {S0 : Sto} {x : XN} {a : Addr} {oe : Obj} {cls : Value} {d : Option Addr} {n : Str} {i : Nat} {qV : L2.St} {pn : List (Addr × Obj)}
theorem Hd.pe (h : Hd xc p c X H0 m0 S0 x a oe cls d n i qV) (sx : SX xc g p cl k c E H1 m1 X) {ps : Pos} {Q : VK} (q : Q (.ref a) H) : ∃ t, PE (X.suite a ((a, oe) :: pn)) (.Name n ps) t ∧ t qV H Q :=
  ⟨_, pe_var (by show X.N[i]? = _; rw [sx.hN]; exact h.hn) (sx.vis (by have := h.ln; unfold locB at this; unfold visB; split at this <;> first | (rename_i e; rw [e]) | cases this)) (okN_d h.on) (okN_c h.on), .ref a, h.sl, q⟩
theorem Hd.dict (h : Hd xc p c X H0 m0 S0 x a oe cls d n i qV) {H : Hp} {m : List Addr} (e : Ext H0 m0 H m) : (x.fs = [] ∧ d = none) ∨ ∃ dd gs, d = some dd ∧ H dd = some (.xd gs) ∧ gs.map (·.1) = x.fs.map (·.1) ∧ RVs X.K H m (x.fs.map (·.2)) (gs.map (·.2)) := by
  rcases h.xr.2 with z | ⟨dd, gs, e1, e2, e3, e4⟩
  · exact .inl z
  · exact .inr ⟨dd, gs, e1, (e.keep dd _ e2 (h.sr.out e2 fun o q => by cases q)).1, e3, e4.mono h.sr e⟩
theorem Hd.cls_at (h : Hd xc p c X H0 m0 S0 x a oe cls d n i qV) (sx : SX xc g p cl k c E H1 m1 X) : ∃ C e y, p.exs[x.cls]? = some e ∧ g.exs[x.cls]? = some y ∧ xc x.cls = .ref C ∧ cls = .ref C ∧ ErF X.K X.mg y C e := by
  obtain ⟨e, he⟩ : ∃ e, p.exs[x.cls]? = some e := by
    have := h.kn
    unfold okX at this
    split at this
    · exact ⟨_, by assumption⟩
    · cases this
  have hl : x.cls < g.exs.length := by
    rw [sx.gok.exl]
    exact (List.getElem?_eq_some_iff.mp he).1
  obtain ⟨C, hC, F⟩ := sx.gok.exc x.cls _ e (List.getElem?_eq_getElem hl) he
  exact ⟨C, e, _, he, List.getElem?_eq_getElem hl, hC, by rw [h.xr.1, hC], F⟩
mutual
theorem cH (sx : SX xc g p cl k c E H1 m1 X) (h : Hd xc p c X H0 m0 S0 x a oe cls d n i qV) (nf : ∀ e, p.exs[x.cls]? = some e → ∀ f v, x.fs.lookup f = some v → f ∈ e.fs) : ∀ (w : HX) (e : Expr), chX g p.kws n w c e = true → ∀ (q : En) (S : Sto) (H : Hp) (m : List Addr), ST X.K H0 m0 q S qV H m → ∀ (Qd : D → Sto → Prop) (Q : VK),
    (evH p cl x w q S).holds Qd noF → (∀ dd S' v H' m', Qd dd S' → Ext H m H' m' → SR X.K H' m' S' → RV X.K H' m' dd v → Q v H') → WE (X.suite a ((a, oe) :: pn)) e qV H Q
  | .pl w, e, hc, q, S, H, m, st, Qd, Q, hh, kk => by
    unfold chX at hc
    simp only [Bool.and_eq_true] at hc
    exact cold_ok sx (E1 := fun _ _ _ => False) w e hc.1 hc.2 q S qV H m st Qd Q hh kk
  | .fld f0, e, hc, q, S, H, m, st, Qd, Q, hh, kk => by
    unfold chX at hc
    split at hc
    · rename_i y0 p0 f p1
      simp only [Bool.and_eq_true] at hc
      obtain ⟨e1, e2⟩ := of_decide_eq_true hc.1
      subst e1 e2
      obtain ⟨dv, hl, hq⟩ := holds_optR (show (optR (x.fs.lookup f) S : R D).holds Qd noF from hh)
      rcases h.dict st.ex with z | ⟨dd, gs, ed, ex, en, er⟩
      · rw [z.1] at hl
        cases hl
      · obtain ⟨C, ec, y, hec, hy, hC, hcl, F⟩ := h.cls_at sx
        obtain ⟨v, hv, rv⟩ := look_fs en er hl
        obtain ⟨t, pt, ht⟩ := h.pe sx (Q := fun u H1 => u = .ref a ∧ cls = .ref C ∧ ∃ (dd : Addr) (fs : List (Str × V)) (v : V), d = some dd ∧ H1 dd = some (.xd fs) ∧ fs.lookup f = some v ∧ Q v H1) ⟨rfl, hcl, dd, gs, v, ed, ex, hv, kk dv S v H m hq (Ext.refl _ _) st.sr rv⟩
        exact ⟨_, pe_xf F.xf (F.no f (nf ec hec f dv hl)) h.hz h.hf pt, ht⟩
    · cases hc
  | .isE j, e, hc, q, S, H, m, st, Qd, Q, hh, kk => by
    unfold chX at hc
    split at hc
    · rename_i y p1 z p2 x1 p3 p4
      simp only [Bool.and_eq_true] at hc
      obtain ⟨⟨⟨⟨⟨⟨hd, hb⟩, hgy⟩, hgx⟩, hox⟩, hon⟩, _⟩ : (((((_ ∧ _) ∧ _) ∧ _) ∧ _) ∧ _) ∧ True := ⟨hc, trivial⟩
      obtain ⟨e1, e2, e3⟩ := of_decide_eq_true hd
      subst e1 e2
      have hjl : j < p.exs.length := by
        rw [← sx.gok.exl]
        exact (List.getElem?_eq_some_iff.mp e3).1
      obtain ⟨Cj, hCj, Fj⟩ := sx.gok.exc j x1 _ e3 (List.getElem?_eq_getElem hjl)
      obtain ⟨C, ec, y2, hec, hy, hC, hcl, F⟩ := h.cls_at sx
      have hil : x.cls < p.exs.length := (List.getElem?_eq_some_iff.mp hec).1
      have hk := (sx.gok.sub x.cls j hil hjl).2
      rw [hC, hCj] at hk
      have hcl' : cls = .ref C := hcl
      subst hcl'
      have hdd : ∀ dd, d = some dd → ∃ fs, H dd = some (.xd fs) := fun dd ed => by
        rcases h.dict st.ex with z | ⟨d2, gs, e1, e2, _⟩
        · rw [z.2] at ed
          cases ed
        · rw [e1] at ed
          cases ed
          exact ⟨gs, e2⟩
      obtain ⟨t1, pt1, ht1⟩ := h.pe sx (H := H) (Q := fun u H1 => rEr X.K C a d [u, .ref Cj] H1 Q) ⟨.ref Cj, .ref Cj, _, rfl, fun u r => r, hk, hdd, kk _ S _ H m hh (Ext.refl _ _) st.sr (.bl _)⟩
      have pg : PE (X.suite a ((a, oe) :: pn)) (.Name x1 p3) (tC (.ref Cj)) := pe_glob (X := X.suite a ((a, oe) :: pn)) (sx.gl hgx) Fj.gC (show RelV (.ref Cj) (Value.ref Cj) from rfl) (okN_d hox)
      exact ⟨_, pe_callB (call_er F.isC h.hz h.hf) (sx.gl hgy) (sx.gok.blt _ hb) boot_isi (pa_cons pt1 (pa_cons pg pa_nil)), ht1⟩
    · cases hc
  | .tup es, e, hc, q, S, H, m, st, Qd, Q, hh, kk => by
    unfold chX at hc
    split at hc
    · refine ⟨_, pe_tup pa_w, cHs sx h nf es _ hc q S H m st _ _ (holds_bind.mp hh) fun ds S1 vs H1 m1 h1 e1 s1 r1 => ?_⟩
      obtain ⟨hcc, h1⟩ := holds_ifR h1
      refine ⟨by rw [← r1.length]; exact sz_of (of_decide_eq_true hcc), fun a ha => ?_⟩
      exact post_tup s1 r1 (Q := Q) (fun v H' m' e' s' r' => kk _ S1 v H' m' h1 (e1.trans e') s' r') a ha
    · cases hc
  | .and2 w1 w2, e, hc, q, S, H, m, st, Qd, Q, hh, kk => by
    unfold chX at hc
    split at hc
    · simp only [Bool.and_eq_true] at hc
      refine ⟨_, pe_and pe_w (pe_one pe_w), cH sx h nf w1 _ hc.1 q S H m st _ _ (holds_bind.mp (show ((evH p cl x w1 q S).bind fun d S => match d with | .bl true => evH p cl x w2 q S | .bl false => .ok (.bl false) S | _ => .stk).holds Qd noF from hh)) fun dd S1 v H1 m1 h1 e1 s1 r1 => ?_⟩
      cases r1 with
      | bl b =>
        cases b with
        | true =>
          refine ⟨true, rfl, ?_⟩
          rw [if_pos rfl]
          exact cH sx h nf w2 _ hc.2 q S1 H1 m1 (st.go e1 s1) _ _ h1 fun d S' v H' m' h e2 s2 r2 => kk d S' v H' m' h (e1.trans e2) s2 r2
        | false =>
          refine ⟨false, rfl, ?_⟩
          rw [if_neg Bool.false_ne_true]
          exact kk _ S1 _ H1 m1 h1 e1 s1 (.bl false)
      | _ => exact h1.elim
    · cases hc
  | .cmp op w1 w2, e, hc, q, S, H, m, st, Qd, Q, hh, kk => by
    unfold chX at hc
    split at hc
    · simp only [Bool.and_eq_true, Bool.not_eq_true'] at hc
      obtain ⟨⟨⟨e0, h1⟩, h2⟩, hm⟩ := hc
      have e0 := of_decide_eq_true e0
      subst e0
      refine ⟨_, pe_cmpR opr_w pe_w pe_w hm, cH sx h nf w1 _ h1 q S H m st _ _ (holds_bind.mp hh) fun d S1 v H1 m1 h1' e1 s1 r1 => cH sx h nf w2 _ h2 q S1 H1 m1 (st.go e1 s1) _ _ (holds_bind.mp h1') fun e S2 w H2 m2 h2' e2 s2 r2 => ?_⟩
      exact cmpD_ok (X := X.suite a ((a, oe) :: pn)) sx.hu s2 (r1.mono s1 e2) r2 (holds_imp h2' (fun d3 S3 h3 v3 H3 m3 e3 s3 r3 => kk d3 S3 v3 H3 m3 h3 ((e1.trans e2).trans e3) s3 r3) fun _ _ z => z)
    · cases hc
theorem cHs (sx : SX xc g p cl k c E H1 m1 X) (h : Hd xc p c X H0 m0 S0 x a oe cls d n i qV) (nf : ∀ e, p.exs[x.cls]? = some e → ∀ f v, x.fs.lookup f = some v → f ∈ e.fs) : ∀ (w : HXs) (es : List Expr), chXs g p.kws n w c es = true → ∀ (q : En) (S : Sto) (H : Hp) (m : List Addr), ST X.K H0 m0 q S qV H m → ∀ (Qd : List D → Sto → Prop) (Q : List V → Hp → Prop),
    (evHs p cl x w q S).holds Qd noF → (∀ ds S' vs H' m', Qd ds S' → Ext H m H' m' → SR X.K H' m' S' → RVs X.K H' m' ds vs → Q vs H') → WA (X.suite a ((a, oe) :: pn)) es qV H Q
  | .nil, [], _, q, S, H, m, st, Qd, Q, hh, kk => ⟨_, pa_nil, kk [] S [] H m hh (Ext.refl _ _) st.sr .nil⟩
  | .nil, _ :: _, hc, _, _, _, _, _, _, _, _, _ => by cases hc
  | .cons _ _, [], hc, _, _, _, _, _, _, _, _, _ => by cases hc
  | .cons w ws, e :: es, hc, q, S, H, m, st, Qd, Q, hh, kk => by
    have hc' : (nostar e && chX g p.kws n w c e && chXs g p.kws n ws c es) = true := hc
    simp only [Bool.and_eq_true] at hc'
    refine ⟨_, pa_cons pe_w pa_w (star1 hc'.1.1), cH sx h nf w e hc'.1.2 q S H m st _ _ (holds_bind.mp (show ((evH p cl x w q S).bind fun d S => (evHs p cl x ws q S).bind fun ds S => .ok (d :: ds) S).holds Qd noF from hh)) fun d S1 v H1 m1 h1 e1 s1 r1 => cHs sx h nf ws es hc'.2 q S1 H1 m1 (st.go e1 s1) _ _ (holds_bind.mp h1) fun ds S2 vs H2 m2 h2 e2 s2 r2 => ?_⟩
    exact kk (d :: ds) S2 (v :: vs) H2 m2 h2 (e1.trans e2) s2 (.cons (r1.mono s1 e2) r2)
end
end

theorem okX_fs {x : XN} (h : okX p x = true) : ∀ e, p.exs[x.cls]? = some e → ∀ f v, x.fs.lookup f = some v → f ∈ e.fs := fun e he f v hl => by
  unfold okX at h
  rw [he] at h
  have z := List.all_eq_true.mp h
  have key : ∀ l : List (Str × D), l.lookup f = some v → ∃ y, (f, y) ∈ l := fun l => by
    induction l with
    | nil => intro q; cases q
    | cons b r ih =>
      obtain ⟨b1, b2⟩ := b
      intro q
      simp only [List.lookup] at q
      cases hb : f == b1 with
      | true => exact ⟨b2, by rw [eq_of_beq hb]; exact List.mem_cons_self⟩
      | false =>
        rw [hb] at q
        obtain ⟨y, hy⟩ := ih q
        exact ⟨y, List.mem_cons_of_mem _ hy⟩
  obtain ⟨y, hy⟩ := key _ hl
  simpa using z _ hy
theorem FR.setA {K : PySem.W.Frag} {H : Hp} {m : List Addr} {q : En} {qV : L2.St} (f : FR K H m q qV) (i : Nat) (v : Option V) : FR K H m (q.set i none) (qV.set i v) := by
  refine ⟨by rw [List.length_set, List.length_set]; exact f.len, fun j e h => ?_⟩
  by_cases hij : j = i
  · subst hij
    by_cases hl : j < q.length
    · rw [List.getElem?_set_self hl] at h
      cases h
    · rw [List.getElem?_eq_none (by simpa using hl)] at h
      cases h
  · rw [List.getElem?_set_ne (Ne.symm hij)] at h ⊢
    exact f.at_ j e h
theorem holds_noX {A : Type} {r : R A} {Q : A → Sto → Prop} {Ee : XN → Sto → Prop} (h : (noX r).holds Q Ee) : r.holds Q noF := by
  cases r with
  | ok a S => exact h
  | _ => exact h.elim
/-- raise X(e) -/
theorem sns_raise (sx : SX xc g p cl k c E H0 m0 X) {i : Nat} {x : Str} {es : CEs} {a : Expr} {pn p1 p2 : Pos} (hx : g.exs[i]? = some x) (hg : glB c.sc x = true) (ho : okN x = true) (al : AllE p cl E H0 m0 X es [a]) :
    SndS E H0 m0 X (fun q S => ifR (canRaise p i) (bindE q (evEs p cl es q S) fun ds S => raiseD i ds q S)) (.Raise (some (.Call (.Name x pn) [a] [] p1)) none p2) := by
  intro q S qV H m st Qd Dn hh kk
  obtain ⟨hc, hh⟩ := holds_ifR hh
  have hs : nostar a = true := al.stars a List.mem_cons_self
  unfold canRaise at hc
  split at hc
  · rename_i e he
    obtain ⟨C, hC, F⟩ := sx.gok.exc i x e hx he
    obtain ⟨qn, fI, T⟩ := F.mkT (of_decide_eq_true hc)
    refine ⟨_, ps_raise sx.calm sx.tk (pmk_thing T sx.room pa_w (sx.gl hg) (okN_d ho) hs), al.args q S qV H m st (fun ds S => (raiseD i ds q S).holds Qd noF) _ (holds_imp (bindE_holds hh) (fun _ _ z => z) fun x S' z => kk.ex x q S' z) fun ds S1 vs H1 m1 h1 hl e1 s1 r1 => ?_⟩
    cases r1 with
    | nil => cases hl
    | @cons d1 v1 ds1 vs1 rv rt =>
      cases rt with
      | cons _ _ => cases hl
      | nil =>
        refine ⟨v1, rfl, fun dd hdd => ?_⟩
        have h1' : Qd (.exn ⟨i, [("thing", d1)]⟩ q) S1 := h1
        have ex := ext_new (o := .xd [(("thing" : Str), v1)]) s1 hdd
        refine ⟨⟨i, [("thing", d1)]⟩, q, S1, m1, kk.ex _ _ _ h1', (st.go e1 s1).go ex (sr_new s1 hdd), hC.symm, .inr ⟨dd, _, rfl, upd_same, rfl, .cons (rv.mono s1 ex) .nil⟩⟩
  · cases hc
end DI
set_option maxHeartbeats 4000000
/-! DI: try .. except X as n. -/
namespace DI
open PySem L2
variable {K : PySem.W.Frag} {H : Hp} {m : List Addr} {S : Sto} {X : Cx}
variable {E : EX} {H0 H1 : Hp} {m0 m1 : List Addr} {xc : Nat → Value} {g : GS} {p : PG} {cl : Cl} {k : Nat} {c : SC} {pos : Pos}
theorem loc_of (sx : SX xc g p cl k c E H0 m0 X) {x : Str} (h : locB c.sc x = true) : X.env.scope.names.lookup x = some .local := by
  rw [sx.hsc]
  unfold locB at h
  split at h
  · assumption
  · cases h
/-- the suite, the error x in hand -/
theorem suite_ok (sx : SX xc g p cl k c E H0 m0 X) {x : XN} {a : Addr} {oe : Obj} {cls : Value} {d : Option Addr} {n : Str} {i : Nat} {pn : List (Addr × Obj)} {q : En} {S : Sto} {qV : L2.St} {H : Hp} {m : List Addr} {w : HS} {s1 : Stmt} {Qd : Fl → Sto → Prop} {D : Ends}
    (hz : Zc cls d oe) (hf : ∃ vs, oe.data = .fields vs) (xr : XR xc X.K H m x cls d) (kn : okX p x = true) (hn : c.N[i]? = some n) (ln : locB c.sc n = true) (on : okN n = true) (hi : i < qV.length) (sr : SR X.K H m S) (fr : FR X.K H m q qV) (hc : chH g p.kws n i w c s1 = true)
    (hh : (exH p cl x i w q S).holds Qd noF)
    (nx : ∀ q' S' qV' H' m', Qd (.next (q'.set i none)) S' → Ext H m H' m' → SR X.K H' m' S' → FR X.K H' m' q' qV' → D.nx qV' H')
    (rt : ∀ d S' v H' m', Qd (.ret d) S' → Ext H m H' m' → SR X.K H' m' S' → RV X.K H' m' d v → D.rt v H') : WSs (X.suite a ((a, oe) :: pn)) [s1] D (qV.set i (some (.ref a))) H := by
  have hd : Hd xc p c X H m S x a oe cls d n i (qV.set i (some (.ref a))) := ⟨hz, hf, xr, sr, kn, hn, ln, on, List.getElem?_set_self hi⟩
  have st : ST X.K H m (q.set i none) S (qV.set i (some (.ref a))) H m := ⟨sr, fr.setA i _, Ext.refl _ _⟩
  cases w with
  | ret e =>
    have hc : (match (generalizing := false) s1 with | .Return (some x) _ => chX g p.kws n e c x | _ => false) = true := hc
    split at hc
    · have hh' : ((noX (evH p cl x e (q.set i none) S)).bind fun d S => .ok (.ret d) S : R Fl).holds Qd noF := hh
      exact ⟨_, pss_one (ps_ret pe_w), cH sx hd (okX_fs kn) e _ hc _ S H m st _ _ (holds_noX (holds_bind.mp hh')) fun dd S' v H' m' h e' s' r' => rt dd S' v H' m' h e' s' r'⟩
    · cases hc
  | asg j e =>
    have hc : (match (generalizing := false) s1 with | .Assign [.Name y _] x _ => decide (c.N[j]? = some y ∧ j ≠ i) && locB c.sc y && stB c y && chX g p.kws n e c x && noComp x | _ => false) = true := hc
    split at hc
    · rename_i y py z pz
      simp only [Bool.and_eq_true] at hc
      obtain ⟨⟨⟨⟨h1, h2⟩, h3⟩, h4⟩, h5⟩ := hc
      obtain ⟨hj, hji⟩ := of_decide_eq_true h1
      have hh' : ((noX (evH p cl x e (q.set i none) S)).bind fun d S => .ok (.next (((q.set i none).set j (some d)).set i none)) S : R Fl).holds Qd noF := hh
      have ly := loc_of sx h2
      refine ⟨_, pss_one (ps_asg pe_w (pg_name (i := j) (by show X.N.Nodup; rw [sx.hN]; exact sx.nd) (by show X.N[j]? = _; rw [sx.hN]; exact hj) (.inl ly) (.inr ly)) (swapC_no (by unfold swC; rw [h5]; rfl)) (swapS_none (by unfold swNo; rfl)) (asg1 rfl)), ?_⟩
      exact cH sx hd (okX_fs kn) e _ h4 _ S H m st _ _ (holds_noX (holds_bind.mp hh')) fun dd S' v H' m' h e' s' r' => nx ((q.set i none).set j (some dd)) S' _ H' m' h e' s' (((fr.setA i _).mono sr e').set j r')
    · cases hc

theorem sns_try (sx : SX xc g p cl k c E H0 m0 X) {ci i : Nat} {x n : Str} {h : HS} {eb : En → Sto → R Fl} {body : List Stmt} {s1 : Stmt} {np p1 p2 : Pos} (hfb : c.fb = none) (hx : g.exs[ci]? = some x) (hg : glB c.sc x = true) (ho : okN x = true) (hn : c.N[i]? = some n) (ln : locB c.sc n = true) (on : okN n = true)
    (hc : chH g p.kws n i h c s1 = true) (hb : ∀ (E' : EX) (H' : Hp) (m' : List Addr) (X' : Cx), SX xc g p cl k c E' H' m' X' → SndSs E' H' m' X' eb body) :
    SndS E H0 m0 X (fun q S => catchD p cl (eb q S) ci i h) (.Try body [.ExceptHandler (some (.Name x np)) (some n) [s1] p1] [] [] p2) := by
  intro q S qV H m st Qd Dn hh kk
  have hci : ci < p.exs.length := by
    rw [← sx.gok.exl]
    exact (List.getElem?_eq_some_iff.mp hx).1
  obtain ⟨C, hC, F⟩ := sx.gok.exc ci x _ hx (List.getElem?_eq_getElem hci)
  let tb : WX → TS := fun W D σ H => ∀ (pn : List (Addr × Obj)) (xe : Value → Shared → Prop), Takes (X.tr pn xe) W → PassesOwn (model X.prog X.w) X.A X.env xe → WSs (X.tr pn xe) body D σ H
  let ts : Addr → Value → Option Addr → TS := fun a cls d D σ H => ∀ (oe : Obj) (pn : List (Addr × Obj)), Zc cls d oe → (∃ vs, oe.data = .fields vs) → WSs (X.suite a ((a, oe) :: pn)) [s1] D σ H
  refine ⟨_, ps_try_as (i := i) (c := .ref C) (tb := tb) (ts := ts) (Wout := XW xc X.K E H0 m0) (sx.top hfb).1 (sx.top hfb).2 (by rw [sx.hN]; exact sx.nd) (by rw [sx.hN]; exact hn) (loc_of sx ln) ⟨sx.gl hg, okN_d ho, .inl F.gC⟩ sx.tk
    (fun W pn xe tk po => ⟨fun pins s σ H D I h => pss_w.run pins s σ H D I (h pn xe tk po)⟩) (fun a oe cls d pn hz hf => ⟨fun pins s σ H D I h => pss_w.run pins s σ H D I (h oe pn hz hf)⟩), ?_⟩
  intro pn xe tk po
  let E' : EX := fun x q' S' => (ifR (okX p x && decide (i < q'.length)) (match isSub p x.cls ci with | true => exH p cl x i h q' S' | false => .ok (.exn x q') S') : R Fl).holds Qd noF
  have tk' : Takes (X.tr pn xe) (XW xc X.K E' H m) := Takes.imp tk fun cls d σ H' hx' => by
    obtain ⟨x', q', S', m', hE, st', xr⟩ := hx'
    obtain ⟨kn, hE⟩ := holds_ifR hE
    simp only [Bool.and_eq_true, decide_eq_true_eq] at kn
    obtain ⟨kn, hil⟩ := kn
    have hxl : x'.cls < p.exs.length := by
      unfold okX at kn
      split at kn
      · exact (List.getElem?_eq_some_iff.mp (by assumption)).1
      · cases kn
    have ex := (sx.gok.sub x'.cls ci hxl hci).1
    rw [← xr.1, hC] at ex
    refine ⟨_, ex, fun hyes a na oe pn' hz hf => ?_, fun hno => ?_⟩
    · have hE : (match isSub p x'.cls ci with | true => exH p cl x' i h q' S' | false => .ok (.exn x' q') S' : R Fl).holds Qd noF := hE
      rw [hyes] at hE
      refine suite_ok sx hz hf xr kn hn ln on (by rw [← st'.fr.len]; exact hil) st'.sr st'.fr hc hE (fun q2 S2 qV2 H2 m2 z e2 s2 f2 => ?_) fun dd S2 v H2 m2 z e2 s2 r2 => kk.rt dd S2 v H2 m2 z (st'.ex.trans e2) s2 r2
      exact kk.nx _ S2 _ H2 m2 z (st'.ex.trans e2) s2 (f2.setN i)
    · have hE : (match isSub p x'.cls ci with | true => exH p cl x' i h q' S' | false => .ok (.exn x' q') S' : R Fl).holds Qd noF := hE
      rw [hno] at hE
      exact ⟨x', q', S', m', kk.ex _ _ _ hE, ⟨st'.sr, st'.fr, st.ex.trans st'.ex⟩, xr⟩
  have sx' : SX xc g p cl k c E' H m (X.tr pn xe) := ⟨sx.hN, sx.nd, sx.hsc, sx.hk, sx.fn, sx.calm, sx.room, po, tk', sx.top, sx.gok, sx.gd⟩
  refine hb E' H m (X.tr pn xe) sx' q S qV H m ⟨st.sr, st.fr, Ext.refl _ _⟩ (fun f S => match f with | .exn x q => E' x q S | f => Qd f S) Dn ?_ ⟨?_, ?_, ?_, ?_, ?_⟩
  · have hh : (catchD p cl (eb q S) ci i h).holds Qd noF := hh
    cases e : eb q S with
    | stk => rw [e] at hh; exact hh
    | exn x S1 => rw [e] at hh; exact hh.elim
    | ok f S1 =>
      rw [e] at hh
      cases f <;> exact hh
  · exact fun q' S' qV' H' m' z e s f => kk.nx q' S' qV' H' m' z e s f
  · exact fun d S' v H' m' z e s f => kk.rt d S' v H' m' z e s f
  · exact fun q' S' qV' H' m' z e s f => kk.bk q' S' qV' H' m' z e s f
  · exact fun q' S' qV' H' m' z e s f => kk.ct q' S' qV' H' m' z e s f
  · exact fun x q' S' z => z
end DI
/-! DI: what a check says of all codes. -/
namespace DI
open PySem L2
variable {xc : Nat → Value} {g : GS} {p : PG} {cl : Cl} {k : Nat}

theorem nx_bind {A B : Type} {r : R A} {f : A → Sto → R B} {x : XN} {S' : Sto} (h1 : ∀ x S', r ≠ .exn x S') (h2 : ∀ a S1 x S', f a S1 ≠ .exn x S') : r.bind f ≠ .exn x S' := by
  cases r with
  | stk => intro z; cases z
  | ok a S => exact h2 a S x S'
  | exn y S => exact (h1 y S rfl).elim
theorem nx_noX {A : Type} {r : R A} {x : XN} {S' : Sto} : noX r ≠ .exn x S' := by
  cases r <;> (intro z; cases z)
theorem nx_setO {o : O} {j : Nat} {e v : D} {S : Sto} {x : XN} {S' : Sto} : setO o j e v S ≠ .exn x S' := by
  unfold setO
  cases o with
  | lst ds =>
    cases e <;> first | (intro z; cases z; done) | skip
    dsimp only
    unfold optB
    split <;> (intro z; cases z)
  | dk kvs =>
    dsimp only
    unfold optB
    split
    · unfold ifR
      split <;> (intro z; cases z)
    · intro z; cases z
  | fz _ => intro z; cases z
theorem nx_setD {d e v : D} {S : Sto} {x : XN} {S' : Sto} : setD d e v S ≠ .exn x S' := by
  cases d <;> first | (intro z; cases z; done) | skip
  rename_i j
  show (optB S[j]? fun o => setO o j e v S) ≠ _
  unfold optB
  split
  · exact nx_setO
  · intro z; cases z
mutual
theorem nx_T1 : ∀ (t : CT) (d : D) (q : En) (S : Sto) (x : XN) (S' : Sto), evT1 p cl t d q S ≠ .exn x S'
  | .name i, d, q, S, x, S' => by intro z; cases z
  | .tup ts, d, q, S, x, S' => by
    cases d <;> first | (intro z; cases z; done) | skip
    exact nx_Ts ts _ q S x S'
  | .sub a b, d, q, S, x, S' => by
    show ((noX (evE p cl a q S)).bind fun o S => (noX (evE p cl b q S)).bind fun e S => (setD o e d S).bind fun _ S => .ok q S) ≠ _
    exact nx_bind (fun _ _ => nx_noX) fun _ _ _ _ => nx_bind (fun _ _ => nx_noX) fun _ _ _ _ => nx_bind (fun _ _ => nx_setD) fun _ _ _ _ => by intro z; cases z
theorem nx_Ts : ∀ (ts : CTs) (ds : List D) (q : En) (S : Sto) (x : XN) (S' : Sto), evTs p cl ts ds q S ≠ .exn x S'
  | .nil, [], q, S, x, S' => by intro z; cases z
  | .nil, _ :: _, q, S, x, S' => by intro z; cases z
  | .cons t ts, [], q, S, x, S' => by intro z; cases z
  | .cons t ts, d :: ds, q, S, x, S' => by
    show ((evT1 p cl t d q S).bind fun q S => evTs p cl ts ds q S) ≠ _
    exact nx_bind (fun _ _ => nx_T1 t d q S _ _) fun _ _ _ _ => nx_Ts ts ds _ _ _ _
end
theorem bind_assoc {A B C : Type} {r : R A} {f : A → Sto → R B} {h : B → Sto → R C} : (r.bind f).bind h = r.bind fun a S => (f a S).bind h := by
  cases r <;> rfl
theorem bind_congr {A B : Type} {r : R A} {f h : A → Sto → R B} (e : ∀ a S, f a S = h a S) : r.bind f = r.bind h := by
  cases r with
  | ok a S => exact e a S
  | _ => rfl
theorem SndT.imp {E : EX} {H0 : Hp} {m0 : List Addr} {X : Cx} {ev ev' : En → Sto → R Bool} {e : Expr} (h : SndT E H0 m0 X ev e) (q : ∀ q S, ev' q S = ev q S) : SndT E H0 m0 X ev' e := fun q0 S qV H m st Qd Q hh => h q0 S qV H m st Qd Q (by rw [← q]; exact hh)
mutual
theorem cE : ∀ (w : CE) {c : SC} {E : EX} {H0 : Hp} {m0 : List Addr} {X : Cx} {e : Expr}, SX xc g p cl k c E H0 m0 X → chE g p.kws w c e = true → SndE E H0 m0 X (evE p cl w) e
  | .var i, c, E, H0, m0, X, e, sx, h => by
    unfold chE at h
    split at h
    · simp only [Bool.and_eq_true] at h
      exact snd_var sx (of_decide_eq_true h.1.1) h.1.2 h.2
    · cases h
  | .int i, c, E, H0, m0, X, e, sx, h => by
    unfold chE at h
    split at h
    · have e1 := of_decide_eq_true h
      subst e1
      exact snd_const (fun _ _ => .int _) pe_int
    · cases h
  | .bl i, c, E, H0, m0, X, e, sx, h => by
    unfold chE at h
    split at h
    · have e1 := of_decide_eq_true h
      subst e1
      exact snd_const (fun _ _ => .bl _) pe_bl
    · cases h
  | .non, c, E, H0, m0, X, e, sx, h => by
    unfold chE at h
    split at h
    · exact snd_const (fun _ _ => .non) pe_non
    · cases h
  | .str i, c, E, H0, m0, X, e, sx, h => by
    unfold chE at h
    split at h
    · have e1 := of_decide_eq_true h
      subst e1
      exact snd_const (fun _ _ => .str _) pe_str
    · cases h
  | .glob i, c, E, H0, m0, X, e, sx, h => by
    unfold chE at h
    split at h
    · simp only [Bool.and_eq_true] at h
      exact snd_glob sx (of_decide_eq_true h.1.1) h.1.2 h.2
    · cases h
  | .tup es, c, E, H0, m0, X, e, sx, h => by
    unfold chE at h
    split at h
    · exact (cEs es sx h).tup
    · cases h
  | .lst es, c, E, H0, m0, X, e, sx, h => by
    unfold chE at h
    split at h
    · exact (cEs es sx h).lst
    · cases h
  | .dict ks es, c, E, H0, m0, X, e, sx, h => by
    unfold chE at h
    split at h
    · simp only [Bool.and_eq_true] at h
      exact (cEs es sx h.1.2).dict h.1.1 (of_decide_eq_true h.2)
    · cases h
  | .bin op a b, c, E, H0, m0, X, e, sx, h => by
    unfold chE at h
    split at h
    · simp only [Bool.and_eq_true] at h
      have e1 := of_decide_eq_true h.1.1
      subst e1
      exact snd_bin (cE a sx h.1.2) (cE b sx h.2)
    · cases h
  | .neg a, c, E, H0, m0, X, e, sx, h => by
    unfold chE at h
    split at h
    · exact snd_neg (cE a sx h)
    · cases h
  | .cmp op a b, c, E, H0, m0, X, e, sx, h => by
    unfold chE at h
    split at h
    · simp only [Bool.and_eq_true, Bool.not_eq_true'] at h
      have e1 := of_decide_eq_true h.1.1.1
      subst e1
      exact snd_cmp sx.hu h.2 (cE a sx h.1.1.2) (cE b sx h.1.2)
    · cases h
  | .chain op op2 a b d, c, E, H0, m0, X, e, sx, h => by
    unfold chE at h
    split at h
    · simp only [Bool.and_eq_true, Bool.not_eq_true'] at h
      have e1 := of_decide_eq_true h.1.1.1.1.1
      have e2 := of_decide_eq_true h.1.1.1.1.2
      subst e1
      subst e2
      exact snd_chain sx.hu h.2 (cE a sx h.1.1.1.2) (cE b sx h.1.1.2) (cE d sx h.1.2)
    · cases h
  | .and es, c, E, H0, m0, X, e, sx, h => by
    unfold chE at h
    split at h
    · exact (cEs es sx h).andV
    · cases h
  | .or es, c, E, H0, m0, X, e, sx, h => by
    unfold chE at h
    split at h
    · exact (cEs es sx h).orV
    · cases h
  | .not a, c, E, H0, m0, X, e, sx, h => by
    unfold chE at h
    split at h
    · exact snd_not (cE a sx h)
    · cases h
  | .ite t a b, c, E, H0, m0, X, e, sx, h => by
    unfold chE at h
    split at h
    · simp only [Bool.and_eq_true] at h
      exact snd_ite (cT t sx h.1.1) (cE a sx h.1.2) (cE b sx h.2)
    · cases h
  | .idx a b, c, E, H0, m0, X, e, sx, h => by
    unfold chE at h
    split at h
    · simp only [Bool.and_eq_true] at h
      exact snd_idx sx.hu h.2 (cE a sx h.1.1) (cE b sx h.1.2)
    · cases h
  | .slice a lo hi, c, E, H0, m0, X, e, sx, h => by
    unfold chE at h
    split at h
    · simp only [Bool.and_eq_true] at h
      exact snd_slice (cE a sx h.1.1) (cO lo sx h.1.2) (cO hi sx h.2)
    · cases h
  | .rev a, c, E, H0, m0, X, e, sx, h => by
    unfold chE at h
    split at h
    · simp only [Bool.and_eq_true] at h
      have e1 := of_decide_eq_true h.1
      subst e1
      exact snd_rev (cE a sx h.2)
    · cases h
  | .call f es, c, E, H0, m0, X, e, sx, h => by
    unfold chE at h
    split at h
    · rename_i x p0 l pos
      simp only [Bool.and_eq_true, Bool.not_eq_true'] at h
      cases l with
      | nil => cases h.2
      | cons y l => exact snd_call sx (of_decide_eq_true h.1.1.1.1) h.1.1.1.2 h.1.1.2 (cEs es sx h.1.2)
    · cases h
  | .callk i es ks, c, E, H0, m0, X, e, sx, h => by
    unfold chE at h
    split at h
    · split at h
      · simp only [Bool.and_eq_true, Bool.not_eq_true'] at h
        exact snd_callk sx (by assumption) (of_decide_eq_true h.1.1.1.1.1) h.1.1.1.1.2 h.1.1.1.2 (cEs es sx h.1.1.2) (cKs _ ks sx h.1.2)
      · cases h
    · cases h
  | .blt b es, c, E, H0, m0, X, e, sx, h => by
    unfold chE at h
    split at h
    · simp only [Bool.and_eq_true] at h
      exact snd_blt sx h.1.1.1.1.1.1 (of_decide_eq_true h.1.1.1.1.1.2) h.1.1.1.1.2 h.1.1.1.2 (of_decide_eq_true h.2) (cEs es sx h.1.2)
    · cases h
  | .lrng es, c, E, H0, m0, X, e, sx, h => by
    unfold chE at h
    split at h
    · simp only [Bool.and_eq_true] at h
      obtain ⟨⟨⟨⟨⟨⟨⟨h1, h2⟩, h3⟩, h4⟩, h5⟩, h6⟩, h7⟩, h8⟩ := h
      have e1 := of_decide_eq_true h1
      have e2 := of_decide_eq_true h4
      subst e1
      subst e2
      exact snd_lrng sx h2 h3 h5 h6 (of_decide_eq_true h8) (cEs es sx h7)
    · cases h
  | .isi ts a, c, E, H0, m0, X, e, sx, h => by
    unfold chE at h
    split at h
    · simp only [Bool.and_eq_true] at h
      obtain ⟨⟨⟨⟨⟨h1, h2⟩, h3⟩, h4⟩, h5⟩, h6⟩ := h
      have e1 := of_decide_eq_true h1
      subst e1
      split at h6
      · rw [Bool.and_eq_true] at h6
        obtain ⟨t, rfl⟩ := List.length_eq_one_iff.mp (of_decide_eq_true h6.1)
        exact snd_isi1 sx h2 h3 h4 h6.2 (cE a sx h5)
      · rw [Bool.and_eq_true] at h6
        exact snd_isiT sx h2 h3 h4 (of_decide_eq_true h6.1) h6.2 (cE a sx h5)
      · cases h6
    · cases h
  | .meth m a es, c, E, H0, m0, X, e, sx, h => by
    unfold chE at h
    split at h
    · simp only [Bool.and_eq_true] at h
      exact snd_meth (of_decide_eq_true h.1.1.1.1.1.1) h.1.1.1.2 (of_decide_eq_true h.1.2) h.2 h.1.1.2 (cE a sx h.1.1.1.1.1.2) (cEs es sx h.1.1.1.1.2)
    · cases h
  | .comp t it f x vs, c, E, H0, m0, X, e, sx, h => by
    unfold chE at h
    split at h
    · split at h
      · simp only [Bool.and_eq_true] at h
        exact snd_comp sx h.1.1.1.1.1.1.2 h.1.1.1.1.1.2 h.1.1.1.2 (cI it sx h.1.1.1.1.1.1.1) (fun X' H1 m1 sx' => cG t sx' h.1.1.2) (fun X' H1 m1 sx' => cF f sx' h.1.2) (fun X' H1 m1 sx' => cE x sx' h.2)
      · cases h
    · cases h
  | .comp2 t it f t1 it1 f1 x vs vs1, c, E, H0, m0, X, e, sx, h => by
    unfold chE at h
    split at h
    · split at h
      · simp only [Bool.and_eq_true] at h
        obtain ⟨⟨⟨⟨⟨⟨⟨⟨⟨⟨⟨⟨⟨a1, a2⟩, a3⟩, a4⟩, a5⟩, a6⟩, a7⟩, a8⟩, a9⟩, b1⟩, b2⟩, b3⟩, b4⟩, b5⟩ := h
        exact snd_comp2 sx a2 b2 a8 a3 a5 a9 (cI it sx a1) (fun X' H1 m1 sx' => cG t sx' a6) (fun X' H1 m1 sx' => cF f sx' a7) (fun X' H1 m1 sx' => cI it1 sx' b1) (fun X' H1 m1 sx' => cG t1 sx' b3) (fun X' H1 m1 sx' => cF f1 sx' b4) (fun X' H1 m1 sx' => cE x sx' b5)
      · cases h
    · cases h
theorem cEs : ∀ (w : CEs) {c : SC} {E : EX} {H0 : Hp} {m0 : List Addr} {X : Cx} {es : List Expr}, SX xc g p cl k c E H0 m0 X → chEs g p.kws w c es = true → AllE p cl E H0 m0 X w es
  | .nil, c, E, H0, m0, X, es, sx, h => by
    cases es with
    | nil => exact .nil
    | cons _ _ => exact (Bool.false_ne_true h).elim
  | .cons a as, c, E, H0, m0, X, es, sx, h => by
    cases es with
    | nil => exact (Bool.false_ne_true h).elim
    | cons x r =>
      have h' : (nostar x && chE g p.kws a c x && chEs g p.kws as c r) = true := h
      simp only [Bool.and_eq_true] at h'
      exact .cons h'.1.1 (cE a sx h'.1.2) (cT a sx h'.1.2) (cEs as sx h'.2)
theorem cKs : ∀ (ns : List Str) (w : CEs) {c : SC} {E : EX} {H0 : Hp} {m0 : List Addr} {X : Cx} {ks : List Keyword}, SX xc g p cl k c E H0 m0 X → chKs g p.kws ns w c ks = true → AllK p cl E H0 m0 X ns w ks
  | ns, .nil, c, E, H0, m0, X, ks, sx, h => by
    unfold chKs at h
    split at h
    · exact .nil
    · cases h
  | ns, .cons a as, c, E, H0, m0, X, ks, sx, h => by
    unfold chKs at h
    split at h
    · simp only [Bool.and_eq_true] at h
      exact .cons (of_decide_eq_true h.1.1) (cE a sx h.1.2) (cKs _ as sx h.2)
    · cases h
theorem cT : ∀ (w : CE) {c : SC} {E : EX} {H0 : Hp} {m0 : List Addr} {X : Cx} {e : Expr}, SX xc g p cl k c E H0 m0 X → chE g p.kws w c e = true → SndT E H0 m0 X (evT p cl w) e
  | .and es, c, E, H0, m0, X, e, sx, h => by
    unfold chE at h
    split at h
    · exact (cEs es sx h).andT.pt
    · cases h
  | .or es, c, E, H0, m0, X, e, sx, h => by
    unfold chE at h
    split at h
    · exact (cEs es sx h).orT.pt
    · cases h
  | .not a, c, E, H0, m0, X, e, sx, h => by
    unfold chE at h
    split at h
    · exact snt_not (cT a sx h)
    · cases h
  | .var i, c, E, H0, m0, X, e, sx, h => by
    unfold chE at h
    split at h
    · simp only [Bool.and_eq_true] at h
      exact snt_tru (snd_var sx (of_decide_eq_true h.1.1) h.1.2 h.2) fun _ => rfl
    · cases h
  | .bl i, c, E, H0, m0, X, e, sx, h => by
    unfold chE at h
    split at h
    · have e1 := of_decide_eq_true h
      subst e1
      exact SndT.imp (snt_tru (snd_const (fun _ _ => .bl _) pe_bl) fun _ => rfl) fun _ _ => rfl
    · cases h
  | .cmp op a b, c, E, H0, m0, X, e, sx, h => by
    unfold chE at h
    split at h
    · simp only [Bool.and_eq_true, Bool.not_eq_true'] at h
      have e1 := of_decide_eq_true h.1.1.1
      subst e1
      exact snt_cmp sx.hu h.2 (cE a sx h.1.1.2) (cE b sx h.1.2)
    · cases h
  | .chain op op2 a b d, c, E, H0, m0, X, e, sx, h => by
    unfold chE at h
    split at h
    · simp only [Bool.and_eq_true, Bool.not_eq_true'] at h
      have e1 := of_decide_eq_true h.1.1.1.1.1
      have e2 := of_decide_eq_true h.1.1.1.1.2
      subst e1
      subst e2
      exact snt_chain sx.hu h.2 (cE a sx h.1.1.1.2) (cE b sx h.1.1.2) (cE d sx h.1.2)
    · cases h
  | .idx a b, c, E, H0, m0, X, e, sx, h => by
    unfold chE at h
    split at h
    · simp only [Bool.and_eq_true] at h
      refine SndT.imp (snt_tru (snd_idx sx.hu h.2 (cE a sx h.1.1) (cE b sx h.1.2)) fun _ => rfl) fun q S => ?_
      show ((evE p cl a q S).bind fun d S => (evE p cl b q S).bind fun e S => (idxD d e S).bind fun d S => optR (truD S d) S) = _
      rw [bind_assoc]
      exact bind_congr fun _ _ => (bind_assoc).symm
    · cases h
  | .call f es, c, E, H0, m0, X, e, sx, h => by
    unfold chE at h
    split at h
    · rename_i x p0 l pos
      simp only [Bool.and_eq_true, Bool.not_eq_true'] at h
      cases l with
      | nil => cases h.2
      | cons y l => exact SndT.imp (snt_tru (snd_call sx (of_decide_eq_true h.1.1.1.1) h.1.1.1.2 h.1.1.2 (cEs es sx h.1.2)) fun _ => rfl) fun _ _ => (bind_assoc).symm
    · cases h
  | .callk i es ks, c, E, H0, m0, X, e, sx, h => by
    unfold chE at h
    split at h
    · split at h
      · rename_i kp hkp
        simp only [Bool.and_eq_true, Bool.not_eq_true'] at h
        refine SndT.imp (snt_tru (snd_callk sx hkp (of_decide_eq_true h.1.1.1.1.1) h.1.1.1.1.2 h.1.1.1.2 (cEs es sx h.1.1.2) (cKs _ ks sx h.1.2)) fun _ => rfl) fun q S => ?_
        show ((evEs p cl es q S).bind fun ds S => (evEs p cl ks q S).bind fun zs S => match p.kws[i]? with
          | some k => ifR (decide (ds.length = k.np ∧ zs.length = k.ks.length)) ((cl k.f (k.perm.map fun j => (ds ++ zs).getD j .non) S).bind fun d S => optR (truD S d) S)
          | none => .stk) = _
        rw [bind_assoc]
        refine bind_congr fun ds S1 => ?_
        rw [bind_assoc]
        refine bind_congr fun zs S2 => ?_
        rw [hkp]
        dsimp only
        unfold ifR
        split <;> rfl
      · cases h
    · cases h
  | .blt b es, c, E, H0, m0, X, e, sx, h => by
    unfold chE at h
    split at h
    · simp only [Bool.and_eq_true] at h
      exact SndT.imp (snt_tru (snd_blt sx h.1.1.1.1.1.1 (of_decide_eq_true h.1.1.1.1.1.2) h.1.1.1.1.2 h.1.1.1.2 (of_decide_eq_true h.2) (cEs es sx h.1.2)) fun _ => rfl) fun _ _ => (bind_assoc).symm
    · cases h
  | .isi ts a, c, E, H0, m0, X, e, sx, h => by
    unfold chE at h
    split at h
    · simp only [Bool.and_eq_true] at h
      obtain ⟨⟨⟨⟨⟨h1, h2⟩, h3⟩, h4⟩, h5⟩, h6⟩ := h
      have e1 := of_decide_eq_true h1
      subst e1
      have z : ∀ q S, evT p cl (.isi ts a) q S = ((evE p cl a q S).bind fun d S => optB (typD S d) fun t => .ok (.bl (ts.any (isiD t))) S).bind fun d S => optR (truD S d) S := fun q S => by
        rw [bind_assoc]
        refine bind_congr fun d S => ?_
        unfold optB
        split <;> rfl
      split at h6
      · rw [Bool.and_eq_true] at h6
        obtain ⟨t, rfl⟩ := List.length_eq_one_iff.mp (of_decide_eq_true h6.1)
        exact SndT.imp (snt_tru (snd_isi1 sx h2 h3 h4 h6.2 (cE a sx h5)) fun _ => rfl) z
      · rw [Bool.and_eq_true] at h6
        exact SndT.imp (snt_tru (snd_isiT sx h2 h3 h4 (of_decide_eq_true h6.1) h6.2 (cE a sx h5)) fun _ => rfl) z
      · cases h6
    · cases h
  | .int _, c, E, H0, m0, X, e, sx, h => fun q S qV H m st Qd Q hh kk => hh.elim
  | .non, c, E, H0, m0, X, e, sx, h => fun q S qV H m st Qd Q hh kk => hh.elim
  | .str _, c, E, H0, m0, X, e, sx, h => fun q S qV H m st Qd Q hh kk => hh.elim
  | .glob _, c, E, H0, m0, X, e, sx, h => fun q S qV H m st Qd Q hh kk => hh.elim
  | .tup _, c, E, H0, m0, X, e, sx, h => fun q S qV H m st Qd Q hh kk => hh.elim
  | .lst _, c, E, H0, m0, X, e, sx, h => fun q S qV H m st Qd Q hh kk => hh.elim
  | .dict _ _, c, E, H0, m0, X, e, sx, h => fun q S qV H m st Qd Q hh kk => hh.elim
  | .bin _ _ _, c, E, H0, m0, X, e, sx, h => fun q S qV H m st Qd Q hh kk => hh.elim
  | .neg _, c, E, H0, m0, X, e, sx, h => fun q S qV H m st Qd Q hh kk => hh.elim
  | .ite _ _ _, c, E, H0, m0, X, e, sx, h => fun q S qV H m st Qd Q hh kk => hh.elim
  | .slice _ _ _, c, E, H0, m0, X, e, sx, h => fun q S qV H m st Qd Q hh kk => hh.elim
  | .rev _, c, E, H0, m0, X, e, sx, h => fun q S qV H m st Qd Q hh kk => hh.elim
  | .lrng _, c, E, H0, m0, X, e, sx, h => fun q S qV H m st Qd Q hh kk => hh.elim
  | .meth _ _ _, c, E, H0, m0, X, e, sx, h => fun q S qV H m st Qd Q hh kk => hh.elim
  | .comp _ _ _ _ _, c, E, H0, m0, X, e, sx, h => fun q S qV H m st Qd Q hh kk => hh.elim
  | .comp2 _ _ _ _ _ _ _ _ _, c, E, H0, m0, X, e, sx, h => fun q S qV H m st Qd Q hh kk => hh.elim
theorem cO : ∀ (w : CO) {c : SC} {E : EX} {H0 : Hp} {m0 : List Addr} {X : Cx} {e : Option Expr}, SX xc g p cl k c E H0 m0 X → chO g p.kws w c e = true → SndO E H0 m0 X (evO p cl w) e
  | .none, c, E, H0, m0, X, e, sx, h => by
    cases e with
    | none => exact sno_none
    | some _ => exact (Bool.false_ne_true h).elim
  | .some a, c, E, H0, m0, X, e, sx, h => by
    cases e with
    | none => exact (Bool.false_ne_true h).elim
    | some x => exact sno_some (cE a sx h)
theorem cF : ∀ (w : CF) {c : SC} {E : EX} {H0 : Hp} {m0 : List Addr} {X : Cx} {e : List Expr}, SX xc g p cl k c E H0 m0 X → chF g p.kws w c e = true → SndC E H0 m0 X (evF p cl w) e
  | .none, c, E, H0, m0, X, e, sx, h => by
    cases e with
    | nil => exact snc_none
    | cons _ _ => exact (Bool.false_ne_true h).elim
  | .some a, c, E, H0, m0, X, e, sx, h => by
    cases e with
    | nil => exact (Bool.false_ne_true h).elim
    | cons x r =>
      cases r with
      | nil => exact snc_some (cT a sx h)
      | cons _ _ => exact (Bool.false_ne_true h).elim
theorem cI : ∀ (w : CI) {c : SC} {E : EX} {H0 : Hp} {m0 : List Addr} {X : Cx} {tg e : Expr}, SX xc g p cl k c E H0 m0 X → chI g p.kws w c tg e = true → SndI E H0 m0 X (evI p cl w) tg e
  | .seq a, c, E, H0, m0, X, tg, e, sx, h => sni_seq (cE a sx h)
  | .rng es, c, E, H0, m0, X, tg, e, sx, h => by
    unfold chI at h
    split at h
    · simp only [Bool.and_eq_true] at h
      have e1 := of_decide_eq_true h.1.1.1.1
      subst e1
      exact sni_rng sx h.1.1.1.2 h.1.1.2 (of_decide_eq_true h.2) (cEs es sx h.1.2)
    · cases h
  | .enum a, c, E, H0, m0, X, tg, e, sx, h => by
    unfold chI at h
    split at h
    · simp only [Bool.and_eq_true] at h
      have e1 := of_decide_eq_true h.1.1.1.1
      subst e1
      exact sni_enum sx h.1.1.1.2 h.1.1.2 h.1.2 (cE a sx h.2)
    · cases h
theorem cG : ∀ (w : CT) {c : SC} {E : EX} {H0 : Hp} {m0 : List Addr} {X : Cx} {e : Expr}, SX xc g p cl k c E H0 m0 X → chT g p.kws w c e = true → SndG E H0 m0 X w (evT1 p cl w) e
  | .name i, c, E, H0, m0, X, e, sx, h => by
    unfold chT at h
    split at h
    · simp only [Bool.and_eq_true] at h
      exact sng_name sx (of_decide_eq_true h.1) h.2
    · cases h
  | .tup ts, c, E, H0, m0, X, e, sx, h => by
    unfold chT at h
    split at h
    · exact sng_tup sx (cGs ts sx h)
    · cases h
  | .sub a b, c, E, H0, m0, X, e, sx, h => by
    unfold chT at h
    split at h
    · simp only [Bool.and_eq_true] at h
      exact sng_sub sx h.2 (cE a sx h.1.1) (cE b sx h.1.2)
    · cases h
theorem cGs : ∀ (w : CTs) {c : SC} {E : EX} {H0 : Hp} {m0 : List Addr} {X : Cx} {es : List Expr}, SX xc g p cl k c E H0 m0 X → chTs g p.kws w c es = true → AllG p cl E H0 m0 X w es
  | .nil, c, E, H0, m0, X, es, sx, h => by
    cases es with
    | nil => exact .nil
    | cons _ _ => exact (Bool.false_ne_true h).elim
  | .cons a as, c, E, H0, m0, X, es, sx, h => by
    cases es with
    | nil => exact (Bool.false_ne_true h).elim
    | cons x r =>
      have h' : (nostar x && chT g p.kws a c x && chTs g p.kws as c r) = true := h
      simp only [Bool.and_eq_true] at h'
      exact .cons h'.1.1 (cG a sx h'.1.2) (cGs as sx h'.2)
end
mutual
theorem cS : ∀ (w : CS) {c : SC} {E : EX} {H0 : Hp} {m0 : List Addr} {X : Cx} {s : Stmt}, SX xc g p cl k c E H0 m0 X → chS g p.kws w c s = true → SndS E H0 m0 X (exS p cl w) s
  | .raise i es, c, E, H0, m0, X, s, sx, h => by
    unfold chS at h
    split at h
    · rename_i x px a p1 p2
      simp only [Bool.and_eq_true] at h
      exact sns_raise sx (of_decide_eq_true h.1.1.1) h.1.1.2 h.1.2 (cEs es sx h.2)
    · cases h
  | .try_ b ci i w, c, E, H0, m0, X, s, sx, h => by
    unfold chS at h
    split at h
    · simp only [Bool.and_eq_true] at h
      obtain ⟨⟨⟨⟨⟨⟨⟨h1, hg⟩, ho⟩, ln⟩, on⟩, hf⟩, hb⟩, hc⟩ := h
      obtain ⟨hx, hn⟩ := of_decide_eq_true h1
      exact sns_try sx (Option.isNone_iff_eq_none.mp hf) hx hg ho hn ln on hc (fun E' H' m' X' sx' => cSs b sx' hb)
    · cases h
  | .expr a, c, E, H0, m0, X, s, sx, h => by
    unfold chS at h
    split at h
    · simp only [Bool.and_eq_true] at h
      exact sns_expr h.2 (cE a sx h.1)
    · cases h
  | .asg t a, c, E, H0, m0, X, s, sx, h => by
    unfold chS at h
    split at h
    · rename_i tg x pos
      simp only [Bool.and_eq_true, Bool.or_eq_true] at h
      obtain ⟨⟨⟨ht, ha⟩, hn⟩, h⟩ := h
      rcases h with h | h
      · exact sns_asg sx h.2 hn h.1 (fun d q S x S' => nx_T1 t d q S x S') (cE a sx ha) (cG t sx ht)
      · have h2 := h
        unfold swB at h2
        split at h2
        · cases t with
          | name i =>
            cases a with
            | comp t2 it f x vs =>
              have ha' := ha
              unfold chE at ha'
              dsimp only at ha'
              split at ha'
              · have ht' := ht
                unfold chT at ht'
                simp only [Bool.and_eq_true] at ha' ht'
                exact sns_setc sx ha'.1.1.1.1.1.1.2 ha'.1.1.1.1.1.2 ha'.1.1.1.2 (cI it sx ha'.1.1.1.1.1.1.1) (fun X' H1 m1 sx' => cG t2 sx' ha'.1.1.2) (fun X' H1 m1 sx' => cF f sx' ha'.1.2) (fun X' H1 m1 sx' => cE x sx' ha'.2) (of_decide_eq_true ht'.1) h
              · cases ha'
            | comp2 t2 it f t1 it1 f1 x vs vs1 =>
              have ha' := ha
              unfold chE at ha'
              dsimp only at ha'
              split at ha'
              · have ht' := ht
                unfold chT at ht'
                simp only [Bool.and_eq_true] at ha' ht'
                obtain ⟨⟨⟨⟨⟨⟨⟨⟨⟨⟨⟨⟨⟨a1, a2⟩, a3⟩, a4⟩, a5⟩, a6⟩, a7⟩, a8⟩, a9⟩, b1⟩, b2⟩, b3⟩, b4⟩, b5⟩ := ha'
                exact sns_setc2 sx a2 b2 a8 a3 a5 a9 (cI it sx a1) (fun X' H1 m1 sx' => cG t2 sx' a6) (fun X' H1 m1 sx' => cF f sx' a7) (fun X' H1 m1 sx' => cI it1 sx' b1) (fun X' H1 m1 sx' => cG t1 sx' b3) (fun X' H1 m1 sx' => cF f1 sx' b4) (fun X' H1 m1 sx' => cE x sx' b5) (of_decide_eq_true ht'.1) h
              · cases ha'
            | _ => exact (Bool.false_ne_true ha).elim
          | _ => exact (Bool.false_ne_true ht).elim
        · cases h2
    · cases h
  | .par2 i j a b, c, E, H0, m0, X, s, sx, h => by
    unfold chS at h
    split at h
    · simp only [Bool.and_eq_true, Bool.not_eq_true'] at h
      obtain ⟨⟨⟨⟨⟨⟨⟨⟨h1, hx⟩, hy⟩, ha⟩, hb⟩, na⟩, nb⟩, f1⟩, f2⟩ := h
      obtain ⟨hi, hj, hij, hxy, hl⟩ := of_decide_eq_true h1
      have l1 : ∀ {x : Str}, locB c.sc x = true → X.env.scope.names.lookup x = some .local := fun {x} h => by
        rw [sx.hsc]
        unfold locB at h
        split at h
        · assumption
        · cases h
      exact sns_par2 sx hi hj hij hx hy na nb (swap2 (by rw [sx.hsc]; exact sx.hk) (l1 hx) (l1 hy) hl hxy na nb f1 f2) (cE a sx ha) (cE b sx hb)
    · cases h
  | .par3 i j l a b d, c, E, H0, m0, X, s, sx, h => by
    unfold chS at h
    split at h
    · simp only [Bool.and_eq_true, Bool.not_eq_true'] at h
      obtain ⟨⟨⟨⟨⟨⟨⟨⟨⟨⟨⟨h1, hx⟩, hy⟩, hz⟩, ha⟩, hb⟩, hd⟩, na⟩, nb⟩, nd⟩, f1⟩, f2⟩ := h
      obtain ⟨hi, hj, hl, hij, hil, hjl, hxy, hxz, hyz, hl1, hl2⟩ := of_decide_eq_true h1
      have l1 : ∀ {x : Str}, locB c.sc x = true → X.env.scope.names.lookup x = some .local := fun {x} h => by
        rw [sx.hsc]
        unfold locB at h
        split at h
        · assumption
        · cases h
      exact sns_par3 sx hi hj hl hij hil hjl hx hy hz na nb nd (swap3 (by rw [sx.hsc]; exact sx.hk) (l1 hx) (l1 hy) (l1 hz) hl1 hl2 hxy hxz hyz na nb nd f1 f2) (cE a sx ha) (cE b sx hb) (cE d sx hd)
    · cases h
  | .aug i op a, c, E, H0, m0, X, s, sx, h => by
    unfold chS at h
    split at h
    · simp only [Bool.and_eq_true] at h
      have e1 := of_decide_eq_true h.1.2
      subst e1
      exact sns_aug sx (of_decide_eq_true h.1.1.1) h.1.1.2 (cE a sx h.2)
    · cases h
  | .ret a, c, E, H0, m0, X, s, sx, h => by
    unfold chS at h
    split at h
    · exact sns_ret (cE a sx h)
    · cases h
  | .retN, c, E, H0, m0, X, s, sx, h => by
    unfold chS at h
    split at h
    · exact sns_retN
    · cases h
  | .ite t a b, c, E, H0, m0, X, s, sx, h => by
    unfold chS at h
    split at h
    · simp only [Bool.and_eq_true] at h
      exact sns_if (cT t sx h.1.1) (cSs a sx h.1.2) (cSs b sx h.2)
    · cases h
  | .for t it b, c, E, H0, m0, X, s, sx, h => by
    unfold chS at h
    split at h
    · simp only [Bool.and_eq_true] at h
      exact sns_for sx h.1.1.2 (fun d q S x S' => nx_T1 t d q S x S') (cI it sx h.1.1.1) (cG t sx h.1.2) (cSs b sx h.2)
    · cases h
  | .wh t b, c, E, H0, m0, X, s, sx, h => by
    unfold chS at h
    split at h
    · simp only [Bool.and_eq_true] at h
      exact sns_wh sx (cT t sx h.1) (cSs b sx h.2)
    · cases h
  | .pass, c, E, H0, m0, X, s, sx, h => by
    unfold chS at h
    split at h
    · exact sns_pass
    · cases h
  | .brk, c, E, H0, m0, X, s, sx, h => by
    unfold chS at h
    split at h
    · exact sns_brk
    · cases h
  | .cnt, c, E, H0, m0, X, s, sx, h => by
    unfold chS at h
    split at h
    · exact sns_cnt
    · cases h
  | .never, c, E, H0, m0, X, s, sx, h => sns_never
theorem cSs : ∀ (w : CSs) {c : SC} {E : EX} {H0 : Hp} {m0 : List Addr} {X : Cx} {s : List Stmt}, SX xc g p cl k c E H0 m0 X → chSs g p.kws w c s = true → SndSs E H0 m0 X (exSs p cl w) s
  | .nil, c, E, H0, m0, X, s, sx, h => by
    cases s with
    | nil => exact snss_nil
    | cons _ _ => exact (Bool.false_ne_true h).elim
  | .cons a b, c, E, H0, m0, X, s, sx, h => by
    cases s with
    | nil => exact (Bool.false_ne_true h).elim
    | cons x r =>
      have h' : (chS g p.kws a c x && chSs g p.kws b c r) = true := h
      simp only [Bool.and_eq_true] at h'
      exact snss_cons (cS a sx h'.1) (cSs b sx h'.2)
end
end DI
/-! DI: the defs of a program, level by level; the law's end. -/
namespace DI
open PySem L2 PySem.Spec PyProof.Rows
/-- a def of the text -/
structure FT where
  x : Str
  ps : List Str
  N : List Str
  st : Stmt
/-- a look at the names of a def's scope -/
def scD (N P : List Str) (sc : Scope) : Bool :=
  decide (sc.kind = .function) && !sc.isCoroutine && !sc.isGenerator && decide N.Nodup && decide (N.take P.length = P) && P.all (fun x => match sc.names.lookup x with | some .local => true | some .cell => true | _ => false) && sc.names.all (fun y => match y.2 with | .free => false | _ => true)
theorem scD_scope {N P : List Str} {sc : Scope} (h : scD N P sc = true) : FnScope N P sc := by
  unfold scD at h
  simp only [Bool.and_eq_true, Bool.not_eq_true', decide_eq_true_eq, List.all_eq_true] at h
  obtain ⟨⟨⟨⟨⟨⟨h1, h2⟩, h3⟩, h4⟩, h5⟩, h6⟩, h7⟩ := h
  refine ⟨h1, h2, h3, h4, h5, fun x hx => ?_, fun y hy z => ?_⟩
  · have q := h6 x hx
    split at q
    · exact .inl (by assumption)
    · exact .inr (by assumption)
    · cases q
  · have q := h7 y hy
    rw [z] at q
    cases q
def chFn (g : GS) (kws : List KP) (t : FT) (c : FC) : Bool := scD t.N t.ps (defScope t.st) && decide (c.np = t.ps.length) && decide (c.nl = t.N.length) && chSs g kws c.body ⟨t.N, defScope t.st, none⟩ (defBody t.st)
def chFns (g : GS) (kws : List KP) : List FT → List FC → Bool
  | [], [] => true
  | t :: ts, c :: cs => chFn g kws t c && chFns g kws ts cs
  | _, _ => false
theorem chFns_at {g : GS} {kws : List KP} : ∀ {ts : List FT} {cs : List FC} {i : Nat} {t : FT}, chFns g kws ts cs = true → ts[i]? = some t → ∃ c, cs[i]? = some c ∧ chFn g kws t c = true
  | [], _, _, _, _, h => by cases h
  | _ :: _, [], _, _, h, _ => (Bool.false_ne_true h).elim
  | t :: ts, c :: cs, 0, _, h, e => by
    have h' : (chFn g kws t c && chFns g kws ts cs) = true := h
    rw [Bool.and_eq_true] at h'
    cases e
    exact ⟨c, rfl, h'.1⟩
  | t :: ts, c :: cs, i + 1, _, h, e => by
    have h' : (chFn g kws t c && chFns g kws ts cs) = true := h
    rw [Bool.and_eq_true] at h'
    exact chFns_at (i := i) h'.2 e
/-- how a def of the text binds what it is given -/
def BndT (t : FT) (us : List Value) (kw : List (Str × Value)) (r : List (Str × Value)) : Prop := ∀ (kV doc pm : Value) (an : Option Addr) (cdv ct : Value), bindArgs (PySem.W.fnOf t.x t.x (defArgs t.st) (defBody t.st) (defScope t.st) .none kV doc pm an cdv ct) ⟨us, kw⟩ = pure r
structure Text (g : GS) (p : PG) (ts : List FT) : Prop where
  gf : g.fns = ts.map fun t => (t.x, t.ps)
  ch : chFns g p.kws ts p.fns = true
  bnd : ∀ t ∈ ts, ∀ us : List Value, us.length = t.ps.length → BndT t us [] (t.ps.zip us)
  kwd : ∀ q ∈ p.kws, ∃ t, ts[q.f]? = some t ∧ q.perm.length = t.ps.length ∧ t.ps ≠ [] ∧ ∀ us ws : List Value, us.length = q.np → ws.length = q.ks.length → BndT t us (q.ks.zip ws) (t.ps.zip (q.perm.map fun j => (us ++ ws).getD j .none))
/-- what the top has made of a program's defs and names -/
def xcOf (g : GS) (mg : Str → Option Value) (i : Nat) : Value := match g.exs[i]? with
  | some x => (mg x).getD .none
  | none => .none
structure Top (g : GS) (p : PG) (ts : List FT) (K : PySem.W.Frag) (mg : Str → Option Value) : Prop where
  fn : ∀ t ∈ ts, ∃ f fd, mg t.x = some (.ref f) ∧ Fun K t.x t.x t.st f fd
  con : ∀ (i : Nat) (x : Str), g.cons[i]? = some x → ∃ u v d, mg x = some u ∧ RelV v u ∧ p.cons[i]? = some d ∧ ∀ H m, RV K H m d v
  blt : ∀ (x : Str), g.blts.contains x = true → mg x = none
  exl : g.exs.length = p.exs.length
  exc : ∀ (i : Nat) (x : Str) (e : EC), g.exs[i]? = some x → p.exs[i]? = some e → ∃ C, xcOf g mg i = .ref C ∧ ErF K mg x C e
  sub : ∀ (i j : Nat), i < p.exs.length → j < p.exs.length → PySem.W.exmOne K (xcOf g mg i) (xcOf g mg j) = some (isSub p i j) ∧ PySem.W.kitOne K (xcOf g mg i) (xcOf g mg j) = some (isSub p i j)
variable {g : GS} {p : PG} {ts : List FT} {P : Program} {w : World} {K : PySem.W.Frag} {mg : Str → Option Value} {base : Heap} {xc : Nat → Value}
theorem fr_start {H : Hp} {m : List Addr} {ds : List D} {vs : List V} {n : Nat} {N : List Str} (r : RVs K H m ds vs) (hn : n = N.length) : FR K H m (startD ds n) (L2.start N vs) := by
  have hl := r.length
  refine ⟨?_, fun i d h => ?_⟩
  · unfold startD L2.start
    rw [List.length_append, List.length_append, List.length_map, List.length_map, List.length_replicate, List.length_replicate, hl, hn]
  · unfold startD at h
    by_cases hi : i < ds.length
    · rw [List.getElem?_append_left (by rw [List.length_map]; exact hi), List.getElem?_map] at h
      cases e : ds[i]? with
      | none => rw [e] at h; cases h
      | some d' =>
        rw [e] at h
        cases h
        obtain ⟨v, h1, h2⟩ := r.get e
        refine ⟨v, ?_, h2⟩
        unfold L2.start
        rw [List.getElem?_append_left (by rw [List.length_map, ← hl]; exact hi), List.getElem?_map, h1]
        rfl
    · rw [List.getElem?_append_right (by rw [List.length_map]; omega), List.getElem?_replicate] at h
      split at h <;> cases h
/-! ### a store of its own -/
mutual
theorem rf_any {H : Hp} {m m' : List Addr} : ∀ {d : D} {v : V}, rf d = true → RV K H m d v → RV K H m' d v
  | _, _, _, .non => .non
  | _, _, _, .bl b => .bl b
  | _, _, _, .int i => .int i
  | _, _, _, .str x => .str x
  | _, _, h, .tup hs r => .tup hs (rfs_any h r)
  | _, _, h, .cl hs r => .cl hs (rfs_any h r)
  | _, _, h, .ref _ => (Bool.false_ne_true h).elim
theorem rfs_any {H : Hp} {m m' : List Addr} : ∀ {ds : List D} {vs : List V}, rfs ds = true → RVs K H m ds vs → RVs K H m' ds vs
  | _, _, _, .nil => .nil
  | d :: ds, _ :: _, h, .cons r t =>
    have h' : rf d = true ∧ rfs ds = true := Bool.and_eq_true_iff.mp h
    .cons (rf_any h'.1 r) (rfs_any h'.2 t)
end
mutual
theorem rv_sh {H : Hp} {m m' : List Addr} : ∀ {d : D} {v : V}, RV K H m' d v → RV K H (m ++ m') (shD m.length d) v
  | _, _, .non => .non
  | _, _, .bl b => .bl b
  | _, _, .int i => .int i
  | _, _, .str x => .str x
  | _, _, .tup hs r => .tup hs (rvs_sh r)
  | _, _, .cl hs r => .cl hs (rvs_sh r)
  | _, _, .ref h => .ref (by rw [List.getElem?_append_right (Nat.le_add_right _ _), Nat.add_sub_cancel_left]; exact h)
theorem rvs_sh {H : Hp} {m m' : List Addr} : ∀ {ds : List D} {vs : List V}, RVs K H m' ds vs → RVs K H (m ++ m') (shDs m.length ds) vs
  | _, _, .nil => .nil
  | _, _, .cons r t => .cons (rv_sh r) (rvs_sh t)
end
theorem shK_1 (n : Nat) : ∀ kvs : List (Key × D), (shK n kvs).map (·.1) = kvs.map (·.1)
  | [] => rfl
  | (k, d) :: r => congrArg (k :: ·) (shK_1 n r)
theorem shK_2 (n : Nat) : ∀ kvs : List (Key × D), (shK n kvs).map (·.2) = shDs n (kvs.map (·.2))
  | [] => rfl
  | (k, d) :: r => congrArg (shD n d :: ·) (shK_2 n r)
theorem orel_sh {H : Hp} {m m' : List Addr} {o : O} {ho : HO} : ORel K H m' o ho → ORel K H (m ++ m') (shO m.length o) ho
  | .lst h => .lst (rvs_sh h)
  | .fz h => .fz (rvs_sh h)
  | .dk e h => .dk (e.trans (shK_1 _ _).symm) (by rw [shK_2]; exact rvs_sh h)
theorem ext_all {H H' : Hp} {m m' : List Addr} (e : Ext H [] H' m') : Ext H m H' m := ⟨⟨[], (List.append_nil m).symm⟩, fun a o h n => ⟨(e.keep a o h (by simp)).1, n⟩⟩
theorem sr_all {H H' : Hp} {m m' : List Addr} {S : Sto} (s : SR K H m S) (e : Ext H [] H' m') : SR K H' m S := ⟨s.len, s.nd, fun i a o hi ho => by
  obtain ⟨u, h1, h2⟩ := s.at_ i a o hi ho
  exact ⟨u, (e.keep a u h1 (by simp)).1, h2.mono s (ext_all e)⟩⟩
theorem sr_off {H H' : Hp} {m m' : List Addr} {S : Sto} (s : SR K H m S) (e : Ext H [] H' m') {a : Addr} (h : a ∈ m) : a ∉ m' := by
  obtain ⟨o, ho, h1, _⟩ := s.kind h
  exact (e.keep a ho h1 (by simp)).2
theorem adopt_ok {H H' : Hp} {m m' : List Addr} {S S1 : Sto} {d : D} {v : V} {Q : VK} {Ee : XN → Sto → Prop} (s : SR K H m S) (h : (adoptR d S1 S).holds (PostE K H m Q) Ee) (e : Ext H [] H' m') (s1 : SR K H' m' S1) (r : RV K H' m' d v) : Q v H' := by
  have s2 := sr_all s e
  have e2 : Ext H m H' m := ext_all e
  have eA : ∀ r', Ext H m H' (m ++ r') ∨ ¬ ∀ x ∈ r', x ∈ m' := fun r' => by
    by_cases hr : ∀ x ∈ r', x ∈ m'
    · refine .inl ⟨⟨r', rfl⟩, fun a o ha n => ⟨(e.keep a o ha (by simp)).1, fun z => ?_⟩⟩
      rcases List.mem_append.mp z with z | z
      · exact n z
      · exact (e.keep a o ha (by simp)).2 (hr a z)
    · exact .inr hr
  unfold adoptR at h
  split at h
  · rename_i hf
    exact h v H' m e2 s2 (rf_any hf r)
  · split at h
    · rename_i ds hd
      cases r with
      | @ref j a ha =>
        have hd : (match S1[j]? with | some (.lst ds) => if rfs ds then some ds else none | _ => none) = some ds := hd
        cases hj : S1[j]? with
        | none => rw [hj] at hd; cases hd
        | some o =>
          rw [hj] at hd
          cases o with
          | lst ds' =>
            dsimp only at hd
            split at hd
            · rename_i hrf
              cases hd
              obtain ⟨ho, h1, h2⟩ := s1.at_ j a _ ha hj
              have am : a ∈ m' := List.mem_of_getElem? ha
              have na : a ∉ m := fun z => sr_off s e z am
              rcases eA [a] with q | q
              · cases h2 with
                | lst hr => exact h _ H' (m ++ [a]) q (sr_adopt s2 h1 na (.lst (rfs_any hrf hr))) (.ref (by rw [← s.len, List.getElem?_append_right (Nat.le_refl _), Nat.sub_self]; rfl))
              · exact (q fun x hx => by rw [List.mem_singleton.mp hx]; exact am).elim
            · cases hd
          | fz _ => cases hd
          | dk _ => cases hd
      | _ => cases hd
    · rcases eA m' with q | q
      · refine h v H' (m ++ m') q ⟨?_, ?_, fun i b u hi hu => ?_⟩ (by rw [← s.len]; exact rv_sh r)
        · rw [List.length_append, List.length_append, List.length_map, s.len, s1.len]
        · rw [List.nodup_append]
          exact ⟨s.nd, s1.nd, fun x hx y hy z => sr_off s e hx (by rw [z]; exact hy)⟩
        · by_cases hl : i < m.length
          · rw [List.getElem?_append_left hl] at hi
            rw [List.getElem?_append_left (by rw [← s.len]; exact hl)] at hu
            obtain ⟨ho, h1, h2⟩ := s2.at_ i b u hi hu
            exact ⟨ho, h1, h2.more⟩
          · rw [List.getElem?_append_right (Nat.le_of_not_lt hl)] at hi
            rw [List.getElem?_append_right (by rw [← s.len]; exact Nat.le_of_not_lt hl), ← s.len, List.getElem?_map] at hu
            cases e3 : S1[i - m.length]? with
            | none => rw [e3] at hu; cases hu
            | some u1 =>
              rw [e3] at hu
              cases hu
              obtain ⟨ho, h1, h2⟩ := s1.at_ _ b u1 hi e3
              exact ⟨ho, h1, orel_sh h2⟩
      · exact (q fun x hx => hx).elim
/-! ### a store of a few lists -/
inductive Sub (m : List Addr) (S : Sto) : List Nat → List Addr → List O → Prop
  | nil : Sub m S [] [] []
  | cons {i : Nat} {a : Addr} {o : O} {R : List Nat} {mR : List Addr} {T : List O} : m[i]? = some a → S[i]? = some o → flatO o = true → i ∉ R → Sub m S R mR T → Sub m S (i :: R) (a :: mR) (o :: T)
theorem flat_rel {H : Hp} {m m' : List Addr} {o : O} {ho : HO} (h : flatO o = true) : ORel K H m o ho → ORel K H m' o ho
  | .lst r => .lst (rfs_any h r)
  | .fz r => .fz (rfs_any h r)
  | .dk _ _ => (Bool.false_ne_true h).elim
theorem sub_mk {H : Hp} {m : List Addr} {S : Sto} (s : SR K H m S) : ∀ {R : List Nat} {T : List O}, subS S R = some T → ∃ mR, Sub m S R mR T
  | [], _, h => by
    cases h
    exact ⟨[], .nil⟩
  | i :: R, T, h => by
    unfold subS at h
    cases e : S[i]? with
    | none => rw [e] at h; cases h
    | some o =>
      rw [e] at h
      dsimp only at h
      split at h
      · rename_i hc
        simp only [Bool.and_eq_true, Bool.not_eq_true'] at hc
        obtain ⟨T', h1, rfl⟩ := Option.map_eq_some_iff.mp h
        obtain ⟨mR, h2⟩ := sub_mk s h1
        have hi : i < m.length := by
          rw [s.len]
          exact (List.getElem?_eq_some_iff.mp e).1
        refine ⟨m[i] :: mR, .cons (List.getElem?_eq_getElem hi) e hc.1 (fun z => ?_) h2⟩
        have := hc.2
        simp [z] at this
      · cases h
theorem Sub.len {m : List Addr} {S : Sto} {R : List Nat} {mR : List Addr} {T : List O} (h : Sub m S R mR T) : mR.length = R.length := by
  induction h with
  | nil => rfl
  | cons _ _ _ _ _ ih => rw [List.length_cons, List.length_cons, ih]
theorem Sub.mem {m : List Addr} {S : Sto} {R : List Nat} {mR : List Addr} {T : List O} (h : Sub m S R mR T) : ∀ a ∈ mR, ∃ i ∈ R, m[i]? = some a := by
  induction h with
  | nil => intro a ha; cases ha
  | @cons i b o R mR T h1 _ _ _ _ ih =>
    intro a ha
    rcases List.mem_cons.mp ha with e | e
    · exact ⟨i, List.mem_cons_self, by rw [e]; exact h1⟩
    · obtain ⟨j, h2, h3⟩ := ih a e
      exact ⟨j, List.mem_cons_of_mem _ h2, h3⟩
theorem addr_inj {m : List Addr} (nd : m.Nodup) {i j : Nat} {a : Addr} (h1 : m[i]? = some a) (h2 : m[j]? = some a) : i = j := by
  obtain ⟨l1, e1⟩ := List.getElem?_eq_some_iff.mp h1
  obtain ⟨l2, e2⟩ := List.getElem?_eq_some_iff.mp h2
  exact (List.getElem_inj nd).mp (e1.trans e2.symm)
theorem Sub.sr {H : Hp} {m : List Addr} {S : Sto} {R : List Nat} {mR : List Addr} {T : List O} (s : SR K H m S) (h : Sub m S R mR T) : SR K H mR T := by
  have at_ : ∀ (mm : List Addr) (k : Nat) (a : Addr) (o : O), mR[k]? = some a → T[k]? = some o → ∃ ho, H a = some ho ∧ ORel K H mm o ho := by
    intro mm
    induction h with
    | nil => intro k a o h1; cases h1
    | @cons i b u R mR T h1 h2 h3 _ _ ih =>
      intro k a o h4 h5
      cases k with
      | zero =>
        cases h4
        cases h5
        obtain ⟨ho, q1, q2⟩ := s.at_ i _ _ h1 h2
        exact ⟨ho, q1, flat_rel h3 q2⟩
      | succ k => exact ih k a o h4 h5
  refine ⟨?_, ?_, at_ mR⟩
  · induction h with
    | nil => rfl
    | cons _ _ _ _ _ ih => rw [List.length_cons, List.length_cons, ih fun mm k a o h1 h2 => at_ mm (k + 1) a o h1 h2]
  · clear at_
    induction h with
    | nil => exact .nil
    | @cons i b u R mR T h1 _ _ h4 h5 ih =>
      refine List.nodup_cons.mpr ⟨fun z => ?_, ih⟩
      obtain ⟨j, h6, h7⟩ := h5.mem b z
      rw [addr_inj s.nd h7 h1] at h6
      exact h4 h6
theorem ren_ok {H : Hp} {m : List Addr} {S : Sto} : ∀ {ds : List D} {vs : List V} {R : List Nat} {mR : List Addr} {T : List O} (mp : List Addr), RVs K H m ds vs → refsD ds = some R → Sub m S R mR T → RVs K H (mp ++ mR) (renD mp.length ds) vs
  | [], _, _, _, _, _, .nil, _, _ => .nil
  | d :: ds, _ :: _, R, mR, T, mp, .cons r t, h, hs => by
    cases d with
    | ref i =>
      obtain ⟨R', h1, rfl⟩ := Option.map_eq_some_iff.mp (show (refsD ds).map (i :: ·) = some R from h)
      cases hs with
      | @cons _ a o _ mR' T' h2 h3 h4 h5 h6 =>
        cases r with
        | ref h7 =>
          rw [h2] at h7
          cases h7
          have q := ren_ok (mp ++ [a]) t h1 h6
          rw [List.append_assoc, List.length_append] at q
          exact .cons (.ref (by rw [List.getElem?_append_right (Nat.le_refl _), Nat.sub_self]; rfl)) q
    | tup es =>
      have h' : (if rf (.tup es) = true then refsD ds else none) = some R := h
      split at h'
      · rename_i hf
        exact .cons (rf_any hf r) (ren_ok mp t h' hs)
      · cases h'
    | cl es =>
      have h' : (if rf (.cl es) = true then refsD ds else none) = some R := h
      split at h'
      · rename_i hf
        exact .cons (rf_any hf r) (ren_ok mp t h' hs)
      · cases h'
    | non => exact .cons (rf_any rfl r) (ren_ok mp t h hs)
    | bl b => exact .cons (rf_any rfl r) (ren_ok mp t h hs)
    | int i => exact .cons (rf_any rfl r) (ren_ok mp t h hs)
    | str x => exact .cons (rf_any rfl r) (ren_ok mp t h hs)
theorem back_ok {H' : Hp} {m : List Addr} {S0 : Sto} : ∀ {R : List Nat} {mR : List Addr} {T : List O} {S S' : Sto} {os : List O}, Sub m S0 R mR T → (∀ (k : Nat) (a : Addr) (o : O), mR[k]? = some a → os[k]? = some o → ∃ ho, H' a = some ho ∧ (flatO o = true → ORel K H' m o ho)) →
    m.length = S.length → (∀ (i : Nat) (a : Addr) (o : O), i ∉ R → m[i]? = some a → S[i]? = some o → ∃ ho, H' a = some ho ∧ ORel K H' m o ho) → backS S R os = some S' → m.length = S'.length ∧ ∀ (i : Nat) (a : Addr) (o : O), m[i]? = some a → S'[i]? = some o → ∃ ho, H' a = some ho ∧ ORel K H' m o ho
  | [], _, _, S, S', os, .nil, _, hl, hb, h => by
    have h' : some S = some S' := by
      rw [← h]
      unfold backS
      rfl
    cases h'
    exact ⟨hl, fun i a o h1 h2 => hb i a o (by simp) h1 h2⟩
  | i :: R, a :: mR, _ :: T, S, S', os, .cons h1 h2 h3 h4 h5, hk, hl, hb, h => by
    cases os with
    | nil => cases h
    | cons o os =>
      have h' : (if flatO o = true then backS (S.set i o) R os else none) = some S' := h
      split at h'
      · rename_i hf
        refine back_ok h5 (fun k b u q1 q2 => hk (k + 1) b u q1 q2) (by rw [List.length_set]; exact hl) (fun j b u hj q1 q2 => ?_) h'
        by_cases e : j = i
        · subst e
          rw [h1] at q1
          cases q1
          have hi : j < S.length := by
            rw [← hl]
            exact (List.getElem?_eq_some_iff.mp h1).1
          rw [List.getElem?_set_self hi] at q2
          cases q2
          obtain ⟨ho, z1, z2⟩ := hk 0 _ _ rfl rfl
          exact ⟨ho, z1, z2 hf⟩
        · rw [List.getElem?_set_ne (Ne.symm e)] at q2
          exact hb j b u (by simp [e, hj]) q1 q2
      · cases h'
theorem iso_ok {H H' : Hp} {m mR m' : List Addr} {S S1 S' : Sto} {R : List Nat} {T : List O} (s : SR K H m S) (hs : Sub m S R mR T) (e : Ext H mR H' m') (s1 : SR K H' m' S1) (hb : backS S R S1 = some S') : SR K H' m S' ∧ Ext H m H' m ∧ ∀ a ∈ m', a ∉ mR → a ∉ m := by
  have sR := hs.sr s
  have nT : ∀ b ys, SqT K H b ys → SqT K H' b ys := fun b ys h => sqt_mono sR e h
  obtain ⟨⟨r, er⟩, ek⟩ := id e
  have pre : ∀ k a, mR[k]? = some a → m'[k]? = some a := fun k a h => e.get h
  have off : ∀ i a, m[i]? = some a → i ∉ R → a ∉ mR := fun i a h hi z => by
    obtain ⟨j, h1, h2⟩ := hs.mem a z
    rw [addr_inj s.nd h2 h] at h1
    exact hi h1
  obtain ⟨l1, l2⟩ := back_ok (H' := H') (K := K) hs (fun k a o h1 h2 => by
    obtain ⟨ho, q1, q2⟩ := s1.at_ k a o (pre k a h1) h2
    exact ⟨ho, q1, fun hf => flat_rel hf q2⟩) s.len (fun i a o hi h1 h2 => by
    obtain ⟨ho, q1, q2⟩ := s.at_ i a o h1 h2
    exact ⟨ho, (ek a ho q1 (off i a h1 hi)).1, q2.side nT⟩) hb
  refine ⟨⟨l1, s.nd, l2⟩, ⟨⟨[], (List.append_nil m).symm⟩, fun a o h n => ⟨(ek a o h fun z => ?_).1, n⟩⟩, fun a ha hn hm => ?_⟩
  · obtain ⟨j, _, h2⟩ := hs.mem a z
    exact n (List.mem_of_getElem? h2)
  · obtain ⟨o, ho, q1, _⟩ := s.kind hm
    exact (ek a ho q1 hn).2 ha
theorem iso_run {H : Hp} {m : List Addr} {S : Sto} {ds : List D} {vs : List V} {c : List D → Sto → R D} {Q : VK} {Ex : XK} {r : R D} (s : SR K H m S) (rv : RVs K H m ds vs) (hr : isoR c ds S = some r)
    (h : r.holds (PostE K H m Q) (fun x S' => ∀ H' m' cls d, Ext H m H' m' → SR K H' m' S' → XR xc K H' m' x cls d → Ex cls d H')) :
    ∃ S0 m0 es, SR K H m0 S0 ∧ RVs K H m0 es vs ∧ (c es S0).holds (PostE K H m0 Q) (fun x S' => ∀ H' m' cls d, Ext H m0 H' m' → SR K H' m' S' → XR xc K H' m' x cls d → Ex cls d H') := by
  unfold isoR at hr
  cases h1 : refsD ds with
  | none => rw [h1] at hr; cases hr
  | some R =>
    rw [h1] at hr
    dsimp only at hr
    cases h2 : subS S R with
    | none => rw [h2] at hr; cases hr
    | some T =>
      rw [h2] at hr
      dsimp only at hr
      obtain ⟨mR, hs⟩ := sub_mk s h2
      have sR := hs.sr s
      have ra : RVs K H ([] ++ mR) (renD 0 ds) vs := ren_ok [] rv h1 hs
      refine ⟨T, mR, renD 0 ds, sR, ra, ?_⟩
      cases h3 : c (renD 0 ds) T with
      | stk => rw [h3] at hr; cases hr
      | exn x S1 => rw [h3] at hr; cases hr
      | ok d S1 =>
        rw [h3] at hr
        dsimp only at hr
        cases h4 : backS S R S1 with
        | none => rw [h4] at hr; cases hr
        | some S' =>
          rw [h4] at hr
          dsimp only at hr
          intro v H' m' e s1 r1
          obtain ⟨q1, q2, q3⟩ := iso_ok s hs e s1 h4
          cases h5 : rf d with
          | true =>
            rw [h5] at hr
            cases hr
            exact h v H' m q2 q1 (rf_any h5 r1)
          | false =>
            rw [h5] at hr
            dsimp only at hr
            cases h6 : newR R.length d S1 with
            | none => rw [h6] at hr; cases hr
            | some es =>
              rw [h6] at hr
              cases hr
              cases r1 with
              | @ref j a ha =>
                have h7 : (if R.length ≤ j then lstRf (.ref j) S1 else none) = some es := h6
                split at h7
                · rename_i hj
                  have h8 : (match S1[j]? with | some (.lst ds) => if rfs ds then some ds else none | _ => none) = some es := h7
                  cases h9 : S1[j]? with
                  | none => rw [h9] at h8; cases h8
                  | some o =>
                    rw [h9] at h8
                    cases o with
                    | lst ds' =>
                      dsimp only at h8
                      split at h8
                      · rename_i hrf
                        cases h8
                        obtain ⟨ho, z1, z2⟩ := s1.at_ j a _ ha h9
                        have lR : mR.length = R.length := hs.len
                        have nR : a ∉ mR := fun z => by
                          obtain ⟨k, hk⟩ := List.mem_iff_getElem?.mp z
                          have e1 := addr_inj s1.nd (e.get hk) ha
                          have e2 := (List.getElem?_eq_some_iff.mp hk).1
                          omega
                        have am : a ∈ m' := List.mem_of_getElem? ha
                        have na := q3 a am nR
                        have eA : Ext H m H' (m ++ [a]) := ⟨⟨[a], rfl⟩, fun b o hb nb => ⟨(q2.keep b o hb nb).1, fun z => by
                          rcases List.mem_append.mp z with z | z
                          · exact nb z
                          · rw [List.mem_singleton.mp z] at hb
                            exact (e.keep a o hb nR).2 am⟩⟩
                        cases z2 with
                        | lst hq => exact h _ H' (m ++ [a]) eA (sr_adopt q1 z1 na (.lst (rfs_any hrf hq))) (.ref (by rw [← q1.len, List.getElem?_append_right (Nat.le_refl _), Nat.sub_self]; rfl))
                      · cases h8
                    | fz _ => cases h8
                    | dk _ => cases h8
                · cases h7
              | _ => cases h6
theorem pure_ok {H : Hp} {m : List Addr} {S : Sto} {ds : List D} {vs : List V} {c : List D → Sto → R D} {Q : VK} {Ex : XK} (s : SR K H m S) (r : RVs K H m ds vs)
    (h : (pureC c ds S).holds (PostE K H m Q) (fun x S' => ∀ H' m' cls d, Ext H m H' m' → SR K H' m' S' → XR xc K H' m' x cls d → Ex cls d H')) :
    ∃ S0 m0 es, SR K H m0 S0 ∧ RVs K H m0 es vs ∧ (c es S0).holds (PostE K H m0 Q) (fun x S' => ∀ H' m' cls d, Ext H m0 H' m' → SR K H' m' S' → XR xc K H' m' x cls d → Ex cls d H') := by
  unfold pureC at h
  split at h
  · rename_i hf
    refine ⟨[], [], ds, ⟨rfl, .nil, fun i a o hi => by cases hi⟩, rfs_any hf r, ?_⟩
    cases e : c ds [] with
    | stk => rw [e] at h; exact h
    | ok d S1 =>
      rw [e] at h
      exact fun v H' m' e1 s1 r1 => adopt_ok s h e1 s1 r1
    | exn x S1 =>
      rw [e] at h
      obtain ⟨hc, h2⟩ := holds_ifR (show (ifR (rfs (x.fs.map (·.2))) (.exn x S) : R D).holds _ _ from h)
      intro H' m' cls d e1 s1 xr
      refine h2 H' m cls d (ext_all e1) (sr_all s e1) ⟨xr.1, ?_⟩
      rcases xr.2 with z | ⟨da, fs, z1, z2, z3, z4⟩
      · exact .inl z
      · exact .inr ⟨da, fs, z1, z2, z3, rfs_any hc z4⟩
  · cases e : isoR c ds S with
    | none =>
      rw [e] at h
      exact ⟨S, m, ds, s, r, h⟩
    | some rr =>
      rw [e] at h
      exact iso_run s r e h
theorem bnd_of {t : FT} {f : Addr} {fd : FuncData} {us : List Value} {kw r : List (Str × Value)} (F : Fun K t.x t.x t.st f fd) (h : BndT t us kw r) (s : Shared) : BindsTo s fd ⟨us, kw⟩ r := by
  obtain ⟨oc, od, kV, doc, pm, an, cdv, ct, osl, rfl, lk, hcd⟩ := F.ex
  exact .of_eq (h kV doc pm an cdv ct)
/-- as the layer's rule for a def, where no repr is under way -/
theorem fng_of {CX : CXT} {k : Nat} {f : Addr} {name qual : Str} {params : Arguments} {body : List Stmt} {scope : Scope} {dV kV doc pm cdv ct oc : Value} {an od : Option Addr} {osl : Array (Option Value)} {N ps : List Str} {sp : Sp}
    (lk : K.lookup f = some ⟨oc, od, .func (PySem.W.fnOf name qual params body scope dV kV doc pm an cdv ct), osl⟩) (hcd : PySem.W.codeIn K cdv qual = true) (S : FnScope N ps scope) (len : ∀ vs H Q E, sp vs H Q E → vs.length = ps.length)
    (hbody : ∀ (A : Around) (outer : List Env) (s : Shared) (H : Hp) (vs : List V) (Q : VK) (E : XK), A.guards = some [] → Room k (A.deeper (envOfC qual scope s.heap.objs.size f cdv)) → sp vs H Q E →
      ∃ t, PSs (cxOf CX P w K mg base N qual scope f cdv A outer s H E) body t ∧ t { nx := fun _ H' => Q .non H', rt := Q } (L2.start N vs) H) :
    FnG P w K mg base CX (k + 1) f (PySem.W.fnOf name qual params body scope dV kV doc pm an cdv ct) ps sp := by
  refine ⟨len, fun A outer s H args us vs Q E gd hr e0 hb r hsp => ?_⟩
  obtain ⟨t, ht, hq⟩ := hbody A outer s H vs Q E gd (hr.deeper _) hsp
  have KX : K.In s.heap := e0.mod.kin.keeps fun b o e => (e0.bs b o e).1
  have nl : s.heap.NoLimit := e0.mod.nolimit.keeps fun b o e => (e0.bs b o e).1
  have hk : ∀ y ∈ ps.zip us, scope.names.lookup y.1 = some .local ∨ (scope.names.lookup y.1 = some .cell ∧ ((cellsFrom (s.heap.objs.size + 1) scope.names []).lookup y.1).isSome = true) := by
    rintro ⟨n, v⟩ hy
    rcases S.par n (List.of_mem_zip hy).1 with q | q
    · exact .inl q
    · exact .inr ⟨q, PySem.W.cellsFrom_some _ _ _ (.inl q)⟩
  refine codeAny_call_function hr.depth (KX _ _ lk) rfl S.co S.gen rfl (PySem.W.codeRec_of KX hcd) (hb _ _ _ _ ?_)
  refine wpAny_newFunctionEnv_cells S.kind hk fun env he s1 x => ?_
  subst he
  refine ⟨nl.keeps x.toInCall.keep, codeAny_func ?_⟩
  have I : L2.Inv (cxOf CX P w K mg base N qual scope f cdv A outer s H E) [] (L2.start N vs) H s1 := inv_start S hr.hd e0 (len _ _ _ _ hsp) r x
  refine wpAny_mono (ht.run [] s1 (L2.start N vs) H _ I hq) (fun fl s' hs => ?_) fun e s' hs => hs
  cases fl with
  | ret u =>
    obtain ⟨v, q', H', J, rv, q⟩ := hs
    exact ⟨v, H', J.os, J.bare, J.base, J.hok, rv, q⟩
  | next =>
    obtain ⟨q', H', J, q⟩ := hs
    exact ⟨.non, H', J.os, J.bare, J.base, J.hok, rfl, q⟩
  | brk =>
    obtain ⟨_, _, _, q⟩ := hs
    exact False.elim q
  | cont =>
    obtain ⟨_, _, _, q⟩ := hs
    exact False.elim q
/-- a def keeps its promise one level up -/
theorem fn_up (W : Text g p ts) {k : Nat} (ih : GOk xc g p (runF p k) k P w K mg base) {i : Nat} {t : FT} (e : ts[i]? = some t) {f : Addr} {fd : FuncData} (F : Fun K t.x t.x t.st f fd) :
    FnG P w K mg base (L2.CX P w) (k + 1) f fd t.ps (spI xc K (runF p (k + 1)) i t.ps.length) := by
  obtain ⟨c, hc, hck⟩ := chFns_at W.ch e
  unfold chFn at hck
  simp only [Bool.and_eq_true] at hck
  obtain ⟨⟨⟨hS, hnp⟩, hnl⟩, hb⟩ := hck
  have S := scD_scope hS
  obtain ⟨oc, od, kV, doc, pm, an, cdv, ct, osl, rfl, lk, hcd⟩ := F.ex
  refine fng_of lk hcd S (fun vs H Q E h => h.1) fun A outer s H vs Q Ex gd hr hsp => ?_
  obtain ⟨hlen, ds, S0, m, s0, r0, hrun⟩ := hsp
  have hrun : (match p.fns[i]? with | some c => pureC (runB p (runF p k) c) ds S0 | none => .stk : R D).holds _ _ := hrun
  rw [hc] at hrun
  obtain ⟨S0, m, ds, s0, r0, hrun⟩ := pure_ok s0 r0 hrun
  obtain ⟨_, hrun⟩ := holds_ifR (show (ifR (decide (ds.length = c.np)) (match exSs p (runF p k) c.body (startD ds c.nl) S0 with | .ok (.ret d) S => .ok d S | .ok (.next _) S => .ok .non S | .ok (.exn x _) S => .exn x S | _ => .stk) : R D).holds _ _ from hrun)
  refine ⟨_, pss_w, ?_⟩
  let E' : EX := fun x _ S' => ∀ H' m' cls d, Ext H m H' m' → SR K H' m' S' → XR xc K H' m' x cls d → Ex cls d H'
  have sx : SX xc g p (runF p k) k ⟨t.N, defScope t.st, none⟩ E' H m (cxOf (L2.CX P w) P w K mg base t.N t.x (defScope t.st) f cdv A outer s H Ex) := by
    refine ⟨rfl, S.nd, rfl, S.kind, fun _ _ => .inl rfl, rfl, hr, PassesOwn.leaving, ?_, fun _ => ⟨rfl, rfl⟩, ih, gd⟩
    refine Takes.imp (takes_of (E := Ex) rfl rfl rfl rfl) fun cls d qV H' hx => ?_
    obtain ⟨x, q', S', m', e1, st, xr⟩ := hx
    exact e1 H' m' cls d st.ex st.sr xr
  refine cSs c.body sx hb (startD ds c.nl) S0 _ H m ⟨s0, fr_start r0 (of_decide_eq_true hnl), Ext.refl _ _⟩
    (fun fl S' => match fl with | .ret d => PostE K H m Q d S' | .next _ => PostE K H m Q .non S' | .exn x q => E' x q S' | _ => False) _ ?_ ⟨?_, ?_, ?_, ?_, ?_⟩
  · cases e2 : exSs p (runF p k) c.body (startD ds c.nl) S0 with
    | stk => rw [e2] at hrun; exact hrun
    | exn x S1 => rw [e2] at hrun; exact hrun
    | ok fl S1 =>
      rw [e2] at hrun
      cases fl with
      | ret d => exact hrun
      | next q => exact hrun
      | exn x q => exact hrun
      | brk q => exact hrun
      | cnt q => exact hrun
  · intro q' S' qV' H' m' h e' s' f'
    exact h .non H' m' e' s' .non
  · intro d S' v H' m' h e' s' r'
    exact h v H' m' e' s' r'
  · intro q' S' qV' H' m' h
    exact h.elim
  · intro q' S' qV' H' m' h
    exact h.elim
  · intro x q' S' h
    exact h
theorem gok (W : Text g p ts) (T : Top g p ts K mg) : ∀ k : Nat, GOk (xcOf g mg) g p (runF p k) k P w K mg base := by
  have mk : ∀ k, (∀ (i : Nat) (t : FT), ts[i]? = some t → ∀ (f : Addr) (fd : FuncData), Fun K t.x t.x t.st f fd → FnG P w K mg base (L2.CX P w) k f fd t.ps (spI (xcOf g mg) K (runF p k) i t.ps.length)) → GOk (xcOf g mg) g p (runF p k) k P w K mg base := fun k hk => by
    refine ⟨fun i x ps h => ?_, T.con, T.blt, T.exl, T.exc, T.sub⟩
    rw [W.gf, List.getElem?_map] at h
    cases e : ts[i]? with
    | none => rw [e] at h; cases h
    | some t =>
      rw [e] at h
      cases h
      have ht := List.mem_of_getElem? e
      obtain ⟨f, fd, h1, F⟩ := T.fn t ht
      refine ⟨f, fd, h1, F.kp, hk i t e f fd F, F.binds fun kV doc pm an cdv ct us hl => W.bnd t ht us hl kV doc pm an cdv ct, fun q hq hi => ?_⟩
      obtain ⟨t', e', hp, hne, hb⟩ := W.kwd q hq
      rw [hi, e] at e'
      cases e'
      refine ⟨hp, fun s us ws _ hl => ?_⟩
      unfold kwG at hl ⊢
      split at hl
      · rename_i hc
        rw [if_pos hc]
        exact bnd_of F (hb us ws hc.1 hc.2) s
      · exact absurd (List.length_eq_zero_iff.mp hl.symm) hne
  intro k
  induction k with
  | zero =>
    refine mk 0 fun i t e f fd F => ⟨fun vs H Q E h => h.1, fun A outer s H args us vs Q E _ _ _ _ _ h => ?_⟩
    obtain ⟨_, ds, S, m, _, _, h⟩ := h
    exact h.elim
  | succ k ih => exact mk (k + 1) fun i t e f fd F => fn_up W ih e F
/-! ### the law -/
theorem cx_none {w : World} {H : Hp} {s : Shared} {e : Value} {s' : Shared} (h : L2.CX P w [] H s (fun _ _ _ => False) e s') : False := by
  obtain ⟨_, _, _, _, _, _, _, _, _, _, _, _, z⟩ := h
  exact z
theorem rvs_ints {H : Hp} {m : List Addr} : ∀ ns : List Int, RVs K H m (ns.map D.int) (ns.map V.int)
  | [] => .nil
  | n :: ns => .cons (.int n) (rvs_ints ns)
/-- the run at a script, a list that nobody changes -/
def Good (p : PG) (k i : Nat) : Prop := ∀ ns : List Int, ns.length ≤ 63 → (∃ S, runF p k i [.ref 0] [.fz (ns.map .int)] = .ok (.bl true) S) ∧ ∃ S, runF p k i [.cl (ns.map .int)] [] = .ok (.bl true) S
theorem good_sp {k i : Nat} (hg : Good p k i) {H : Hp} {a : Addr} {ns : List Int} (hl : ns.length ≤ 63) (hO : Only H) (hS : SqL K H a (ns.map V.int)) {Q : VK} {E : XK} (hQ : ∀ H', Q (.bl true) H') : spI xc K (runF p k) i 1 [.ref a] H Q E := by
  refine ⟨rfl, ?_⟩
  rcases hS with (h | ⟨o, h⟩) | h
  · rcases hO a with z | ⟨o, xs, z⟩ <;> (rw [h] at z; cases z)
  · obtain ⟨S, e⟩ := (hg ns hl).1
    refine ⟨[.ref 0], [.fz (ns.map .int)], [a], ⟨rfl, by simp, fun j b u hj hu => ?_⟩, .cons (.ref rfl) .nil, ?_⟩
    · cases j with
      | zero =>
        cases hj
        cases hu
        exact ⟨_, h, .fz (rvs_ints ns)⟩
      | succ j => cases hj
    · rw [e]
      intro v H' m' _ _ r
      cases r
      exact hQ H'
  · obtain ⟨S, e⟩ := (hg ns hl).2
    refine ⟨[.cl (ns.map .int)], [], [], ⟨rfl, by simp, fun j b u hj hu => by cases hj⟩, .cons (.cl h (rvs_ints ns)) .nil, ?_⟩
    rw [e]
    intro v H' m' _ _ r
    cases r
    exact hQ H'
theorem ints_vals : ∀ {vs : List Value} {ns : List Int}, IntsAre vs ns → Vals (ns.map V.int) vs
  | _, _, .nil => .nil
  | _, _, .cons n t h => .cons ⟨t, rfl⟩ (ints_vals h)
theorem law_here {k : Nat} {fa a : Addr} {fd : FuncData} {x : Str} {sp : Sp} {s1 : Shared} {vs : List Value} {mb : Str → Option Value} {H : Hp}
    (KX : K.In s1.heap) (hns : s1.heap.Ns mainGlobals mg) (hb : s1.heap.Ns builtinsNs mb) (hbb : ∀ x : Str, x ≠ "__name__" → mb x = bootBuiltins x) (hlim : s1.heap.NoLimit) (hg : s1.gens = #[])
    (ha : s1.heap.get? a = some { cls := .type "list", data := .seq vs.toArray }) (hr : Room k callerA) (F : ∀ base : Heap, K.In base → base.Ns mainGlobals mg → FnG P w K mg base (L2.CX P w) k fa fd [x] sp) (hbind : BindsTo s1 fd ⟨[.ref a], []⟩ [(x, .ref a)])
    (hO : Only H) (hok : HOk P w H s1.heap) (hA : ∀ b, H b ≠ none → b = a) (hK : H a ≠ none → K.lookup a = none) (hsp : sp [.ref a] H (fun v _ => v = .bl true) fun _ _ _ => False) :
    codeAny (model P w) callerA (.call (.ref fa) ⟨[.ref a], []⟩) (fun r s' => r = .ok (.ret (.bool true)) ∧ OldK s1.heap s'.heap ∧ s'.os = s1.os ∧ AllBare s'.gens) s1 := by
  have isA : ∀ {b : Addr} {u : HO}, H b = some u → b = a := fun {b u} e => hA b (by rw [e]; exact Option.some_ne_none u)
  have low : ∀ {b : Addr} {o : Obj}, s1.heap.get? b = some o → H b = none → (hidT s1.heap H).get? b = some o := fun e n => hidT_get e n
  have noD : ∀ {b : Addr} {o : Obj} {es : Array DictEntry} {ep : Nat}, s1.heap.get? b = some o → o.data = .dict es ep → H b = none := fun {b o es ep} e d => by
    cases q : H b with
    | none => rfl
    | some u =>
      cases isA q
      rw [ha] at e
      cases e
      exact absurd d (fun z => by cases z)
  have ns2 : ∀ {b : Addr} {m : Str → Option Value}, s1.heap.Ns b m → (hidT s1.heap H).Ns b m := fun {b m} h => by
    obtain ⟨o, es, ep, e, d, r⟩ := h
    exact ⟨o, es, ep, low e (noD e d), d, r⟩
  have k2 : K.In (hidT s1.heap H) := fun b o e => low (KX b o e) (by
    cases q : H b with
    | none => rfl
    | some u =>
      cases isA q
      rw [hK (by rw [q]; exact Option.some_ne_none u)] at e
      cases e)
  have md : Mod K mg (hidT s1.heap H) := ⟨k2, ns2 hns, ⟨mb, ns2 hb, hbb⟩, by
    obtain ⟨mc, z1, z2⟩ := hlim
    exact ⟨mc, ns2 z1, z2⟩⟩
  have nf : ∀ b ∈ frs ([] : List Env), H b = none := fun b hb => by cases (show b ∈ ([] : List Addr) from hb)
  have e0 : Env0 P w K mg (hidT s1.heap H) callerA [] s1 H := ⟨rfl, md, fun b o e => of_hidT e, Nat.le_of_eq (hidT_size _ _), trivial, nf, hok, .of_eq hg⟩
  refine codeAny_mono ((F _ k2 (ns2 hns)).run callerA [] s1 H ⟨[.ref a], []⟩ [.ref a] [.ref a] _ _ rfl hr e0 hbind (.cons rfl .nil) hsp) fun r s' h => ?_
  cases r with
  | error e => exact (cx_none h).elim
  | ok fl =>
    cases fl with
    | ret u =>
      obtain ⟨v, H', os, bare, un, hok', rr, q⟩ := h
      cases (show v = .bl true from q)
      cases (show u = Value.bool true from rr)
      refine ⟨rfl, OldK.of_keep fun b o e => ?_, os, bare⟩
      cases q : H b with
      | none => exact un.keep b o e q (fun z => by cases (show b ∈ ([] : List Addr) from z)) (by simp)
      | some u =>
        rcases hO b with z | ⟨ob, xs, z⟩
        · rw [q] at z
          cases z
        · obtain ⟨e1, _⟩ := hok b _ z
          obtain ⟨e2, _⟩ := hok' b _ (un.frzs b ob _ z)
          rw [e] at e1
          cases e1
          exact e2
    | _ => exact h.elim
theorem law_any {k : Nat} {fa a : Addr} {fd : FuncData} {x : Str} {sp : Sp} {s1 : Shared} {vs : List Value} {ns : List Int} {mb : Str → Option Value}
    (KX : K.In s1.heap) (hns : s1.heap.Ns mainGlobals mg) (hb : s1.heap.Ns builtinsNs mb) (hbb : ∀ x : Str, x ≠ "__name__" → mb x = bootBuiltins x) (hlim : s1.heap.NoLimit) (hg : s1.gens = #[])
    (ha : s1.heap.get? a = some { cls := .type "list", data := .seq vs.toArray }) (hi : IntsAre vs ns) (hl : ns.length ≤ sizeLine) (hr : Room k callerA) (F : ∀ base : Heap, K.In base → base.Ns mainGlobals mg → FnG P w K mg base (L2.CX P w) k fa fd [x] sp)
    (hbind : BindsTo s1 fd ⟨[.ref a], []⟩ [(x, .ref a)]) (hsp : ∀ H : Hp, Only H → SqL K H a (ns.map V.int) → sp [.ref a] H (fun v _ => v = .bl true) fun _ _ _ => False) :
    codeAny (model P w) callerA (.call (.ref fa) ⟨[.ref a], []⟩) (fun r s' => r = .ok (.ret (.bool true)) ∧ OldK s1.heap s'.heap ∧ s'.os = s1.os ∧ AllBare s'.gens) s1 := by
  have rv := ints_vals hi
  have lenV := hi.length
  cases hk : K.lookup a with
  | some o =>
    have e := KX a o hk
    rw [ha] at e
    cases e
    have o0 : Only fun _ => none := fun _ => .inl rfl
    refine law_here (H := fun _ => none) KX hns hb hbb hlim hg ha hr F hbind o0 (fun b u z => by cases (show (none : Option HO) = some u from z)) (fun b z => absurd rfl z) (fun z => absurd rfl z) (hsp _ o0 (.inr ?_))
    exact ⟨_, vs.toArray, _, hk, rfl, rfl, rfl, by rw [List.size_toArray, lenV]; exact hl, by simpa using rv⟩
  | none =>
    let H1 : Hp := fun b => if b = a then some (.frz { cls := .type "list", data := .seq vs.toArray } (.lst (ns.map V.int))) else none
    have at1 : H1 a = some (.frz { cls := .type "list", data := .seq vs.toArray } (.lst (ns.map V.int))) := if_pos rfl
    have off : ∀ b, b ≠ a → H1 b = none := fun b hb => if_neg hb
    have o1 : Only H1 := fun b => by
      by_cases hb : b = a
      · subst hb
        exact .inr ⟨_, _, at1⟩
      · exact .inl (off b hb)
    refine law_here (H := H1) KX hns hb hbb hlim hg ha hr F hbind o1 (fun b u z => ?_) (fun b z => ?_) (fun _ => hk) (hsp _ o1 (.inl (.inr ⟨_, at1⟩)))
    · by_cases hb : b = a
      · subst hb
        rw [at1] at z
        cases z
        exact ⟨ha, by rw [List.length_map]; exact hl, vs, _, rv, ha⟩
      · rw [off b hb] at z
        cases z
    · by_cases hb : b = a
      · exact hb
      · exact absurd (off b hb) z
theorem walk (W : Text g p ts) {i k : Nat} {x y : Str} {N : List Str} {st : Stmt} (hi : ts[i]? = some ⟨x, [y], N, st⟩) (hg : Good p k i) (hr : Room k callerA)
    {l : PySem.W.OpenLaw} {q : Program} {loose : List Str} {XP : (Str → Option Value) → Heap → Prop} {YP : World → Heap → Prop} {d : DefRec} {K : Params → PySem.W.Frag} (hn : l.most = some 63) (hdf : d.params.defaults = []) (hd : d.name = x)
    (hY : ∀ (w : World) (h : Heap), YP w h → (K w.params).In h) (T : ∀ (w : World) (mg : Str → Option Value) (h : Heap), (K w.params).In h → h.Ns mainGlobals mg → Top g p ts (K w.params) mg) :
    PySem.W.WalkO q loose XP YP l.row.toRowW d [] (fun f vs => PySem.call f vs) := by
  refine Att.attach_call hn hdf fun w s0 s1 mg mb fa o pm cd doc a vs ns G Y ho hd2 hcd hmg hobj hints hlen hgen => ?_
  have KX := hY w _ Y
  have TT := T w mg _ KX G.T.g
  obtain ⟨f, fd, h1, F⟩ := TT.fn _ (List.mem_of_getElem? hi)
  have e1 : mg x = some (.ref f) := h1
  rw [hd, e1] at hmg
  cases hmg
  refine law_any (sp := spI (xcOf g mg) (K w.params) (runF p k) i 1) KX G.T.g G.T.b G.T.builtins G.T.nolimit hgen hobj hints (Nat.le_trans hlen (by decide)) hr (fun base _ _ => ?_) (bnd_of F (W.bnd _ (List.mem_of_getElem? hi) [.ref a] rfl) s1) fun H hO hS => good_sp hg hlen hO hS fun _ => rfl
  cases k with
  | zero =>
    obtain ⟨S, e⟩ := (hg [] (by decide)).1
    cases e
  | succ k => exact fn_up W (gok W TT k) hi F
/-! ### the facts of the top -/
def FnF (K : PySem.W.Frag) (x : Str) (st : Stmt) : Prop := ∃ (f : Addr) (oc : Value) (od : Option Addr) (sl : Array (Option Value)) (kV dc pm : Value) (an : Option Addr) (cd ct : Value), PySem.W.nsIn K mainGlobals x = some (some (.ref f)) ∧
  K.lookup f = some ⟨oc, od, .func (PySem.W.fnOf x x (defArgs st) (defBody st) (defScope st) .none kV dc pm an cd ct), sl⟩ ∧ PySem.W.codeIn K cd x = true ∧ PySem.W.keepIn K (.ref f) = true
def CnF (K : PySem.W.Frag) (x : Str) (d : D) : Prop := ∃ u v, PySem.W.nsIn K mainGlobals x = some (some u) ∧ RelV v u ∧ ∀ H m, RV K H m d v
theorem fn_fact {x : Str} {st : Stmt} {f : Addr} {oc : Value} {od : Option Addr} {sl : Array (Option Value)} {kV dc pm : Value} {an : Option Addr} {cd ct : Value} (a : PySem.W.nsIn K mainGlobals x = some (some (.ref f)))
    (l : K.lookup f = some ⟨oc, od, .func (PySem.W.fnOf x x (defArgs st) (defBody st) (defScope st) .none kV dc pm an cd ct), sl⟩) (c : PySem.W.codeIn K cd x = true) (k : PySem.W.keepIn K (.ref f) = true) : FnF K x st := ⟨f, oc, od, sl, kV, dc, pm, an, cd, ct, a, l, c, k⟩
theorem cn_fact {x : Str} {d : D} {u : Value} {v : V} (a : PySem.W.nsIn K mainGlobals x = some (some u)) (r : RelV v u) (q : ∀ H m, RV K H m d v) : CnF K x d := ⟨u, v, a, r, q⟩
def ErK (K : PySem.W.Frag) (x : Str) (e : EC) (C : Addr) : Prop := PySem.W.nsIn K mainGlobals x = some (some (.ref C)) ∧ XfC K C ∧ ExcC K C ∧ (∀ f ∈ e.fs, PySem.W.findIn K (.ref C) f = some none) ∧
  (e.fs = [("thing" : Str)] → ∃ qn fI, ∀ mg : Str → Option Value, mg x = some (.ref C) → ErT K mg x "thing" qn thA thB thS C fI)
/-- where a name's class stands -/
def adIn (K : PySem.W.Frag) (x : Str) : Addr := match PySem.W.nsIn K mainGlobals x with
  | some (some (.ref a)) => a
  | _ => 0
def subB (K : PySem.W.Frag) (g : GS) (p : PG) : Bool := (List.range p.exs.length).all fun i => (List.range p.exs.length).all fun j =>
  decide (PySem.W.exmOne K (.ref (adIn K (g.exs.getD i Str.empty))) (.ref (adIn K (g.exs.getD j Str.empty))) = some (isSub p i j)) && decide (PySem.W.kitOne K (.ref (adIn K (g.exs.getD i Str.empty))) (.ref (adIn K (g.exs.getD j Str.empty))) = some (isSub p i j))
def ExAll (K : PySem.W.Frag) (g : GS) (p : PG) : Prop := g.exs.length = p.exs.length ∧ (∀ q ∈ g.exs.zip p.exs, ∃ C, ErK K q.1 q.2 C) ∧ subB K g p = true
/-- a class that no raise makes -/
theorem er_base {x : Str} {e : EC} {C : Addr} (a : PySem.W.nsIn K mainGlobals x = some (some (.ref C))) (f1 : PySem.W.findIn K (.ref C) "__getattribute__" = some (some (.builtin "BaseException.__getattribute__"))) (f2 : PySem.W.findIn K (.ref C) "__getattr__" = some none)
    (f3 : PySem.W.subIn K (.ref C) (.type "BaseException") = some true) (f4 : PySem.W.hasDictIn K C = true) (f5 : PySem.W.findIn K (.ref C) "__class__" = some (some (.builtin "object.__class__"))) (f6 : PySem.W.specialIn K (.builtin "object.__class__") "__get__" = some (some (.builtin "getset_descriptor.__get__")))
    (f7 : PySem.W.takesIn K (.builtin "object.__class__") = some true) (f8 : PySem.W.mroIn K C (.type "object") = some true) (no : e.fs = []) : ∃ C, ErK K x e C :=
  ⟨C, a, ⟨f1, f2, f3, f4⟩, ⟨f1, f2, f3, f4, f5, f6, f7, f8⟩, by rw [no]; simp, fun z => by rw [no] at z; cases z⟩
/-- a class whose __init__ keeps its one parameter -/
theorem er_thing {x qn : Str} {e : EC} {C fI : Addr} {oc : Value} {od : Option Addr} {doc pm : Value} {an : Option Addr} {cdv ct : Value} {osl : Array (Option Value)} {p1 p2 q1 q2 q3 q4 : Pos} (a : PySem.W.nsIn K mainGlobals x = some (some (.ref C))) (f1 : PySem.W.findIn K (.ref C) "__getattribute__" = some (some (.builtin "BaseException.__getattribute__"))) (f2 : PySem.W.findIn K (.ref C) "__getattr__" = some none)
    (f3 : PySem.W.subIn K (.ref C) (.type "BaseException") = some true) (f4 : PySem.W.hasDictIn K C = true) (f5 : PySem.W.findIn K (.ref C) "__class__" = some (some (.builtin "object.__class__"))) (f6 : PySem.W.specialIn K (.builtin "object.__class__") "__get__" = some (some (.builtin "getset_descriptor.__get__")))
    (f7 : PySem.W.takesIn K (.builtin "object.__class__") = some true) (f8 : PySem.W.mroIn K C (.type "object") = some true)
    (g1 : PySem.W.keepIn K (.ref C) = true) (g2 : PySem.W.excInitIn K C exTail "Exception.__new__" = true) (g3 : PySem.W.excOver K C exTail = true) (g4 : PySem.W.findIn K (.ref C) "__setattr__" = some (some (.builtin "object.__setattr__"))) (g5 : PySem.W.takerIn K C "thing" = some none)
    (g6 : PySem.W.findIn K (.ref C) "thing" = some none) (g7 : PySem.W.findIn K (.ref C) "__init__" = some (some (.ref fI))) (g8 : PySem.W.typeIn K (.ref fI) = some (.type "function")) (g9 : PySem.W.typeIn K (.ref C) = some (.type "type"))
    (lk : K.lookup fI = some ⟨oc, od, .func (PySem.W.fnOf "__init__" qn (thA p1 p2) (thB q1 q2 q3 q4) thS .none .none doc pm an cdv ct), osl⟩) (cd : PySem.W.codeIn K cdv qn = true) (fs : e.fs = [("thing" : Str)]) : ∃ C, ErK K x e C :=
  ⟨C, a, ⟨f1, f2, f3, f4⟩, ⟨f1, f2, f3, f4, f5, f6, f7, f8⟩, by rw [fs]; simp [g6], fun _ => ⟨qn, fI, fun mg gC => ⟨gC, g1, g2, g3, ⟨f1, f2, f3, f4⟩, g4, g5, g6, g7, g8, g9, ⟨oc, od, doc, pm, an, cdv, ct, osl, p1, p2, q1, q2, q3, q4, lk, cd⟩⟩⟩⟩
theorem top_by {h : Heap} (X : K.In h) (G : h.Ns mainGlobals mg) (hf : ∀ t ∈ ts, FnF K t.x t.st) (hc : ∀ q ∈ g.cons.zip p.cons, CnF K q.1 q.2) (hl : g.cons.length = p.cons.length) (hb : ∀ x ∈ g.blts, PySem.W.nsIn K mainGlobals x = some none)
    (hxs : ExAll K g p) : Top g p ts K mg := by
  obtain ⟨hl1, he, hs⟩ := hxs
  have cls : ∀ i, i < p.exs.length → ∃ x e C, g.exs[i]? = some x ∧ p.exs[i]? = some e ∧ adIn K (g.exs.getD i Str.empty) = C ∧ xcOf g mg i = .ref C ∧ ErF K mg x C e := fun i hi => by
    have h1 : g.exs[i]? = some (g.exs[i]'(by omega)) := List.getElem?_eq_getElem _
    have h2 : p.exs[i]? = some (p.exs[i]'hi) := List.getElem?_eq_getElem _
    have hz : (g.exs.zip p.exs)[i]? = some (g.exs[i]'(by omega), p.exs[i]'hi) := by
      rw [List.getElem?_zip_eq_some]
      exact ⟨h1, h2⟩
    obtain ⟨C, F⟩ := he _ (List.mem_of_getElem? hz)
    have gC : mg (g.exs[i]'(by omega)) = some (.ref C) := PySem.W.mg_of X G F.1
    refine ⟨_, _, C, h1, h2, ?_, ?_, gC, F.2.1, F.2.2.1, F.2.2.2.1, fun z => ?_⟩
    · rw [List.getD_eq_getElem?_getD, h1]
      show adIn K (g.exs[i]'(by omega)) = C
      unfold adIn
      rw [F.1]
    · unfold xcOf
      rw [h1]
      dsimp only
      rw [gC]
      rfl
    · obtain ⟨qn, fI, T⟩ := F.2.2.2.2 z
      exact ⟨qn, fI, T mg gC⟩
  refine ⟨fun t ht => ?_, fun i x hx => ?_, fun x hx => ?_, hl1, fun i x e h1 h2 => ?_, fun i j hi hj => ?_⟩
  · obtain ⟨f, oc, od, sl, kV, dc, pm, an, cd, ct, a, l, c, k⟩ := hf t ht
    exact ⟨f, _, PySem.W.mg_of X G a, fun_mk l c k⟩
  · have hi : i < p.cons.length := by
      rw [← hl]
      exact (List.getElem?_eq_some_iff.mp hx).1
    have hz : (g.cons.zip p.cons)[i]? = some (x, p.cons[i]) := by
      rw [List.getElem?_zip_eq_some]
      exact ⟨hx, List.getElem?_eq_getElem hi⟩
    obtain ⟨u, v, a, r, q⟩ := hc _ (List.mem_of_getElem? hz)
    exact ⟨u, v, _, PySem.W.mg_of X G a, r, List.getElem?_eq_getElem hi, q⟩
  · exact PySem.W.mg_none_of X G (hb x (by simpa using hx))
  · obtain ⟨x', e', C, e1, e2, e3, e4, F⟩ := cls i (List.getElem?_eq_some_iff.mp h2).1
    rw [h1] at e1
    rw [h2] at e2
    cases e1
    cases e2
    exact ⟨C, e4, F⟩
  · obtain ⟨_, _, C, _, _, e3, e4, _⟩ := cls i hi
    obtain ⟨_, _, C', _, _, e3', e4', _⟩ := cls j hj
    rw [e4, e4']
    unfold subB at hs
    have z := List.all_eq_true.mp (List.all_eq_true.mp hs i (List.mem_range.mpr hi)) j (List.mem_range.mpr hj)
    simp only [Bool.and_eq_true, decide_eq_true_eq, e3, e3'] at z
    exact z
end DI
/-! DI: the same runs, put together once from small pieces, so that the kernel need not read the code at every step. -/
namespace DI
open PySem L2
abbrev XE := En → Sto → R D
abbrev XT := En → Sto → R Bool
abbrev XEs := En → Sto → R (List D)
abbrev XS := En → Sto → R Fl
def xVar (i : Nat) : XE := fun q S => optR (lkD q i) S
def xC (d : D) : XE := fun _ S => .ok d S
def xNil : XEs := fun _ S => .ok [] S
def xCons (e : XE) (es : XEs) : XEs := fun q S => (e q S).bind fun d S => (es q S).bind fun ds S => .ok (d :: ds) S
def xTup (es : XEs) : XE := fun q S => (es q S).bind fun ds S => ifR (decide (ds.length ≤ LM)) (.ok (.tup ds) S)
def xLst (es : XEs) : XE := fun q S => (es q S).bind fun ds S => ifR (decide (ds.length ≤ LM)) (.ok (.ref S.length) (S ++ [.lst ds]))
def xDict (ks : List Key) (es : XEs) : XE := fun q S => (es q S).bind fun ds S => ifR (decide (ks.length = ds.length ∧ ks.Nodup)) (.ok (.ref S.length) (S ++ [.dk (ks.zip ds)]))
def xBin (op : Operator) (a b : XE) : XE := fun q S => (a q S).bind fun d S => (b q S).bind fun e S => opD op d e S
def xNeg (a : XE) : XE := fun q S => (a q S).bind fun d S => match d with
  | .int i => .ok (.int (-i)) S
  | _ => .stk
def xCmp (op : CmpOp) (a b : XE) : XE := fun q S => (a q S).bind fun d S => (b q S).bind fun e S => cmpD op d e S
def xChain (op op2 : CmpOp) (a b c : XE) : XE := fun q S => (a q S).bind fun d S => (b q S).bind fun e S => (cmpD op d e S).bind fun x S => match x with
  | .bl true => (c q S).bind fun f S => cmpD op2 e f S
  | .bl false => .ok (.bl false) S
  | _ => .stk
def xNoV : XE := fun _ _ => .stk
def xAndV (a b : XE) : XE := fun q S => (a q S).bind fun d S => match d with
  | .bl true => b q S
  | .bl false => .ok (.bl false) S
  | _ => .stk
def xOrV (a b : XE) : XE := fun q S => (a q S).bind fun d S => match d with
  | .bl false => b q S
  | .bl true => .ok (.bl true) S
  | _ => .stk
def xNot (a : XE) : XE := fun q S => (a q S).bind fun d S => match d with
  | .bl b => .ok (.bl (!b)) S
  | _ => .stk
def xIte (c : XT) (a b : XE) : XE := fun q S => (c q S).bind fun t S => match t with
  | true => a q S
  | false => b q S
def xIdx (a b : XE) : XE := fun q S => (a q S).bind fun d S => (b q S).bind fun e S => idxD d e S
def xSlice (a : XE) (lo hi : En → Sto → R (Option Int)) : XE := fun q S => (a q S).bind fun d S => (lo q S).bind fun l S => (hi q S).bind fun h S => sliceD d l h S
def xRev (a : XE) : XE := fun q S => (a q S).bind fun d S => revD d S
def xCall (c : List D → Sto → R D) (es : XEs) : XE := fun q S => (es q S).bind fun ds S => c ds S
def xCallk (c : List D → Sto → R D) (np nk : Nat) (perm : List Nat) (es ks : XEs) : XE := fun q S => (es q S).bind fun ds S => (ks q S).bind fun zs S => ifR (decide (ds.length = np ∧ zs.length = nk)) (c (perm.map fun j => (ds ++ zs).getD j .non) S)
def xBlt (b : Bl) (es : XEs) : XE := fun q S => (es q S).bind fun ds S => bltD b ds S
def xLrng (es : XEs) : XE := fun q S => (es q S).bind fun ds S => lrD ds S
def xIsi (ts : List Nat) (a : XE) : XE := fun q S => (a q S).bind fun d S => optB (typD S d) fun t => .ok (.bl (ts.any (isiD t))) S
def xMeth (m : Me) (a : XE) (es : XEs) : XE := fun q S => (a q S).bind fun d S => ifR (meK m d S) ((es q S).bind fun ds S => methD m d ds S)
def xTurn (t : D → En → Sto → R En) (c : XT) (e : XE) (vs : List Nat) (q : En) : D → Sto → R (Option D) := fun d S1 => (t d (wipeD q vs) S1).bind fun q1 S2 => (c q1 S2).bind fun b S3 => match b with
  | true => (e q1 S3).bind fun x S4 => .ok (some x) S4
  | false => .ok none S3
def xComp (t : D → En → Sto → R En) (it : En → Sto → R Sr) (c : XT) (e : XE) (vs : List Nat) : XE := fun q S => (it q S).bind fun s S => (noX (compL (xTurn t c e vs q) s FU 0 [] S)).bind fun ds S => .ok (.ref S.length) (S ++ [.lst ds])
def xInn (t1 : D → En → Sto → R En) (c1 : XT) (e : XE) (vs1 : List Nat) (q1 : En) : D → Sto → R (Option D) := fun d S5 => (t1 d (wipeD q1 vs1) S5).bind fun q2 S6 => (c1 q2 S6).bind fun b1 S7 => match b1 with
  | true => (e q2 S7).bind fun x S8 => .ok (some x) S8
  | false => .ok none S7
def xOut (t : D → En → Sto → R En) (c : XT) (it1 : En → Sto → R Sr) (t1 : D → En → Sto → R En) (c1 : XT) (e : XE) (vs vs1 : List Nat) (q : En) : D → List D → Sto → R (List D) := fun d acc S1 => (t d (wipeD q vs) S1).bind fun q1 S2 => (c q1 S2).bind fun b S3 => match b with
  | true => (it1 q1 S3).bind fun s1 S4 => compL (xInn t1 c1 e vs1 q1) s1 FU 0 acc S4
  | false => .ok acc S3
def xComp2 (t : D → En → Sto → R En) (it : En → Sto → R Sr) (c : XT) (t1 : D → En → Sto → R En) (it1 : En → Sto → R Sr) (c1 : XT) (e : XE) (vs vs1 : List Nat) : XE := fun q S => (it q S).bind fun s S => (noX (compO (xOut t c it1 t1 c1 e vs vs1 q) s FU 0 [] S)).bind fun ds S => .ok (.ref S.length) (S ++ [.lst ds])
/-! tests -/
def tAnd (a b : XT) : XT := fun q S => (a q S).bind fun b1 S => match b1 with
  | true => b q S
  | false => .ok false S
def tOr (a b : XT) : XT := fun q S => (a q S).bind fun b1 S => match b1 with
  | false => b q S
  | true => .ok true S
def tNo : XT := fun _ _ => .stk
def tNot (a : XT) : XT := fun q S => (a q S).bind fun b S => .ok (!b) S
def tVar (i : Nat) : XT := fun q S => (optR (lkD q i) S).bind fun d S => optR (truD S d) S
def tCmp (op : CmpOp) (a b : XE) : XT := fun q S => (a q S).bind fun d S => (b q S).bind fun e S => (cmpD op d e S).bind fun x S => match x with
  | .bl b => .ok b S
  | _ => .stk
def tChain (op op2 : CmpOp) (a b c : XE) : XT := fun q S => (a q S).bind fun d S => (b q S).bind fun e S => (cmpD op d e S).bind fun x S => match x with
  | .bl true => (c q S).bind fun f S => (cmpD op2 e f S).bind fun y S => match y with
    | .bl b => .ok b S
    | _ => .stk
  | .bl false => .ok false S
  | _ => .stk
def tCall (c : List D → Sto → R D) (es : XEs) : XT := fun q S => (es q S).bind fun ds S => (c ds S).bind fun d S => optR (truD S d) S
def tCallk (c : List D → Sto → R D) (np nk : Nat) (perm : List Nat) (es ks : XEs) : XT := fun q S => (es q S).bind fun ds S => (ks q S).bind fun zs S => ifR (decide (ds.length = np ∧ zs.length = nk)) ((c (perm.map fun j => (ds ++ zs).getD j .non) S).bind fun d S => optR (truD S d) S)
def tBlt (b : Bl) (es : XEs) : XT := fun q S => (es q S).bind fun ds S => (bltD b ds S).bind fun d S => optR (truD S d) S
def tBl (b : Bool) : XT := fun _ S => .ok b S
def tIsi (ts : List Nat) (a : XE) : XT := fun q S => (a q S).bind fun d S => optB (typD S d) fun t => .ok (ts.any (isiD t)) S
def tIdx (a b : XE) : XT := fun q S => (a q S).bind fun d S => (b q S).bind fun e S => (idxD d e S).bind fun d S => optR (truD S d) S
/-! bounds, sources, targets -/
def oNone : En → Sto → R (Option Int) := fun _ S => .ok none S
def oSome (a : XE) : En → Sto → R (Option Int) := fun q S => (a q S).bind fun d S => match d with
  | .int i => .ok (some i) S
  | _ => .stk
def iSeq (a : XE) : En → Sto → R Sr := fun q S => (a q S).bind fun d S => seqS d S
def iRng (es : XEs) : En → Sto → R Sr := fun q S => (es q S).bind fun ds S => rngS ds S
def iEnm (a : XE) : En → Sto → R Sr := fun q S => (a q S).bind fun d S => enumS d S
def gName (i : Nat) : D → En → Sto → R En := fun d q S => .ok (q.set i (some d)) S
def gTup (ts : List D → En → Sto → R En) : D → En → Sto → R En := fun d q S => match d with
  | .tup ds => ts ds q S
  | _ => .stk
def gSub (a b : XE) : D → En → Sto → R En := fun d q S => (noX (a q S)).bind fun o S => (noX (b q S)).bind fun e S => (setD o e d S).bind fun _ S => .ok q S
def gNil : List D → En → Sto → R En := fun ds q S => match ds with
  | [] => .ok q S
  | _ :: _ => .stk
def gCons (t : D → En → Sto → R En) (ts : List D → En → Sto → R En) : List D → En → Sto → R En := fun ds q S => match ds with
  | [] => .stk
  | d :: ds => (t d q S).bind fun q S => ts ds q S
/-! statements -/
def sExpr (e : XE) : XS := fun q S => bindE q (e q S) fun _ S => .ok (.next q) S
def sAsg (t : D → En → Sto → R En) (e : XE) : XS := fun q S => bindE q (e q S) fun d S => bindE q (t d q S) fun q S => .ok (.next q) S
def sPar2 (i j : Nat) (a b : XE) : XS := fun q S => bindE q (a q S) fun d S => bindE q (b q S) fun e S => .ok (.next ((q.set i (some d)).set j (some e))) S
def sPar3 (i j l : Nat) (a b c : XE) : XS := fun q S => bindE q (a q S) fun d S => bindE q (b q S) fun e S => bindE q (c q S) fun f S => .ok (.next (((q.set i (some d)).set j (some e)).set l (some f))) S
def sAug (i : Nat) (op : Operator) (e : XE) : XS := fun q S => match lkD q i with
  | none => .stk
  | some d => bindE q (e q S) fun x S => bindE q (ipD op d x S) fun y S => .ok (.next (q.set i (some y))) S
def sRet (e : XE) : XS := fun q S => bindE q (e q S) fun d S => .ok (.ret d) S
def sRetN : XS := fun _ S => .ok (.ret .non) S
def sIf (c : XT) (a b : XS) : XS := fun q S => bindE q (c q S) fun t S => match t with
  | true => a q S
  | false => b q S
def sFor (t : D → En → Sto → R En) (it : En → Sto → R Sr) (b : XS) : XS := fun q S => bindE q (it q S) fun s S => forL (fun d q S => bindE q (t d q S) fun q S => b q S) s FU 0 q S
def sWh (c : XT) (b : XS) : XS := fun q S => whL c b FU q S
def sPass : XS := fun q S => .ok (.next q) S
def sBrk : XS := fun q S => .ok (.brk q) S
def sCnt : XS := fun q S => .ok (.cnt q) S
def sRaise (ok : Bool) (c : Nat) (es : XEs) : XS := fun q S => ifR ok (bindE q (es q S) fun ds S => raiseD c ds q S)
def sTry (p : PG) (cl : Cl) (b : XS) (c i : Nat) (h : HS) : XS := fun q S => catchD p cl (b q S) c i h
def sNever : XS := fun _ _ => .stk
def sNil : XS := fun q S => .ok (.next q) S
def sCons (s ss : XS) : XS := fun q S => (s q S).bind fun f S => match f with
  | .next q => ss q S
  | f => .ok f S
/-- a def that was put together so -/
structure CF2 where
  np : Nat
  nl : Nat
  body : Cl → XS
def runC (c : CF2) (cl : Cl) (ds : List D) (S : Sto) : R D := ifR (decide (ds.length = c.np)) (match c.body cl (startD ds c.nl) S with
  | .ok (.ret d) S => .ok d S
  | .ok (.next _) S => .ok .non S
  | .ok (.exn x _) S => .exn x S
  | _ => .stk)
def runX (cs : List CF2) : Nat → Nat → List D → Sto → R D
  | 0, _, _, _ => .stk
  | k + 1, f, ds, S => match cs[f]? with
    | some c => pureC (runC c (runX cs k)) ds S
    | none => .stk
/-- the pieces are those of the codes -/
inductive Same (p : PG) : List FC → List CF2 → Prop
  | nil : Same p [] []
  | cons {f : FC} {fs : List FC} {c : CF2} {cs : List CF2} : f.np = c.np → f.nl = c.nl → (∀ cl, exSs p cl f.body = c.body cl) → Same p fs cs → Same p (f :: fs) (c :: cs)
theorem same_at {p : PG} : ∀ {fs : List FC} {cs : List CF2} (i : Nat), Same p fs cs → (fs[i]? = none ∧ cs[i]? = none) ∨ ∃ f c, fs[i]? = some f ∧ cs[i]? = some c ∧ f.np = c.np ∧ f.nl = c.nl ∧ ∀ cl, exSs p cl f.body = c.body cl
  | _, _, _, .nil => .inl ⟨by simp, by simp⟩
  | _, _, 0, .cons h1 h2 h3 _ => .inr ⟨_, _, rfl, rfl, h1, h2, h3⟩
  | _, _, i + 1, .cons _ _ _ t => by
    rw [List.getElem?_cons_succ, List.getElem?_cons_succ]
    exact same_at i t
theorem runX_eq {p : PG} {cs : List CF2} (h : Same p p.fns cs) : ∀ k : Nat, runF p k = runX cs k
  | 0 => by
    funext f ds S
    rfl
  | k + 1 => by
    funext f ds S
    show (match p.fns[f]? with | some c => pureC (runB p (runF p k) c) ds S | none => .stk) = (match cs[f]? with | some c => pureC (runC c (runX cs k)) ds S | none => .stk)
    rcases same_at f h with ⟨e1, e2⟩ | ⟨c, d, e1, e2, h1, h2, h3⟩
    · rw [e1, e2]
    · rw [e1, e2]
      dsimp only
      refine congrArg (fun z => pureC z ds S) ?_
      funext ds S
      unfold runB runC
      rw [h1, h2, h3, runX_eq h k]
      all_goals rfl
theorem good_x {p : PG} {cs : List CF2} {k i : Nat} (h : Same p p.fns cs) (hg : ∀ ns : List Int, ns.length ≤ 63 → (∃ S, runX cs k i [.ref 0] [.fz (ns.map .int)] = .ok (.bl true) S) ∧ ∃ S, runX cs k i [.cl (ns.map .int)] [] = .ok (.bl true) S) : Good p k i := fun ns hl => by
  rw [runX_eq h]
  exact hg ns hl
end DI
/-! DI: pieces that bring what they make to its plain form at once; each equal to the plain piece. -/
namespace DI
open PySem L2
variable {B : Type}
def frcN (n : Nat) (k : Nat → B) : B := match n with
  | 0 => k 0
  | m + 1 => k (Nat.succ m)
theorem frcN_eq (n : Nat) (k : Nat → B) : frcN n k = k n := by cases n <;> rfl
def frcI (i : Int) (k : Int → B) : B := match i with
  | .ofNat n => frcN n fun n => k (.ofNat n)
  | .negSucc n => frcN n fun n => k (.negSucc n)
theorem frcI_eq (i : Int) (k : Int → B) : frcI i k = k i := by
  cases i with
  | ofNat n => exact frcN_eq n fun n => k (.ofNat n)
  | negSucc n => exact frcN_eq n fun n => k (.negSucc n)
def frcNs : List Nat → (List Nat → B) → B
  | [], k => k []
  | n :: ns, k => frcN n fun n => frcNs ns fun ns => k (n :: ns)
theorem frcNs_eq : ∀ (l : List Nat) (k : List Nat → B), frcNs l k = k l
  | [], k => rfl
  | n :: ns, k => by
    show frcN n (fun n => frcNs ns fun ns => k (n :: ns)) = _
    rw [frcN_eq, frcNs_eq ns]
mutual
def frcD : D → (D → B) → B
  | .int i, k => frcI i fun i => k (.int i)
  | .bl b, k => match b with
    | true => k (.bl true)
    | false => k (.bl false)
  | .str x, k => frcNs x.cps.toList fun l => k (.str ⟨⟨l⟩⟩)
  | .tup ds, k => frcDs ds fun ds => k (.tup ds)
  | .ref i, k => frcN i fun i => k (.ref i)
  | .non, k => k .non
  | .cl ds, k => k (.cl ds)
def frcDs : List D → (List D → B) → B
  | [], k => k []
  | d :: ds, k => frcD d fun d => frcDs ds fun ds => k (d :: ds)
end
mutual
theorem frcD_eq : ∀ (d : D) (k : D → B), frcD d k = k d
  | .int i, k => frcI_eq i fun i => k (.int i)
  | .bl b, k => by cases b <;> rfl
  | .str x, k => frcNs_eq x.cps.toList fun l => k (.str ⟨⟨l⟩⟩)
  | .tup ds, k => frcDs_eq ds fun ds => k (.tup ds)
  | .ref i, k => frcN_eq i fun i => k (.ref i)
  | .non, k => rfl
  | .cl ds, k => rfl
theorem frcDs_eq : ∀ (ds : List D) (k : List D → B), frcDs ds k = k ds
  | [], k => rfl
  | d :: ds, k => by
    show frcD d (fun d => frcDs ds fun ds => k (d :: ds)) = _
    rw [frcD_eq d, frcDs_eq ds]
end
def frcSp {A : Type} : List A → (List A → B) → B
  | [], k => k []
  | a :: l, k => frcSp l fun l => k (a :: l)
theorem frcSp_eq {A : Type} : ∀ (l : List A) (k : List A → B), frcSp l k = k l
  | [], k => rfl
  | a :: l, k => frcSp_eq l fun l => k (a :: l)
def setF : En → Nat → Option D → (En → B) → B
  | [], _, _, k => k []
  | _ :: q, 0, v, k => frcSp q fun q => k (v :: q)
  | x :: q, i + 1, v, k => setF q i v fun q => k (x :: q)
theorem setF_eq : ∀ (q : En) (i : Nat) (v : Option D) (k : En → B), setF q i v k = k (q.set i v)
  | [], _, _, k => rfl
  | _ :: q, 0, v, k => frcSp_eq q fun q => k (v :: q)
  | x :: q, i + 1, v, k => setF_eq q i v fun q => k (x :: q)
def nthQ : En → Nat → Option D
  | [], _ => none
  | x :: _, 0 => x
  | _ :: q, i + 1 => nthQ q i
theorem nthQ_eq : ∀ (q : En) (i : Nat), nthQ q i = lkD q i
  | [], i => by simp [nthQ, lkD]
  | x :: _, 0 => by cases x <;> rfl
  | _ :: q, i + 1 => by
    show nthQ q i = _
    rw [nthQ_eq q i]
    unfold lkD
    rw [List.getElem?_cons_succ]
/-! ### the pieces -/
def yVar (i : Nat) : XE := fun q S => match nthQ q i with
  | some d => .ok d S
  | none => .stk
theorem yVar_eq (i : Nat) : yVar i = xVar i := by
  funext q S
  unfold yVar xVar optR
  rw [nthQ_eq]
  cases lkD q i <;> rfl
def nthO : Sto → Nat → Option O
  | [], _ => none
  | x :: _, 0 => some x
  | _ :: q, i + 1 => nthO q i
def eqY (S : Sto) (d e : D) : Option Bool := match d, e with
  | .int i, .int j => some (i == j)
  | d, e => eqD S d e
theorem eqY_eq (S : Sto) (d e : D) : eqY S d e = eqD S d e := by
  unfold eqY
  split
  · rfl
  · rfl
def cmpY (op : CmpOp) (d e : D) (S : Sto) : R D := match op with
  | .Eq => match eqY S d e with
    | some b => .ok (.bl b) S
    | none => .stk
  | .NotEq => match eqY S d e with
    | some b => .ok (.bl (!b)) S
    | none => .stk
  | op => cmpD op d e S
theorem cmpY_eq : cmpY = cmpD := by
  funext op d e S
  cases op <;> first | rfl | (unfold cmpY; dsimp only; rw [eqY_eq]; rfl)
def yCmp (op : CmpOp) (a b : XE) : XE := fun q S => (a q S).bind fun d S => (b q S).bind fun e S => cmpY op d e S
theorem yCmp_eq (op : CmpOp) (a b : XE) : yCmp op a b = xCmp op a b := by
  unfold yCmp xCmp
  rw [cmpY_eq]
def uCmp (op : CmpOp) (a b : XE) : XT := fun q S => (a q S).bind fun d S => (b q S).bind fun e S => (cmpY op d e S).bind fun x S => match x with
  | .bl b => .ok b S
  | _ => .stk
theorem uCmp_eq (op : CmpOp) (a b : XE) : uCmp op a b = tCmp op a b := by
  unfold uCmp tCmp
  rw [cmpY_eq]
  all_goals rfl
def yTup (es : XEs) : XE := fun q S => (es q S).bind fun ds S => frcDs ds fun ds => ifR (decide (ds.length ≤ LM)) (.ok (.tup ds) S)
theorem yTup_eq (es : XEs) : yTup es = xTup es := by
  unfold yTup xTup
  simp only [frcDs_eq]
/-- a new list at the store's end -/
def psh (S : Sto) (ds : List D) (k : Nat → Sto → R B) : R B := frcDs ds fun ds => frcSp (S ++ [.lst ds]) fun S' => frcN S.length fun n => k n S'
theorem psh_eq (S : Sto) (ds : List D) (k : Nat → Sto → R B) : psh S ds k = k S.length (S ++ [.lst ds]) := by
  unfold psh
  rw [frcDs_eq, frcSp_eq, frcN_eq]
def yLst (es : XEs) : XE := fun q S => (es q S).bind fun ds S => ifR (decide (ds.length ≤ LM)) (psh S ds fun n S => R.ok (.ref n) S)
theorem yLst_eq (es : XEs) : yLst es = xLst es := by
  unfold yLst xLst
  simp only [psh_eq]
def sliceY (d : D) (lo hi : Option Int) (S : Sto) : R D := match d with
  | .tup ds => frcDs (cut ds lo hi) fun ds => R.ok (.tup ds) S
  | .ref j => match S[j]? with
    | some (.lst ds) => psh S (cut ds lo hi) fun n S => R.ok (.ref n) S
    | some (.fz ds) => psh S (cut ds lo hi) fun n S => R.ok (.ref n) S
    | _ => .stk
  | d => sliceD d lo hi S
theorem sliceY_eq : sliceY = sliceD := by
  funext d lo hi S
  unfold sliceY
  split
  · rw [frcDs_eq]
    rfl
  · simp only [psh_eq]
    rfl
  · rfl
def ySlice (a : XE) (lo hi : En → Sto → R (Option Int)) : XE := fun q S => (a q S).bind fun d S => (lo q S).bind fun l S => (hi q S).bind fun h S => sliceY d l h S
theorem ySlice_eq (a : XE) (lo hi : En → Sto → R (Option Int)) : ySlice a lo hi = xSlice a lo hi := by
  unfold ySlice xSlice
  rw [sliceY_eq]
def bltY (b : Bl) (ds : List D) (S : Sto) : R D := (bltD b ds S).bind fun d S => frcD d fun d => frcSp S fun S => R.ok d S
theorem bltY_eq : bltY = bltD := by
  funext b ds S
  unfold bltY
  cases bltD b ds S with
  | ok d S =>
    show (frcD d fun d => frcSp S fun S => R.ok d S) = _
    rw [frcD_eq, frcSp_eq]
  | _ => rfl
def yBlt (b : Bl) (es : XEs) : XE := fun q S => (es q S).bind fun ds S => bltY b ds S
theorem yBlt_eq (b : Bl) (es : XEs) : yBlt b es = xBlt b es := by
  unfold yBlt xBlt
  rw [bltY_eq]
def methY (m : Me) (d : D) (ds : List D) (S : Sto) : R D := (methD m d ds S).bind fun d S => frcD d fun d => frcSp S fun S => R.ok d S
theorem methY_eq : methY = methD := by
  funext b d ds S
  unfold methY
  cases methD b d ds S with
  | ok d S =>
    show (frcD d fun d => frcSp S fun S => R.ok d S) = _
    rw [frcD_eq, frcSp_eq]
  | _ => rfl
def yMeth (m : Me) (a : XE) (es : XEs) : XE := fun q S => (a q S).bind fun d S => ifR (meK m d S) ((es q S).bind fun ds S => methY m d ds S)
theorem yMeth_eq (m : Me) (a : XE) (es : XEs) : yMeth m a es = xMeth m a es := by
  unfold yMeth xMeth
  rw [methY_eq]
/-- the turns of a comprehension, the last item first -/
def compY (turn : D → Sto → R (Option D)) (s : Sr) : Nat → Nat → List D → Nat → Sto → R (List D)
  | 0, _, _, _, _ => .stk
  | n + 1, i, acc, c, S => match srcAt s i S with
    | none => .stk
    | some none => .ok acc.reverse S
    | some (some d) => (turn d S).bind fun o S1 => frcN (i + 1) fun i => match o with
      | none => compY turn s n i acc c S1
      | some e => ifR (decide (c < LM)) (frcD e fun e => frcN (c + 1) fun c => compY turn s n i (e :: acc) c S1)
theorem compY_eq (turn : D → Sto → R (Option D)) (s : Sr) : ∀ (n i : Nat) (acc : List D) (S : Sto), compY turn s n i acc acc.length S = compL turn s n i acc.reverse S
  | 0, _, _, _ => rfl
  | n + 1, i, acc, S => by
    unfold compY compL
    rcases srcAt s i S with _ | _ | d
    · rfl
    · rfl
    · refine bind_congr fun o S1 => ?_
      rw [frcN_eq]
      cases o with
      | none => exact compY_eq turn s n (i + 1) acc S1
      | some e =>
        dsimp only
        rw [frcD_eq, frcN_eq, List.length_reverse]
        have z := compY_eq turn s n (i + 1) (e :: acc) S1
        rw [List.reverse_cons] at z
        rw [← z]
        rfl
def yComp (t : D → En → Sto → R En) (it : En → Sto → R Sr) (c : XT) (e : XE) (vs : List Nat) : XE := fun q S => (it q S).bind fun s S => (noX (compY (xTurn t c e vs q) s FU 0 [] 0 S)).bind fun ds S => psh S ds fun n S => R.ok (.ref n) S
theorem yComp_eq (t : D → En → Sto → R En) (it : En → Sto → R Sr) (c : XT) (e : XE) (vs : List Nat) : yComp t it c e vs = xComp t it c e vs := by
  unfold yComp xComp
  funext q S
  refine bind_congr fun s S => ?_
  rw [show compY (xTurn t c e vs q) s FU 0 [] 0 S = compL (xTurn t c e vs q) s FU 0 [] S from compY_eq _ s FU 0 [] S]
  refine bind_congr fun ds S => ?_
  rw [psh_eq]
def hName (i : Nat) : D → En → Sto → R En := fun d q S => frcD d fun d => setF q i (some d) fun q => R.ok q S
theorem hName_eq (i : Nat) : hName i = gName i := by
  funext d q S
  unfold hName gName
  rw [frcD_eq, setF_eq]
def forY (turn : D → En → Sto → R Fl) (s : Sr) : Nat → Nat → En → Sto → R Fl
  | 0, _, _, _ => .stk
  | n + 1, i, q, S => match srcAt s i S with
    | none => .stk
    | some none => .ok (.next q) S
    | some (some d) => (turn d q S).bind fun f S1 => frcN (i + 1) fun i => match f with
      | .next q1 => forY turn s n i q1 S1
      | .cnt q1 => forY turn s n i q1 S1
      | .brk q1 => .ok (.next q1) S1
      | .ret d => .ok (.ret d) S1
      | .exn x q1 => .ok (.exn x q1) S1
theorem forY_eq (turn : D → En → Sto → R Fl) (s : Sr) : ∀ (n i : Nat) (q : En) (S : Sto), forY turn s n i q S = forL turn s n i q S
  | 0, _, _, _ => rfl
  | n + 1, i, q, S => by
    unfold forY forL
    rcases srcAt s i S with _ | _ | d
    · rfl
    · rfl
    · refine bind_congr fun f S1 => ?_
      rw [frcN_eq]
      cases f with
      | next q1 => exact forY_eq turn s n (i + 1) q1 S1
      | cnt q1 => exact forY_eq turn s n (i + 1) q1 S1
      | _ => rfl
def zFor (t : D → En → Sto → R En) (it : En → Sto → R Sr) (b : XS) : XS := fun q S => bindE q (it q S) fun s S => forY (fun d q S => bindE q (t d q S) fun q S => b q S) s FU 0 q S
theorem zFor_eq (t : D → En → Sto → R En) (it : En → Sto → R Sr) (b : XS) : zFor t it b = sFor t it b := by
  funext q S
  unfold zFor sFor
  refine congrArg (bindE q (it q S)) ?_
  funext s S
  exact forY_eq _ s FU 0 q S
def zPar2 (i j : Nat) (a b : XE) : XS := fun q S => bindE q (a q S) fun d S => bindE q (b q S) fun e S => frcD d fun d => frcD e fun e => setF q i (some d) fun q => setF q j (some e) fun q => R.ok (.next q) S
theorem zPar2_eq (i j : Nat) (a b : XE) : zPar2 i j a b = sPar2 i j a b := by
  unfold zPar2 sPar2
  simp only [frcD_eq, setF_eq]
def zRet (e : XE) : XS := fun q S => bindE q (e q S) fun d S => frcD d fun d => R.ok (.ret d) S
theorem zRet_eq (e : XE) : zRet e = sRet e := by
  unfold zRet sRet
  simp only [frcD_eq]
def gSubF (a b : XE) : D → En → Sto → R En := fun d q S => (noX (a q S)).bind fun o S => (noX (b q S)).bind fun e S => frcD d fun d => (setD o e d S).bind fun _ S => frcSp S fun S => R.ok q S
theorem gSubF_eq (a b : XE) : gSubF a b = gSub a b := by
  unfold gSubF gSub
  simp only [frcD_eq, frcSp_eq]
/-! ### a call with its arguments in plain form -/
def runY (c : CF2) (cl : Cl) (ds : List D) (S : Sto) : R D := frcDs ds fun ds => frcSp (startD ds c.nl) fun q => ifR (decide (ds.length = c.np)) (match c.body cl q S with
  | .ok (.ret d) S => .ok d S
  | .ok (.next _) S => .ok .non S
  | .ok (.exn x _) S => .exn x S
  | _ => .stk)
theorem runY_eq : runY = runC := by
  funext c cl ds S
  unfold runY runC
  rw [frcDs_eq, frcSp_eq]
  all_goals rfl
def runZ (cs : List CF2) : Nat → Nat → List D → Sto → R D
  | 0, _, _, _ => .stk
  | k + 1, f, ds, S => match cs[f]? with
    | some c => pureC (runY c (runZ cs k)) ds S
    | none => .stk
theorem runZ_eq {cs : List CF2} : ∀ k : Nat, runZ cs k = runX cs k
  | 0 => by
    funext f ds S
    rfl
  | k + 1 => by
    funext f ds S
    unfold runZ runX
    rw [runY_eq, runZ_eq k]
    all_goals rfl
theorem good_z {p : PG} {cs : List CF2} {k i : Nat} (h : Same p p.fns cs) (hg : ∀ ns : List Int, ns.length ≤ 63 → (∃ S, runZ cs k i [.ref 0] [.fz (ns.map .int)] = .ok (.bl true) S) ∧ ∃ S, runZ cs k i [.cl (ns.map .int)] [] = .ok (.bl true) S) : Good p k i := good_x h fun ns hl => by
  rw [← runZ_eq]
  exact hg ns hl
end DI
/-! DI: the same by bare recursors. -/
namespace DI
open PySem L2
variable {B : Type}
noncomputable def nthR {A : Type} (q : List A) : Nat → Option A := List.rec (motive := fun _ => Nat → Option A) (fun _ => none) (fun x _ ih i => Nat.rec (motive := fun _ => Option A) (some x) (fun j _ => ih j) i) q
theorem nthR_eq {A : Type} : ∀ (q : List A) (i : Nat), nthR q i = q[i]?
  | [], i => by simp [nthR]
  | x :: _, 0 => rfl
  | _ :: q, i + 1 => by
    show nthR q i = _
    rw [nthR_eq q i, List.getElem?_cons_succ]
noncomputable def setR (q : En) : Nat → Option D → (En → B) → B := List.rec (motive := fun _ => Nat → Option D → (En → B) → B) (fun _ _ k => k []) (fun x q ih i v k => Nat.rec (motive := fun _ => B) (k (v :: q)) (fun j _ => ih j v fun q => k (x :: q)) i) q
theorem setR_eq : ∀ (q : En) (i : Nat) (v : Option D) (k : En → B), setR q i v k = k (q.set i v)
  | [], _, _, k => rfl
  | _ :: q, 0, v, k => rfl
  | x :: q, i + 1, v, k => setR_eq q i v fun q => k (x :: q)
noncomputable def wipeR (vs : List Nat) (q : En) (k : En → B) : B := List.rec (motive := fun _ => (En → B) → B) (fun k => k q) (fun v _ ih k => ih fun q => setR q v none k) vs k
theorem wipeR_eq (q : En) : ∀ (vs : List Nat) (k : En → B), wipeR vs q k = k (wipeD q vs)
  | [], k => rfl
  | v :: vs, k => by
    show wipeR vs q (fun q => setR q v none k) = _
    rw [wipeR_eq q vs, setR_eq]
    rfl
noncomputable def rVar (i : Nat) : XE := fun q S => Option.rec (motive := fun _ => R D) .stk (fun o => Option.rec (motive := fun _ => R D) .stk (fun d => .ok d S) o) (nthR q i)
theorem rVar_eq (i : Nat) : rVar i = xVar i := by
  funext q S
  unfold rVar xVar optR lkD
  rw [nthR_eq]
  rcases q[i]? with _ | _ | d <;> rfl
noncomputable def rName (i : Nat) : D → En → Sto → R En := fun d q S => setR q i (some d) fun q => R.ok q S
theorem rName_eq (i : Nat) : rName i = gName i := by
  funext d q S
  unfold rName gName
  rw [setR_eq]
noncomputable def rTurn (t : D → En → Sto → R En) (c : XT) (e : XE) (vs : List Nat) (q : En) : D → Sto → R (Option D) := fun d S1 => (wipeR vs q fun q => t d q S1).bind fun q1 S2 => (c q1 S2).bind fun b S3 => match b with
  | true => (e q1 S3).bind fun x S4 => .ok (some x) S4
  | false => .ok none S3
theorem rTurn_eq (t : D → En → Sto → R En) (c : XT) (e : XE) (vs : List Nat) (q : En) : rTurn t c e vs q = xTurn t c e vs q := by
  funext d S1
  unfold rTurn xTurn
  rw [wipeR_eq]
  all_goals rfl
noncomputable def appR (S : Sto) (o : O) (k : Sto → B) : B := List.rec (motive := fun _ => (Sto → B) → B) (fun k => k [o]) (fun x _ ih k => ih fun l => k (x :: l)) S k
theorem appR_eq (o : O) : ∀ (S : Sto) (k : Sto → B), appR S o k = k (S ++ [o])
  | [], k => rfl
  | x :: S, k => appR_eq o S fun l => k (x :: l)
noncomputable def pshR (S : Sto) (ds : List D) (k : Nat → Sto → R B) : R B := appR S (.lst ds) fun S' => frcN S.length fun n => k n S'
theorem pshR_eq (S : Sto) (ds : List D) (k : Nat → Sto → R B) : pshR S ds k = k S.length (S ++ [.lst ds]) := by
  unfold pshR
  rw [appR_eq, frcN_eq]
noncomputable def rLst (es : XEs) : XE := fun q S => (es q S).bind fun ds S => ifR (decide (ds.length ≤ LM)) (pshR S ds fun n S => R.ok (.ref n) S)
theorem rLst_eq (es : XEs) : rLst es = xLst es := by
  unfold rLst xLst
  simp only [pshR_eq]
noncomputable def srcR (s : Sr) (i : Nat) (S : Sto) : Option (Option D) := match s with
  | .lst j => match nthR S j with
    | some (.lst ds) => some (nthR ds i)
    | some (.fz ds) => some (nthR ds i)
    | _ => none
  | .tup ds => some (nthR ds i)
  | .rng lo n => some (if i < n then some (frcI (lo + i) fun z => .int z) else none)
  | .rngc lo c n => some (if i < n then some (frcI (lo + i * c) fun z => .int z) else none)
  | .str x => some ((nthR x.cps.toList i).map fun c => .str ⟨#[c]⟩)
  | .enumT ds => some ((nthR ds i).map fun d => .tup [.int i, d])
  | .enumS x => some ((nthR x.cps.toList i).map fun c => .tup [.int i, .str ⟨#[c]⟩])
  | .enumL j => match nthR S j with
    | some (.lst ds) => some ((nthR ds i).map fun d => .tup [.int i, d])
    | some (.fz ds) => some ((nthR ds i).map fun d => .tup [.int i, d])
    | _ => none
theorem srcR_eq : srcR = srcAt := by
  funext s i S
  unfold srcR srcAt
  cases s <;> simp only [nthR_eq, frcI_eq, Array.getElem?_toList] <;> rfl
noncomputable def compR' (turn : D → Sto → R (Option D)) (s : Sr) (n : Nat) : Nat → List D → Nat → Sto → R (List D) := Nat.rec (motive := fun _ => Nat → List D → Nat → Sto → R (List D)) (fun _ _ _ _ => .stk)
  (fun _ ih i acc c S => match srcR s i S with
    | none => .stk
    | some none => .ok acc.reverse S
    | some (some d) => (turn d S).bind fun o S1 => frcN (i + 1) fun i => match o with
      | none => ih i acc c S1
      | some e => ifR (decide (c < LM)) (frcN (c + 1) fun c => ih i (e :: acc) c S1)) n
theorem compR'_eq (turn : D → Sto → R (Option D)) (s : Sr) : ∀ (n i : Nat) (acc : List D) (S : Sto), compR' turn s n i acc acc.length S = compL turn s n i acc.reverse S
  | 0, _, _, _ => rfl
  | n + 1, i, acc, S => by
    unfold compL
    show (match srcR s i S with
      | none => R.stk
      | some none => R.ok acc.reverse S
      | some (some d) => (turn d S).bind fun o S1 => frcN (i + 1) fun i => match o with
        | none => compR' turn s n i acc acc.length S1
        | some e => ifR (decide (acc.length < LM)) (frcN (acc.length + 1) fun c => compR' turn s n i (e :: acc) c S1)) = _
    rw [srcR_eq]
    rcases srcAt s i S with _ | _ | d
    · rfl
    · rfl
    · refine bind_congr fun o S1 => ?_
      rw [frcN_eq]
      cases o with
      | none => exact compR'_eq turn s n (i + 1) acc S1
      | some e =>
        dsimp only
        rw [frcN_eq, List.length_reverse]
        have z := compR'_eq turn s n (i + 1) (e :: acc) S1
        rw [List.reverse_cons] at z
        rw [← z]
        rfl
noncomputable def revR (l acc : List D) : List D := List.rec (motive := fun _ => List D → List D) (fun a => a) (fun x _ ih a => ih (x :: a)) l acc
theorem revR_eq : ∀ (l acc : List D), revR l acc = l.reverse ++ acc
  | [], acc => rfl
  | x :: l, acc => by
    show revR l (x :: acc) = _
    rw [revR_eq l, List.reverse_cons, List.append_assoc]
    rfl
noncomputable def rComp (t : D → En → Sto → R En) (it : En → Sto → R Sr) (c : XT) (e : XE) (vs : List Nat) : XE := fun q S => (it q S).bind fun s S => (noX (compR' (rTurn t c e vs q) s FU 0 [] 0 S)).bind fun ds S => frcSp ds fun ds => pshR S ds fun n S => R.ok (.ref n) S
theorem rComp_eq (t : D → En → Sto → R En) (it : En → Sto → R Sr) (c : XT) (e : XE) (vs : List Nat) : rComp t it c e vs = xComp t it c e vs := by
  unfold rComp xComp
  funext q S
  refine bind_congr fun s S => ?_
  rw [rTurn_eq, show compR' (xTurn t c e vs q) s FU 0 [] 0 S = compL (xTurn t c e vs q) s FU 0 [] S from compR'_eq _ s FU 0 [] S]
  refine bind_congr fun ds S => ?_
  rw [frcSp_eq, pshR_eq]
noncomputable def forR (turn : D → En → Sto → R Fl) (s : Sr) (n : Nat) : Nat → En → Sto → R Fl := Nat.rec (motive := fun _ => Nat → En → Sto → R Fl) (fun _ _ _ => .stk)
  (fun _ ih i q S => match srcR s i S with
    | none => .stk
    | some none => .ok (.next q) S
    | some (some d) => (turn d q S).bind fun f S1 => frcN (i + 1) fun i => match f with
      | .next q1 => ih i q1 S1
      | .cnt q1 => ih i q1 S1
      | .brk q1 => .ok (.next q1) S1
      | .ret d => .ok (.ret d) S1
      | .exn x q1 => .ok (.exn x q1) S1) n
theorem forR_eq (turn : D → En → Sto → R Fl) (s : Sr) : ∀ (n i : Nat) (q : En) (S : Sto), forR turn s n i q S = forL turn s n i q S
  | 0, _, _, _ => rfl
  | n + 1, i, q, S => by
    unfold forL
    show (match srcR s i S with
      | none => R.stk
      | some none => R.ok (Fl.next q) S
      | some (some d) => (turn d q S).bind fun f S1 => frcN (i + 1) fun i => match f with
        | .next q1 => forR turn s n i q1 S1
        | .cnt q1 => forR turn s n i q1 S1
        | .brk q1 => .ok (.next q1) S1
        | .ret d => .ok (.ret d) S1
        | .exn x q1 => .ok (.exn x q1) S1) = _
    rw [srcR_eq]
    rcases srcAt s i S with _ | _ | d
    · rfl
    · rfl
    · refine bind_congr fun f S1 => ?_
      rw [frcN_eq]
      cases f with
      | next q1 => exact forR_eq turn s n (i + 1) q1 S1
      | cnt q1 => exact forR_eq turn s n (i + 1) q1 S1
      | _ => rfl
noncomputable def rFor (t : D → En → Sto → R En) (it : En → Sto → R Sr) (b : XS) : XS := fun q S => bindE q (it q S) fun s S => forR (fun d q S => bindE q (t d q S) fun q S => b q S) s FU 0 q S
theorem rFor_eq (t : D → En → Sto → R En) (it : En → Sto → R Sr) (b : XS) : rFor t it b = sFor t it b := by
  funext q S
  unfold rFor sFor
  refine congrArg (bindE q (it q S)) ?_
  funext s S
  exact forR_eq _ s FU 0 q S
/-- sums and differences in plain form -/
def opR (op : Operator) (d e : D) (S : Sto) : R D := match op, d, e with
  | .Add, .int i, .int j => frcI (i + j) fun z => R.ok (.int z) S
  | .Sub, .int i, .int j => frcI (i - j) fun z => R.ok (.int z) S
  | op, d, e => (opD op d e S).bind fun d S => frcD d fun d => frcSp S fun S => R.ok d S
theorem opR_eq : opR = opD := by
  funext op d e S
  unfold opR
  split
  · rw [frcI_eq]
    rfl
  · rw [frcI_eq]
    rfl
  · cases opD op d e S with
    | ok d S =>
      show (frcD d fun d => frcSp S fun S => R.ok d S) = _
      rw [frcD_eq, frcSp_eq]
    | _ => rfl
def rBin (op : Operator) (a b : XE) : XE := fun q S => (a q S).bind fun d S => (b q S).bind fun e S => opR op d e S
theorem rBin_eq (op : Operator) (a b : XE) : rBin op a b = xBin op a b := by
  unfold rBin xBin
  rw [opR_eq]
noncomputable def rPar2 (i j : Nat) (a b : XE) : XS := fun q S => bindE q (a q S) fun d S => bindE q (b q S) fun e S => setR q i (some d) fun q => setR q j (some e) fun q => R.ok (.next q) S
theorem rPar2_eq (i j : Nat) (a b : XE) : rPar2 i j a b = sPar2 i j a b := by
  unfold rPar2 sPar2
  simp only [setR_eq]
noncomputable def rvVar (i : Nat) : XT := fun q S => (rVar i q S).bind fun d S => optR (truD S d) S
theorem rvVar_eq (i : Nat) : rvVar i = tVar i := by
  unfold rvVar tVar
  rw [rVar_eq]
  all_goals rfl
end DI
namespace DI
open PySem L2
mutual
def eqb : D → D → Bool
  | .non, .non => true
  | .bl a, .bl b => a == b
  | .int a, .int b => a == b
  | .tup xs, .tup ys => eqbs xs ys
  | _, _ => false
def eqbs : List D → List D → Bool
  | [], [] => true
  | x :: xs, y :: ys => eqb x y && eqbs xs ys
  | _, _ => false
end
mutual
theorem eqb_eq (x y : D) (h : eqb x y = true) : x = y := by
  match x, y, h with
  | .non, .non, _ => rfl
  | .bl a, .bl b, h =>
    have h : (a == b) = true := h
    rw [eq_of_beq h]
  | .int a, .int b, h =>
    have h : (a == b) = true := h
    rw [eq_of_beq h]
  | .tup xs, .tup ys, h =>
    have h : eqbs xs ys = true := h
    rw [eqbs_eq xs ys h]
theorem eqbs_eq : ∀ (xs ys : List D), eqbs xs ys = true → xs = ys
  | [], [], _ => rfl
  | x :: xs, y :: ys, h => by
    simp only [eqbs, Bool.and_eq_true] at h
    rw [eqb_eq x y h.1, eqbs_eq xs ys h.2]
  | [], _ :: _, h => by simp [eqbs] at h
  | _ :: _, [], h => by simp [eqbs] at h
end
def retIs (r : R D) (d : D) : Bool := match r with
  | .ok d' _ => eqb d' d
  | _ => false
theorem retIs_ok {r : R D} {d : D} (h : retIs r d = true) : ∃ S, r = .ok d S := by
  cases r with
  | ok d' S => exact ⟨S, by rw [eqb_eq d' d h]⟩
  | _ => cases h
def lstIs (r : R D) (l : List D) : Bool := match r with
  | .ok d S => match lstRf d S with
    | some ds => eqbs ds l
    | none => false
  | _ => false
theorem lstIs_ok {r : R D} {l : List D} (h : lstIs r l = true) : ∃ d S, r = .ok d S ∧ lstRf d S = some l := by
  cases r with
  | ok d S =>
    unfold lstIs at h
    dsimp only at h
    cases e : lstRf d S with
    | none => rw [e] at h; cases h
    | some ds =>
      rw [e] at h
      exact ⟨d, S, rfl, by rw [e, eqbs_eq _ _ h]⟩
  | _ => cases h
/-- a call with plain data, whatever the store -/
theorem pure_ret {c : List D → Sto → R D} {ds : List D} {d : D} {S1 : Sto} (hr : rfs ds = true) (h : c ds [] = .ok d S1) (hd : rf d = true) (S : Sto) : pureC c ds S = .ok d S := by
  unfold pureC
  rw [hr, h]
  show adoptR d S1 S = _
  unfold adoptR
  rw [hd]
theorem rf_lst {d : D} {S : Sto} {l : List D} (h : lstRf d S = some l) : rf d = false ∧ rfs l = true := by
  unfold lstRf at h
  split at h
  · split at h
    · split at h
      · cases h
        exact ⟨rfl, by assumption⟩
      · cases h
    · cases h
  · cases h
theorem pure_lst {c : List D → Sto → R D} {ds : List D} {d : D} {S1 : Sto} {l : List D} (hr : rfs ds = true) (h : c ds [] = .ok d S1) (hd : lstRf d S1 = some l) (S : Sto) : pureC c ds S = .ok (.ref S.length) (S ++ [.lst l]) := by
  unfold pureC
  rw [hr, h]
  show adoptR d S1 S = _
  unfold adoptR
  rw [(rf_lst hd).1, hd]
theorem run_at {cs : List CF2} {k f : Nat} {c : CF2} (h : cs[f]? = some c) (ds : List D) (S : Sto) : runZ cs (k + 1) f ds S = pureC (runY c (runZ cs k)) ds S := by
  show (match cs[f]? with | some c => pureC (runY c (runZ cs k)) ds S | none => .stk) = _
  rw [h]
theorem run_ret {cs : List CF2} {k f : Nat} {c : CF2} (hc : cs[f]? = some c) {ds : List D} {d : D} (hr : rfs ds = true) (h : retIs (runY c (runZ cs k) ds []) d = true) (hd : rf d = true) (S : Sto) : runZ cs (k + 1) f ds S = .ok d S := by
  obtain ⟨S1, e⟩ := retIs_ok h
  rw [run_at hc]
  exact pure_ret hr e hd S
theorem run_lst {cs : List CF2} {k f : Nat} {c : CF2} (hc : cs[f]? = some c) {ds : List D} {l : List D} (hr : rfs ds = true) (h : lstIs (runY c (runZ cs k) ds []) l = true) (S : Sto) : runZ cs (k + 1) f ds S = .ok (.ref S.length) (S ++ [.lst l]) := by
  obtain ⟨d, S1, e, e2⟩ := lstIs_ok h
  rw [run_at hc]
  exact pure_lst hr e e2 S
end DI
namespace DI
open PySem L2
def Ok {A : Type} (r : R A) (Q : A → Sto → Prop) : Prop := match r with
  | .ok a S => Q a S
  | _ => False
variable {A B : Type}
theorem ok_bind {r : R A} {f : A → Sto → R B} {Q : B → Sto → Prop} : Ok (r.bind f) Q ↔ Ok r (fun a S => Ok (f a S) Q) := by
  cases r <;> exact Iff.rfl
theorem ok_ok {a : A} {S : Sto} {Q : A → Sto → Prop} : Ok (.ok a S) Q ↔ Q a S := Iff.rfl
theorem ok_bindE {q : En} {r : R A} {f : A → Sto → R Fl} {Q : Fl → Sto → Prop} (h : Ok r (fun a S => Ok (f a S) Q)) : Ok (bindE q r f) Q := by
  cases r with
  | ok a S => exact h
  | _ => exact h.elim
theorem Ok.mp {r : R A} {P Q : A → Sto → Prop} (h : Ok r P) (f : ∀ a S, P a S → Q a S) : Ok r Q := by
  cases r with
  | ok a S => exact f a S h
  | _ => exact h
theorem Ok.ex {r : R A} {Q : A → Sto → Prop} (h : Ok r Q) : ∃ a S, r = .ok a S ∧ Q a S := by
  cases r with
  | ok a S => exact ⟨a, S, rfl, h⟩
  | _ => exact h.elim
theorem Ok.eq {r : R A} {a : A} {S : Sto} {Q : A → Sto → Prop} (h : r = .ok a S) (q : Q a S) : Ok r Q := by
  rw [h]
  exact q
theorem ok_ifR {b : Bool} {r : R A} {Q : A → Sto → Prop} (hb : b = true) (h : Ok r Q) : Ok (ifR b r) Q := by
  rw [hb]
  exact h
theorem bind_ok {a : A} {S : Sto} {f : A → Sto → R B} : (R.ok a S).bind f = f a S := rfl
theorem bindE_ok {q : En} {a : A} {S : Sto} {f : A → Sto → R Fl} : bindE q (R.ok a S) f = f a S := rfl
/-! loops -/
theorem ok_compL {turn : D → Sto → R (Option D)} {s : Sr} {Q : List D → Sto → Prop} (I : Nat → List D → Sto → Prop) (items : List D) (hl : items.length ≤ LM)
    (hs : ∀ i acc S, I i acc S → srcAt s i S = some items[i]?)
    (ht : ∀ i d acc S, items[i]? = some d → I i acc S → Ok (turn d S) (fun o S' => I (i + 1) (acc ++ o.toList) S'))
    (hQ : ∀ acc S, acc.length ≤ LM → I items.length acc S → Q acc S) : ∀ (n i : Nat) (acc : List D) (S : Sto), acc.length ≤ i → i ≤ items.length → items.length < n + i → I i acc S → Ok (compL turn s n i acc S) Q
  | 0, i, acc, S, _, h1, h2, _ => by omega
  | n + 1, i, acc, S, h0, h1, h2, hI => by
    unfold compL
    rw [hs i acc S hI]
    by_cases h : i < items.length
    · rw [List.getElem?_eq_getElem h]
      dsimp only
      rw [ok_bind]
      refine (ht i _ acc S (List.getElem?_eq_getElem h) hI).mp fun o S' h' => ?_
      cases o with
      | none => exact ok_compL I items hl hs ht hQ n (i + 1) acc S' (by omega) (by omega) (by omega) (by simpa using h')
      | some e =>
        refine ok_ifR (decide_eq_true (by omega)) ?_
        exact ok_compL I items hl hs ht hQ n (i + 1) _ S' (by simp; omega) (by omega) (by omega) h'
    · have e : i = items.length := by omega
      rw [List.getElem?_eq_none (by omega)]
      subst e
      exact hQ acc S (by omega) hI
theorem ok_comp {turn : D → Sto → R (Option D)} {s : Sr} {Q : List D → Sto → Prop} {S : Sto} (I : Nat → List D → Sto → Prop) (items : List D) (hl : items.length ≤ LM) (h0 : I 0 [] S)
    (hs : ∀ i acc S, I i acc S → srcAt s i S = some items[i]?)
    (ht : ∀ i d acc S, items[i]? = some d → I i acc S → Ok (turn d S) (fun o S' => I (i + 1) (acc ++ o.toList) S'))
    (hQ : ∀ acc S, acc.length ≤ LM → I items.length acc S → Q acc S) : Ok (compL turn s FU 0 [] S) Q :=
  ok_compL I items hl hs ht hQ FU 0 [] S (Nat.le_refl _) (Nat.zero_le _) (by have := hl; unfold LM FU at *; omega) h0
def FlQ (I : En → Sto → Prop) (Q : Fl → Sto → Prop) : Fl → Sto → Prop
  | .next q, S => I q S
  | .cnt q, S => I q S
  | .brk q, S => Q (.next q) S
  | .ret d, S => Q (.ret d) S
  | .exn _ _, _ => False
theorem ok_forL {turn : D → En → Sto → R Fl} {s : Sr} {Q : Fl → Sto → Prop} (I : Nat → En → Sto → Prop) (items : List D)
    (hs : ∀ i q S, I i q S → srcAt s i S = some items[i]?)
    (ht : ∀ i d q S, items[i]? = some d → I i q S → Ok (turn d q S) (FlQ (I (i + 1)) Q))
    (hQ : ∀ q S, I items.length q S → Q (.next q) S) : ∀ (n i : Nat) (q : En) (S : Sto), i ≤ items.length → items.length < n + i → I i q S → Ok (forL turn s n i q S) Q
  | 0, i, q, S, h1, h2, _ => by omega
  | n + 1, i, q, S, h1, h2, hI => by
    unfold forL
    rw [hs i q S hI]
    by_cases h : i < items.length
    · rw [List.getElem?_eq_getElem h]
      dsimp only
      rw [ok_bind]
      refine (ht i _ q S (List.getElem?_eq_getElem h) hI).mp fun f S' h' => ?_
      cases f with
      | next q1 => exact ok_forL I items hs ht hQ n (i + 1) q1 S' (by omega) (by omega) h'
      | cnt q1 => exact ok_forL I items hs ht hQ n (i + 1) q1 S' (by omega) (by omega) h'
      | brk q1 => exact h'
      | ret d => exact h'
      | exn x q1 => exact h'.elim
    · have e : i = items.length := by omega
      rw [List.getElem?_eq_none (by omega)]
      subst e
      exact hQ q S hI
theorem ok_for {turn : D → En → Sto → R Fl} {s : Sr} {Q : Fl → Sto → Prop} {q : En} {S : Sto} (I : Nat → En → Sto → Prop) (items : List D) (hl : items.length ≤ LM) (h0 : I 0 q S)
    (hs : ∀ i q S, I i q S → srcAt s i S = some items[i]?)
    (ht : ∀ i d q S, items[i]? = some d → I i q S → Ok (turn d q S) (FlQ (I (i + 1)) Q))
    (hQ : ∀ q S, I items.length q S → Q (.next q) S) : Ok (forL turn s FU 0 q S) Q :=
  ok_forL I items hs ht hQ FU 0 q S (Nat.zero_le _) (by have := hl; unfold LM FU at *; omega) h0
theorem ok_noX {r : R A} {Q : A → Sto → Prop} (h : Ok r Q) : Ok (noX r) Q := by
  cases r with
  | ok a S => exact h
  | _ => exact h.elim
/-! names at their places -/
section
variable {S : Sto} {d : D} {a b c e f g h i j k l m : Option D} {q : En}
theorem rv0 : rVar 0 (some d :: q) S = .ok d S := rfl
theorem rv1 : rVar 1 (a :: some d :: q) S = .ok d S := rfl
theorem rv2 : rVar 2 (a :: b :: some d :: q) S = .ok d S := rfl
theorem rv3 : rVar 3 (a :: b :: c :: some d :: q) S = .ok d S := rfl
theorem rv4 : rVar 4 (a :: b :: c :: e :: some d :: q) S = .ok d S := rfl
theorem rv5 : rVar 5 (a :: b :: c :: e :: f :: some d :: q) S = .ok d S := rfl
theorem rv6 : rVar 6 (a :: b :: c :: e :: f :: g :: some d :: q) S = .ok d S := rfl
theorem rv7 : rVar 7 (a :: b :: c :: e :: f :: g :: h :: some d :: q) S = .ok d S := rfl
theorem rv8 : rVar 8 (a :: b :: c :: e :: f :: g :: h :: i :: some d :: q) S = .ok d S := rfl
theorem rv9 : rVar 9 (a :: b :: c :: e :: f :: g :: h :: i :: j :: some d :: q) S = .ok d S := rfl
theorem rv10 : rVar 10 (a :: b :: c :: e :: f :: g :: h :: i :: j :: k :: some d :: q) S = .ok d S := rfl
theorem rv11 : rVar 11 (a :: b :: c :: e :: f :: g :: h :: i :: j :: k :: l :: some d :: q) S = .ok d S := rfl
theorem rn0 : rName 0 d (a :: q) S = .ok (some d :: q) S := rfl
theorem rn1 : rName 1 d (a :: b :: q) S = .ok (a :: some d :: q) S := rfl
theorem rn2 : rName 2 d (a :: b :: c :: q) S = .ok (a :: b :: some d :: q) S := rfl
theorem rn3 : rName 3 d (a :: b :: c :: e :: q) S = .ok (a :: b :: c :: some d :: q) S := rfl
theorem rn4 : rName 4 d (a :: b :: c :: e :: f :: q) S = .ok (a :: b :: c :: e :: some d :: q) S := rfl
theorem rn5 : rName 5 d (a :: b :: c :: e :: f :: g :: q) S = .ok (a :: b :: c :: e :: f :: some d :: q) S := rfl
theorem rn6 : rName 6 d (a :: b :: c :: e :: f :: g :: h :: q) S = .ok (a :: b :: c :: e :: f :: g :: some d :: q) S := rfl
theorem rn7 : rName 7 d (a :: b :: c :: e :: f :: g :: h :: i :: q) S = .ok (a :: b :: c :: e :: f :: g :: h :: some d :: q) S := rfl
theorem rn8 : rName 8 d (a :: b :: c :: e :: f :: g :: h :: i :: j :: q) S = .ok (a :: b :: c :: e :: f :: g :: h :: i :: some d :: q) S := rfl
theorem rn9 : rName 9 d (a :: b :: c :: e :: f :: g :: h :: i :: j :: k :: q) S = .ok (a :: b :: c :: e :: f :: g :: h :: i :: j :: some d :: q) S := rfl
theorem rn10 : rName 10 d (a :: b :: c :: e :: f :: g :: h :: i :: j :: k :: l :: q) S = .ok (a :: b :: c :: e :: f :: g :: h :: i :: j :: k :: some d :: q) S := rfl
theorem rn11 : rName 11 d (a :: b :: c :: e :: f :: g :: h :: i :: j :: k :: l :: m :: q) S = .ok (a :: b :: c :: e :: f :: g :: h :: i :: j :: k :: l :: some d :: q) S := rfl
end
/-! the store -/
theorem get_new {S : Sto} {o : O} : (S ++ [o])[S.length]? = some o := by simp
theorem get_old {S T : Sto} {k : Nat} {o : O} (h : S[k]? = some o) : (S ++ T)[k]? = some o := by
  rw [List.getElem?_append_left (List.getElem?_eq_some_iff.mp h).1]
  exact h
theorem get_lt {S : Sto} {k : Nat} {o : O} (h : S[k]? = some o) : k < S.length := (List.getElem?_eq_some_iff.mp h).1
/-- all but two objects stay -/
def Fra (i j : Nat) (S S' : Sto) : Prop := S.length ≤ S'.length ∧ ∀ k o, k ≠ i → k ≠ j → S[k]? = some o → S'[k]? = some o
theorem Fra.rfl {i j : Nat} {S : Sto} : Fra i j S S := ⟨Nat.le_refl _, fun _ _ _ _ h => h⟩
theorem Fra.trans {i j : Nat} {S S1 S2 : Sto} (a : Fra i j S S1) (b : Fra i j S1 S2) : Fra i j S S2 := ⟨Nat.le_trans a.1 b.1, fun k o h1 h2 h => b.2 k o h1 h2 (a.2 k o h1 h2 h)⟩
theorem Fra.app {i j : Nat} {S T : Sto} : Fra i j S (S ++ T) := ⟨by simp, fun k o _ _ h => get_old h⟩
/-- no object changes -/
def Ext' (S S' : Sto) : Prop := ∃ T, S' = S ++ T
theorem Ext'.rfl {S : Sto} : Ext' S S := ⟨[], by simp⟩
theorem Ext'.trans {S S1 S2 : Sto} (a : Ext' S S1) (b : Ext' S1 S2) : Ext' S S2 := by
  obtain ⟨T, rfl⟩ := a
  obtain ⟨U, rfl⟩ := b
  exact ⟨T ++ U, by simp⟩
theorem Ext'.app {S T : Sto} : Ext' S (S ++ T) := ⟨T, Eq.refl _⟩
theorem Ext'.at {S S' : Sto} (a : Ext' S S') {k : Nat} {o : O} (h : S[k]? = some o) : S'[k]? = some o := by
  obtain ⟨T, rfl⟩ := a
  exact get_old h
theorem Ext'.fra {i j : Nat} {S S' : Sto} (a : Ext' S S') : Fra i j S S' := by
  obtain ⟨T, rfl⟩ := a
  exact Fra.app

/-! statements -/
def seqQ (ss : XS) (Q : Fl → Sto → Prop) : Fl → Sto → Prop
  | .next q, S => Ok (ss q S) Q
  | .ret d, S => Q (.ret d) S
  | .brk q, S => Q (.brk q) S
  | .cnt q, S => Q (.cnt q) S
  | .exn x q, S => Q (.exn x q) S
section
variable {q : En} {S : Sto} {Q : Fl → Sto → Prop}
theorem ok_cons {s ss : XS} (h : Ok (s q S) (seqQ ss Q)) : Ok (sCons s ss q S) Q := by
  unfold sCons
  rw [ok_bind]
  refine h.mp fun f S' h' => ?_
  cases f <;> exact h'
theorem ok_nil (h : Q (.next q) S) : Ok (sNil q S) Q := h
theorem ok_asg {t : D → En → Sto → R En} {e : XE} (h : Ok (e q S) fun d S => Ok (t d q S) fun q S => Q (.next q) S) : Ok (sAsg t e q S) Q := by
  unfold sAsg
  exact ok_bindE (h.mp fun d S h => ok_bindE (h.mp fun q S h => h))
theorem ok_expr {e : XE} (h : Ok (e q S) fun _ S => Q (.next q) S) : Ok (sExpr e q S) Q := ok_bindE (h.mp fun _ _ h => h)
theorem ok_ret {e : XE} (h : Ok (e q S) fun d S => Q (.ret d) S) : Ok (sRet e q S) Q := ok_bindE (h.mp fun _ _ h => h)
theorem ok_if {c : XT} {a b : XS} (h : Ok (c q S) fun t S => (t = true → Ok (a q S) Q) ∧ (t = false → Ok (b q S) Q)) : Ok (sIf c a b q S) Q := by
  refine ok_bindE (h.mp fun t S h => ?_)
  cases t
  · exact h.2 rfl
  · exact h.1 rfl
theorem ok_sfor {t : D → En → Sto → R En} {it : En → Sto → R Sr} {b : XS} (h : Ok (it q S) fun s S => Ok (forL (fun d q S => bindE q (t d q S) fun q S => b q S) s FU 0 q S) Q) : Ok (rFor t it b q S) Q := by
  rw [rFor_eq]
  exact ok_bindE h
theorem ok_par2 {i j : Nat} {a b : XE} (h : Ok (a q S) fun d S => Ok (b q S) fun e S => Q (.next ((q.set i (some d)).set j (some e))) S) : Ok (rPar2 i j a b q S) Q := by
  rw [rPar2_eq]
  exact ok_bindE (h.mp fun d S h => ok_bindE (h.mp fun e S h => h))
theorem ok_par3 {i j l : Nat} {a b c : XE} (h : Ok (a q S) fun d S => Ok (b q S) fun e S => Ok (c q S) fun f S => Q (.next (((q.set i (some d)).set j (some e)).set l (some f))) S) : Ok (sPar3 i j l a b c q S) Q :=
  ok_bindE (h.mp fun d S h => ok_bindE (h.mp fun e S h => ok_bindE (h.mp fun f S h => h)))
end
/-! expressions -/
section
variable {q : En} {S : Sto} {Q : D → Sto → Prop} {QT : Bool → Sto → Prop} {Qs : List D → Sto → Prop}
theorem ok_xNil : Ok (xNil q S) Qs ↔ Qs [] S := Iff.rfl
theorem ok_xC {d : D} : Ok (xC d q S) Q ↔ Q d S := Iff.rfl
theorem ok_xCons {e : XE} {es : XEs} : Ok (xCons e es q S) Qs ↔ Ok (e q S) fun d S => Ok (es q S) fun ds S => Qs (d :: ds) S := by
  unfold xCons
  rw [ok_bind]
  have e2 : ∀ (d : D) (S : Sto), Ok ((es q S).bind fun ds S => R.ok (d :: ds) S) Qs ↔ Ok (es q S) fun ds S => Qs (d :: ds) S := fun d S => by
    rw [ok_bind]
    exact Iff.rfl
  simp only [e2]
theorem ok_xCall {c : List D → Sto → R D} {es : XEs} : Ok (xCall c es q S) Q ↔ Ok (es q S) fun ds S => Ok (c ds S) Q := ok_bind
theorem ok_tCall {c : List D → Sto → R D} {es : XEs} : Ok (tCall c es q S) QT ↔ Ok (es q S) fun ds S => Ok (c ds S) fun d S => Ok (optR (truD S d) S) QT := by
  unfold tCall
  simp only [ok_bind]
theorem ok_xIdx {a b : XE} : Ok (xIdx a b q S) Q ↔ Ok (a q S) fun d S => Ok (b q S) fun e S => Ok (idxD d e S) Q := by
  unfold xIdx
  simp only [ok_bind]
theorem ok_rBin {op : Operator} {a b : XE} : Ok (rBin op a b q S) Q ↔ Ok (a q S) fun d S => Ok (b q S) fun e S => Ok (opD op d e S) Q := by
  rw [rBin_eq]
  unfold xBin
  simp only [ok_bind]
theorem ok_yCmp {op : CmpOp} {a b : XE} : Ok (yCmp op a b q S) Q ↔ Ok (a q S) fun d S => Ok (b q S) fun e S => Ok (cmpD op d e S) Q := by
  rw [yCmp_eq]
  unfold xCmp
  simp only [ok_bind]
theorem ok_uCmp {op : CmpOp} {a b : XE} (h : Ok (a q S) fun d S => Ok (b q S) fun e S => Ok (cmpD op d e S) fun x S => ∃ b, x = .bl b ∧ QT b S) : Ok (uCmp op a b q S) QT := by
  rw [uCmp_eq]
  unfold tCmp
  rw [ok_bind]
  refine h.mp fun d S h => ?_
  rw [ok_bind]
  refine h.mp fun e S h => ?_
  rw [ok_bind]
  refine h.mp fun x S h => ?_
  obtain ⟨b, rfl, h⟩ := h
  exact h
theorem ok_yBlt {b : Bl} {es : XEs} : Ok (yBlt b es q S) Q ↔ Ok (es q S) fun ds S => Ok (bltD b ds S) Q := by
  rw [yBlt_eq]
  exact ok_bind
theorem ok_yMeth {m : Me} {a : XE} {es : XEs} (h : Ok (a q S) fun d S => meK m d S = true ∧ Ok (es q S) fun ds S => Ok (methD m d ds S) Q) : Ok (yMeth m a es q S) Q := by
  rw [yMeth_eq]
  unfold xMeth
  rw [ok_bind]
  refine h.mp fun d S h => ok_ifR h.1 ?_
  rw [ok_bind]
  exact h.2
theorem ok_rLst {es : XEs} (h : Ok (es q S) fun ds S => ds.length ≤ LM ∧ Q (.ref S.length) (S ++ [.lst ds])) : Ok (rLst es q S) Q := by
  rw [rLst_eq]
  unfold xLst
  rw [ok_bind]
  exact h.mp fun ds S h => ok_ifR (decide_eq_true h.1) h.2
theorem ok_xTup {es : XEs} (h : Ok (es q S) fun ds S => ds.length ≤ LM ∧ Q (.tup ds) S) : Ok (xTup es q S) Q := by
  unfold xTup
  rw [ok_bind]
  exact h.mp fun ds S h => ok_ifR (decide_eq_true h.1) h.2
theorem ok_ySlice {a : XE} {lo hi : En → Sto → R (Option Int)} : Ok (ySlice a lo hi q S) Q ↔ Ok (a q S) fun d S => Ok (lo q S) fun l S => Ok (hi q S) fun h S => Ok (sliceD d l h S) Q := by
  rw [ySlice_eq]
  unfold xSlice
  simp only [ok_bind]
theorem ok_rComp {t : D → En → Sto → R En} {it : En → Sto → R Sr} {c : XT} {e : XE} {vs : List Nat} : Ok (rComp t it c e vs q S) Q ↔ Ok (it q S) fun s S => Ok (noX (compL (xTurn t c e vs q) s FU 0 [] S)) fun ds S => Q (.ref S.length) (S ++ [.lst ds]) := by
  rw [rComp_eq]
  unfold xComp
  simp only [ok_bind]
  exact Iff.rfl
theorem ok_xTurn {t : D → En → Sto → R En} {c : XT} {e : XE} {vs : List Nat} {d : D} {Qo : Option D → Sto → Prop} (h : Ok (t d (wipeD q vs) S) fun q S => Ok (c q S) fun b S => (b = true → Ok (e q S) fun x S => Qo (some x) S) ∧ (b = false → Qo none S)) : Ok (xTurn t c e vs q d S) Qo := by
  unfold xTurn
  rw [ok_bind]
  refine h.mp fun q S h => ?_
  rw [ok_bind]
  refine h.mp fun b S h => ?_
  cases b
  · exact h.2 rfl
  · rw [ok_bind]
    exact h.1 rfl
theorem ok_iSeq {a : XE} {Qr : Sr → Sto → Prop} : Ok (iSeq a q S) Qr ↔ Ok (a q S) fun d S => Ok (seqS d S) Qr := ok_bind
theorem ok_iRng {es : XEs} {Qr : Sr → Sto → Prop} : Ok (iRng es q S) Qr ↔ Ok (es q S) fun d S => Ok (rngS d S) Qr := ok_bind
theorem ok_iEnm {a : XE} {Qr : Sr → Sto → Prop} : Ok (iEnm a q S) Qr ↔ Ok (a q S) fun d S => Ok (enumS d S) Qr := ok_bind
theorem ok_xIte {c : XT} {a b : XE} (h : Ok (c q S) fun t S => (t = true → Ok (a q S) Q) ∧ (t = false → Ok (b q S) Q)) : Ok (xIte c a b q S) Q := by
  unfold xIte
  rw [ok_bind]
  refine h.mp fun t S h => ?_
  cases t
  · exact h.2 rfl
  · exact h.1 rfl
theorem ok_tOr {a b : XT} (h : Ok (a q S) fun t S => (t = true → QT true S) ∧ (t = false → Ok (b q S) QT)) : Ok (tOr a b q S) QT := by
  unfold tOr
  rw [ok_bind]
  refine h.mp fun t S h => ?_
  cases t
  · exact h.2 rfl
  · exact h.1 rfl
theorem ok_tAnd {a b : XT} (h : Ok (a q S) fun t S => (t = true → Ok (b q S) QT) ∧ (t = false → QT false S)) : Ok (tAnd a b q S) QT := by
  unfold tAnd
  rw [ok_bind]
  refine h.mp fun t S h => ?_
  cases t
  · exact h.2 rfl
  · exact h.1 rfl
theorem ok_tNot {a : XT} : Ok (tNot a q S) QT ↔ Ok (a q S) fun t S => QT (!t) S := by
  unfold tNot
  rw [ok_bind]
  exact Iff.rfl
theorem ok_tBl {b : Bool} : Ok (tBl b q S) QT ↔ QT b S := Iff.rfl
theorem ok_gTup {ts : List D → En → Sto → R En} {ds : List D} {Qe : En → Sto → Prop} : Ok (gTup ts (.tup ds) q S) Qe ↔ Ok (ts ds q S) Qe := Iff.rfl
theorem ok_gCons {t : D → En → Sto → R En} {ts : List D → En → Sto → R En} {d : D} {ds : List D} {Qe : En → Sto → Prop} : Ok (gCons t ts (d :: ds) q S) Qe ↔ Ok (t d q S) fun q S => Ok (ts ds q S) Qe := ok_bind
theorem ok_gNil {Qe : En → Sto → Prop} : Ok (gNil [] q S) Qe ↔ Qe q S := Iff.rfl
theorem ok_gSubF {a b : XE} {d : D} {Qe : En → Sto → Prop} (h : Ok (a q S) fun o S => Ok (b q S) fun e S => Ok (setD o e d S) fun _ S => Qe q S) : Ok (gSubF a b d q S) Qe := by
  rw [gSubF_eq]
  unfold gSub
  rw [ok_bind]
  refine ok_noX (h.mp fun o S h => ?_)
  rw [ok_bind]
  refine ok_noX (h.mp fun e S h => ?_)
  rw [ok_bind]
  exact h.mp fun _ _ h => h
theorem ok_cmp {op : CmpOp} {d e : D} {b : Bool} (h : cmpD op d e S = .ok (.bl b) S) (q : QT b S) : Ok (cmpD op d e S) fun x S => ∃ b, x = .bl b ∧ QT b S := by
  rw [h]
  exact ⟨b, rfl, q⟩
end
end DI
namespace DI
open PySem L2
def sC : Str := ⟨#[99, 101, 108, 108, 115]⟩
def sS : Str := ⟨#[115, 116, 105, 114, 114, 101, 100]⟩
noncomputable def drawB : XS := (sCons (sIf (uCmp .NotEq (xIdx (rVar 0) (xC (.str sC))) (rLst xNil)) (sCons (sAsg (rName 2) (yMeth .pop (xIdx (rVar 0) (xC (.str sC))) xNil)) (sCons (sIf (uCmp .GtE (rVar 2) (rBin .Pow (xC (.int 10)) (xC (.int 18)))) (sCons (sExpr (yMeth .append (xIdx (rVar 0) (xC (.str sC))) (xCons (rBin .FloorDiv (rVar 2) (yBlt .max2 (xCons (xC (.int 2)) (xCons (rVar 1) xNil)))) xNil))) (sCons (sRet (rBin .Mod (rVar 2) (rVar 1))) sNil)) sNil) (sCons (sAsg (gSubF (rVar 0) (xC (.str sS))) (rBin .Mod (rBin .Add (xIdx (rVar 0) (xC (.str sS))) (rVar 2)) (xC (.int 2147483647)))) sNil))) sNil) (sCons (sAsg (gSubF (rVar 0) (xC (.str sS))) (rBin .Mod (rBin .Add (rBin .Mult (xIdx (rVar 0) (xC (.str sS))) (xC (.int 16807))) (xC (.int 1087517))) (xC (.int 2147483647)))) (sCons (sRet (rBin .Mod (rBin .FloorDiv (xIdx (rVar 0) (xC (.str sS))) (xC (.int 64))) (rVar 1))) sNil)))
noncomputable def pickB (c : List D → Sto → R D) : XS := (sCons (sRet (xIdx (rVar 1) (xCall c (xCons (rVar 0) (xCons (yBlt .len (xCons (rVar 1) xNil)) xNil))))) sNil)
noncomputable def deckB : XS := (sCons (rPar2 2 3 (rComp (rName 1) (iSeq (ySlice (rVar 0) oNone (oSome (xC (.int 63))))) (tBl true) (yBlt .int (xCons (rVar 1) xNil)) [1]) (xC (.int 1087517))) (sCons (rFor (rName 1) (iSeq (rVar 2)) (sCons (sAsg (rName 3) (rBin .Mod (rBin .Add (rBin .Add (rBin .Mult (rVar 3) (xC (.int 48271))) (rBin .Mod (rVar 1) (xC (.int 2147483563)))) (xC (.int 19))) (xC (.int 2147483647)))) sNil)) (sCons (sRet (xDict [.inr sC, .inr sS] (xCons (xRev (rVar 2)) (xCons (rVar 3) xNil)))) sNil)))
def dkO (i : Nat) (s : Int) : O := .dk [(.inr sC, .ref i), (.inr sS, .int s)]
/-- a deck: a dict of the cells left and a number -/
structure Dk (S : Sto) (j i : Nat) (cs : List Int) (s : Int) : Prop where
  dk : S[j]? = some (dkO i s)
  ls : S[i]? = some (.lst (cs.map .int))
  ln : cs.length ≤ 63
  s0 : 0 ≤ s
  s1 : s < 2147483647
def DK (S : Sto) (j i : Nat) : Prop := ∃ cs s, Dk S j i cs s
theorem Dk.ne {S : Sto} {j i : Nat} {cs : List Int} {s : Int} (h : Dk S j i cs s) : i ≠ j := fun e => by
  have a := h.dk
  rw [← e, h.ls] at a
  cases a
theorem DK.ext {S S' : Sto} {j i : Nat} (h : DK S j i) (e : Ext' S S') : DK S' j i := by
  obtain ⟨cs, s, h⟩ := h
  exact ⟨cs, s, e.at h.dk, e.at h.ls, h.ln, h.s0, h.s1⟩
theorem optAll_ints (n : Nat) (S : Sto) : ∀ cs : List Int, optAll ((cs.map D.int).map (pyD (n + 1) S)) = some (cs.map .int)
  | [] => rfl
  | c :: cs => by
    have e : pyD (n + 1) S (.int c) = some (.int c) := rfl
    simp only [List.map_cons, optAll, optAll_ints n S cs, e]
theorem lay_ints : ∀ cs : List Int, PyData.canLayAll0 (cs.map .int) = true
  | [] => rfl
  | c :: cs => by
    show (true && PyData.canLayAll0 (cs.map .int)) = true
    rw [lay_ints cs]
    rfl
theorem dep_ints : ∀ cs : List Int, PyData.depthAll (cs.map .int) ≤ 1
  | [] => by simp [PyData.depthAll]
  | c :: cs => by
    have := dep_ints cs
    simp [PyData.depthAll, PyData.depth]
    omega
theorem shaped_ints (cs : List Int) : SeqAt.shaped (.list (cs.map .int)) = true := by
  unfold SeqAt.shaped
  have h := dep_ints cs
  have e : PyData.depth (.list (cs.map .int)) = PyData.depthAll (cs.map .int) + 1 := by simp [PyData.depth]
  rw [e]
  simp only [Bool.and_eq_true, decide_eq_true_eq]
  exact ⟨lay_ints cs, by omega⟩
theorem py_list {S : Sto} {i : Nat} {cs : List Int} (h : S[i]? = some (.lst (cs.map .int))) : pyD 60 S (.ref i) = some (PyData.list (cs.map .int)) := by
  show (match S[i]? with | some (.lst ds) => (optAll (ds.map (pyD 59 S))).map PyData.list | _ => none) = _
  rw [h]
  dsimp only
  rw [optAll_ints 58]
  rfl
theorem eq_nil {S : Sto} {i j : Nat} {cs : List Int} (h : S[i]? = some (.lst (cs.map .int))) (h2 : S[j]? = some (.lst [])) : eqD S (.ref i) (.ref j) = some cs.isEmpty := by
  have a := py_list h
  have b := py_list (cs := []) h2
  unfold eqD
  rw [a, b]
  dsimp only
  rw [shaped_ints cs, show SeqAt.shaped (PyData.list (([] : List Int).map PyData.int)) = true from rfl]
  cases cs <;> rfl

theorem gSubF_ok {a b : XE} {d : D} {q : En} {S : Sto} : gSubF a b d q S = gSub a b d q S := by rw [gSubF_eq]
/-- the pieces in plain words -/
theorem run_dk {cs : List CF2} {k f : Nat} {c : CF2} (hc : cs[f]? = some c) {S : Sto} {j : Nat} {kvs : List (Key × D)} (h : S[j]? = some (.dk kvs)) (ds : List D) : runZ cs (k + 1) f (.ref j :: ds) S = runC c (runZ cs k) (.ref j :: ds) S := by
  rw [run_at hc, runY_eq]
  unfold pureC
  rw [show rfs (.ref j :: ds) = false from rfl]
  dsimp only
  have e : isoR (runC c (runZ cs k)) (.ref j :: ds) S = none := by
    unfold isoR
    cases e1 : refsD (.ref j :: ds) with
    | none => rfl
    | some R =>
      have e2 : ∃ R', R = j :: R' := by
        simp only [refsD] at e1
        cases e3 : refsD ds with
        | none => rw [e3] at e1; cases e1
        | some R' => rw [e3] at e1; cases e1; exact ⟨R', rfl⟩
      obtain ⟨R', rfl⟩ := e2
      have e4 : subS S (j :: R') = none := by
        simp only [subS, h, flatO, Bool.false_and]
        rfl
      dsimp only
      rw [e4]
  rw [e]
def rets (Q : D → Sto → Prop) : Fl → Sto → Prop
  | .ret d, S => Q d S
  | .next _, S => Q .non S
  | _, _ => False
theorem ok_runC {c : CF2} {cl : Cl} {ds : List D} {S : Sto} {Q : D → Sto → Prop} (hl : ds.length = c.np) (h : Ok (c.body cl (startD ds c.nl) S) (rets Q)) : Ok (runC c cl ds S) Q := by
  unfold runC
  refine ok_ifR (decide_eq_true hl) ?_
  cases e : c.body cl (startD ds c.nl) S with
  | ok f S' =>
    rw [e] at h
    cases f <;> first | exact h | exact h.elim
  | _ =>
    rw [e] at h
    exact h.elim
theorem log_small {x y : Int} (hx : x.natAbs < 2 ^ 40) (hy : y.natAbs < 2 ^ 40) : decide (x.natAbs.log2 + y.natAbs.log2 < 1000000) = true := by
  apply decide_eq_true
  have a : x.natAbs.log2 ≤ 40 := by
    by_cases h : x.natAbs = 0
    · rw [h]
      decide
    · exact Nat.le_of_lt ((Nat.log2_lt h).2 hx)
  have b : y.natAbs.log2 ≤ 40 := by
    by_cases h : y.natAbs = 0
    · rw [h]
      decide
    · exact Nat.le_of_lt ((Nat.log2_lt h).2 hy)
  omega
theorem lstD_at {S : Sto} {i : Nat} {ds : List D} (h : S[i]? = some (.lst ds)) : lstD S (.ref i) = some ds := by
  unfold lstD
  dsimp only
  rw [h]
theorem DK.push {S : Sto} {j i : Nat} {cs : List Int} {s : Int} (h : Dk S j i cs s) (o : O) : Dk (S ++ [o]) j i cs s := ⟨get_old h.dk, get_old h.ls, h.ln, h.s0, h.s1⟩
theorem set_at {S : Sto} {i : Nat} {o o' : O} (h : S[i]? = some o) : (S.set i o')[i]? = some o' := by
  rw [List.getElem?_set_self (get_lt h)]
theorem set_off {S : Sto} {i k : Nat} {o' : O} (h : k ≠ i) : (S.set i o')[k]? = S[k]? := List.getElem?_set_ne (Ne.symm h)
theorem Fra.set1 {S : Sto} {i j : Nat} {o : O} : Fra i j S (S.set i o) := ⟨by simp, fun k o' h1 _ h => by rw [set_off h1]; exact h⟩
theorem Fra.set2 {S : Sto} {i j : Nat} {o : O} : Fra i j S (S.set j o) := ⟨by simp, fun k o' _ h1 h => by rw [set_off h1]; exact h⟩
theorem pop_last (cs : List Int) (c : Int) : ((cs ++ [c]).map D.int).dropLast = cs.map .int := by simp
theorem Dk.setS {S : Sto} {j i : Nat} {cs : List Int} {s : Int} (h : Dk S j i cs s) (s' : Int) (h0 : 0 ≤ s') (h1 : s' < 2147483647) : Dk (S.set j (dkO i s')) j i cs s' :=
  ⟨set_at h.dk, by rw [set_off h.ne]; exact h.ls, h.ln, h0, h1⟩
theorem Dk.setC {S : Sto} {j i : Nat} {cs cs' : List Int} {s : Int} (h : Dk S j i cs s) (hl : cs'.length ≤ 63) : Dk (S.set i (.lst (cs'.map .int))) j i cs' s :=
  ⟨by rw [set_off (Ne.symm h.ne)]; exact h.dk, set_at h.ls, hl, h.s0, h.s1⟩
theorem Dk.idxC {S : Sto} {j i : Nat} {cs : List Int} {s : Int} (h : Dk S j i cs s) : idxD (.ref j) (.str sC) S = .ok (.ref i) S := by
  unfold idxD
  dsimp only
  rw [h.dk]
  rfl
theorem Dk.idxS {S : Sto} {j i : Nat} {cs : List Int} {s : Int} (h : Dk S j i cs s) : idxD (.ref j) (.str sS) S = .ok (.int s) S := by
  unfold idxD
  dsimp only
  rw [h.dk]
  rfl
theorem Dk.setdS {S : Sto} {j i : Nat} {cs : List Int} {s : Int} (h : Dk S j i cs s) (s' : Int) : setD (.ref j) (.str sS) (.int s') S = .ok () (S.set j (dkO i s')) := by
  unfold setD
  dsimp only
  rw [h.dk]
  rfl
theorem dAdd {i j : Int} {S : Sto} : opD .Add (.int i) (.int j) S = .ok (.int (i + j)) S := rfl
theorem dSub {i j : Int} {S : Sto} : opD .Sub (.int i) (.int j) S = .ok (.int (i - j)) S := rfl
theorem dMul {i j : Int} {S : Sto} (hx : i.natAbs < 2 ^ 40) (hy : j.natAbs < 2 ^ 40) : opD .Mult (.int i) (.int j) S = .ok (.int (i * j)) S := by
  unfold opD
  dsimp only
  rw [log_small hx hy]
  rfl
theorem dMod {i j : Int} {S : Sto} (h : 0 < j) : opD .Mod (.int i) (.int j) S = .ok (.int (i % j)) S := by
  unfold opD
  dsimp only
  rw [decide_eq_true h]
  rfl
theorem dDiv {i j : Int} {S : Sto} (h : 0 < j) (hj : j < 2 ^ 40) : opD .FloorDiv (.int i) (.int j) S = .ok (.int (i / j)) S := by
  unfold opD
  dsimp only
  have a : j.natAbs.log2 < 9000 := by
    have : j.natAbs.log2 < 40 := (Nat.log2_lt (by omega)).2 (by omega)
    omega
  rw [decide_eq_true ⟨h, a⟩]
  rfl
theorem pop_eq {S : Sto} {i : Nat} {cs : List Int} {c : Int} (h : S[i]? = some (.lst ((cs ++ [c]).map .int))) : methD .pop (.ref i) [] S = .ok (.int c) (S.set i (.lst (cs.map .int))) := by
  unfold methD
  dsimp only
  rw [lstD_at h]
  simp [optB]
theorem append_eq {S : Sto} {i : Nat} {cs : List Int} {c : Int} (h : S[i]? = some (.lst (cs.map .int))) (hl : cs.length ≤ 63) : methD .append (.ref i) [.int c] S = .ok .non (S.set i (.lst ((cs ++ [c]).map .int))) := by
  unfold methD
  dsimp only
  rw [lstD_at h]
  show ifR (decide ((cs.map D.int).length < LM)) (R.ok D.non (S.set i (.lst (cs.map .int ++ [D.int c])))) = _
  rw [decide_eq_true (by simp [LM]; omega)]
  simp [ifR]
theorem max2_eq {i j : Int} {S : Sto} : bltD .max2 [.int i, .int j] S = .ok (.int (if j > i then j else i)) S := rfl
theorem ok_rv {n : Nat} {q : En} {S : Sto} {d : D} {Q : D → Sto → Prop} (e : rVar n q S = .ok d S) (h : Q d S) : Ok (rVar n q S) Q := by
  rw [e]
  exact h
/-- what behind the cells is drawn from the number -/
theorem draw_tail {S : Sto} {j i : Nat} {b : Int} {cs : List Int} {s : Int} {x : Option D} (h : Dk S j i cs s) (b0 : 0 < b) (b1 : b < 2 ^ 40) : Ok ((sCons (sAsg (gSubF (rVar 0) (xC (.str sS))) (rBin .Mod (rBin .Add (rBin .Mult (xIdx (rVar 0) (xC (.str sS))) (xC (.int 16807))) (xC (.int 1087517))) (xC (.int 2147483647)))) (sCons (sRet (rBin .Mod (rBin .FloorDiv (xIdx (rVar 0) (xC (.str sS))) (xC (.int 64))) (rVar 1))) sNil)) [some (.ref j), some (.int b), x] S) (rets fun d S' => ∃ r : Int, d = .int r ∧ 0 ≤ r ∧ r < b ∧ DK S' j i ∧ Fra i j S S') := by
  have hs0 := h.s0
  have hs1 := h.s1
  refine ok_cons (ok_asg ?_)
  rw [ok_rBin, ok_rBin, ok_rBin, ok_xIdx]
  refine ok_rv rv0 ?_
  rw [ok_xC, h.idxS, ok_ok, ok_xC, dMul (by omega) (by decide), ok_ok, ok_xC, dAdd, ok_ok, ok_xC, dMod (by decide), ok_ok]
  refine ok_gSubF (ok_rv rv0 ?_)
  rw [ok_xC, h.setdS, ok_ok]
  have h' := h.setS ((s * 16807 + 1087517) % 2147483647) (Int.emod_nonneg _ (by decide)) (Int.emod_lt_of_pos _ (by decide))
  refine ok_cons (ok_ret ?_)
  rw [ok_rBin, ok_rBin, ok_xIdx]
  refine ok_rv rv0 ?_
  rw [ok_xC, h'.idxS, ok_ok, ok_xC, dDiv (by decide) (by decide), ok_ok]
  refine ok_rv rv1 ?_
  rw [dMod b0, ok_ok]
  exact ⟨_, rfl, Int.emod_nonneg _ (by omega), Int.emod_lt_of_pos _ b0, ⟨cs, _, h'⟩, Fra.set2⟩
theorem rets_imp {P Q : D → Sto → Prop} (h : ∀ d S, P d S → Q d S) (f : Fl) (S : Sto) (r : rets P f S) : rets Q f S := by
  cases f with
  | ret d => exact h d S r
  | next q => exact h _ S r
  | _ => exact r.elim
theorem seq_next {ss : XS} {Q : Fl → Sto → Prop} {q : En} {S : Sto} (h : Ok (ss q S) Q) : seqQ ss Q (.next q) S := h
theorem draw_ok {cl : Cl} {S : Sto} {j i : Nat} {b : Int} (h : DK S j i) (b0 : 0 < b) (b1 : b < 2 ^ 40) : Ok (runC ⟨2, 3, fun _ => drawB⟩ cl [.ref j, .int b] S) (fun d S' => ∃ r : Int, d = .int r ∧ 0 ≤ r ∧ r < b ∧ DK S' j i ∧ Fra i j S S') := by
  obtain ⟨cs, s, h⟩ := h
  refine ok_runC rfl ?_
  show Ok (drawB [some (.ref j), some (.int b), none] S) _
  unfold drawB
  refine ok_cons (ok_if (ok_uCmp ?_))
  rw [ok_xIdx]
  refine ok_rv rv0 ?_
  rw [ok_xC, h.idxC, ok_ok]
  refine ok_rLst ?_
  rw [ok_xNil]
  refine ⟨by decide, ?_⟩
  have h1 : Dk (S ++ [.lst []]) j i cs s := DK.push h _
  have e1 : cmpD .NotEq (.ref i) (.ref S.length) (S ++ [.lst []]) = .ok (.bl (!cs.isEmpty)) (S ++ [.lst []]) := by
    unfold cmpD
    dsimp only
    rw [eq_nil h1.ls get_new]
  refine ok_cmp e1 ⟨fun hb => ?_, fun hb => ?_⟩
  · have hcs : cs ≠ [] := fun z => by rw [z] at hb; cases hb
    obtain ⟨cs', c, rfl⟩ : ∃ cs' c, cs = cs' ++ [c] := ⟨cs.dropLast, cs.getLast hcs, (List.dropLast_concat_getLast hcs).symm⟩
    have hl : cs'.length ≤ 62 := by
      have := h.ln
      simp at this
      omega
    refine ok_cons (ok_asg (ok_yMeth ?_))
    rw [ok_xIdx]
    refine ok_rv rv0 ?_
    rw [ok_xC, h1.idxC, ok_ok]
    refine ⟨by unfold meK; rw [lstD_at h1.ls]; rfl, ?_⟩
    rw [ok_xNil, pop_eq h1.ls, ok_ok]
    have h2 := h1.setC (cs' := cs') (by omega)
    have f2 : Fra i j S ((S ++ [O.lst []]).set i (O.lst (cs'.map D.int))) := Fra.app.trans Fra.set1
    generalize ((S ++ [O.lst []]).set i (O.lst (cs'.map D.int))) = S2 at h2 f2
    rw [show rName 2 (.int c) [some (.ref j), some (.int b), none] S2 = .ok [some (.ref j), some (.int b), some (.int c)] S2 from rfl, ok_ok]
    refine ok_cons (ok_if (ok_uCmp (ok_rv rv2 ?_)))
    rw [ok_rBin, ok_xC, ok_xC, show opD .Pow (.int 10) (.int 18) S2 = .ok (.int (10 ^ 18)) S2 from rfl, ok_ok]
    refine ok_cmp (b := decide ((10 : Int) ^ 18 ≤ c)) rfl ⟨fun hc => ?_, fun hc => ?_⟩
    · refine ok_cons (ok_expr (ok_yMeth ?_))
      rw [ok_xIdx]
      refine ok_rv rv0 ?_
      rw [ok_xC, h2.idxC, ok_ok]
      refine ⟨by unfold meK; rw [lstD_at h2.ls]; rfl, ?_⟩
      rw [ok_xCons, ok_rBin]
      refine ok_rv rv2 ?_
      rw [ok_yBlt, ok_xCons, ok_xC, ok_xCons]
      refine ok_rv rv1 ?_
      rw [ok_xNil, max2_eq, ok_ok]
      have g0 : 0 < (if b > 2 then b else (2 : Int)) := by split <;> omega
      have g1 : (if b > 2 then b else (2 : Int)) < 2 ^ 40 := by split <;> omega
      generalize (if b > 2 then b else (2 : Int)) = g at g0 g1
      rw [dDiv g0 g1, ok_ok, ok_xNil, append_eq h2.ls (by omega), ok_ok]
      have h3 := h2.setC (cs' := cs' ++ [c / g]) (by simp; omega)
      refine ok_cons (ok_ret ?_)
      rw [ok_rBin]
      refine ok_rv rv2 (ok_rv rv1 ?_)
      rw [dMod b0, ok_ok]
      exact ⟨_, rfl, Int.emod_nonneg _ (by omega), Int.emod_lt_of_pos _ b0, ⟨_, _, h3⟩, f2.trans Fra.set1⟩
    · refine ok_nil ?_
      refine ok_cons (ok_asg ?_)
      rw [ok_rBin, ok_rBin, ok_xIdx]
      refine ok_rv rv0 ?_
      rw [ok_xC, h2.idxS, ok_ok]
      refine ok_rv rv2 ?_
      rw [dAdd, ok_ok, ok_xC, dMod (by decide), ok_ok]
      refine ok_gSubF (ok_rv rv0 ?_)
      rw [ok_xC, h2.setdS, ok_ok]
      have h3 := h2.setS ((s + c) % 2147483647) (Int.emod_nonneg _ (by decide)) (Int.emod_lt_of_pos _ (by decide))
      refine seq_next (ok_nil (seq_next ?_))
      exact ((draw_tail h3 b0 b1).mp (rets_imp fun d S' ⟨r, e, r0, r1, k, f⟩ => ⟨r, e, r0, r1, k, (f2.trans Fra.set2).trans f⟩))
  · refine ok_nil (seq_next ?_)
    exact ((draw_tail h1 b0 b1).mp (rets_imp fun d S' ⟨r, e, r0, r1, k, f⟩ => ⟨r, e, r0, r1, k, Fra.app.trans f⟩))
end DI
namespace DI
open PySem L2
/-- what a draw gives -/
def DrawP (j i : Nat) (b : Int) (S : Sto) (d : D) (S' : Sto) : Prop := ∃ r : Int, d = .int r ∧ 0 ≤ r ∧ r < b ∧ DK S' j i ∧ Fra i j S S'
def DrawC (c : List D → Sto → R D) : Prop := ∀ S j i b, DK S j i → 0 < b → b < 2 ^ 40 → Ok (c [.ref j, .int b] S) (DrawP j i b S)
theorem drawC_run {cs : List CF2} {k f : Nat} (hc : cs[f]? = some ⟨2, 3, fun _ => drawB⟩) : DrawC (runZ cs (k + 1) f) := fun S j i b h b0 b1 => by
  have h' := h
  obtain ⟨_, _, h'⟩ := h'
  rw [run_dk hc h'.dk]
  exact draw_ok h b0 b1
def PickP (j i : Nat) (ds : List D) (S : Sto) (d : D) (S' : Sto) : Prop := d ∈ ds ∧ DK S' j i ∧ Fra i j S S'
def PickC (c : List D → Sto → R D) : Prop := ∀ S j i m ds, DK S j i → S[m]? = some (.lst ds) → m ≠ i → ds ≠ [] → ds.length ≤ LM → Ok (c [.ref j, .ref m] S) (PickP j i ds S)
theorem len_at {S : Sto} {m : Nat} {ds : List D} (h : S[m]? = some (.lst ds)) : bltD .len [.ref m] S = .ok (.int ds.length) S := by
  unfold bltD
  simp only [seqD, h, optB]
theorem idx_at {S : Sto} {m : Nat} {ds : List D} {r : Int} (h : S[m]? = some (.lst ds)) (r0 : 0 ≤ r) (r1 : r < ds.length) : ∃ d, ds[r.toNat]? = some d ∧ idxD (.ref m) (.int r) S = .ok d S := by
  have hl : r.toNat < ds.length := by omega
  refine ⟨ds[r.toNat], List.getElem?_eq_getElem hl, ?_⟩
  simp only [idxD, h, idxO, atI, ixN, r0, r1, if_true, Option.bind, List.getElem?_eq_getElem hl, optR]
theorem pickC_run {cs : List CF2} {k f g : Nat} (hg : DrawC (runZ cs k g)) (hc : cs[f]? = some ⟨2, 2, fun cl => pickB (cl g)⟩) : PickC (runZ cs (k + 1) f) := fun S j i m ds h hm hi hn hl => by
  have h' := h
  obtain ⟨_, _, h'⟩ := h'
  rw [run_dk hc h'.dk]
  refine ok_runC rfl ?_
  show Ok (pickB (runZ cs k g) [some (.ref j), some (.ref m)] S) _
  unfold pickB
  refine ok_cons (ok_ret ?_)
  rw [ok_xIdx]
  refine ok_rv rv1 ?_
  rw [ok_xCall, ok_xCons]
  refine ok_rv rv0 ?_
  rw [ok_xCons, ok_yBlt, ok_xCons]
  refine ok_rv rv1 ?_
  rw [ok_xNil, len_at hm, ok_ok, ok_xNil]
  have hpos : 0 < ds.length := List.length_pos_iff.mpr hn
  refine (hg S j i ds.length h (by omega) (by unfold LM at hl; omega)).mp ?_
  rintro d S' ⟨r, rfl, r0, r1, hk, hf⟩
  have hmj : m ≠ j := fun e => by
    subst e
    have := h'.dk
    rw [hm] at this
    cases this
  obtain ⟨d, e1, e2⟩ := idx_at (hf.2 m _ hi hmj hm) r0 r1
  rw [e2, ok_ok]
  exact ⟨List.mem_of_getElem? e1, hk, hf⟩
/-! shifts by nothing -/
mutual
theorem shD0 : ∀ d : D, shD 0 d = d
  | .ref i => by simp [shD]
  | .tup ds => by simp only [shD, shDs0 ds]
  | .cl ds => by simp only [shD, shDs0 ds]
  | .non => rfl
  | .bl _ => rfl
  | .int _ => rfl
  | .str _ => rfl
theorem shDs0 : ∀ ds : List D, shDs 0 ds = ds
  | [] => rfl
  | d :: ds => by simp only [shDs, shD0 d, shDs0 ds]
end
theorem shK0 : ∀ l : List (Key × D), shK 0 l = l
  | [] => rfl
  | (k, d) :: r => by simp only [shK, shD0 d, shK0 r]
theorem shO0 (o : O) : shO 0 o = o := by
  cases o <;> simp only [shO, shDs0, shK0]
theorem shS0 (S : Sto) : S.map (shO 0) = S := by
  rw [show (shO 0) = id from funext shO0, List.map_id]
theorem rfs_ints : ∀ ns : List Int, rfs (ns.map .int) = true
  | [] => rfl
  | n :: ns => by
    show (true && rfs (ns.map .int)) = true
    rw [rfs_ints ns]
    rfl
theorem seqD_at {S : Sto} {m : Nat} {ds : List D} (h : S[m]? = some (.lst ds)) : seqD S (.ref m) = some ds := by
  simp only [seqD, h]
theorem seqS_at {S : Sto} {m : Nat} {ds : List D} (h : S[m]? = some (.lst ds)) : seqS (.ref m) S = .ok (.lst m) S := by
  simp only [seqS, seqD_at h, Option.isSome, ifR]
theorem srcL {S : Sto} {m i : Nat} {ds : List D} (h : S[m]? = some (.lst ds)) : srcAt (.lst m) i S = some ds[i]? := by
  simp only [srcAt, h]
def DeckP (S : Sto) (d : D) (S' : Sto) : Prop := ∃ j i, d = .ref j ∧ DK S' j i ∧ Ext' S S' ∧ S.length ≤ j ∧ S.length ≤ i
theorem deck_ok {cl : Cl} {S : Sto} {a : D} {ns : List Int} (hsl : ∃ u, u ≤ 63 ∧ sliceD a none (some 63) S = .ok (.ref S.length) (S ++ [.lst ((ns.take u).map .int)])) : Ok (runC ⟨1, 4, fun _ => deckB⟩ cl [a] S) (DeckP S) := by
  obtain ⟨u, hu, hsl⟩ := hsl
  generalize hms : ns.take u = ms at hsl
  have hml : ms.length ≤ 63 := by
    rw [← hms, List.length_take]
    omega
  refine ok_runC rfl ?_
  show Ok (deckB [some a, none, none, none] S) _
  unfold deckB
  refine ok_cons (ok_par2 ?_)
  rw [ok_rComp, ok_iSeq, ok_ySlice]
  refine ok_rv rv0 ?_
  rw [show oNone [some a, none, none, none] S = .ok none S from rfl, ok_ok, show oSome (xC (.int 63)) [some a, none, none, none] S = .ok (some 63) S from rfl, ok_ok, hsl, ok_ok, seqS_at get_new, ok_ok]
  refine ok_noX (ok_comp (fun i acc S' => S' = S ++ [.lst (ms.map .int)] ∧ acc = (ms.take i).map .int) (ms.map .int) (by simp [LM]; omega) ⟨rfl, by simp⟩ ?_ ?_ ?_)
  · rintro i acc S' ⟨rfl, -⟩
    exact srcL get_new
  · rintro i d acc S' hd ⟨rfl, rfl⟩
    rw [List.getElem?_map] at hd
    cases hi : ms[i]? with
    | none => rw [hi] at hd; cases hd
    | some z =>
      rw [hi] at hd
      cases hd
      refine ok_xTurn ?_
      rw [show rName 1 (.int z) (wipeD [some a, none, none, none] [1]) (S ++ [.lst (ms.map .int)]) = .ok [some a, some (.int z), none, none] (S ++ [.lst (ms.map .int)]) from rfl, ok_ok, ok_tBl]
      refine ⟨fun _ => ?_, fun z => by cases z⟩
      rw [ok_yBlt, ok_xCons]
      refine ok_rv rv1 ?_
      rw [ok_xNil, show ∀ S, bltD .int [.int z] S = .ok (.int z) S from fun _ => rfl, ok_ok]
      refine ⟨rfl, ?_⟩
      obtain ⟨hil, hiz⟩ := List.getElem?_eq_some_iff.mp hi
      rw [List.take_add_one, hi]
      simp
  · rintro acc S' - ⟨rfl, rfl⟩
    rw [List.length_map, List.take_length, ok_xC]
    generalize hS1 : S ++ [O.lst (ms.map .int)] ++ [O.lst (ms.map .int)] = S1
    have hx : S1[(S ++ [O.lst (ms.map .int)]).length]? = some (.lst (ms.map .int)) := by
      rw [← hS1]
      exact get_new
    have hE : Ext' S S1 := ⟨[O.lst (ms.map .int), O.lst (ms.map .int)], by rw [← hS1, List.append_assoc]; rfl⟩
    generalize (S ++ [O.lst (ms.map .int)]).length = m at hx
    refine ok_cons (ok_sfor ?_)
    rw [ok_iSeq]
    refine ok_rv (d := .ref m) rfl ?_
    rw [seqS_at hx, ok_ok]
    refine ok_for (fun _ q S' => S' = S1 ∧ ∃ x s, q = [some a, x, some (.ref m), some (.int s)] ∧ 0 ≤ s ∧ s < 2147483647) (ms.map .int) (by simp [LM]; omega) ⟨rfl, none, 1087517, rfl, by decide, by decide⟩ ?_ ?_ ?_
    · rintro i q S' ⟨rfl, -⟩
      exact srcL hx
    · rintro i d q S' hd ⟨rfl, x, s, rfl, s0, s1⟩
      rw [List.getElem?_map] at hd
      cases hi : ms[i]? with
      | none => rw [hi] at hd; cases hd
      | some z =>
        rw [hi] at hd
        cases hd
        refine ok_bindE ?_
        rw [rn1, ok_ok]
        refine ok_cons (ok_asg ?_)
        rw [ok_rBin, ok_rBin, ok_rBin, ok_rBin]
        refine ok_rv rv3 ?_
        rw [ok_xC, dMul (by omega) (by decide), ok_ok, ok_rBin]
        refine ok_rv rv1 ?_
        rw [ok_xC, dMod (by decide), ok_ok, dAdd, ok_ok, ok_xC, dAdd, ok_ok, ok_xC, dMod (by decide), ok_ok, rn3, ok_ok]
        exact ⟨rfl, _, _, rfl, Int.emod_nonneg _ (by decide), Int.emod_lt_of_pos _ (by decide)⟩
    · rintro q S' ⟨rfl, x, s, rfl, s0, s1⟩
      refine seq_next (ok_cons (ok_ret ?_))
      have er : xRev (rVar 2) [some a, x, some (.ref m), some (.int s)] S' = .ok (.ref S'.length) (S' ++ [.lst (ms.map D.int).reverse]) := by
        unfold xRev
        rw [rv2, bind_ok]
        unfold revD
        dsimp only
        rw [lstD_at hx]
        rfl
      have ed : xDict [.inr sC, .inr sS] (xCons (xRev (rVar 2)) (xCons (rVar 3) xNil)) [some a, x, some (.ref m), some (.int s)] S' = .ok (.ref (S'.length + 1)) (S' ++ [.lst (ms.map D.int).reverse] ++ [dkO S'.length s]) := by
        unfold xDict xCons
        simp only [er, bind_ok, rv3, xNil]
        rw [show decide (([.inr sC, .inr sS] : List Key).length = [D.ref S'.length, D.int s].length ∧ ([.inr sC, .inr sS] : List Key).Nodup) = true from decide_eq_true ⟨rfl, by decide⟩]
        simp [ifR, dkO]
      rw [ed]
      refine ⟨S'.length + 1, S'.length, rfl, ⟨ms.reverse, s, ?_, ?_, by simpa using hml, s0, s1⟩, (hE.trans Ext'.app).trans Ext'.app, ?_, ?_⟩
      · rw [show S'.length + 1 = (S' ++ [O.lst (ms.map D.int).reverse]).length by simp]
        exact get_new
      · rw [List.map_reverse]
        exact get_old get_new
      · obtain ⟨T, e⟩ := hE
        rw [e]
        simp
        omega
      · obtain ⟨T, e⟩ := hE
        rw [e]
        simp
theorem deck_fz {cs : List CF2} {k f : Nat} (hc : cs[f]? = some ⟨1, 4, fun _ => deckB⟩) (ns : List Int) : Ok (runZ cs (k + 1) f [.ref 0] [.fz (ns.map .int)]) (DeckP [.fz (ns.map .int)]) := by
  rw [run_at hc, runY_eq]
  have h : Ok (runC ⟨1, 4, fun _ => deckB⟩ (runZ cs k) [.ref 0] [.fz (ns.map .int)]) (DeckP [.fz (ns.map .int)]) := by
    refine deck_ok (ns := ns) ⟨min 63 ns.length, by omega, ?_⟩
    show R.ok (D.ref 1) ([O.fz (ns.map .int)] ++ [O.lst (cut (ns.map D.int) none (some 63))]) = _
    have e : cut (ns.map D.int) none (some 63) = (ns.take (min 63 ns.length)).map .int := by
      unfold cut
      rw [HT.sIx_none]
      have e63 : HT.sIx (ns.map D.int).length (ns.map D.int).length (some 63) = min 63 (ns.map D.int).length := HT.sIx_nat _ _ 63
      rw [e63]
      simp [List.map_take]
    rw [e]
    rfl
  obtain ⟨d, S1, e, h⟩ := h.ex
  obtain ⟨j, i, rfl, hk, hE, hj, hi⟩ := h
  unfold pureC
  rw [show rfs [.ref 0] = false from rfl]
  dsimp only
  have hiso : isoR (runC ⟨1, 4, fun _ => deckB⟩ (runZ cs k)) [.ref 0] [.fz (ns.map .int)] = none := by
    unfold isoR
    rw [show refsD [.ref 0] = some [0] from rfl]
    dsimp only
    rw [show subS [.fz (ns.map .int)] [0] = some [.fz (ns.map .int)] by
      unfold subS
      rw [show ([O.fz (ns.map D.int)] : List O)[0]? = some (O.fz (ns.map D.int)) from rfl]
      dsimp only
      rw [show flatO (.fz (ns.map .int)) = true from rfs_ints ns]
      rfl]
    dsimp only
    rw [show renD 0 [.ref 0] = [.ref 0] from rfl, e]
    obtain ⟨T, rfl⟩ := hE
    dsimp only
    rw [show backS [.fz (ns.map .int)] [0] ([.fz (ns.map .int)] ++ T) = some [.fz (ns.map .int)] by
      show (if flatO (.fz (ns.map .int)) then backS _ [] T else none) = _
      rw [show flatO (.fz (ns.map .int)) = true from rfs_ints ns, if_pos rfl]
      unfold backS
      rfl]
    dsimp only
    rw [show rf (.ref j) = false from rfl]
    dsimp only
    obtain ⟨cs', s', hk⟩ := hk
    rw [show newR [0].length (.ref j) ([.fz (ns.map .int)] ++ T) = none by
      unfold newR
      dsimp only
      rw [if_pos (show [0].length ≤ j from hj)]
      unfold lstRf
      dsimp only
      rw [hk.dk]
      rfl]
  rw [hiso]
  dsimp only
  rw [e]
  exact ⟨j, i, rfl, hk, hE, hj, hi⟩
theorem deck_cl {cs : List CF2} {k f : Nat} (hc : cs[f]? = some ⟨1, 4, fun _ => deckB⟩) (ns : List Int) : Ok (runZ cs (k + 1) f [.cl (ns.map .int)] []) (DeckP []) := by
  rw [run_at hc, runY_eq]
  have h : Ok (runC ⟨1, 4, fun _ => deckB⟩ (runZ cs k) [.cl (ns.map .int)] []) (DeckP []) := by
    refine deck_ok (ns := ns) ⟨min 63 ns.length, by omega, ?_⟩
    show R.ok (D.ref 0) ([] ++ [O.lst (cut (ns.map D.int) none (some 63))]) = _
    have e : cut (ns.map D.int) none (some 63) = (ns.take (min 63 ns.length)).map .int := by
      unfold cut
      rw [HT.sIx_none]
      have e63 : HT.sIx (ns.map D.int).length (ns.map D.int).length (some 63) = min 63 (ns.map D.int).length := HT.sIx_nat _ _ 63
      rw [e63]
      simp [List.map_take]
    rw [e]
    rfl
  obtain ⟨d, S1, e, h⟩ := h.ex
  obtain ⟨j, i, rfl, hk, hE, hj, hi⟩ := h
  unfold pureC
  rw [show rfs [.cl (ns.map .int)] = true by
    show (rfs (ns.map .int) && true) = true
    rw [rfs_ints]
    rfl]
  dsimp only
  rw [e]
  dsimp only
  unfold adoptR
  rw [show rf (.ref j) = false from rfl]
  dsimp only
  obtain ⟨cs', s', hk⟩ := hk
  rw [show lstRf (.ref j) S1 = none by
    unfold lstRf
    dsimp only
    rw [hk.dk]
    rfl]
  dsimp only
  rw [show ([] : Sto).length = 0 from rfl, shD0, shS0, List.nil_append]
  exact ⟨j, i, rfl, ⟨cs', s', hk⟩, hE, hj, hi⟩
end DI
namespace DI
open PySem L2
/-! comparing plain data of ints and tuples -/
mutual
def okI : D → Bool
  | .int _ => true
  | .tup ds => okIs ds
  | _ => false
def okIs : List D → Bool
  | [] => true
  | d :: ds => okI d && okIs ds
end
mutual
def pyI : D → PyData
  | .int i => .int i
  | .tup ds => .tuple (pyIs ds)
  | _ => .none
def pyIs : List D → List PyData
  | [] => []
  | d :: ds => pyI d :: pyIs ds
end
mutual
def dpI : D → Nat
  | .tup ds => dpIs ds + 1
  | _ => 0
def dpIs : List D → Nat
  | [] => 0
  | d :: ds => max (dpI d) (dpIs ds)
end
theorem pyD_tup (n : Nat) (S : Sto) (ds : List D) : pyD (n + 1) S (.tup ds) = (optAll (ds.map (pyD n S))).map .tuple := rfl
theorem pyD_int (n : Nat) (S : Sto) (i : Int) : pyD (n + 1) S (.int i) = some (.int i) := rfl
theorem optAll_consE {A : Type} {x : Option A} {xs : List (Option A)} {a : A} {r : List A} (h : x = some a) (h2 : optAll xs = some r) : optAll (x :: xs) = some (a :: r) := by
  subst h
  simp only [optAll, h2]
mutual
theorem pyD_okI (S : Sto) : ∀ (d : D) (n : Nat), okI d = true → dpI d < n → pyD n S d = some (pyI d)
  | .int i, n + 1, _, _ => rfl
  | .tup ds, n + 1, h, hd => by
    rw [pyD_tup, pyDs_okI S ds n (by simpa [okI] using h) (by simp only [dpI] at hd; omega)]
    simp only [pyI, Option.map]
  | .int i, 0, _, hd => by omega
  | .tup ds, 0, _, hd => by omega
  | .non, _, h, _ => by simp [okI] at h
  | .bl _, _, h, _ => by simp [okI] at h
  | .str _, _, h, _ => by simp [okI] at h
  | .ref _, _, h, _ => by simp [okI] at h
  | .cl _, _, h, _ => by simp [okI] at h
theorem pyDs_okI (S : Sto) : ∀ (ds : List D) (n : Nat), okIs ds = true → dpIs ds < n → optAll (ds.map (pyD n S)) = some (pyIs ds)
  | [], n, _, _ => by simp [optAll, pyIs]
  | d :: ds, n, h, hd => by
    simp only [okIs, Bool.and_eq_true] at h
    simp only [dpIs] at hd
    rw [List.map_cons]
    exact optAll_consE (pyD_okI S d n h.1 (by omega)) (pyDs_okI S ds n h.2 (by omega))
end
mutual
theorem lay_okI : ∀ d : D, okI d = true → (pyI d).canLay0 = true ∧ (pyI d).depth = dpI d
  | .int i, _ => by simp [pyI, PyData.canLay0, PyData.depth, dpI]
  | .tup ds, h => by
    have z := lays_okI ds (by simpa [okI] using h)
    simp only [pyI, PyData.canLay0, PyData.depth, dpI]
    exact ⟨z.1, by rw [z.2]⟩
  | .non, h => by simp [okI] at h
  | .bl _, h => by simp [okI] at h
  | .str _, h => by simp [okI] at h
  | .ref _, h => by simp [okI] at h
  | .cl _, h => by simp [okI] at h
theorem lays_okI : ∀ ds : List D, okIs ds = true → PyData.canLayAll0 (pyIs ds) = true ∧ PyData.depthAll (pyIs ds) = dpIs ds
  | [], _ => by simp [pyIs, PyData.canLayAll0, PyData.depthAll, dpIs]
  | d :: ds, h => by
    simp only [okIs, Bool.and_eq_true] at h
    have a := lay_okI d h.1
    have b := lays_okI ds h.2
    simp only [pyIs, PyData.canLayAll0, PyData.depthAll, dpIs, Bool.and_eq_true]
    exact ⟨⟨a.1, b.1⟩, by rw [a.2, b.2]⟩
end
theorem shaped_okI {d : D} (h : okI d = true) (hd : dpI d ≤ 60) : SeqAt.shaped (pyI d) = true := by
  obtain ⟨a, b⟩ := lay_okI d h
  unfold SeqAt.shaped
  rw [a, b]
  simp
  omega
mutual
theorem eqv_okI : ∀ d e : D, okI d = true → okI e = true → PyData.eqv (pyI d) (pyI e) = eqb d e
  | .int i, .int j, _, _ => by simp only [pyI, PyData.eqv, eqb]
  | .int i, .tup es, _, _ => by simp only [pyI, PyData.eqv, eqb]
  | .tup ds, .int j, _, _ => by simp only [pyI, PyData.eqv, eqb]
  | .tup ds, .tup es, h, h2 => by
    simp only [pyI, PyData.eqv, eqb]
    exact eqvs_okI ds es (by simpa [okI] using h) (by simpa [okI] using h2)
  | .non, _, h, _ => by simp [okI] at h
  | .bl _, _, h, _ => by simp [okI] at h
  | .str _, _, h, _ => by simp [okI] at h
  | .ref _, _, h, _ => by simp [okI] at h
  | .cl _, _, h, _ => by simp [okI] at h
  | .int _, .non, _, h => by simp [okI] at h
  | .int _, .bl _, _, h => by simp [okI] at h
  | .int _, .str _, _, h => by simp [okI] at h
  | .int _, .ref _, _, h => by simp [okI] at h
  | .int _, .cl _, _, h => by simp [okI] at h
  | .tup _, .non, _, h => by simp [okI] at h
  | .tup _, .bl _, _, h => by simp [okI] at h
  | .tup _, .str _, _, h => by simp [okI] at h
  | .tup _, .ref _, _, h => by simp [okI] at h
  | .tup _, .cl _, _, h => by simp [okI] at h
theorem eqvs_okI : ∀ ds es : List D, okIs ds = true → okIs es = true → PyData.eqvAll (pyIs ds) (pyIs es) = eqbs ds es
  | [], [], _, _ => by simp only [pyIs, PyData.eqvAll, eqbs]
  | [], e :: es, _, _ => by simp only [pyIs, PyData.eqvAll, eqbs]
  | d :: ds, [], _, _ => by simp only [pyIs, PyData.eqvAll, eqbs]
  | d :: ds, e :: es, h, h2 => by
    simp only [okIs, Bool.and_eq_true] at h h2
    simp only [pyIs, PyData.eqvAll, eqbs, eqv_okI d e h.1 h2.1, eqvs_okI ds es h.2 h2.2]
end
theorem eqD_okI {S : Sto} {d e : D} (h : okI d = true) (h2 : okI e = true) (hd : dpI d ≤ 50) (he : dpI e ≤ 50) : eqD S d e = some (eqb d e) := by
  unfold eqD
  rw [pyD_okI S d 60 h (by omega), pyD_okI S e 60 h2 (by omega)]
  dsimp only
  rw [shaped_okI h (by omega), shaped_okI h2 (by omega), eqv_okI d e h h2]
  rfl
mutual
theorem eqb_refl : ∀ d : D, okI d = true → eqb d d = true
  | .int i, _ => by simp [eqb]
  | .tup ds, h => by
    simp only [eqb]
    exact eqbs_refl ds (by simpa [okI] using h)
  | .non, h => by simp [okI] at h
  | .bl _, h => by simp [okI] at h
  | .str _, h => by simp [okI] at h
  | .ref _, h => by simp [okI] at h
  | .cl _, h => by simp [okI] at h
theorem eqbs_refl : ∀ ds : List D, okIs ds = true → eqbs ds ds = true
  | [], _ => by simp [eqbs]
  | d :: ds, h => by
    simp only [okIs, Bool.and_eq_true] at h
    simp only [eqbs, eqb_refl d h.1, eqbs_refl ds h.2]
    rfl
end
mutual
theorem rf_okI : ∀ d : D, okI d = true → rf d = true
  | .int i, _ => rfl
  | .tup ds, h => by
    simp only [rf]
    exact rfs_okI ds (by simpa [okI] using h)
  | .non, h => by simp [okI] at h
  | .bl _, h => by simp [okI] at h
  | .str _, h => by simp [okI] at h
  | .ref _, h => by simp [okI] at h
  | .cl _, h => by simp [okI] at h
theorem rfs_okI : ∀ ds : List D, okIs ds = true → rfs ds = true
  | [], _ => rfl
  | d :: ds, h => by
    simp only [okIs, Bool.and_eq_true] at h
    simp only [rfs, rf_okI d h.1, rfs_okI ds h.2]
    rfl
end
theorem okIs_ints : ∀ ns : List Int, okIs (ns.map .int) = true
  | [] => rfl
  | n :: ns => by simp only [List.map_cons, okIs, okI, okIs_ints ns]; rfl
/-- a call of plain data in its own store -/
theorem pure_sym {cs : List CF2} {k f : Nat} {c : CF2} (hc : cs[f]? = some c) {ds : List D} {v : D} (hr : rfs ds = true) (hv : rf v = true) (h : Ok (runC c (runZ cs k) ds []) fun d _ => d = v) (S : Sto) : runZ cs (k + 1) f ds S = .ok v S := by
  obtain ⟨d, S1, e, rfl⟩ := h.ex
  rw [run_at hc, runY_eq]
  exact pure_ret hr e hv S
/-- a call that is given one list of plain data, told by itself and its number -/
theorem iso_sym {cs : List CF2} {k f : Nat} {c : CF2} (hc : cs[f]? = some c) {a : D} {xs : List D} {v : D} {m : Nat} {S : Sto} (ha : rf a = true) (hm : S[m]? = some (.lst xs)) (hx : rfs xs = true) (hv : rf v = true)
    (h : Ok (runC c (runZ cs k) [a, .ref 0] [.lst xs]) fun d S' => d = v ∧ ∃ T, S' = [.lst xs] ++ T) : runZ cs (k + 1) f [a, .ref m] S = .ok v S := by
  obtain ⟨d, S1, e, rfl, T, rfl⟩ := h.ex
  rw [run_at hc, runY_eq]
  unfold pureC
  rw [show rfs [a, .ref m] = false by simp [rfs, rf]]
  dsimp only
  have hiso : isoR (runC c (runZ cs k)) [a, .ref m] S = some (.ok d S) := by
    unfold isoR
    have e1 : refsD [a, .ref m] = some [m] := by
      cases a <;> first | (cases ha; done) | (simp [refsD, ha])
    rw [e1]
    dsimp only
    have e2 : subS S [m] = some [.lst xs] := by
      simp only [subS, hm, flatO, hx]
      rfl
    rw [e2]
    dsimp only
    have e3 : renD 0 [a, .ref m] = [a, .ref 0] := by
      cases a <;> first | (cases ha; done) | rfl
    rw [e3, e]
    dsimp only
    have e4 : backS S [m] ([.lst xs] ++ T) = some S := by
      show (if flatO (.lst xs) then backS (S.set m (.lst xs)) [] T else none) = _
      rw [show flatO (.lst xs) = true from hx, if_pos rfl]
      unfold backS
      obtain ⟨hl, hg⟩ := List.getElem?_eq_some_iff.mp hm
      rw [show S.set m (.lst xs) = S by rw [← hg]; simp]
    rw [e4]
    dsimp only
    rw [hv]
  rw [hiso]
/-! items of tuples -/
theorem atI_nat {A : Type} (xs : List A) (i : Nat) (h : i < xs.length) : atI xs (i : Int) = xs[i]? := by
  simp only [atI, ixN]
  rw [if_pos (by omega), if_pos (by omega)]
  simp
theorem idx_tup {ds : List D} {i : Nat} {d : D} {S : Sto} (h : ds[i]? = some d) : idxD (.tup ds) (.int i) S = .ok d S := by
  have hl : i < ds.length := (List.getElem?_eq_some_iff.mp h).1
  unfold idxD
  dsimp only
  rw [atI_nat ds i hl, h]
  rfl
theorem rng_src (n i : Nat) (S : Sto) : srcAt (.rng 0 n) i S = some ((List.range n).map fun t : Nat => D.int t)[i]? := by
  unfold srcAt
  dsimp only
  by_cases h : i < n
  · rw [if_pos h]
    simp [h]
  · rw [if_neg h, List.getElem?_eq_none (by simpa using h)]
theorem rngS_nat {n : Nat} {S : Sto} (h : n < 1000000) : rngS [.int n] S = .ok (.rng 0 n) S := by
  unfold rngS
  dsimp only
  rw [decide_eq_true (show -(2 : Int) ^ 62 ≤ n ∧ (n : Int) < 2 ^ 62 by omega)]
  simp [ifR]
end DI
/-! DI: weakest readings of the pieces as equivalences, for simp; calls of plain data. -/
namespace DI
open PySem L2
section
variable {A B : Type} {a : A} {S : Sto} {q : En} {Q : A → Sto → Prop} {E : XN → Sto → Prop} {d e : D}
theorem w_ok : (R.ok a S).holds Q E ↔ Q a S := Iff.rfl
theorem w_exn {x : XN} : (R.exn x S : R A).holds Q E ↔ E x S := Iff.rfl
theorem w_stk : (R.stk : R A).holds Q E ↔ False := Iff.rfl
theorem w_bind {r : R B} {f : B → Sto → R A} : (r.bind f).holds Q E ↔ r.holds (fun a S => (f a S).holds Q E) E := holds_bind
theorem w_bindE {r : R A} {f : A → Sto → R Fl} {Q : Fl → Sto → Prop} : (bindE q r f).holds Q E ↔ r.holds (fun a S => (f a S).holds Q E) (fun x S => Q (.exn x q) S) := by
  cases r <;> exact Iff.rfl
theorem w_ifR {b : Bool} {r : R A} : (ifR b r).holds Q E ↔ b = true ∧ r.holds Q E := by
  cases b
  · exact ⟨fun h => h.elim, fun h => by cases h.1⟩
  · exact ⟨fun h => ⟨rfl, h⟩, fun h => h.2⟩
theorem w_optS : (optR (some a) S).holds Q E ↔ Q a S := Iff.rfl
theorem w_noX {r : R A} : (noX r).holds Q E ↔ r.holds Q (fun _ _ => False) := by
  cases r <;> exact Iff.rfl
/-- a value that is to be a Bool -/
def asB (Q : Bool → Sto → Prop) : D → Sto → Prop
  | .bl b, S => Q b S
  | _, _ => False
theorem asB_bl {Q : Bool → Sto → Prop} {b : Bool} : asB Q (.bl b) S ↔ Q b S := Iff.rfl
def asI (Q : Int → Sto → Prop) : D → Sto → Prop
  | .int b, S => Q b S
  | _, _ => False
theorem asI_int {Q : Int → Sto → Prop} {b : Int} : asI Q (.int b) S ↔ Q b S := Iff.rfl
theorem lk0 {x : Option D} : lkD (x :: q) 0 = x := by cases x <;> rfl
theorem lkS {x : Option D} {n : Nat} : lkD (x :: q) (n + 1) = lkD q n := by
  unfold lkD
  rw [List.getElem?_cons_succ]
end
section
variable {S : Sto} {q : En} {Q : D → Sto → Prop} {E : XN → Sto → Prop} {QT : Bool → Sto → Prop} {Ql : List D → Sto → Prop} {d e : D} {a b c : XE} {ta tb : XT} {es ks : XEs}
theorem w_rVar {i : Nat} : (rVar i q S).holds Q E ↔ (optR (lkD q i) S).holds Q E := by rw [rVar_eq]; exact Iff.rfl
theorem w_xC : (xC d q S).holds Q E ↔ Q d S := Iff.rfl
theorem w_xNil : (xNil q S).holds Ql E ↔ Ql [] S := Iff.rfl
theorem w_xCons : (xCons a es q S).holds Ql E ↔ (a q S).holds (fun d S => (es q S).holds (fun ds S => Ql (d :: ds) S) E) E := by
  unfold xCons
  rw [w_bind]
  simp only [w_bind, w_ok]
theorem w_xTup : (xTup es q S).holds Q E ↔ (es q S).holds (fun ds S => ds.length ≤ LM ∧ Q (.tup ds) S) E := by
  unfold xTup
  simp only [w_bind, w_ifR, w_ok, decide_eq_true_eq]
theorem w_rLst : (rLst es q S).holds Q E ↔ (es q S).holds (fun ds S => ds.length ≤ LM ∧ Q (.ref S.length) (S ++ [.lst ds])) E := by
  rw [rLst_eq]
  unfold xLst
  simp only [w_bind, w_ifR, w_ok, decide_eq_true_eq]
theorem w_rBin {op : Operator} : (rBin op a b q S).holds Q E ↔ (a q S).holds (fun d S => (b q S).holds (fun e S => (opD op d e S).holds Q E) E) E := by
  rw [rBin_eq]
  unfold xBin
  simp only [w_bind]
theorem w_xNeg : (xNeg a q S).holds Q E ↔ (a q S).holds (asI fun i S => Q (.int (-i)) S) E := by
  unfold xNeg
  rw [w_bind]
  refine iff_of_eq (congrArg (fun z => (a q S).holds z E) ?_)
  funext d S
  cases d <;> rfl
theorem w_yCmp {op : CmpOp} : (yCmp op a b q S).holds Q E ↔ (a q S).holds (fun d S => (b q S).holds (fun e S => (cmpD op d e S).holds Q E) E) E := by
  rw [yCmp_eq]
  unfold xCmp
  simp only [w_bind]
theorem w_uCmp {op : CmpOp} : (uCmp op a b q S).holds QT E ↔ (a q S).holds (fun d S => (b q S).holds (fun e S => (cmpD op d e S).holds (asB QT) E) E) E := by
  rw [uCmp_eq]
  unfold tCmp
  rw [w_bind]
  refine iff_of_eq (congrArg (fun z => (a q S).holds z E) ?_)
  funext d S
  rw [w_bind]
  refine congrArg (fun z => (b q S).holds z E) ?_
  funext e S
  rw [w_bind]
  refine congrArg (fun z => (cmpD op d e S).holds z E) ?_
  funext x S
  cases x <;> rfl
def andW (f : Prop) (Q : D → Sto → Prop) (b : Bool) (S : Sto) : Prop := match b with
  | true => f
  | false => Q (.bl false) S
theorem w_xAndV : (xAndV a b q S).holds Q E ↔ (a q S).holds (asB fun t S => if t = true then (b q S).holds Q E else Q (.bl false) S) E := by
  unfold xAndV
  rw [w_bind]
  refine iff_of_eq (congrArg (fun z => (a q S).holds z E) ?_)
  funext d S
  cases d with
  | bl t => cases t <;> simp [asB, w_ok]
  | _ => rfl
theorem w_xOrV : (xOrV a b q S).holds Q E ↔ (a q S).holds (asB fun t S => if t = true then Q (.bl true) S else (b q S).holds Q E) E := by
  unfold xOrV
  rw [w_bind]
  refine iff_of_eq (congrArg (fun z => (a q S).holds z E) ?_)
  funext d S
  cases d with
  | bl t => cases t <;> simp [asB, w_ok]
  | _ => rfl
theorem w_xNot : (xNot a q S).holds Q E ↔ (a q S).holds (asB fun t S => Q (.bl (!t)) S) E := by
  unfold xNot
  rw [w_bind]
  refine iff_of_eq (congrArg (fun z => (a q S).holds z E) ?_)
  funext d S
  cases d <;> rfl
theorem w_xIte : (xIte ta a b q S).holds Q E ↔ (ta q S).holds (fun t S => if t = true then (a q S).holds Q E else (b q S).holds Q E) E := by
  unfold xIte
  rw [w_bind]
  refine iff_of_eq (congrArg (fun z => (ta q S).holds z E) ?_)
  funext t S
  cases t <;> simp
theorem w_xChain {op op2 : CmpOp} : (xChain op op2 a b c q S).holds Q E ↔ (a q S).holds (fun d S => (b q S).holds (fun e S => (cmpD op d e S).holds (asB fun t S => if t = true then (c q S).holds (fun f S => (cmpD op2 e f S).holds Q E) E else Q (.bl false) S) E) E) E := by
  unfold xChain
  simp only [w_bind]
  refine iff_of_eq (congrArg (fun z => (a q S).holds z E) ?_)
  funext d S
  refine congrArg (fun z => (b q S).holds z E) ?_
  funext e S
  refine congrArg (fun z => (cmpD op d e S).holds z E) ?_
  funext x S
  cases x with
  | bl t => cases t <;> simp [asB, w_ok, w_bind]
  | _ => rfl
theorem w_xIdx : (xIdx a b q S).holds Q E ↔ (a q S).holds (fun d S => (b q S).holds (fun e S => (idxD d e S).holds Q E) E) E := by
  unfold xIdx
  simp only [w_bind]
theorem w_xCall {f : List D → Sto → R D} : (xCall f es q S).holds Q E ↔ (es q S).holds (fun ds S => (f ds S).holds Q E) E := w_bind
theorem w_xCallk {f : List D → Sto → R D} {np nk : Nat} {perm : List Nat} : (xCallk f np nk perm es ks q S).holds Q E ↔ (es q S).holds (fun ds S => (ks q S).holds (fun zs S => (ds.length = np ∧ zs.length = nk) ∧ (f (perm.map fun j => (ds ++ zs).getD j .non) S).holds Q E) E) E := by
  unfold xCallk
  simp only [w_bind, w_ifR, decide_eq_true_eq]
theorem w_yBlt {b : Bl} : (yBlt b es q S).holds Q E ↔ (es q S).holds (fun ds S => (bltD b ds S).holds Q E) E := by
  rw [yBlt_eq]
  exact w_bind
theorem w_xLrng : (xLrng es q S).holds Q E ↔ (es q S).holds (fun ds S => (lrD ds S).holds Q E) E := w_bind
theorem w_optB {A B : Type} {o : Option A} {f : A → R B} {Q : B → Sto → Prop} : (optB o f).holds Q E ↔ ∃ x, o = some x ∧ (f x).holds Q E := by
  cases o with
  | none => exact ⟨fun h => h.elim, fun ⟨_, h, _⟩ => by cases h⟩
  | some x => exact ⟨fun h => ⟨x, rfl, h⟩, fun ⟨_, h, g⟩ => by cases h; exact g⟩
theorem w_xIsi {ts : List Nat} : (xIsi ts a q S).holds Q E ↔ (a q S).holds (fun d S => ∃ t, typD S d = some t ∧ Q (.bl (ts.any (isiD t))) S) E := by
  unfold xIsi
  simp only [w_bind, w_optB, w_ok]
theorem w_yMeth {m : Me} : (yMeth m a es q S).holds Q E ↔ (a q S).holds (fun d S => meK m d S = true ∧ (es q S).holds (fun ds S => (methD m d ds S).holds Q E) E) E := by
  rw [yMeth_eq]
  unfold xMeth
  simp only [w_bind, w_ifR]
theorem w_ySlice {lo hi : En → Sto → R (Option Int)} : (ySlice a lo hi q S).holds Q E ↔ (a q S).holds (fun d S => (lo q S).holds (fun l S => (hi q S).holds (fun h S => (sliceD d l h S).holds Q E) E) E) E := by
  rw [ySlice_eq]
  unfold xSlice
  simp only [w_bind]
theorem w_oNone {Qo : Option Int → Sto → Prop} : (oNone q S).holds Qo E ↔ Qo none S := Iff.rfl
theorem w_oSome {Qo : Option Int → Sto → Prop} : (oSome a q S).holds Qo E ↔ (a q S).holds (asI fun i S => Qo (some i) S) E := by
  unfold oSome
  rw [w_bind]
  refine iff_of_eq (congrArg (fun z => (a q S).holds z E) ?_)
  funext d S
  cases d <;> rfl
theorem w_xRev : (xRev a q S).holds Q E ↔ (a q S).holds (fun d S => (revD d S).holds Q E) E := w_bind
theorem w_xDict {kk : List Key} : (xDict kk es q S).holds Q E ↔ (es q S).holds (fun ds S => (kk.length = ds.length ∧ kk.Nodup) ∧ Q (.ref S.length) (S ++ [.dk (kk.zip ds)])) E := by
  unfold xDict
  simp only [w_bind, w_ifR, w_ok, decide_eq_true_eq]
/-! tests -/
theorem w_tAnd : (tAnd ta tb q S).holds QT E ↔ (ta q S).holds (fun t S => if t = true then (tb q S).holds QT E else QT false S) E := by
  unfold tAnd
  rw [w_bind]
  refine iff_of_eq (congrArg (fun z => (ta q S).holds z E) ?_)
  funext t S
  cases t <;> simp [w_ok]
theorem w_tOr : (tOr ta tb q S).holds QT E ↔ (ta q S).holds (fun t S => if t = true then QT true S else (tb q S).holds QT E) E := by
  unfold tOr
  rw [w_bind]
  refine iff_of_eq (congrArg (fun z => (ta q S).holds z E) ?_)
  funext t S
  cases t <;> simp [w_ok]
theorem w_tNot : (tNot ta q S).holds QT E ↔ (ta q S).holds (fun t S => QT (!t) S) E := by
  unfold tNot
  rw [w_bind]
  exact Iff.rfl
theorem w_tBl {t : Bool} : (tBl t q S).holds QT E ↔ QT t S := Iff.rfl
theorem w_optT {A : Type} {o : Option A} {Q : A → Sto → Prop} : (optR o S).holds Q E ↔ ∃ x, o = some x ∧ Q x S := by
  cases o with
  | none => exact ⟨fun h => h.elim, fun ⟨_, h, _⟩ => by cases h⟩
  | some x => exact ⟨fun h => ⟨x, rfl, h⟩, fun ⟨_, h, g⟩ => by cases h; exact g⟩
theorem w_rvVar {i : Nat} : (rvVar i q S).holds QT E ↔ (optR (lkD q i) S).holds (fun d S => ∃ t, truD S d = some t ∧ QT t S) E := by
  rw [rvVar_eq]
  unfold tVar
  simp only [w_bind, w_optT]
theorem w_tCall {f : List D → Sto → R D} : (tCall f es q S).holds QT E ↔ (es q S).holds (fun ds S => (f ds S).holds (fun d S => ∃ t, truD S d = some t ∧ QT t S) E) E := by
  unfold tCall
  simp only [w_bind, w_optT]
theorem w_tCallk {f : List D → Sto → R D} {np nk : Nat} {perm : List Nat} : (tCallk f np nk perm es ks q S).holds QT E ↔ (es q S).holds (fun ds S => (ks q S).holds (fun zs S => (ds.length = np ∧ zs.length = nk) ∧ (f (perm.map fun j => (ds ++ zs).getD j .non) S).holds (fun d S => ∃ t, truD S d = some t ∧ QT t S) E) E) E := by
  unfold tCallk
  simp only [w_bind, w_ifR, decide_eq_true_eq, w_optT]
theorem w_tBlt {b : Bl} : (tBlt b es q S).holds QT E ↔ (es q S).holds (fun ds S => (bltD b ds S).holds (fun d S => ∃ t, truD S d = some t ∧ QT t S) E) E := by
  unfold tBlt
  simp only [w_bind, w_optT]
theorem w_tIsi {ts : List Nat} : (tIsi ts a q S).holds QT E ↔ (a q S).holds (fun d S => ∃ t, typD S d = some t ∧ QT (ts.any (isiD t)) S) E := by
  unfold tIsi
  simp only [w_bind, w_optB, w_ok]
theorem w_tIdx : (tIdx a b q S).holds QT E ↔ (a q S).holds (fun d S => (b q S).holds (fun e S => (idxD d e S).holds (fun d S => ∃ t, truD S d = some t ∧ QT t S) E) E) E := by
  unfold tIdx
  simp only [w_bind, w_optT]
/-! sources, targets -/
variable {Qe : En → Sto → Prop} {Qr : Sr → Sto → Prop} {Qf : Fl → Sto → Prop}
theorem w_iSeq : (iSeq a q S).holds Qr E ↔ (a q S).holds (fun d S => (seqS d S).holds Qr E) E := w_bind
theorem w_iRng : (iRng es q S).holds Qr E ↔ (es q S).holds (fun ds S => (rngS ds S).holds Qr E) E := w_bind
theorem w_iEnm : (iEnm a q S).holds Qr E ↔ (a q S).holds (fun d S => (enumS d S).holds Qr E) E := w_bind
theorem w_rName {i : Nat} : (rName i d q S).holds Qe E ↔ Qe (q.set i (some d)) S := by rw [rName_eq]; exact Iff.rfl
theorem w_gTup {ts : List D → En → Sto → R En} {ds : List D} : (gTup ts (.tup ds) q S).holds Qe E ↔ (ts ds q S).holds Qe E := Iff.rfl
theorem w_gCons {t : D → En → Sto → R En} {ts : List D → En → Sto → R En} {d : D} {ds : List D} : (gCons t ts (d :: ds) q S).holds Qe E ↔ (t d q S).holds (fun q S => (ts ds q S).holds Qe E) E := w_bind
theorem w_gNil : (gNil [] q S).holds Qe E ↔ Qe q S := Iff.rfl
theorem w_gSubF : (gSubF a b d q S).holds Qe E ↔ (a q S).holds (fun o S => (b q S).holds (fun e S => (setD o e d S).holds (fun _ S => Qe q S) E) (fun _ _ => False)) (fun _ _ => False) := by
  rw [gSubF_eq]
  unfold gSub
  simp only [w_bind, w_noX, w_ok]
/-! statements -/
def seqW (ss : XS) (Q : Fl → Sto → Prop) (E : XN → Sto → Prop) : Fl → Sto → Prop
  | .next q, S => (ss q S).holds Q E
  | .ret d, S => Q (.ret d) S
  | .brk q, S => Q (.brk q) S
  | .cnt q, S => Q (.cnt q) S
  | .exn x q, S => Q (.exn x q) S
theorem seqW_next {ss : XS} : seqW ss Qf E (.next q) S ↔ (ss q S).holds Qf E := Iff.rfl
theorem seqW_ret {ss : XS} : seqW ss Qf E (.ret d) S ↔ Qf (.ret d) S := Iff.rfl
theorem seqW_brk {ss : XS} : seqW ss Qf E (.brk q) S ↔ Qf (.brk q) S := Iff.rfl
theorem seqW_cnt {ss : XS} : seqW ss Qf E (.cnt q) S ↔ Qf (.cnt q) S := Iff.rfl
theorem seqW_exn {ss : XS} {x : XN} : seqW ss Qf E (.exn x q) S ↔ Qf (.exn x q) S := Iff.rfl
theorem w_sCons {s ss : XS} : (sCons s ss q S).holds Qf E ↔ (s q S).holds (seqW ss Qf E) E := by
  unfold sCons
  rw [w_bind]
  refine iff_of_eq (congrArg (fun z => (s q S).holds z E) ?_)
  funext f S
  cases f <;> rfl
theorem w_sNil : (sNil q S).holds Qf E ↔ Qf (.next q) S := Iff.rfl
theorem w_sAsg {t : D → En → Sto → R En} : (sAsg t a q S).holds Qf E ↔ (a q S).holds (fun d S => (t d q S).holds (fun q S => Qf (.next q) S) (fun x S => Qf (.exn x q) S)) (fun x S => Qf (.exn x q) S) := by
  unfold sAsg
  simp only [w_bindE, w_ok]
theorem w_sExpr : (sExpr a q S).holds Qf E ↔ (a q S).holds (fun _ S => Qf (.next q) S) (fun x S => Qf (.exn x q) S) := by
  unfold sExpr
  simp only [w_bindE, w_ok]
theorem w_sRet : (sRet a q S).holds Qf E ↔ (a q S).holds (fun d S => Qf (.ret d) S) (fun x S => Qf (.exn x q) S) := by
  unfold sRet
  simp only [w_bindE, w_ok]
theorem w_sRetN : (sRetN q S).holds Qf E ↔ Qf (.ret .non) S := Iff.rfl
theorem w_sIf {s1 s2 : XS} : (sIf ta s1 s2 q S).holds Qf E ↔ (ta q S).holds (fun t S => if t = true then (s1 q S).holds Qf E else (s2 q S).holds Qf E) (fun x S => Qf (.exn x q) S) := by
  unfold sIf
  rw [w_bindE]
  refine iff_of_eq (congrArg (fun z => (ta q S).holds z _) ?_)
  funext t S
  cases t <;> simp
theorem w_rPar2 {i j : Nat} : (rPar2 i j a b q S).holds Qf E ↔ (a q S).holds (fun d S => (b q S).holds (fun e S => Qf (.next ((q.set i (some d)).set j (some e))) S) (fun x S => Qf (.exn x q) S)) (fun x S => Qf (.exn x q) S) := by
  rw [rPar2_eq]
  unfold sPar2
  simp only [w_bindE, w_ok]
theorem w_sPar3 {i j l : Nat} : (sPar3 i j l a b c q S).holds Qf E ↔ (a q S).holds (fun d S => (b q S).holds (fun e S => (c q S).holds (fun f S => Qf (.next (((q.set i (some d)).set j (some e)).set l (some f))) S) (fun x S => Qf (.exn x q) S)) (fun x S => Qf (.exn x q) S)) (fun x S => Qf (.exn x q) S) := by
  unfold sPar3
  simp only [w_bindE, w_ok]
theorem w_sAug {i : Nat} {op : Operator} : (sAug i op a q S).holds Qf E ↔ ∃ d, lkD q i = some d ∧ (a q S).holds (fun x S => (ipD op d x S).holds (fun y S => Qf (.next (q.set i (some y))) S) (fun x S => Qf (.exn x q) S)) (fun x S => Qf (.exn x q) S) := by
  unfold sAug
  cases lkD q i with
  | none => exact ⟨fun h => h.elim, fun ⟨_, h, _⟩ => by cases h⟩
  | some d =>
    dsimp only
    simp only [w_bindE, w_ok]
    exact ⟨fun h => ⟨d, rfl, h⟩, fun ⟨_, h, g⟩ => by cases h; exact g⟩
theorem w_sFor {t : D → En → Sto → R En} {it : En → Sto → R Sr} {s : XS} : (rFor t it s q S).holds Qf E ↔ (it q S).holds (fun r S => (forL (fun d q S => bindE q (t d q S) fun q S => s q S) r FU 0 q S).holds Qf E) (fun x S => Qf (.exn x q) S) := by
  rw [rFor_eq]
  unfold sFor
  simp only [w_bindE]
theorem w_sWh {s : XS} : (sWh ta s q S).holds Qf E ↔ (whL ta s FU q S).holds Qf E := Iff.rfl
theorem w_sRaise {ok : Bool} {ci : Nat} : (sRaise ok ci es q S).holds Qf E ↔ ok = true ∧ (es q S).holds (fun ds S => (raiseD ci ds q S).holds Qf E) (fun x S => Qf (.exn x q) S) := by
  unfold sRaise
  simp only [w_ifR, w_bindE]
theorem w_raise1 {ci : Nat} : (raiseD ci [d] q S).holds Qf E ↔ Qf (.exn ⟨ci, [("thing", d)]⟩ q) S := Iff.rfl
theorem w_sTry {p : PG} {cl : Cl} {s : XS} {ci i : Nat} {h : HS} : (sTry p cl s ci i h q S).holds Qf E ↔ (s q S).holds (fun f S => (catchD p cl (.ok f S) ci i h).holds Qf E) E := by
  unfold sTry
  cases s q S <;> exact Iff.rfl
theorem w_sPass : (sPass q S).holds Qf E ↔ Qf (.next q) S := Iff.rfl
theorem w_sBrk : (sBrk q S).holds Qf E ↔ Qf (.brk q) S := Iff.rfl
theorem w_sCnt : (sCnt q S).holds Qf E ↔ Qf (.cnt q) S := Iff.rfl
theorem w_rComp {t : D → En → Sto → R En} {it : En → Sto → R Sr} {vs : List Nat} : (rComp t it ta a vs q S).holds Q E ↔ (it q S).holds (fun s S => (compL (xTurn t ta a vs q) s FU 0 [] S).holds (fun ds S => Q (.ref S.length) (S ++ [.lst ds])) (fun _ _ => False)) E := by
  rw [rComp_eq]
  unfold xComp
  simp only [w_bind, w_ok]
  refine iff_of_eq (congrArg (fun z => (it q S).holds z E) ?_)
  funext s S
  refine propext ?_
  rw [w_noX]
theorem w_xTurn {t : D → En → Sto → R En} {vs : List Nat} {Qo : Option D → Sto → Prop} : (xTurn t ta a vs q d S).holds Qo E ↔ (t d (wipeD q vs) S).holds (fun q S => (ta q S).holds (fun b S => if b = true then (a q S).holds (fun x S => Qo (some x) S) E else Qo none S) E) E := by
  unfold xTurn
  simp only [w_bind]
  refine iff_of_eq (congrArg (fun z => (t d (wipeD q vs) S).holds z E) ?_)
  funext q S
  refine congrArg (fun z => (ta q S).holds z E) ?_
  funext b S
  cases b
  · simp [w_ok]
  · simp [w_bind, w_ok]
end
/-! calls -/
def retsW (Q : D → Sto → Prop) (E : XN → Sto → Prop) : Fl → Sto → Prop
  | .ret d, S => Q d S
  | .next _, S => Q .non S
  | .exn x _, S => E x S
  | _, _ => False
section
variable {Q : D → Sto → Prop} {E : XN → Sto → Prop} {S : Sto} {q : En} {d : D}
theorem retsW_ret : retsW Q E (.ret d) S ↔ Q d S := Iff.rfl
theorem retsW_next : retsW Q E (.next q) S ↔ Q .non S := Iff.rfl
theorem retsW_exn {x : XN} : retsW Q E (.exn x q) S ↔ E x S := Iff.rfl
theorem w_runC {c : CF2} {cl : Cl} {ds : List D} : (runC c cl ds S).holds Q E ↔ ds.length = c.np ∧ (c.body cl (startD ds c.nl) S).holds (retsW Q E) (fun _ _ => False) := by
  unfold runC
  simp only [w_ifR, decide_eq_true_eq]
  refine and_congr_right fun _ => ?_
  cases c.body cl (startD ds c.nl) S with
  | ok f S => cases f <;> exact Iff.rfl
  | _ => exact Iff.rfl
end
/-- plain data in, plain data out -/
def Pu (cs : List CF2) (f j : Nat) (ds : List D) (v : D) : Prop := ∀ k, j ≤ k → ∀ S, runZ cs k f ds S = .ok v S
def Pl (cs : List CF2) (f j : Nat) (ds : List D) (l : List D) : Prop := ∀ k, j ≤ k → ∀ S, runZ cs k f ds S = .ok (.ref S.length) (S ++ [.lst l])
def Px (cs : List CF2) (f j : Nat) (ds : List D) (x : XN) : Prop := ∀ k, j ≤ k → ∀ S, runZ cs k f ds S = .exn x S
section
variable {cs : List CF2} {f j : Nat} {c : CF2} {ds l : List D} {v : D}
theorem le_succ {j k : Nat} (h : j + 1 ≤ k) : ∃ k', k = k' + 1 ∧ j ≤ k' := ⟨k - 1, by omega, by omega⟩
theorem pu_of (hc : cs[f]? = some c) (hr : rfs ds = true) (hv : rf v = true) (h : ∀ k, j ≤ k → (runC c (runZ cs k) ds []).holds (fun d _ => d = v) (fun _ _ => False)) : Pu cs f (j + 1) ds v := fun k hk S => by
  obtain ⟨k, rfl, hk'⟩ := le_succ hk
  have h := h k hk'
  rw [run_at hc, runY_eq]
  unfold pureC
  rw [hr]
  dsimp only
  cases e : runC c (runZ cs k) ds [] with
  | ok d S1 =>
    rw [e] at h
    cases (show d = v from h)
    show adoptR v S1 S = _
    unfold adoptR
    rw [hv]
  | _ =>
    rw [e] at h
    exact h.elim
theorem pl_of (hc : cs[f]? = some c) (hr : rfs ds = true) (h : ∀ k, j ≤ k → (runC c (runZ cs k) ds []).holds (fun d S => lstRf d S = some l) (fun _ _ => False)) : Pl cs f (j + 1) ds l := fun k hk S => by
  obtain ⟨k, rfl, hk'⟩ := le_succ hk
  have h := h k hk'
  rw [run_at hc, runY_eq]
  unfold pureC
  rw [hr]
  dsimp only
  cases e : runC c (runZ cs k) ds [] with
  | ok d S1 =>
    rw [e] at h
    have h : lstRf d S1 = some l := h
    show adoptR d S1 S = _
    unfold adoptR
    rw [(rf_lst h).1, h]
  | _ =>
    rw [e] at h
    exact h.elim
theorem px_of {x : XN} (hc : cs[f]? = some c) (hr : rfs ds = true) (hx : rfs (x.fs.map (·.2)) = true) (h : ∀ k, j ≤ k → (runC c (runZ cs k) ds []).holds (fun _ _ => False) (fun y _ => y = x)) : Px cs f (j + 1) ds x := fun k hk S => by
  obtain ⟨k, rfl, hk'⟩ := le_succ hk
  have h := h k hk'
  rw [run_at hc, runY_eq]
  unfold pureC
  rw [hr]
  dsimp only
  cases e : runC c (runZ cs k) ds [] with
  | exn y S1 =>
    rw [e] at h
    cases (show y = x from h)
    show ifR (rfs (x.fs.map (·.2))) (.exn x S) = _
    rw [hx]
    rfl
  | _ =>
    rw [e] at h
    exact h.elim
theorem pu_run (hc : cs[f]? = some c) (hr : rfs ds = true) (hv : rf v = true) (h : ∀ k, retIs (runY c (runZ cs (k + j)) ds []) v = true) : Pu cs f (j + 1) ds v := fun k hk S => by
  obtain ⟨k, rfl⟩ : ∃ k', k = k' + j + 1 := ⟨k - (j + 1), by omega⟩
  exact run_ret hc hr (h k) hv S
theorem pl_run (hc : cs[f]? = some c) (hr : rfs ds = true) (h : ∀ k, lstIs (runY c (runZ cs (k + j)) ds []) l = true) : Pl cs f (j + 1) ds l := fun k hk S => by
  obtain ⟨k, rfl⟩ : ∃ k', k = k' + j + 1 := ⟨k - (j + 1), by omega⟩
  exact run_lst hc hr (h k) S
theorem Pu.w (h : Pu cs f j ds v) {k : Nat} {S : Sto} {Q : D → Sto → Prop} {E : XN → Sto → Prop} (hk : j ≤ k) : (runZ cs k f ds S).holds Q E ↔ Q v S := by rw [h k hk S]; exact Iff.rfl
theorem Pl.w (h : Pl cs f j ds l) {k : Nat} {S : Sto} {Q : D → Sto → Prop} {E : XN → Sto → Prop} (hk : j ≤ k) : (runZ cs k f ds S).holds Q E ↔ Q (.ref S.length) (S ++ [.lst l]) := by rw [h k hk S]; exact Iff.rfl
theorem Px.w {x : XN} (h : Px cs f j ds x) {k : Nat} {S : Sto} {Q : D → Sto → Prop} {E : XN → Sto → Prop} (hk : j ≤ k) : (runZ cs k f ds S).holds Q E ↔ E x S := by rw [h k hk S]; exact Iff.rfl
end
/-! loops -/
section
variable {items : List D} {S : Sto} {s : Sr}
theorem compL_pure {turn : D → Sto → R (Option D)} {o : D → Option D} (P : Sto → Prop) (hs : ∀ i S, P S → srcAt s i S = some items[i]?) (ht : ∀ d, d ∈ items → ∀ S, P S → ∃ S', turn d S = .ok (o d) S' ∧ P S') (hl : items.length ≤ LM) : ∀ (n i : Nat) (acc : List D) (S : Sto), P S → acc.length ≤ i → i ≤ items.length → items.length < n + i → ∃ S', compL turn s n i acc S = .ok (acc ++ (items.drop i).filterMap o) S' ∧ P S'
  | 0, i, acc, S, hP, h0, h1, h2 => by omega
  | n + 1, i, acc, S, hP, h0, h1, h2 => by
    unfold compL
    rw [hs i S hP]
    by_cases h : i < items.length
    · rw [List.getElem?_eq_getElem h]
      dsimp only
      obtain ⟨S1, e1, P1⟩ := ht items[i] (List.getElem_mem h) S hP
      rw [e1, List.drop_eq_getElem_cons h, List.filterMap_cons]
      cases o items[i] with
      | none => exact compL_pure P hs ht hl n (i + 1) acc S1 P1 (by omega) (by omega) (by omega)
      | some e =>
        dsimp only
        rw [decide_eq_true (show acc.length < LM by omega)]
        obtain ⟨S2, e2, P2⟩ := compL_pure P hs ht hl n (i + 1) (acc ++ [e]) S1 P1 (by simp; omega) (by omega) (by omega)
        exact ⟨S2, by rw [List.append_assoc] at e2; exact e2, P2⟩
    · have e : i = items.length := by omega
      subst e
      rw [List.getElem?_eq_none (Nat.le_refl _), List.drop_length]
      exact ⟨S, by simp, hP⟩
/-- a comprehension whose turns make no object -/
theorem w_compL {turn : D → Sto → R (Option D)} (o : D → Option D) {Q : List D → Sto → Prop} {E : XN → Sto → Prop} (hs : ∀ i, srcAt s i S = some items[i]?) (hl : items.length ≤ LM) (ht : ∀ d, d ∈ items → turn d S = .ok (o d) S) (h : Q (items.filterMap o) S) : (compL turn s FU 0 [] S).holds Q E := by
  obtain ⟨S', e, rfl⟩ := compL_pure (turn := turn) (o := o) (fun S' => S' = S) (fun i S' z => by rw [z]; exact hs i) (fun d hd S' z => ⟨S, by rw [z]; exact ht d hd, rfl⟩) hl FU 0 [] S rfl (Nat.le_refl _) (Nat.zero_le _) (by unfold LM FU at *; omega)
  rw [e]
  exact h
theorem turn_eq {turn : D → Sto → R (Option D)} {d : D} {S : Sto} {o : Option D} (h : (turn d S).holds (fun o' S' => o' = o ∧ S' = S) (fun _ _ => False)) : turn d S = .ok o S := by
  cases e : turn d S with
  | ok o' S' =>
    rw [e] at h
    obtain ⟨rfl, rfl⟩ := h
    rfl
  | _ =>
    rw [e] at h
    exact h.elim
end
end DI
/-! DI: plain facts of data, for simp. -/
namespace DI
open PySem L2
section
variable {S : Sto} {i j : Int} {b : Bool} {x y : Str} {ds : List D} {a c d e : D}
theorem ty_int : typD S (.int i) = some 0 := rfl
theorem ty_bl : typD S (.bl b) = some 1 := rfl
theorem ty_str : typD S (.str x) = some 2 := rfl
theorem ty_tup : typD S (.tup ds) = some 3 := rfl
theorem ty_non : typD S .non = some 6 := rfl
theorem tr_bl : truD S (.bl b) = some b := rfl
theorem tr_tup : truD S (.tup ds) = some (!ds.isEmpty) := rfl
theorem isi_00 : ([0] : List Nat).any (isiD 0) = true := rfl
theorem isi_01 : ([1] : List Nat).any (isiD 0) = false := rfl
theorem isi_10 : ([0] : List Nat).any (isiD 1) = true := rfl
theorem isi_11 : ([1] : List Nat).any (isiD 1) = true := rfl
theorem isi_33 : ([3] : List Nat).any (isiD 3) = true := rfl
theorem isi_03 : ([3] : List Nat).any (isiD 0) = false := rfl
theorem isi_13 : ([3] : List Nat).any (isiD 1) = false := rfl
theorem isi_30 : ([0] : List Nat).any (isiD 3) = false := rfl
theorem isi_31 : ([1] : List Nat).any (isiD 3) = false := rfl
theorem c_lt : cmpD .Lt (.int i) (.int j) S = .ok (.bl (decide (i < j))) S := rfl
theorem c_le : cmpD .LtE (.int i) (.int j) S = .ok (.bl (decide (i ≤ j))) S := rfl
theorem c_gt : cmpD .Gt (.int i) (.int j) S = .ok (.bl (decide (j < i))) S := rfl
theorem c_ge : cmpD .GtE (.int i) (.int j) S = .ok (.bl (decide (j ≤ i))) S := rfl
theorem eqD_int : eqD S (.int i) (.int j) = some (i == j) := rfl
theorem c_eqI : cmpD .Eq (.int i) (.int j) S = .ok (.bl (i == j)) S := rfl
theorem c_neI : cmpD .NotEq (.int i) (.int j) S = .ok (.bl (!(i == j))) S := rfl
theorem LM_le0 : (0 ≤ LM) = True := eq_true (by unfold LM; omega)
theorem LM_le1 : (1 ≤ LM) = True := eq_true (by unfold LM; omega)
theorem LM_le2 : (2 ≤ LM) = True := eq_true (by unfold LM; omega)
theorem LM_le3 : (3 ≤ LM) = True := eq_true (by unfold LM; omega)
theorem LM_le4 : (4 ≤ LM) = True := eq_true (by unfold LM; omega)
theorem len_tup : bltD .len [.tup ds] S = .ok (.int ds.length) S := rfl
theorem idx0 : idxD (.tup (d :: ds)) (.int 0) S = .ok d S := by
  unfold idxD
  dsimp only
  rw [show ((0 : Int)) = ((0 : Nat) : Int) from rfl, atI_nat _ _ (by simp)]
  rfl
theorem idx1 : idxD (.tup (d :: e :: ds)) (.int 1) S = .ok e S := by
  unfold idxD
  dsimp only
  rw [show ((1 : Int)) = ((1 : Nat) : Int) from rfl, atI_nat _ _ (by simp)]
  rfl
theorem c_eq {t : Bool} (h : eqD S d e = some t) : cmpD .Eq d e S = .ok (.bl t) S := by
  unfold cmpD
  dsimp only
  rw [h]
theorem c_ne {t : Bool} (h : eqD S d e = some t) : cmpD .NotEq d e S = .ok (.bl (!t)) S := by
  unfold cmpD
  dsimp only
  rw [h]
end
end DI
/-! DI: a deck with the fields rest, mixed, turn. -/
namespace DI
open PySem L2
def sR : Str := ⟨#[114, 101, 115, 116]⟩
def sM : Str := ⟨#[109, 105, 120, 101, 100]⟩
def sT : Str := ⟨#[116, 117, 114, 110]⟩
noncomputable def drawR : XS := (sCons (sAsg (gSubF (rVar 0) (xC (.str sT))) (rBin .Add (xIdx (rVar 0) (xC (.str sT))) (xC (.int 1)))) (sCons (sIf (uCmp .NotEq (xIdx (rVar 0) (xC (.str sR))) (rLst xNil)) (sCons (sAsg (rName 3) (yMeth .pop (xIdx (rVar 0) (xC (.str sR))) xNil)) (sCons (sIf (uCmp .GtE (rVar 3) (rBin .Pow (xC (.int 10)) (xC (.int 6)))) (sCons (sExpr (yMeth .append (xIdx (rVar 0) (xC (.str sR))) (xCons (rBin .FloorDiv (rVar 3) (yBlt .max2 (xCons (xC (.int 2)) (xCons (rVar 1) xNil)))) xNil))) sNil) sNil) (sCons (sRet (rBin .Mod (rVar 3) (rVar 1))) sNil))) sNil) (sCons (sAsg (rName 2) (rBin .Mod (rBin .Add (xIdx (rVar 0) (xC (.str sM))) (rBin .Mult (rBin .Mult (xC (.int 40692)) (xIdx (rVar 0) (xC (.str sT)))) (xIdx (rVar 0) (xC (.str sT))))) (xC (.int 2147483399)))) (sCons (sAsg (rName 2) (rBin .Mod (rBin .Mult (rVar 2) (rVar 2)) (xC (.int 2147483563)))) (sCons (sRet (rBin .Mod (rBin .FloorDiv (rBin .Mod (rBin .Add (rBin .Mult (rVar 2) (xC (.int 39373))) (rBin .Mult (xIdx (rVar 0) (xC (.str sT))) (xC (.int 7919)))) (xC (.int 2147483629))) (xC (.int 64))) (rVar 1))) sNil)))))
noncomputable def deckR (c0 mu ad : Int) : XS := (sCons (rPar2 2 3 (rComp (rName 1) (iSeq (ySlice (rVar 0) oNone (oSome (xC (.int 63))))) (tBl true) (rBin .Mod (yBlt .int (xCons (rVar 1) xNil)) (rBin .Add (rBin .Pow (xC (.int 10)) (xC (.int 24))) (xC (.int 7)))) [1]) (xC (.int c0))) (sCons (rFor (rName 1) (iSeq (rVar 2)) (sCons (sAsg (rName 3) (rBin .Mod (rBin .Add (rBin .Add (rBin .Mult (rVar 3) (xC (.int mu))) (rBin .Mod (rVar 1) (xC (.int 2147483543)))) (xC (.int ad))) (xC (.int 2147483647)))) sNil)) (sCons (sRet (xDict [.inr sR, .inr sM, .inr sT] (xCons (xRev (rVar 2)) (xCons (rVar 3) (xCons (xC (.int 0)) xNil))))) sNil)))
def dkR (i : Nat) (s t : Int) : O := .dk [(.inr sR, .ref i), (.inr sM, .int s), (.inr sT, .int t)]
structure Dr (S : Sto) (j i : Nat) (cs : List Int) (s t : Int) : Prop where
  dk : S[j]? = some (dkR i s t)
  ls : S[i]? = some (.lst (cs.map .int))
  ln : cs.length ≤ 63
  s0 : 0 ≤ s
  s1 : s < 2147483647
  t0 : 0 ≤ t
section
variable {S : Sto} {j i : Nat} {cs : List Int} {s t : Int}
theorem Dr.ne (h : Dr S j i cs s t) : i ≠ j := fun e => by
  have a := h.dk
  rw [← e, h.ls] at a
  cases a
theorem Dr.push (h : Dr S j i cs s t) (o : O) : Dr (S ++ [o]) j i cs s t := ⟨get_old h.dk, get_old h.ls, h.ln, h.s0, h.s1, h.t0⟩
theorem Dr.idxR (h : Dr S j i cs s t) : idxD (.ref j) (.str sR) S = .ok (.ref i) S := by
  unfold idxD
  dsimp only
  rw [h.dk]
  rfl
theorem Dr.idxM (h : Dr S j i cs s t) : idxD (.ref j) (.str sM) S = .ok (.int s) S := by
  unfold idxD
  dsimp only
  rw [h.dk]
  rfl
theorem Dr.idxT (h : Dr S j i cs s t) : idxD (.ref j) (.str sT) S = .ok (.int t) S := by
  unfold idxD
  dsimp only
  rw [h.dk]
  rfl
theorem Dr.setT (h : Dr S j i cs s t) (t' : Int) : setD (.ref j) (.str sT) (.int t') S = .ok () (S.set j (dkR i s t')) := by
  unfold setD
  dsimp only
  rw [h.dk]
  rfl
theorem Dr.turn (h : Dr S j i cs s t) {t' : Int} (h0 : 0 ≤ t') : Dr (S.set j (dkR i s t')) j i cs s t' :=
  ⟨set_at h.dk, by rw [set_off h.ne]; exact h.ls, h.ln, h.s0, h.s1, h0⟩
theorem Dr.setC (h : Dr S j i cs s t) {cs' : List Int} (hl : cs'.length ≤ 63) : Dr (S.set i (.lst (cs'.map .int))) j i cs' s t :=
  ⟨by rw [set_off (Ne.symm h.ne)]; exact h.dk, set_at h.ls, hl, h.s0, h.s1, h.t0⟩
theorem Dr.neNil (h : Dr S j i cs s t) : cmpD .NotEq (.ref i) (.ref S.length) (S ++ [.lst []]) = .ok (.bl (!cs.isEmpty)) (S ++ [.lst []]) := by
  unfold cmpD
  dsimp only
  rw [eq_nil (get_old h.ls) get_new]
theorem Dr.kR (h : Dr S j i cs s t) (m : Me) (hm : m = .append ∨ m = .pop ∨ m = .extend) : meK m (.ref i) S = true := by
  rcases hm with rfl | rfl | rfl <;> (unfold meK; rw [lstD_at h.ls]; rfl)
theorem pow6 : opD .Pow (.int 10) (.int 6) S = .ok (.int 1000000) S := rfl
theorem pow24 : opD .Pow (.int 10) (.int 24) S = .ok (.int 1000000000000000000000000) S := rfl
theorem blt_int {z : Int} : bltD .int [.int z] S = .ok (.int z) S := rfl
theorem k24 : ((1000000000000000000000000 : Int) + 7) = 1000000000000000000000007 := rfl
theorem mul_bd {x y : Int} (a b : Nat) (hx : x.natAbs < 2 ^ a) (hy : y.natAbs < 2 ^ b) (hab : a + b < 1000000) : opD .Mult (.int x) (.int y) S = .ok (.int (x * y)) S := by
  unfold opD
  dsimp only
  have h1 : x.natAbs.log2 ≤ a := by
    by_cases h : x.natAbs = 0
    · rw [h]
      exact Nat.zero_le _
    · exact Nat.le_of_lt ((Nat.log2_lt h).2 hx)
  have h2 : y.natAbs.log2 ≤ b := by
    by_cases h : y.natAbs = 0
    · rw [h]
      exact Nat.zero_le _
    · exact Nat.le_of_lt ((Nat.log2_lt h).2 hy)
  rw [decide_eq_true (by omega)]
  rfl
end
/-- turns up to n have gone by -/
def DR (S : Sto) (j i : Nat) (n : Nat) : Prop := ∃ cs s t, Dr S j i cs s t ∧ t ≤ n
def DrwP (j i n : Nat) (b : Int) (S : Sto) (d : D) (S' : Sto) : Prop := ∃ r : Int, d = .int r ∧ 0 ≤ r ∧ r < b ∧ DR S' j i (n + 1) ∧ Fra i j S S'
def DrwC (c : List D → Sto → R D) : Prop := ∀ S j i n b, DR S j i n → n < 1000000 → 0 < b → b < 2 ^ 40 → (c [.ref j, .int b] S).holds (DrwP j i n b S) (fun _ _ => False)
theorem emod_nn {a b : Int} (h : 0 < b) : 0 ≤ a % b ∧ a % b < b := ⟨Int.emod_nonneg _ (by omega), Int.emod_lt_of_pos _ h⟩
theorem drawR_ok {cl : Cl} {S : Sto} {j i n : Nat} {b : Int} (h : DR S j i n) (hn : n < 1000000) (b0 : 0 < b) (b1 : b < 2 ^ 40) : (runC ⟨2, 4, fun _ => drawR⟩ cl [.ref j, .int b] S).holds (DrwP j i n b S) (fun _ _ => False) := by
  obtain ⟨cs, s, t, h, ht⟩ := h
  have t0 := h.t0
  have s0 := h.s0
  have s1 := h.s1
  have h1 : Dr (S.set j (dkR i s (t + 1))) j i cs s (t + 1) := h.turn (by omega)
  have f1 : Fra i j S (S.set j (dkR i s (t + 1))) := Fra.set2
  simp only [drawR, h.idxT, h.setT, h1.idxR, h1.neNil, w_runC, w_ok, w_exn, w_stk, w_bind, w_ifR, w_optS, w_noX, asB_bl, asI_int, lk0, lkS, w_rVar, w_xC, w_xNil, w_xCons, w_xTup, w_rLst, w_rBin, w_xNeg, w_yCmp, w_uCmp, w_xAndV, w_xOrV, w_xNot, w_xIte, w_xChain, w_xIdx, w_xCall, w_xCallk, w_yBlt, w_xLrng, w_xIsi, w_yMeth, w_ySlice, w_oNone, w_oSome, w_xRev, w_xDict, w_tAnd, w_tOr, w_tNot, w_tBl, w_rvVar, w_tCall, w_tCallk, w_tBlt, w_tIsi, w_tIdx, w_iSeq, w_iRng, w_iEnm, w_rName, w_gTup, w_gCons, w_gNil, w_gSubF, seqW_next, seqW_ret, seqW_brk, seqW_cnt, seqW_exn, w_sCons, w_sNil, w_sAsg, w_sExpr, w_sRet, w_sRetN, w_sIf, w_rPar2, w_sPar3, w_sAug, w_sFor, w_sRaise, w_raise1, w_sTry, w_sPass, w_sBrk, w_sCnt, w_rComp, w_xTurn, retsW_ret, retsW_next, retsW_exn, startD, List.map_cons, List.map_nil, List.replicate_succ, List.replicate_zero, List.set_cons_zero, List.set_cons_succ, List.length_cons, List.length_nil, List.cons_append, List.nil_append, Nat.reduceAdd, Nat.reduceSub, Nat.reduceLeDiff, Nat.zero_add, List.getD_cons_zero, List.getD_cons_succ, ty_int, ty_bl, ty_str, ty_tup, ty_non, tr_bl, tr_tup, isi_00, isi_01, isi_10, isi_11, isi_33, isi_03, isi_13, isi_30, isi_31, c_lt, c_le, c_gt, c_ge, c_eqI, c_neI, dAdd, dSub, LM_le2, LM_le1, LM_le0, LM_le3, LM_le4, len_tup, idx0, idx1, Option.some.injEq, exists_eq_left', exists_eq_left, D.bl.injEq, D.int.injEq, Bool.not_true, Bool.not_false, if_true, if_false, Bool.false_eq_true, reduceIte, and_true, true_and, and_self, decide_true, decide_false]
  generalize S.set j (dkR i s (t + 1)) = S1 at h1 f1
  have h2 := h1.push (.lst [])
  have f2 : Fra i j S (S1 ++ [.lst []]) := f1.trans Fra.app
  generalize S1 ++ [.lst []] = S2 at h2 f2
  cases hcs : cs.isEmpty with
  | false =>
    have hcs' : cs ≠ [] := fun z => by rw [z] at hcs; cases hcs
    obtain ⟨cs', c, rfl⟩ : ∃ cs' c, cs = cs' ++ [c] := ⟨cs.dropLast, cs.getLast hcs', (List.dropLast_concat_getLast hcs').symm⟩
    have hl : cs'.length ≤ 62 := by
      have := h.ln
      simp at this
      omega
    have h3 := h2.setC (cs' := cs') (by omega)
    have f3 : Fra i j S (S2.set i (.lst (cs'.map .int))) := f2.trans Fra.set1
    simp only [h2.idxR, h2.kR .pop (.inr (.inl rfl)), pop_eq h2.ls, w_runC, w_ok, w_exn, w_stk, w_bind, w_ifR, w_optS, w_noX, asB_bl, asI_int, lk0, lkS, w_rVar, w_xC, w_xNil, w_xCons, w_xTup, w_rLst, w_rBin, w_xNeg, w_yCmp, w_uCmp, w_xAndV, w_xOrV, w_xNot, w_xIte, w_xChain, w_xIdx, w_xCall, w_xCallk, w_yBlt, w_xLrng, w_xIsi, w_yMeth, w_ySlice, w_oNone, w_oSome, w_xRev, w_xDict, w_tAnd, w_tOr, w_tNot, w_tBl, w_rvVar, w_tCall, w_tCallk, w_tBlt, w_tIsi, w_tIdx, w_iSeq, w_iRng, w_iEnm, w_rName, w_gTup, w_gCons, w_gNil, w_gSubF, seqW_next, seqW_ret, seqW_brk, seqW_cnt, seqW_exn, w_sCons, w_sNil, w_sAsg, w_sExpr, w_sRet, w_sRetN, w_sIf, w_rPar2, w_sPar3, w_sAug, w_sFor, w_sRaise, w_raise1, w_sTry, w_sPass, w_sBrk, w_sCnt, w_rComp, w_xTurn, retsW_ret, retsW_next, retsW_exn, startD, List.map_cons, List.map_nil, List.replicate_succ, List.replicate_zero, List.set_cons_zero, List.set_cons_succ, List.length_cons, List.length_nil, List.cons_append, List.nil_append, Nat.reduceAdd, Nat.reduceSub, Nat.reduceLeDiff, Nat.zero_add, List.getD_cons_zero, List.getD_cons_succ, ty_int, ty_bl, ty_str, ty_tup, ty_non, tr_bl, tr_tup, isi_00, isi_01, isi_10, isi_11, isi_33, isi_03, isi_13, isi_30, isi_31, c_lt, c_le, c_gt, c_ge, c_eqI, c_neI, dAdd, dSub, LM_le2, LM_le1, LM_le0, LM_le3, LM_le4, len_tup, idx0, idx1, Option.some.injEq, exists_eq_left', exists_eq_left, D.bl.injEq, D.int.injEq, Bool.not_true, Bool.not_false, if_true, if_false, Bool.false_eq_true, reduceIte, and_true, true_and, and_self, decide_true, decide_false]
    generalize S2.set i (.lst (cs'.map .int)) = S3 at h3 f3
    simp only [pow6, w_runC, w_ok, w_exn, w_stk, w_bind, w_ifR, w_optS, w_noX, asB_bl, asI_int, lk0, lkS, w_rVar, w_xC, w_xNil, w_xCons, w_xTup, w_rLst, w_rBin, w_xNeg, w_yCmp, w_uCmp, w_xAndV, w_xOrV, w_xNot, w_xIte, w_xChain, w_xIdx, w_xCall, w_xCallk, w_yBlt, w_xLrng, w_xIsi, w_yMeth, w_ySlice, w_oNone, w_oSome, w_xRev, w_xDict, w_tAnd, w_tOr, w_tNot, w_tBl, w_rvVar, w_tCall, w_tCallk, w_tBlt, w_tIsi, w_tIdx, w_iSeq, w_iRng, w_iEnm, w_rName, w_gTup, w_gCons, w_gNil, w_gSubF, seqW_next, seqW_ret, seqW_brk, seqW_cnt, seqW_exn, w_sCons, w_sNil, w_sAsg, w_sExpr, w_sRet, w_sRetN, w_sIf, w_rPar2, w_sPar3, w_sAug, w_sFor, w_sRaise, w_raise1, w_sTry, w_sPass, w_sBrk, w_sCnt, w_rComp, w_xTurn, retsW_ret, retsW_next, retsW_exn, startD, List.map_cons, List.map_nil, List.replicate_succ, List.replicate_zero, List.set_cons_zero, List.set_cons_succ, List.length_cons, List.length_nil, List.cons_append, List.nil_append, Nat.reduceAdd, Nat.reduceSub, Nat.reduceLeDiff, Nat.zero_add, List.getD_cons_zero, List.getD_cons_succ, ty_int, ty_bl, ty_str, ty_tup, ty_non, tr_bl, tr_tup, isi_00, isi_01, isi_10, isi_11, isi_33, isi_03, isi_13, isi_30, isi_31, c_lt, c_le, c_gt, c_ge, c_eqI, c_neI, dAdd, dSub, LM_le2, LM_le1, LM_le0, LM_le3, LM_le4, len_tup, idx0, idx1, Option.some.injEq, exists_eq_left', exists_eq_left, D.bl.injEq, D.int.injEq, Bool.not_true, Bool.not_false, if_true, if_false, Bool.false_eq_true, reduceIte, and_true, true_and, and_self, decide_true, decide_false]
    by_cases hc : (1000000 : Int) ≤ c
    · simp only [hc, decide_true, if_true]
      have hg : 0 < (if b > 2 then b else (2 : Int)) ∧ (if b > 2 then b else (2 : Int)) < 2 ^ 40 := by split <;> omega
      simp only [h3.idxR, h3.kR .append (.inl rfl), max2_eq, w_runC, w_ok, w_exn, w_stk, w_bind, w_ifR, w_optS, w_noX, asB_bl, asI_int, lk0, lkS, w_rVar, w_xC, w_xNil, w_xCons, w_xTup, w_rLst, w_rBin, w_xNeg, w_yCmp, w_uCmp, w_xAndV, w_xOrV, w_xNot, w_xIte, w_xChain, w_xIdx, w_xCall, w_xCallk, w_yBlt, w_xLrng, w_xIsi, w_yMeth, w_ySlice, w_oNone, w_oSome, w_xRev, w_xDict, w_tAnd, w_tOr, w_tNot, w_tBl, w_rvVar, w_tCall, w_tCallk, w_tBlt, w_tIsi, w_tIdx, w_iSeq, w_iRng, w_iEnm, w_rName, w_gTup, w_gCons, w_gNil, w_gSubF, seqW_next, seqW_ret, seqW_brk, seqW_cnt, seqW_exn, w_sCons, w_sNil, w_sAsg, w_sExpr, w_sRet, w_sRetN, w_sIf, w_rPar2, w_sPar3, w_sAug, w_sFor, w_sRaise, w_raise1, w_sTry, w_sPass, w_sBrk, w_sCnt, w_rComp, w_xTurn, retsW_ret, retsW_next, retsW_exn, startD, List.map_cons, List.map_nil, List.replicate_succ, List.replicate_zero, List.set_cons_zero, List.set_cons_succ, List.length_cons, List.length_nil, List.cons_append, List.nil_append, Nat.reduceAdd, Nat.reduceSub, Nat.reduceLeDiff, Nat.zero_add, List.getD_cons_zero, List.getD_cons_succ, ty_int, ty_bl, ty_str, ty_tup, ty_non, tr_bl, tr_tup, isi_00, isi_01, isi_10, isi_11, isi_33, isi_03, isi_13, isi_30, isi_31, c_lt, c_le, c_gt, c_ge, c_eqI, c_neI, dAdd, dSub, LM_le2, LM_le1, LM_le0, LM_le3, LM_le4, len_tup, idx0, idx1, Option.some.injEq, exists_eq_left', exists_eq_left, D.bl.injEq, D.int.injEq, Bool.not_true, Bool.not_false, if_true, if_false, Bool.false_eq_true, reduceIte, and_true, true_and, and_self, decide_true, decide_false]
      generalize (if b > 2 then b else (2 : Int)) = g at hg
      simp only [dDiv hg.1 hg.2, append_eq h3.ls (show cs'.length ≤ 63 by omega), dMod b0, w_runC, w_ok, w_exn, w_stk, w_bind, w_ifR, w_optS, w_noX, asB_bl, asI_int, lk0, lkS, w_rVar, w_xC, w_xNil, w_xCons, w_xTup, w_rLst, w_rBin, w_xNeg, w_yCmp, w_uCmp, w_xAndV, w_xOrV, w_xNot, w_xIte, w_xChain, w_xIdx, w_xCall, w_xCallk, w_yBlt, w_xLrng, w_xIsi, w_yMeth, w_ySlice, w_oNone, w_oSome, w_xRev, w_xDict, w_tAnd, w_tOr, w_tNot, w_tBl, w_rvVar, w_tCall, w_tCallk, w_tBlt, w_tIsi, w_tIdx, w_iSeq, w_iRng, w_iEnm, w_rName, w_gTup, w_gCons, w_gNil, w_gSubF, seqW_next, seqW_ret, seqW_brk, seqW_cnt, seqW_exn, w_sCons, w_sNil, w_sAsg, w_sExpr, w_sRet, w_sRetN, w_sIf, w_rPar2, w_sPar3, w_sAug, w_sFor, w_sRaise, w_raise1, w_sTry, w_sPass, w_sBrk, w_sCnt, w_rComp, w_xTurn, retsW_ret, retsW_next, retsW_exn, startD, List.map_cons, List.map_nil, List.replicate_succ, List.replicate_zero, List.set_cons_zero, List.set_cons_succ, List.length_cons, List.length_nil, List.cons_append, List.nil_append, Nat.reduceAdd, Nat.reduceSub, Nat.reduceLeDiff, Nat.zero_add, List.getD_cons_zero, List.getD_cons_succ, ty_int, ty_bl, ty_str, ty_tup, ty_non, tr_bl, tr_tup, isi_00, isi_01, isi_10, isi_11, isi_33, isi_03, isi_13, isi_30, isi_31, c_lt, c_le, c_gt, c_ge, c_eqI, c_neI, dAdd, dSub, LM_le2, LM_le1, LM_le0, LM_le3, LM_le4, len_tup, idx0, idx1, Option.some.injEq, exists_eq_left', exists_eq_left, D.bl.injEq, D.int.injEq, Bool.not_true, Bool.not_false, if_true, if_false, Bool.false_eq_true, reduceIte, and_true, true_and, and_self, decide_true, decide_false]
      have h4 := h3.setC (cs' := cs' ++ [c / g]) (by simp; omega)
      exact ⟨_, rfl, (emod_nn b0).1, (emod_nn b0).2, ⟨_, _, _, h4, by omega⟩, f3.trans Fra.set1⟩
    · simp only [hc, decide_false, if_false]
      simp only [dMod b0, w_runC, w_ok, w_exn, w_stk, w_bind, w_ifR, w_optS, w_noX, asB_bl, asI_int, lk0, lkS, w_rVar, w_xC, w_xNil, w_xCons, w_xTup, w_rLst, w_rBin, w_xNeg, w_yCmp, w_uCmp, w_xAndV, w_xOrV, w_xNot, w_xIte, w_xChain, w_xIdx, w_xCall, w_xCallk, w_yBlt, w_xLrng, w_xIsi, w_yMeth, w_ySlice, w_oNone, w_oSome, w_xRev, w_xDict, w_tAnd, w_tOr, w_tNot, w_tBl, w_rvVar, w_tCall, w_tCallk, w_tBlt, w_tIsi, w_tIdx, w_iSeq, w_iRng, w_iEnm, w_rName, w_gTup, w_gCons, w_gNil, w_gSubF, seqW_next, seqW_ret, seqW_brk, seqW_cnt, seqW_exn, w_sCons, w_sNil, w_sAsg, w_sExpr, w_sRet, w_sRetN, w_sIf, w_rPar2, w_sPar3, w_sAug, w_sFor, w_sRaise, w_raise1, w_sTry, w_sPass, w_sBrk, w_sCnt, w_rComp, w_xTurn, retsW_ret, retsW_next, retsW_exn, startD, List.map_cons, List.map_nil, List.replicate_succ, List.replicate_zero, List.set_cons_zero, List.set_cons_succ, List.length_cons, List.length_nil, List.cons_append, List.nil_append, Nat.reduceAdd, Nat.reduceSub, Nat.reduceLeDiff, Nat.zero_add, List.getD_cons_zero, List.getD_cons_succ, ty_int, ty_bl, ty_str, ty_tup, ty_non, tr_bl, tr_tup, isi_00, isi_01, isi_10, isi_11, isi_33, isi_03, isi_13, isi_30, isi_31, c_lt, c_le, c_gt, c_ge, c_eqI, c_neI, dAdd, dSub, LM_le2, LM_le1, LM_le0, LM_le3, LM_le4, len_tup, idx0, idx1, Option.some.injEq, exists_eq_left', exists_eq_left, D.bl.injEq, D.int.injEq, Bool.not_true, Bool.not_false, if_true, if_false, Bool.false_eq_true, reduceIte, and_true, true_and, and_self, decide_true, decide_false]
      exact ⟨_, rfl, (emod_nn b0).1, (emod_nn b0).2, ⟨_, _, _, h3, by omega⟩, f3⟩
  | true =>
    have e1 : ∀ S, opD .Mult (.int 40692) (.int (t + 1)) S = .ok (.int (40692 * (t + 1))) S := fun S => mul_bd 20 40 (by decide) (by omega) (by omega)
    have e2 : ∀ S, opD .Mult (.int (40692 * (t + 1))) (.int (t + 1)) S = .ok (.int (40692 * (t + 1) * (t + 1))) S := fun S => mul_bd 60 40 (by omega) (by omega) (by omega)
    have m1 := emod_nn (a := s + 40692 * (t + 1) * (t + 1)) (b := 2147483399) (by decide)
    simp only [h2.idxM, h2.idxT, e1, e2, dMod (show (0 : Int) < 2147483399 by decide), w_runC, w_ok, w_exn, w_stk, w_bind, w_ifR, w_optS, w_noX, asB_bl, asI_int, lk0, lkS, w_rVar, w_xC, w_xNil, w_xCons, w_xTup, w_rLst, w_rBin, w_xNeg, w_yCmp, w_uCmp, w_xAndV, w_xOrV, w_xNot, w_xIte, w_xChain, w_xIdx, w_xCall, w_xCallk, w_yBlt, w_xLrng, w_xIsi, w_yMeth, w_ySlice, w_oNone, w_oSome, w_xRev, w_xDict, w_tAnd, w_tOr, w_tNot, w_tBl, w_rvVar, w_tCall, w_tCallk, w_tBlt, w_tIsi, w_tIdx, w_iSeq, w_iRng, w_iEnm, w_rName, w_gTup, w_gCons, w_gNil, w_gSubF, seqW_next, seqW_ret, seqW_brk, seqW_cnt, seqW_exn, w_sCons, w_sNil, w_sAsg, w_sExpr, w_sRet, w_sRetN, w_sIf, w_rPar2, w_sPar3, w_sAug, w_sFor, w_sRaise, w_raise1, w_sTry, w_sPass, w_sBrk, w_sCnt, w_rComp, w_xTurn, retsW_ret, retsW_next, retsW_exn, startD, List.map_cons, List.map_nil, List.replicate_succ, List.replicate_zero, List.set_cons_zero, List.set_cons_succ, List.length_cons, List.length_nil, List.cons_append, List.nil_append, Nat.reduceAdd, Nat.reduceSub, Nat.reduceLeDiff, Nat.zero_add, List.getD_cons_zero, List.getD_cons_succ, ty_int, ty_bl, ty_str, ty_tup, ty_non, tr_bl, tr_tup, isi_00, isi_01, isi_10, isi_11, isi_33, isi_03, isi_13, isi_30, isi_31, c_lt, c_le, c_gt, c_ge, c_eqI, c_neI, dAdd, dSub, LM_le2, LM_le1, LM_le0, LM_le3, LM_le4, len_tup, idx0, idx1, Option.some.injEq, exists_eq_left', exists_eq_left, D.bl.injEq, D.int.injEq, Bool.not_true, Bool.not_false, if_true, if_false, Bool.false_eq_true, reduceIte, and_true, true_and, and_self, decide_true, decide_false]
    generalize (s + 40692 * (t + 1) * (t + 1)) % 2147483399 = x at m1
    have e3 : ∀ S, opD .Mult (.int x) (.int x) S = .ok (.int (x * x)) S := fun S => mul_bd 40 40 (by omega) (by omega) (by omega)
    have m2 := emod_nn (a := x * x) (b := 2147483563) (by decide)
    simp only [e3, dMod (show (0 : Int) < 2147483563 by decide), w_runC, w_ok, w_exn, w_stk, w_bind, w_ifR, w_optS, w_noX, asB_bl, asI_int, lk0, lkS, w_rVar, w_xC, w_xNil, w_xCons, w_xTup, w_rLst, w_rBin, w_xNeg, w_yCmp, w_uCmp, w_xAndV, w_xOrV, w_xNot, w_xIte, w_xChain, w_xIdx, w_xCall, w_xCallk, w_yBlt, w_xLrng, w_xIsi, w_yMeth, w_ySlice, w_oNone, w_oSome, w_xRev, w_xDict, w_tAnd, w_tOr, w_tNot, w_tBl, w_rvVar, w_tCall, w_tCallk, w_tBlt, w_tIsi, w_tIdx, w_iSeq, w_iRng, w_iEnm, w_rName, w_gTup, w_gCons, w_gNil, w_gSubF, seqW_next, seqW_ret, seqW_brk, seqW_cnt, seqW_exn, w_sCons, w_sNil, w_sAsg, w_sExpr, w_sRet, w_sRetN, w_sIf, w_rPar2, w_sPar3, w_sAug, w_sFor, w_sRaise, w_raise1, w_sTry, w_sPass, w_sBrk, w_sCnt, w_rComp, w_xTurn, retsW_ret, retsW_next, retsW_exn, startD, List.map_cons, List.map_nil, List.replicate_succ, List.replicate_zero, List.set_cons_zero, List.set_cons_succ, List.length_cons, List.length_nil, List.cons_append, List.nil_append, Nat.reduceAdd, Nat.reduceSub, Nat.reduceLeDiff, Nat.zero_add, List.getD_cons_zero, List.getD_cons_succ, ty_int, ty_bl, ty_str, ty_tup, ty_non, tr_bl, tr_tup, isi_00, isi_01, isi_10, isi_11, isi_33, isi_03, isi_13, isi_30, isi_31, c_lt, c_le, c_gt, c_ge, c_eqI, c_neI, dAdd, dSub, LM_le2, LM_le1, LM_le0, LM_le3, LM_le4, len_tup, idx0, idx1, Option.some.injEq, exists_eq_left', exists_eq_left, D.bl.injEq, D.int.injEq, Bool.not_true, Bool.not_false, if_true, if_false, Bool.false_eq_true, reduceIte, and_true, true_and, and_self, decide_true, decide_false]
    generalize (x * x) % 2147483563 = y at m2
    have e4 : ∀ S, opD .Mult (.int y) (.int 39373) S = .ok (.int (y * 39373)) S := fun S => mul_bd 40 40 (by omega) (by decide) (by omega)
    have e5 : ∀ S, opD .Mult (.int (t + 1)) (.int 7919) S = .ok (.int ((t + 1) * 7919)) S := fun S => mul_bd 40 40 (by omega) (by decide) (by omega)
    simp only [e4, e5, h2.idxT, dMod (show (0 : Int) < 2147483629 by decide), dDiv (show (0 : Int) < 64 by decide) (show (64 : Int) < 2 ^ 40 by decide), dMod b0, w_runC, w_ok, w_exn, w_stk, w_bind, w_ifR, w_optS, w_noX, asB_bl, asI_int, lk0, lkS, w_rVar, w_xC, w_xNil, w_xCons, w_xTup, w_rLst, w_rBin, w_xNeg, w_yCmp, w_uCmp, w_xAndV, w_xOrV, w_xNot, w_xIte, w_xChain, w_xIdx, w_xCall, w_xCallk, w_yBlt, w_xLrng, w_xIsi, w_yMeth, w_ySlice, w_oNone, w_oSome, w_xRev, w_xDict, w_tAnd, w_tOr, w_tNot, w_tBl, w_rvVar, w_tCall, w_tCallk, w_tBlt, w_tIsi, w_tIdx, w_iSeq, w_iRng, w_iEnm, w_rName, w_gTup, w_gCons, w_gNil, w_gSubF, seqW_next, seqW_ret, seqW_brk, seqW_cnt, seqW_exn, w_sCons, w_sNil, w_sAsg, w_sExpr, w_sRet, w_sRetN, w_sIf, w_rPar2, w_sPar3, w_sAug, w_sFor, w_sRaise, w_raise1, w_sTry, w_sPass, w_sBrk, w_sCnt, w_rComp, w_xTurn, retsW_ret, retsW_next, retsW_exn, startD, List.map_cons, List.map_nil, List.replicate_succ, List.replicate_zero, List.set_cons_zero, List.set_cons_succ, List.length_cons, List.length_nil, List.cons_append, List.nil_append, Nat.reduceAdd, Nat.reduceSub, Nat.reduceLeDiff, Nat.zero_add, List.getD_cons_zero, List.getD_cons_succ, ty_int, ty_bl, ty_str, ty_tup, ty_non, tr_bl, tr_tup, isi_00, isi_01, isi_10, isi_11, isi_33, isi_03, isi_13, isi_30, isi_31, c_lt, c_le, c_gt, c_ge, c_eqI, c_neI, dAdd, dSub, LM_le2, LM_le1, LM_le0, LM_le3, LM_le4, len_tup, idx0, idx1, Option.some.injEq, exists_eq_left', exists_eq_left, D.bl.injEq, D.int.injEq, Bool.not_true, Bool.not_false, if_true, if_false, Bool.false_eq_true, reduceIte, and_true, true_and, and_self, decide_true, decide_false]
    exact ⟨_, rfl, (emod_nn b0).1, (emod_nn b0).2, ⟨_, _, _, h2, by omega⟩, f2⟩
theorem h_mp {A : Type} {r : R A} {P Q : A → Sto → Prop} {E F : XN → Sto → Prop} (h : r.holds P E) (f : ∀ a S, P a S → Q a S) (g : ∀ x S, E x S → F x S) : r.holds Q F := holds_imp h f g
theorem no_x {F : XN → Sto → Prop} : ∀ x S, (fun (_ : XN) (_ : Sto) => False) x S → F x S := fun _ _ h => h.elim
theorem run_dkW {cs : List CF2} {k f : Nat} {c : CF2} (hc : cs[f]? = some c) {S : Sto} {j : Nat} {kvs : List (Key × D)} (h : S[j]? = some (.dk kvs)) (ds : List D) : runZ cs (k + 1) f (.ref j :: ds) S = runC c (runZ cs k) (.ref j :: ds) S := run_dk hc h ds
theorem drwC_run {cs : List CF2} {k f : Nat} (hc : cs[f]? = some ⟨2, 4, fun _ => drawR⟩) : DrwC (runZ cs (k + 1) f) := fun S j i n b h hn b0 b1 => by
  have h' := h
  obtain ⟨_, _, _, h', _⟩ := h'
  rw [run_dk hc h'.dk]
  exact drawR_ok h hn b0 b1
def PckP (j i n : Nat) (ds : List D) (S : Sto) (d : D) (S' : Sto) : Prop := d ∈ ds ∧ DR S' j i (n + 1) ∧ Fra i j S S'
/-- a pick out of a list, out of a tuple -/
def PckL (c : List D → Sto → R D) : Prop := ∀ S j i n m ds, DR S j i n → n < 1000000 → S[m]? = some (.lst ds) → m ≠ i → ds ≠ [] → ds.length ≤ LM → (c [.ref j, .ref m] S).holds (PckP j i n ds S) (fun _ _ => False)
def PckT (c : List D → Sto → R D) : Prop := ∀ S j i n ds, DR S j i n → n < 1000000 → ds ≠ [] → ds.length ≤ LM → (c [.ref j, .tup ds] S).holds (PckP j i n ds S) (fun _ _ => False)
theorem DR.nj {S : Sto} {j i n m : Nat} {ds : List D} (h : DR S j i n) (hm : S[m]? = some (.lst ds)) : m ≠ j := fun e => by
  obtain ⟨_, _, _, h, _⟩ := h
  subst e
  have := h.dk
  rw [hm] at this
  cases this
theorem pckL_run {cs : List CF2} {k f g : Nat} (hg : DrwC (runZ cs k g)) (hc : cs[f]? = some ⟨2, 2, fun cl => pickB (cl g)⟩) : PckL (runZ cs (k + 1) f) := fun S j i n m ds h hn hm hi hne hl => by
  have h' := h
  obtain ⟨_, _, _, h', _⟩ := h'
  rw [run_dk hc h'.dk]
  have hpos : 0 < ds.length := List.length_pos_iff.mpr hne
  simp only [pickB, len_at hm, w_runC, w_ok, w_exn, w_stk, w_bind, w_ifR, w_optS, w_noX, asB_bl, asI_int, lk0, lkS, w_rVar, w_xC, w_xNil, w_xCons, w_xTup, w_rLst, w_rBin, w_xNeg, w_yCmp, w_uCmp, w_xAndV, w_xOrV, w_xNot, w_xIte, w_xChain, w_xIdx, w_xCall, w_xCallk, w_yBlt, w_xLrng, w_xIsi, w_yMeth, w_ySlice, w_oNone, w_oSome, w_xRev, w_xDict, w_tAnd, w_tOr, w_tNot, w_tBl, w_rvVar, w_tCall, w_tCallk, w_tBlt, w_tIsi, w_tIdx, w_iSeq, w_iRng, w_iEnm, w_rName, w_gTup, w_gCons, w_gNil, w_gSubF, seqW_next, seqW_ret, seqW_brk, seqW_cnt, seqW_exn, w_sCons, w_sNil, w_sAsg, w_sExpr, w_sRet, w_sRetN, w_sIf, w_rPar2, w_sPar3, w_sAug, w_sFor, w_sRaise, w_raise1, w_sTry, w_sPass, w_sBrk, w_sCnt, w_rComp, w_xTurn, retsW_ret, retsW_next, retsW_exn, startD, List.map_cons, List.map_nil, List.replicate_succ, List.replicate_zero, List.set_cons_zero, List.set_cons_succ, List.length_cons, List.length_nil, List.cons_append, List.nil_append, Nat.reduceAdd, Nat.reduceSub, Nat.reduceLeDiff, Nat.zero_add, List.getD_cons_zero, List.getD_cons_succ, ty_int, ty_bl, ty_str, ty_tup, ty_non, tr_bl, tr_tup, isi_00, isi_01, isi_10, isi_11, isi_33, isi_03, isi_13, isi_30, isi_31, c_lt, c_le, c_gt, c_ge, c_eqI, c_neI, dAdd, dSub, LM_le2, LM_le1, LM_le0, LM_le3, LM_le4, len_tup, idx0, idx1, Option.some.injEq, exists_eq_left', exists_eq_left, D.bl.injEq, D.int.injEq, Bool.not_true, Bool.not_false, if_true, if_false, Bool.false_eq_true, reduceIte, and_true, true_and, and_self, decide_true, decide_false]
  refine h_mp (hg S j i n ds.length h hn (by omega) (by unfold LM at hl; omega)) ?_ no_x
  rintro d S' ⟨r, rfl, r0, r1, hk, hf⟩
  obtain ⟨d, e1, e2⟩ := idx_at (hf.2 m _ hi (h.nj hm) hm) r0 r1
  rw [e2]
  exact ⟨List.mem_of_getElem? e1, hk, hf⟩
theorem idx_tupI {S : Sto} {ds : List D} {r : Int} (r0 : 0 ≤ r) (r1 : r < ds.length) : ∃ d, ds[r.toNat]? = some d ∧ idxD (.tup ds) (.int r) S = .ok d S := by
  have hl : r.toNat < ds.length := by omega
  refine ⟨ds[r.toNat], List.getElem?_eq_getElem hl, ?_⟩
  simp only [idxD, atI, ixN, r0, r1, if_true, Option.bind, List.getElem?_eq_getElem hl, optR]
theorem pckT_run {cs : List CF2} {k f g : Nat} (hg : DrwC (runZ cs k g)) (hc : cs[f]? = some ⟨2, 2, fun cl => pickB (cl g)⟩) : PckT (runZ cs (k + 1) f) := fun S j i n ds h hn hne hl => by
  have h' := h
  obtain ⟨_, _, _, h', _⟩ := h'
  rw [run_dk hc h'.dk]
  have hpos : 0 < ds.length := List.length_pos_iff.mpr hne
  simp only [pickB, w_runC, w_ok, w_exn, w_stk, w_bind, w_ifR, w_optS, w_noX, asB_bl, asI_int, lk0, lkS, w_rVar, w_xC, w_xNil, w_xCons, w_xTup, w_rLst, w_rBin, w_xNeg, w_yCmp, w_uCmp, w_xAndV, w_xOrV, w_xNot, w_xIte, w_xChain, w_xIdx, w_xCall, w_xCallk, w_yBlt, w_xLrng, w_xIsi, w_yMeth, w_ySlice, w_oNone, w_oSome, w_xRev, w_xDict, w_tAnd, w_tOr, w_tNot, w_tBl, w_rvVar, w_tCall, w_tCallk, w_tBlt, w_tIsi, w_tIdx, w_iSeq, w_iRng, w_iEnm, w_rName, w_gTup, w_gCons, w_gNil, w_gSubF, seqW_next, seqW_ret, seqW_brk, seqW_cnt, seqW_exn, w_sCons, w_sNil, w_sAsg, w_sExpr, w_sRet, w_sRetN, w_sIf, w_rPar2, w_sPar3, w_sAug, w_sFor, w_sRaise, w_raise1, w_sTry, w_sPass, w_sBrk, w_sCnt, w_rComp, w_xTurn, retsW_ret, retsW_next, retsW_exn, startD, List.map_cons, List.map_nil, List.replicate_succ, List.replicate_zero, List.set_cons_zero, List.set_cons_succ, List.length_cons, List.length_nil, List.cons_append, List.nil_append, Nat.reduceAdd, Nat.reduceSub, Nat.reduceLeDiff, Nat.zero_add, List.getD_cons_zero, List.getD_cons_succ, ty_int, ty_bl, ty_str, ty_tup, ty_non, tr_bl, tr_tup, isi_00, isi_01, isi_10, isi_11, isi_33, isi_03, isi_13, isi_30, isi_31, c_lt, c_le, c_gt, c_ge, c_eqI, c_neI, dAdd, dSub, LM_le2, LM_le1, LM_le0, LM_le3, LM_le4, len_tup, idx0, idx1, Option.some.injEq, exists_eq_left', exists_eq_left, D.bl.injEq, D.int.injEq, Bool.not_true, Bool.not_false, if_true, if_false, Bool.false_eq_true, reduceIte, and_true, true_and, and_self, decide_true, decide_false]
  refine h_mp (hg S j i n ds.length h hn (by omega) (by unfold LM at hl; omega)) ?_ no_x
  rintro d S' ⟨r, rfl, r0, r1, hk, hf⟩
  obtain ⟨d, e1, e2⟩ := idx_tupI (S := S') r0 r1
  rw [e2]
  exact ⟨List.mem_of_getElem? e1, hk, hf⟩
def DckP (S : Sto) (d : D) (S' : Sto) : Prop := ∃ j i, d = .ref j ∧ DR S' j i 0 ∧ Ext' S S' ∧ S.length ≤ j ∧ S.length ≤ i
theorem forL_const {P : En → Prop} {S : Sto} {s : Sr} {items : List D} {turn : D → En → Sto → R Fl} {Q : Fl → Sto → Prop} {E : XN → Sto → Prop} (hs : ∀ i, srcAt s i S = some items[i]?) (hl : items.length ≤ LM)
    (ht : ∀ d, d ∈ items → ∀ q, P q → ∃ q', turn d q S = .ok (.next q') S ∧ P q') {q : En} (h0 : P q) (h : ∀ q, P q → Q (.next q) S) : (forL turn s FU 0 q S).holds Q E := by
  have go : ∀ (n i : Nat) (q : En), i ≤ items.length → items.length < n + i → P q → (forL turn s n i q S).holds Q E := by
    intro n
    induction n with
    | zero => intro i q h1 h2 _; omega
    | succ n ih =>
      intro i q h1 h2 hq
      unfold forL
      rw [hs i]
      by_cases hi : i < items.length
      · rw [List.getElem?_eq_getElem hi]
        dsimp only
        obtain ⟨q', e, hq'⟩ := ht items[i] (List.getElem_mem hi) q hq
        rw [e]
        exact ih (i + 1) q' (by omega) (by omega) hq'
      · have e : i = items.length := by omega
        subst e
        rw [List.getElem?_eq_none (Nat.le_refl _)]
        exact h q hq
  exact go FU 0 q (Nat.zero_le _) (by unfold LM FU at *; omega) h0
theorem eq_ok {A : Type} {r : R A} {a : A} {S : Sto} (h : r.holds (fun a' S' => a' = a ∧ S' = S) (fun _ _ => False)) : r = .ok a S := by
  cases r with
  | ok f S' =>
    obtain ⟨rfl, rfl⟩ := h
    rfl
  | _ => exact h.elim
theorem deckR_ok {cl : Cl} {S : Sto} {a : D} {ns : List Int} {c0 mu ad : Int} (c1 : 0 ≤ c0 ∧ c0 < 2147483647) (m1 : mu.natAbs < 2 ^ 40) (hsl : ∃ u, u ≤ 63 ∧ sliceD a none (some 63) S = .ok (.ref S.length) (S ++ [.lst ((ns.take u).map .int)])) : (runC ⟨1, 4, fun _ => deckR c0 mu ad⟩ cl [a] S).holds (DckP S) (fun _ _ => False) := by
  obtain ⟨u, hu, hsl⟩ := hsl
  generalize hms : ns.take u = ms at hsl
  have hml : ms.length ≤ 63 := by
    rw [← hms, List.length_take]
    omega
  rw [w_runC]
  unfold deckR
  refine ⟨rfl, ?_⟩
  simp only [hsl, seqS_at (S := S ++ [.lst (ms.map .int)]) (m := S.length) get_new, w_runC, w_ok, w_exn, w_stk, w_bind, w_ifR, w_optS, w_noX, asB_bl, asI_int, lk0, lkS, w_rVar, w_xC, w_xNil, w_xCons, w_xTup, w_rLst, w_rBin, w_xNeg, w_yCmp, w_uCmp, w_xAndV, w_xOrV, w_xNot, w_xIte, w_xChain, w_xIdx, w_xCall, w_xCallk, w_yBlt, w_xLrng, w_xIsi, w_yMeth, w_ySlice, w_oNone, w_oSome, w_xRev, w_xDict, w_tAnd, w_tOr, w_tNot, w_tBl, w_rvVar, w_tCall, w_tCallk, w_tBlt, w_tIsi, w_tIdx, w_iSeq, w_iRng, w_iEnm, w_rName, w_gTup, w_gCons, w_gNil, w_gSubF, seqW_next, seqW_ret, seqW_brk, seqW_cnt, seqW_exn, w_sCons, w_sNil, w_sAsg, w_sExpr, w_sRet, w_sRetN, w_sIf, w_rPar2, w_sPar3, w_sAug, w_sFor, w_sRaise, w_raise1, w_sTry, w_sPass, w_sBrk, w_sCnt, w_rComp, w_xTurn, retsW_ret, retsW_next, retsW_exn, startD, List.map_cons, List.map_nil, List.replicate_succ, List.replicate_zero, List.set_cons_zero, List.set_cons_succ, List.length_cons, List.length_nil, List.cons_append, List.nil_append, Nat.reduceAdd, Nat.reduceSub, Nat.reduceLeDiff, Nat.zero_add, List.getD_cons_zero, List.getD_cons_succ, ty_int, ty_bl, ty_str, ty_tup, ty_non, tr_bl, tr_tup, isi_00, isi_01, isi_10, isi_11, isi_33, isi_03, isi_13, isi_30, isi_31, c_lt, c_le, c_gt, c_ge, c_eqI, c_neI, dAdd, dSub, LM_le2, LM_le1, LM_le0, LM_le3, LM_le4, len_tup, idx0, idx1, Option.some.injEq, exists_eq_left', exists_eq_left, D.bl.injEq, D.int.injEq, Bool.not_true, Bool.not_false, if_true, if_false, Bool.false_eq_true, reduceIte, and_true, true_and, and_self, decide_true, decide_false]
  refine w_compL (items := ms.map .int) (fun d : D => match d with | .int z => some (D.int (z % 1000000000000000000000007)) | _ => none) (fun i => srcL get_new) (by simp [LM]; omega) ?_ ?_
  · intro d hd
    obtain ⟨z, hz, rfl⟩ := List.mem_map.mp hd
    refine turn_eq ?_
    simp only [wipeD, pow24, blt_int, k24, dMod (show (0 : Int) < 1000000000000000000000007 by decide), w_runC, w_ok, w_exn, w_stk, w_bind, w_ifR, w_optS, w_noX, asB_bl, asI_int, lk0, lkS, w_rVar, w_xC, w_xNil, w_xCons, w_xTup, w_rLst, w_rBin, w_xNeg, w_yCmp, w_uCmp, w_xAndV, w_xOrV, w_xNot, w_xIte, w_xChain, w_xIdx, w_xCall, w_xCallk, w_yBlt, w_xLrng, w_xIsi, w_yMeth, w_ySlice, w_oNone, w_oSome, w_xRev, w_xDict, w_tAnd, w_tOr, w_tNot, w_tBl, w_rvVar, w_tCall, w_tCallk, w_tBlt, w_tIsi, w_tIdx, w_iSeq, w_iRng, w_iEnm, w_rName, w_gTup, w_gCons, w_gNil, w_gSubF, seqW_next, seqW_ret, seqW_brk, seqW_cnt, seqW_exn, w_sCons, w_sNil, w_sAsg, w_sExpr, w_sRet, w_sRetN, w_sIf, w_rPar2, w_sPar3, w_sAug, w_sFor, w_sRaise, w_raise1, w_sTry, w_sPass, w_sBrk, w_sCnt, w_rComp, w_xTurn, retsW_ret, retsW_next, retsW_exn, startD, List.map_cons, List.map_nil, List.replicate_succ, List.replicate_zero, List.set_cons_zero, List.set_cons_succ, List.length_cons, List.length_nil, List.cons_append, List.nil_append, Nat.reduceAdd, Nat.reduceSub, Nat.reduceLeDiff, Nat.zero_add, List.getD_cons_zero, List.getD_cons_succ, ty_int, ty_bl, ty_str, ty_tup, ty_non, tr_bl, tr_tup, isi_00, isi_01, isi_10, isi_11, isi_33, isi_03, isi_13, isi_30, isi_31, c_lt, c_le, c_gt, c_ge, c_eqI, c_neI, dAdd, dSub, LM_le2, LM_le1, LM_le0, LM_le3, LM_le4, len_tup, idx0, idx1, Option.some.injEq, exists_eq_left', exists_eq_left, D.bl.injEq, D.int.injEq, Bool.not_true, Bool.not_false, if_true, if_false, Bool.false_eq_true, reduceIte, and_true, true_and, and_self, decide_true, decide_false]
  · have e : (ms.map D.int).filterMap (fun d : D => match d with | .int z => some (D.int (z % 1000000000000000000000007)) | _ => none) = (ms.map fun z => z % 1000000000000000000000007).map D.int := by
      clear hms hsl hml
      induction ms with
      | nil => rfl
      | cons x r ih => simp only [List.map_cons, List.filterMap_cons, ih]
    rw [e]
    have hml2 : (ms.map fun z => z % 1000000000000000000000007).length ≤ 63 := by simpa using hml
    generalize (ms.map fun z => z % 1000000000000000000000007) = ws at hml2
    have hE : Ext' S ((S ++ [O.lst (ms.map .int)]) ++ [O.lst (ws.map .int)]) := ⟨[O.lst (ms.map .int), O.lst (ws.map .int)], by rw [List.append_assoc]; rfl⟩
    have hx : ((S ++ [O.lst (ms.map .int)]) ++ [O.lst (ws.map .int)])[(S ++ [O.lst (ms.map .int)]).length]? = some (.lst (ws.map .int)) := get_new
    generalize (S ++ [O.lst (ms.map .int)]) ++ [O.lst (ws.map .int)] = S1 at hE hx
    generalize (S ++ [O.lst (ms.map .int)]).length = m at hx
    simp only [seqS_at hx, w_runC, w_ok, w_exn, w_stk, w_bind, w_ifR, w_optS, w_noX, asB_bl, asI_int, lk0, lkS, w_rVar, w_xC, w_xNil, w_xCons, w_xTup, w_rLst, w_rBin, w_xNeg, w_yCmp, w_uCmp, w_xAndV, w_xOrV, w_xNot, w_xIte, w_xChain, w_xIdx, w_xCall, w_xCallk, w_yBlt, w_xLrng, w_xIsi, w_yMeth, w_ySlice, w_oNone, w_oSome, w_xRev, w_xDict, w_tAnd, w_tOr, w_tNot, w_tBl, w_rvVar, w_tCall, w_tCallk, w_tBlt, w_tIsi, w_tIdx, w_iSeq, w_iRng, w_iEnm, w_rName, w_gTup, w_gCons, w_gNil, w_gSubF, seqW_next, seqW_ret, seqW_brk, seqW_cnt, seqW_exn, w_sCons, w_sNil, w_sAsg, w_sExpr, w_sRet, w_sRetN, w_sIf, w_rPar2, w_sPar3, w_sAug, w_sFor, w_sRaise, w_raise1, w_sTry, w_sPass, w_sBrk, w_sCnt, w_rComp, w_xTurn, retsW_ret, retsW_next, retsW_exn, startD, List.map_cons, List.map_nil, List.replicate_succ, List.replicate_zero, List.set_cons_zero, List.set_cons_succ, List.length_cons, List.length_nil, List.cons_append, List.nil_append, Nat.reduceAdd, Nat.reduceSub, Nat.reduceLeDiff, Nat.zero_add, List.getD_cons_zero, List.getD_cons_succ, ty_int, ty_bl, ty_str, ty_tup, ty_non, tr_bl, tr_tup, isi_00, isi_01, isi_10, isi_11, isi_33, isi_03, isi_13, isi_30, isi_31, c_lt, c_le, c_gt, c_ge, c_eqI, c_neI, dAdd, dSub, LM_le2, LM_le1, LM_le0, LM_le3, LM_le4, len_tup, idx0, idx1, Option.some.injEq, exists_eq_left', exists_eq_left, D.bl.injEq, D.int.injEq, Bool.not_true, Bool.not_false, if_true, if_false, Bool.false_eq_true, reduceIte, and_true, true_and, and_self, decide_true, decide_false]
    refine forL_const (items := ws.map .int) (P := fun q => ∃ x s, q = [some a, x, some (.ref m), some (.int s)] ∧ 0 ≤ s ∧ s < 2147483647) (fun i => srcL hx) (by simp [LM]; omega) ?_ ⟨none, c0, rfl, c1.1, c1.2⟩ ?_
    · rintro d hd q ⟨x, s, rfl, s0, s1⟩
      obtain ⟨z, hz, rfl⟩ := List.mem_map.mp hd
      have e1 : ∀ S, opD .Mult (.int s) (.int mu) S = .ok (.int (s * mu)) S := fun S => mul_bd 40 40 (by omega) m1 (by omega)
      refine ⟨_, eq_ok ?_, some (.int z), _, rfl, (emod_nn (a := s * mu + z % 2147483543 + ad) (b := 2147483647) (by decide)).1, (emod_nn (by decide)).2⟩
      simp only [w_bindE, e1, dMod (show (0 : Int) < 2147483543 by decide), dMod (show (0 : Int) < 2147483647 by decide), w_runC, w_ok, w_exn, w_stk, w_bind, w_ifR, w_optS, w_noX, asB_bl, asI_int, lk0, lkS, w_rVar, w_xC, w_xNil, w_xCons, w_xTup, w_rLst, w_rBin, w_xNeg, w_yCmp, w_uCmp, w_xAndV, w_xOrV, w_xNot, w_xIte, w_xChain, w_xIdx, w_xCall, w_xCallk, w_yBlt, w_xLrng, w_xIsi, w_yMeth, w_ySlice, w_oNone, w_oSome, w_xRev, w_xDict, w_tAnd, w_tOr, w_tNot, w_tBl, w_rvVar, w_tCall, w_tCallk, w_tBlt, w_tIsi, w_tIdx, w_iSeq, w_iRng, w_iEnm, w_rName, w_gTup, w_gCons, w_gNil, w_gSubF, seqW_next, seqW_ret, seqW_brk, seqW_cnt, seqW_exn, w_sCons, w_sNil, w_sAsg, w_sExpr, w_sRet, w_sRetN, w_sIf, w_rPar2, w_sPar3, w_sAug, w_sFor, w_sRaise, w_raise1, w_sTry, w_sPass, w_sBrk, w_sCnt, w_rComp, w_xTurn, retsW_ret, retsW_next, retsW_exn, startD, List.map_cons, List.map_nil, List.replicate_succ, List.replicate_zero, List.set_cons_zero, List.set_cons_succ, List.length_cons, List.length_nil, List.cons_append, List.nil_append, Nat.reduceAdd, Nat.reduceSub, Nat.reduceLeDiff, Nat.zero_add, List.getD_cons_zero, List.getD_cons_succ, ty_int, ty_bl, ty_str, ty_tup, ty_non, tr_bl, tr_tup, isi_00, isi_01, isi_10, isi_11, isi_33, isi_03, isi_13, isi_30, isi_31, c_lt, c_le, c_gt, c_ge, c_eqI, c_neI, dAdd, dSub, LM_le2, LM_le1, LM_le0, LM_le3, LM_le4, len_tup, idx0, idx1, Option.some.injEq, exists_eq_left', exists_eq_left, D.bl.injEq, D.int.injEq, Bool.not_true, Bool.not_false, if_true, if_false, Bool.false_eq_true, reduceIte, and_true, true_and, and_self, decide_true, decide_false]
    · rintro q ⟨x, s, rfl, s0, s1⟩
      have er : revD (.ref m) S1 = .ok (.ref S1.length) (S1 ++ [.lst (ws.map D.int).reverse]) := by
        unfold revD
        dsimp only
        rw [lstD_at hx]
        rfl
      simp only [er, show ([.inr sR, .inr sM, .inr sT] : List Key).Nodup from by decide, List.zip_cons_cons, List.zip_nil_right, w_runC, w_ok, w_exn, w_stk, w_bind, w_ifR, w_optS, w_noX, asB_bl, asI_int, lk0, lkS, w_rVar, w_xC, w_xNil, w_xCons, w_xTup, w_rLst, w_rBin, w_xNeg, w_yCmp, w_uCmp, w_xAndV, w_xOrV, w_xNot, w_xIte, w_xChain, w_xIdx, w_xCall, w_xCallk, w_yBlt, w_xLrng, w_xIsi, w_yMeth, w_ySlice, w_oNone, w_oSome, w_xRev, w_xDict, w_tAnd, w_tOr, w_tNot, w_tBl, w_rvVar, w_tCall, w_tCallk, w_tBlt, w_tIsi, w_tIdx, w_iSeq, w_iRng, w_iEnm, w_rName, w_gTup, w_gCons, w_gNil, w_gSubF, seqW_next, seqW_ret, seqW_brk, seqW_cnt, seqW_exn, w_sCons, w_sNil, w_sAsg, w_sExpr, w_sRet, w_sRetN, w_sIf, w_rPar2, w_sPar3, w_sAug, w_sFor, w_sRaise, w_raise1, w_sTry, w_sPass, w_sBrk, w_sCnt, w_rComp, w_xTurn, retsW_ret, retsW_next, retsW_exn, startD, List.map_cons, List.map_nil, List.replicate_succ, List.replicate_zero, List.set_cons_zero, List.set_cons_succ, List.length_cons, List.length_nil, List.cons_append, List.nil_append, Nat.reduceAdd, Nat.reduceSub, Nat.reduceLeDiff, Nat.zero_add, List.getD_cons_zero, List.getD_cons_succ, ty_int, ty_bl, ty_str, ty_tup, ty_non, tr_bl, tr_tup, isi_00, isi_01, isi_10, isi_11, isi_33, isi_03, isi_13, isi_30, isi_31, c_lt, c_le, c_gt, c_ge, c_eqI, c_neI, dAdd, dSub, LM_le2, LM_le1, LM_le0, LM_le3, LM_le4, len_tup, idx0, idx1, Option.some.injEq, exists_eq_left', exists_eq_left, D.bl.injEq, D.int.injEq, Bool.not_true, Bool.not_false, if_true, if_false, Bool.false_eq_true, reduceIte, and_true, true_and, and_self, decide_true, decide_false]
      refine ⟨_, S1.length, rfl, ⟨ws.reverse, s, 0, ⟨get_new, ?_, by simpa using hml2, s0, s1, Int.le_refl 0⟩, Int.le_refl 0⟩, (hE.trans Ext'.app).trans Ext'.app, ?_, ?_⟩
      · rw [List.map_reverse]
        exact get_old get_new
      · obtain ⟨T, e⟩ := hE
        have := congrArg List.length e
        simp at this ⊢
        omega
      · obtain ⟨T, e⟩ := hE
        have := congrArg List.length e
        simp at this
        omega
theorem top_fz {cs : List CF2} {k f : Nat} {c : CF2} (hc : cs[f]? = some c) (ns : List Int) {P : D → Sto → Prop} (hP : ∀ d S', P d S' → ∃ j T kvs, d = .ref j ∧ S' = [O.fz (ns.map .int)] ++ T ∧ 1 ≤ j ∧ S'[j]? = some (.dk kvs))
    (h : (runC c (runZ cs k) [.ref 0] [.fz (ns.map .int)]).holds P (fun _ _ => False)) : (runZ cs (k + 1) f [.ref 0] [.fz (ns.map .int)]).holds P (fun _ _ => False) := by
  rw [run_at hc, runY_eq]
  cases e : runC c (runZ cs k) [.ref 0] [.fz (ns.map .int)] with
  | ok d S1 =>
    rw [e] at h
    obtain ⟨j, T, kvs, rfl, rfl, hj, hk⟩ := hP d S1 h
    unfold pureC
    rw [show rfs [.ref 0] = false from rfl]
    dsimp only
    have hiso : isoR (runC c (runZ cs k)) [.ref 0] [.fz (ns.map .int)] = none := by
      unfold isoR
      rw [show refsD [.ref 0] = some [0] from rfl]
      dsimp only
      rw [show subS [.fz (ns.map .int)] [0] = some [.fz (ns.map .int)] by
        unfold subS
        rw [show ([O.fz (ns.map D.int)] : List O)[0]? = some (O.fz (ns.map D.int)) from rfl]
        dsimp only
        rw [show flatO (.fz (ns.map .int)) = true from rfs_ints ns]
        rfl]
      dsimp only
      rw [show renD 0 [.ref 0] = [.ref 0] from rfl, e]
      dsimp only
      rw [show backS [.fz (ns.map .int)] [0] ([.fz (ns.map .int)] ++ T) = some [.fz (ns.map .int)] by
        show (if flatO (.fz (ns.map .int)) then backS _ [] T else none) = _
        rw [show flatO (.fz (ns.map .int)) = true from rfs_ints ns, if_pos rfl]
        unfold backS
        rfl]
      dsimp only
      rw [show rf (.ref j) = false from rfl]
      dsimp only
      rw [show newR [0].length (.ref j) ([.fz (ns.map .int)] ++ T) = none by
        unfold newR
        dsimp only
        rw [if_pos (show [0].length ≤ j from hj)]
        unfold lstRf
        dsimp only
        rw [hk]]
    rw [hiso]
    dsimp only
    rw [e]
    exact h
  | _ =>
    rw [e] at h
    exact h.elim
theorem top_cl {cs : List CF2} {k f : Nat} {c : CF2} (hc : cs[f]? = some c) (ns : List Int) {P : D → Sto → Prop} (hP : ∀ d S', P d S' → ∃ j kvs, d = .ref j ∧ S'[j]? = some (.dk kvs))
    (h : (runC c (runZ cs k) [.cl (ns.map .int)] []).holds P (fun _ _ => False)) : (runZ cs (k + 1) f [.cl (ns.map .int)] []).holds P (fun _ _ => False) := by
  rw [run_at hc, runY_eq]
  cases e : runC c (runZ cs k) [.cl (ns.map .int)] [] with
  | ok d S1 =>
    rw [e] at h
    obtain ⟨j, kvs, rfl, hk⟩ := hP d S1 h
    unfold pureC
    rw [show rfs [.cl (ns.map .int)] = true by
      show (rfs (ns.map .int) && true) = true
      rw [rfs_ints]
      rfl]
    dsimp only
    rw [e]
    dsimp only
    unfold adoptR
    rw [show rf (.ref j) = false from rfl]
    dsimp only
    rw [show lstRf (.ref j) S1 = none by
      unfold lstRf
      dsimp only
      rw [hk]]
    dsimp only
    rw [show ([] : Sto).length = 0 from rfl, shD0, shS0, List.nil_append]
    exact h
  | _ =>
    rw [e] at h
    exact h.elim
theorem deckR_fz {cs : List CF2} {k f : Nat} {c0 mu ad : Int} (c1 : 0 ≤ c0 ∧ c0 < 2147483647) (m1 : mu.natAbs < 2 ^ 40) (hc : cs[f]? = some ⟨1, 4, fun _ => deckR c0 mu ad⟩) (ns : List Int) : (runZ cs (k + 1) f [.ref 0] [.fz (ns.map .int)]).holds (DckP [.fz (ns.map .int)]) (fun _ _ => False) := by
  refine top_fz hc ns ?_ (deckR_ok c1 m1 (ns := ns) ⟨min 63 ns.length, by omega, ?_⟩)
  · rintro d S' ⟨j, i, rfl, ⟨_, _, _, h, _⟩, ⟨T, hT⟩, hj, _⟩
    exact ⟨j, T, _, rfl, hT, hj, h.dk⟩
  · show R.ok (D.ref 1) ([O.fz (ns.map .int)] ++ [O.lst (cut (ns.map D.int) none (some 63))]) = _
    have e : cut (ns.map D.int) none (some 63) = (ns.take (min 63 ns.length)).map .int := by
      unfold cut
      rw [HT.sIx_none]
      have e63 : HT.sIx (ns.map D.int).length (ns.map D.int).length (some 63) = min 63 (ns.map D.int).length := HT.sIx_nat _ _ 63
      rw [e63]
      simp [List.map_take]
    rw [e]
    rfl
theorem deckR_cl {cs : List CF2} {k f : Nat} {c0 mu ad : Int} (c1 : 0 ≤ c0 ∧ c0 < 2147483647) (m1 : mu.natAbs < 2 ^ 40) (hc : cs[f]? = some ⟨1, 4, fun _ => deckR c0 mu ad⟩) (ns : List Int) : (runZ cs (k + 1) f [.cl (ns.map .int)] []).holds (DckP []) (fun _ _ => False) := by
  refine top_cl hc ns ?_ (deckR_ok c1 m1 (ns := ns) ⟨min 63 ns.length, by omega, ?_⟩)
  · rintro d S' ⟨j, i, rfl, ⟨_, _, _, h, _⟩, _, _, _⟩
    exact ⟨j, _, rfl, h.dk⟩
  · show R.ok (D.ref 0) ([] ++ [O.lst (cut (ns.map D.int) none (some 63))]) = _
    have e : cut (ns.map D.int) none (some 63) = (ns.take (min 63 ns.length)).map .int := by
      unfold cut
      rw [HT.sIx_none]
      have e63 : HT.sIx (ns.map D.int).length (ns.map D.int).length (some 63) = min 63 (ns.map D.int).length := HT.sIx_nat _ _ 63
      rw [e63]
      simp [List.map_take]
    rw [e]
    rfl
end DI
/-! DI: loops with what holds between turns; calls that are given one list; tuples of numbers. -/
namespace DI
open PySem L2
def flW (I : En → Sto → Prop) (Q : Fl → Sto → Prop) : Fl → Sto → Prop
  | .next q, S => I q S
  | .cnt q, S => I q S
  | .brk q, S => Q (.next q) S
  | .ret d, S => Q (.ret d) S
  | .exn x q, S => Q (.exn x q) S
section
variable {I : En → Sto → Prop} {Q : Fl → Sto → Prop} {q : En} {S : Sto} {d : D} {x : XN}
theorem flW_next : flW I Q (.next q) S ↔ I q S := Iff.rfl
theorem flW_cnt : flW I Q (.cnt q) S ↔ I q S := Iff.rfl
theorem flW_brk : flW I Q (.brk q) S ↔ Q (.next q) S := Iff.rfl
theorem flW_ret : flW I Q (.ret d) S ↔ Q (.ret d) S := Iff.rfl
theorem flW_exn : flW I Q (.exn x q) S ↔ Q (.exn x q) S := Iff.rfl
end
theorem w_forL {items : List D} {s : Sr} {turn : D → En → Sto → R Fl} {Q : Fl → Sto → Prop} {E : XN → Sto → Prop} {q : En} {S : Sto} (P : Nat → En → Sto → Prop) (hs : ∀ i q S, P i q S → srcAt s i S = some items[i]?) (hl : items.length ≤ LM)
    (ht : ∀ i d q S, items[i]? = some d → P i q S → (turn d q S).holds (flW (P (i + 1)) Q) E) (h0 : P 0 q S) (hQ : ∀ q S, P items.length q S → Q (.next q) S) : (forL turn s FU 0 q S).holds Q E := by
  have go : ∀ (n i : Nat) (q : En) (S : Sto), i ≤ items.length → items.length < n + i → P i q S → (forL turn s n i q S).holds Q E := by
    intro n
    induction n with
    | zero => intro i q S h1 h2 _; omega
    | succ n ih =>
      intro i q S h1 h2 hq
      unfold forL
      rw [hs i q S hq]
      by_cases hi : i < items.length
      · rw [List.getElem?_eq_getElem hi]
        dsimp only
        rw [w_bind]
        refine h_mp (ht i _ q S (List.getElem?_eq_getElem hi) hq) (fun f S' hf => ?_) (fun _ _ z => z)
        cases f with
        | next q1 => exact ih (i + 1) q1 S' (by omega) (by omega) hf
        | cnt q1 => exact ih (i + 1) q1 S' (by omega) (by omega) hf
        | brk q1 => exact hf
        | ret d => exact hf
        | exn x q1 => exact hf
      · have e : i = items.length := by omega
        subst e
        rw [List.getElem?_eq_none (Nat.le_refl _)]
        exact hQ q S hq
  exact go FU 0 q S (Nat.zero_le _) (by unfold LM FU at *; omega) h0
/-- a call that is given one list of plain data -/
theorem iso1 {cs : List CF2} {k f : Nat} {c : CF2} (hc : cs[f]? = some c) {xs : List D} {v : D} {m : Nat} {S : Sto} (hm : S[m]? = some (.lst xs)) (hx : rfs xs = true) (hv : rf v = true)
    (h : (runC c (runZ cs k) [.ref 0] [.lst xs]).holds (fun d S' => d = v ∧ ∃ T, S' = [.lst xs] ++ T) (fun _ _ => False)) : runZ cs (k + 1) f [.ref m] S = .ok v S := by
  rw [run_at hc, runY_eq]
  cases e : runC c (runZ cs k) [.ref 0] [.lst xs] with
  | ok d S1 =>
    rw [e] at h
    obtain ⟨rfl, T, rfl⟩ := h
    unfold pureC
    rw [show rfs [.ref m] = false by simp [rfs, rf]]
    dsimp only
    have hiso : isoR (runC c (runZ cs k)) [.ref m] S = some (.ok d S) := by
      unfold isoR
      rw [show refsD [.ref m] = some [m] from rfl]
      dsimp only
      have e2 : subS S [m] = some [.lst xs] := by
        simp only [subS, hm, flatO, hx]
        rfl
      rw [e2]
      dsimp only
      rw [show renD 0 [.ref m] = [.ref 0] from rfl, e]
      dsimp only
      have e4 : backS S [m] ([.lst xs] ++ T) = some S := by
        show (if flatO (.lst xs) then backS (S.set m (.lst xs)) [] T else none) = _
        rw [show flatO (.lst xs) = true from hx, if_pos rfl]
        unfold backS
        obtain ⟨hl, hg⟩ := List.getElem?_eq_some_iff.mp hm
        rw [show S.set m (.lst xs) = S by rw [← hg]; simp]
      rw [e4]
      dsimp only
      rw [hv]
    rw [hiso]
  | _ =>
    rw [e] at h
    exact h.elim
/-! tuples of numbers -/
def nT (s : List Nat) : D := .tup (s.map fun n : Nat => D.int n)
def hasN (s : List Nat) (x : Nat) : Bool := s.any (Nat.beq x)
theorem okIs_nT : ∀ s : List Nat, okIs (s.map fun n : Nat => D.int n) = true
  | [] => rfl
  | n :: s => by simp only [List.map_cons, okIs, okI, okIs_nT s]; rfl
theorem okI_nT (s : List Nat) : okI (nT s) = true := by simp only [nT, okI, okIs_nT]
theorem dpIs_nT : ∀ s : List Nat, dpIs (s.map fun n : Nat => D.int n) = 0
  | [] => rfl
  | n :: s => by simp only [List.map_cons, dpIs, dpI, dpIs_nT s]; rfl
theorem dpI_nT (s : List Nat) : dpI (nT s) = 1 := by simp only [nT, dpI, dpIs_nT]
theorem rf_nT (s : List Nat) : rf (nT s) = true := rf_okI _ (okI_nT s)
theorem eqbs_nT : ∀ a b : List Nat, eqbs (a.map fun n : Nat => D.int n) (b.map fun n : Nat => D.int n) = decide (a = b)
  | [], [] => by simp [eqbs]
  | [], _ :: _ => by simp [eqbs]
  | _ :: _, [] => by simp [eqbs]
  | x :: a, y :: b => by
    simp only [List.map_cons, eqbs, eqb, eqbs_nT a b]
    by_cases h : x = y
    · subst h
      simp
    · have : ¬ ((x : Int) = (y : Int)) := by omega
      simp [h, this]
theorem eqb_nT (a b : List Nat) : eqb (nT a) (nT b) = decide (a = b) := by simp only [nT, eqb, eqbs_nT]
theorem nT_inj {a b : List Nat} (h : nT a = nT b) : a = b := by
  have e := eqb_nT a b
  rw [h, eqb_refl _ (okI_nT b)] at e
  exact of_decide_eq_true e.symm
section
variable {S : Sto} {d e : D}
theorem eqD_nT (a b : List Nat) : eqD S (nT a) (nT b) = some (decide (a = b)) := by
  rw [eqD_okI (okI_nT a) (okI_nT b) (by rw [dpI_nT]; omega) (by rw [dpI_nT]; omega), eqb_nT]
theorem len_nT (s : List Nat) : bltD .len [nT s] S = .ok (.int s.length) S := by
  unfold nT
  rw [len_tup, List.length_map]
theorem ty_nT (s : List Nat) : typD S (nT s) = some 3 := rfl
/-- a pair of two such -/
def pT (a b : List Nat) : D := .tup [nT a, nT b]
theorem okI_pT (a b : List Nat) : okI (pT a b) = true := by simp only [pT, okI, okIs, okI_nT]; rfl
theorem dpI_pT (a b : List Nat) : dpI (pT a b) = 2 := by simp only [pT, dpI, dpIs, dpI_nT]; rfl
theorem rf_pT (a b : List Nat) : rf (pT a b) = true := rf_okI _ (okI_pT a b)
theorem eqb_pT (a b c d : List Nat) : eqb (pT a b) (pT c d) = (decide (a = c) && decide (b = d)) := by simp only [pT, eqb, eqbs, eqb_nT, Bool.and_true]
theorem eqD_pT (a b c d : List Nat) : eqD S (pT a b) (pT c d) = some (decide (a = c) && decide (b = d)) := by
  rw [eqD_okI (okI_pT a b) (okI_pT c d) (by rw [dpI_pT]; omega) (by rw [dpI_pT]; omega), eqb_pT]
theorem ty_pT (a b : List Nat) : typD S (pT a b) = some 3 := rfl
theorem eqD_refl {y : PyData} (h : pyD 60 S d = some y) (hs : SeqAt.shaped y = true) : eqD S d d = some true := by
  unfold eqD
  rw [h]
  dsimp only
  rw [hs]
  rw [SeqAt.eqv_refl _ (SeqAt.canLay_of_shaped hs)]
  rfl
theorem flat_nT (s : List Nat) : (s.map fun n : Nat => D.int n).all flatD = true := by
  rw [List.all_map, List.all_eq_true]
  intro x _
  rfl
theorem any_nT (x : Nat) (s : List Nat) : ((s.map fun n : Nat => D.int n).any fun y => eqF y (.int x)) = hasN s x := by
  rw [List.any_map]
  unfold hasN
  refine congrArg (fun f => s.any f) ?_
  funext y
  show ((y : Int) == (x : Int)) = Nat.beq x y
  rw [Bool.eq_iff_iff, beq_iff_eq, Nat.beq_eq]
  omega
theorem c_inN (x : Nat) (s : List Nat) : cmpD .In (.int x) (nT s) S = .ok (.bl (hasN s x)) S := by
  show (if (flatD (.int x) && (s.map fun n : Nat => D.int n).all flatD) = true then R.ok (D.bl ((s.map fun n : Nat => D.int n).any fun y => eqF y (.int x))) S else _) = _
  rw [flat_nT, any_nT]
  rfl
theorem c_niN (x : Nat) (s : List Nat) : cmpD .NotIn (.int x) (nT s) S = .ok (.bl (!hasN s x)) S := by
  show (if (flatD (.int x) && (s.map fun n : Nat => D.int n).all flatD) = true then R.ok (D.bl (!((s.map fun n : Nat => D.int n).any fun y => eqF y (.int x)))) S else _) = _
  rw [flat_nT, any_nT]
  rfl
theorem rep_bl (b : Bool) : bltD .repr [.bl b] S = .ok (.str (PyData.bool b).shown) S := by cases b <;> rfl
theorem eqD_str {x : Str} (hx : PyData.strOk x = true) : eqD S (.str x) (.str x) = some true := by
  refine eqD_refl (y := .str x) rfl ?_
  unfold SeqAt.shaped
  simp [PyData.canLay0, PyData.depth, hx]
theorem ne_rep (a b : Bool) : cmpD .NotEq (.str (PyData.bool a).shown) (.str (PyData.bool b).shown) S = .ok (.bl (!decide (a = b))) S := by
  cases a <;> cases b <;> kernel_rfl
theorem c_isB (a b : Bool) : cmpD .Is (.bl a) (.bl b) S = .ok (.bl (decide (a = b))) S := rfl
theorem c_inB (a b : Bool) : cmpD .IsNot (.bl a) (.bl b) S = .ok (.bl (!decide (a = b))) S := rfl
end
end DI
/-! DI: sorted lists that are known; comprehensions of two fors. -/
namespace DI
open PySem L2
def ltI (a b : D) : Bool := PySem.W.dataLt (pyI a) (pyI b)
def chB : List D → Bool
  | [] => true
  | [_] => true
  | a :: b :: r => ltI a b && chB (b :: r)
theorem lt_trans {a b c : D} (h : ltI a b = true) (h2 : ltI b c = true) : ltI a c = true := by
  have t := leB_tot
  have le : ∀ {x y : D}, ltI x y = true ↔ leB (y, pyI y) (x, pyI x) = false := fun {x y} => by
    show _ ↔ (!PySem.W.dataLt (pyI x) (pyI y)) = false
    unfold ltI
    simp
  rw [le] at h h2 ⊢
  cases e : leB (c, pyI c) (a, pyI a) with
  | false => rfl
  | true =>
    rcases t.total (a, pyI a) (b, pyI b) with q | q
    · have := t.trans _ _ _ e q
      rw [h2] at this
      cases this
    · rw [h] at q
      cases q
theorem ch_pair : ∀ {l : List D}, chB l = true → l.Pairwise fun a b => ltI a b = true
  | [], _ => .nil
  | [a], _ => List.pairwise_singleton _ _
  | a :: b :: r, h => by
    have h' : (ltI a b && chB (b :: r)) = true := h
    rw [Bool.and_eq_true] at h'
    have ih := ch_pair h'.2
    refine List.pairwise_cons.mpr ⟨fun x hx => ?_, ih⟩
    rcases List.mem_cons.mp hx with e | e
    · rw [e]
      exact h'.1
    · exact lt_trans h'.1 ((List.pairwise_cons.mp ih).1 x e)
/-- there is one way to sort -/
theorem srt_uniq : ∀ {zs : List D} {ms : List (D × PyData)}, zs.Pairwise (fun a b => ltI a b = true) → (ms.map (·.1)).Perm zs → (∀ p ∈ ms, p.2 = pyI p.1) → ms.Pairwise (fun a b => leB a b = true) → ms.map (·.1) = zs
  | [], ms, _, hp, _, _ => hp.eq_nil
  | z :: zs, [], _, hp, _, _ => by
    have := hp.length_eq
    simp at this
  | z :: zs, x :: ms, hz, hp, hd, hm => by
    obtain ⟨z1, z2⟩ := List.pairwise_cons.mp hz
    obtain ⟨m1, m2⟩ := List.pairwise_cons.mp hm
    have e : x.1 = z := by
      by_cases h : x.1 = z
      · exact h
      have hx : x.1 ∈ z :: zs := hp.subset (by simp)
      have hx' : x.1 ∈ zs := by
        rcases List.mem_cons.mp hx with q | q
        · exact (h q).elim
        · exact q
      have hz' : z ∈ (x :: ms).map (·.1) := hp.symm.subset (by simp)
      have hz2 : ∃ p ∈ ms, p.1 = z := by
        rw [List.map_cons] at hz'
        rcases List.mem_cons.mp hz' with q | q
        · exact (h q.symm).elim
        · obtain ⟨p, h1, h2⟩ := List.mem_map.mp q
          exact ⟨p, h1, h2⟩
      obtain ⟨p, hpm, hpz⟩ := hz2
      have a1 := z1 _ hx'
      have a2 := m1 p hpm
      have a3 : (!PySem.W.dataLt p.2 x.2) = true := a2
      rw [hd x (by simp), hd p (List.mem_cons_of_mem _ hpm), hpz] at a3
      have a1' : PySem.W.dataLt (pyI z) (pyI x.1) = true := a1
      rw [a1'] at a3
      cases a3
    have hp' : (ms.map (·.1)).Perm zs := by
      rw [List.map_cons, e] at hp
      exact hp.cons_inv
    rw [List.map_cons, e, srt_uniq z2 hp' (fun p h => hd p (List.mem_cons_of_mem _ h)) m2]
theorem insB_perm (p : D × PyData) : ∀ l, (insB p l).Perm (p :: l)
  | [] => List.Perm.refl _
  | q :: r => by
    unfold insB
    split
    · exact List.Perm.refl _
    · exact (List.Perm.cons q (insB_perm p r)).trans (List.Perm.swap p q r)
theorem srtB_perm : ∀ l, (srtB l).Perm l
  | [] => List.Perm.refl _
  | p :: r => (insB_perm p _).trans (List.Perm.cons p (srtB_perm r))
theorem dep_pyI : ∀ d : D, okI d = true → (pyI d).depth = dpI d := fun d h => (lay_okI d h).2
theorem pyIs_map : ∀ ds : List D, pyIs ds = ds.map pyI
  | [] => rfl
  | d :: ds => by simp only [pyIs, List.map_cons, pyIs_map ds]
theorem okIs_mem : ∀ {ds : List D}, okIs ds = true → ∀ d ∈ ds, okI d = true
  | d :: ds, h, e, he => by
    simp only [okIs, Bool.and_eq_true] at h
    rcases List.mem_cons.mp he with q | q
    · rw [q]; exact h.1
    · exact okIs_mem h.2 e q
theorem okIs_of : ∀ {ds : List D}, (∀ d ∈ ds, okI d = true) → okIs ds = true
  | [], _ => rfl
  | d :: ds, h => by
    simp only [okIs, Bool.and_eq_true]
    exact ⟨h d (by simp), okIs_of fun e he => h e (List.mem_cons_of_mem _ he)⟩
theorem dpIs_le : ∀ {ds : List D} {n : Nat}, (∀ d ∈ ds, dpI d ≤ n) → dpIs ds ≤ n
  | [], _, _ => by simp [dpIs]
  | d :: ds, n, h => by
    simp only [dpIs]
    have := h d (by simp)
    have := dpIs_le (ds := ds) (n := n) fun e he => h e (List.mem_cons_of_mem _ he)
    omega
theorem dpI_mem : ∀ {ds : List D} {n : Nat}, dpIs ds ≤ n → ∀ d ∈ ds, dpI d ≤ n
  | d :: ds, n, h, e, he => by
    simp only [dpIs] at h
    rcases List.mem_cons.mp he with q | q
    · rw [q]; omega
    · exact dpI_mem (by omega) e q
theorem zip_map1 : ∀ (es : List D), (es.zip (pyIs es)).map (·.1) = es
  | [] => rfl
  | e :: es => by
    show e :: (es.zip (pyIs es)).map (·.1) = e :: es
    rw [zip_map1 es]
theorem zip_py : ∀ (es : List D) (p : D × PyData), p ∈ es.zip (pyIs es) → p.2 = pyI p.1
  | [], p, h => by cases h
  | e :: es, p, h => by
    rcases List.mem_cons.mp (show p ∈ (e, pyI e) :: es.zip (pyIs es) from h) with q | q
    · rw [q]
    · exact zip_py es p q
/-- sorted of these is that -/
theorem sort_is {es zs : List D} (ho : ∀ d ∈ zs, okI d = true ∧ dpI d ≤ 50) (hp : es.Perm zs) (hs : zs.Pairwise (fun a b => ltI a b = true)) (hal : alB (pyIs es) = true) (hsb : sblB (pyIs es) = true) : sortD es (pyIs es) = some zs := by
  unfold sortD
  have h3 : (pyIs es).all (fun d => decide (d.depth ≤ 60)) = true := by
    rw [pyIs_map, List.all_map, List.all_eq_true]
    intro d hd
    have := ho d (hp.subset hd)
    have e := dep_pyI d this.1
    show decide ((pyI d).depth ≤ 60) = true
    rw [e]
    exact decide_eq_true (by omega)
  rw [hal, hsb, h3]
  show some ((srtB (es.zip (pyIs es))).map (·.1)) = some zs
  refine congrArg some (srt_uniq hs ?_ (fun p h => zip_py es p ((srtB_perm _).subset h)) (srtB_eq _).1)
  refine List.Perm.trans ?_ hp
  have := (srtB_perm (es.zip (pyIs es))).map (·.1)
  rw [zip_map1] at this
  exact this
theorem py_oks {S : Sto} {es : List D} (ho : ∀ d ∈ es, okI d = true ∧ dpI d ≤ 50) : optAll (es.map (pyD 60 S)) = some (pyIs es) :=
  pyDs_okI S es 60 (okIs_of fun d h => (ho d h).1) (by have := dpIs_le (n := 50) fun d h => (ho d h).2; omega)
/-- sorted(xs) of a list in the store -/
theorem sorted_at {S : Sto} {d : D} {es zs : List D} (hd : seqD S d = some es) (ho : ∀ d ∈ zs, okI d = true ∧ dpI d ≤ 50) (hp : es.Perm zs) (hs : zs.Pairwise (fun a b => ltI a b = true)) (hal : alB (pyIs es) = true) (hsb : sblB (pyIs es) = true) : bltD .sorted [d] S = .ok (.ref S.length) (S ++ [.lst zs]) := by
  show (optB (seqD S d) fun es => optB (optAll (es.map (pyD 60 S))) fun ys => optB (sortD es ys) fun zs => .ok (.ref S.length) (S ++ [.lst zs]) : R D) = _
  rw [hd]
  show (optB (optAll (es.map (pyD 60 S))) fun ys => optB (sortD es ys) fun zs => .ok (.ref S.length) (S ++ [.lst zs]) : R D) = _
  rw [py_oks fun d h => ho d (hp.subset h)]
  show (optB (sortD es (pyIs es)) fun zs => .ok (.ref S.length) (S ++ [.lst zs]) : R D) = _
  rw [sort_is ho hp hs hal hsb]
  rfl
/-! numbers sorted, to show that lists are the same but for order -/
def insN (a : Nat) : List Nat → List Nat
  | [] => [a]
  | b :: r => bif Nat.ble a b then a :: b :: r else b :: insN a r
def srtN : List Nat → List Nat
  | [] => []
  | a :: r => insN a (srtN r)
theorem insN_perm (a : Nat) : ∀ l, (insN a l).Perm (a :: l)
  | [] => List.Perm.refl _
  | b :: r => by
    show (bif Nat.ble a b then a :: b :: r else b :: insN a r).Perm _
    cases Nat.ble a b with
    | true => exact List.Perm.refl _
    | false => exact (List.Perm.cons b (insN_perm a r)).trans (List.Perm.swap a b r)
theorem srtN_perm : ∀ l, (srtN l).Perm l
  | [] => List.Perm.refl _
  | a :: r => (insN_perm a _).trans (List.Perm.cons a (srtN_perm r))
def eqNs : List Nat → List Nat → Bool
  | [], [] => true
  | a :: r, b :: s => Nat.beq a b && eqNs r s
  | _, _ => false
theorem eqNs_eq : ∀ {a b : List Nat}, eqNs a b = true → a = b
  | [], [], _ => rfl
  | a :: r, b :: s, h => by
    have h' : (Nat.beq a b && eqNs r s) = true := h
    rw [Bool.and_eq_true] at h'
    rw [Nat.eq_of_beq_eq_true h'.1, eqNs_eq h'.2]
  | [], _ :: _, h => by cases h
  | _ :: _, [], h => by cases h
theorem perm_code {A : Type} {f : A → Nat} {g : Nat → A} {l m : List A} (h : eqNs (srtN (l.map f)) (srtN (m.map f)) = true) (hl : ∀ x ∈ l, g (f x) = x) (hm : ∀ x ∈ m, g (f x) = x) : l.Perm m := by
  have e := eqNs_eq h
  have p : (l.map f).Perm (m.map f) := (srtN_perm _).symm.trans (by rw [e]; exact srtN_perm _)
  have q := p.map g
  have w : ∀ {n : List A}, (∀ x ∈ n, g (f x) = x) → (n.map f).map g = n := fun {n} hn => by
    rw [List.map_map]
    have : ∀ x ∈ n, (g ∘ f) x = id x := fun x hx => hn x hx
    rw [List.map_congr_left this, List.map_id]
  rw [w hl, w hm] at q
  exact q
/-! two fors -/
theorem compO_pure {items : List D} {s : Sr} {S : Sto} {turn : D → List D → Sto → R (List D)} {f : D → List D} (hs : ∀ i, srcAt s i S = some items[i]?)
    (ht : ∀ d, d ∈ items → ∀ acc, acc.length + (f d).length ≤ LM → turn d acc S = .ok (acc ++ f d) S) : ∀ (n i : Nat) (acc : List D), acc.length + ((items.drop i).flatMap f).length ≤ LM → i ≤ items.length → items.length < n + i → compO turn s n i acc S = .ok (acc ++ (items.drop i).flatMap f) S
  | 0, i, acc, h0, h1, h2 => by omega
  | n + 1, i, acc, h0, h1, h2 => by
    unfold compO
    rw [hs i]
    by_cases h : i < items.length
    · rw [List.getElem?_eq_getElem h]
      dsimp only
      rw [List.drop_eq_getElem_cons h, List.flatMap_cons] at h0 ⊢
      rw [List.length_append] at h0
      rw [ht items[i] (List.getElem_mem h) acc (by omega), bind_ok, compO_pure hs ht n (i + 1) _ (by rw [List.length_append]; omega) (by omega) (by omega), List.append_assoc]
    · have e : i = items.length := by omega
      subst e
      rw [List.getElem?_eq_none (Nat.le_refl _), List.drop_length]
      simp
theorem w_compO {items : List D} {s : Sr} {S : Sto} {turn : D → List D → Sto → R (List D)} (f : D → List D) {Q : List D → Sto → Prop} {E : XN → Sto → Prop} (hs : ∀ i, srcAt s i S = some items[i]?) (hi : items.length ≤ LM) (hl : (items.flatMap f).length ≤ LM)
    (ht : ∀ d, d ∈ items → ∀ acc, acc.length + (f d).length ≤ LM → turn d acc S = .ok (acc ++ f d) S) (h : Q (items.flatMap f) S) : (compO turn s FU 0 [] S).holds Q E := by
  rw [compO_pure hs ht FU 0 [] (by simpa using hl) (Nat.zero_le _) (by unfold LM FU at *; omega)]
  exact h
theorem compL_acc {items : List D} {s : Sr} {S : Sto} {turn : D → Sto → R (Option D)} {o : D → Option D} (hs : ∀ i, srcAt s i S = some items[i]?)
    (ht : ∀ d, d ∈ items → turn d S = .ok (o d) S) : ∀ (n i : Nat) (acc : List D), acc.length + ((items.drop i).filterMap o).length ≤ LM → i ≤ items.length → items.length < n + i → compL turn s n i acc S = .ok (acc ++ (items.drop i).filterMap o) S
  | 0, i, acc, h0, h1, h2 => by omega
  | n + 1, i, acc, h0, h1, h2 => by
    unfold compL
    rw [hs i]
    by_cases h : i < items.length
    · rw [List.getElem?_eq_getElem h]
      dsimp only
      rw [List.drop_eq_getElem_cons h, List.filterMap_cons] at h0 ⊢
      rw [ht items[i] (List.getElem_mem h), bind_ok]
      cases e : o items[i] with
      | none =>
        rw [e] at h0
        exact compL_acc hs ht n (i + 1) acc h0 (by omega) (by omega)
      | some x =>
        rw [e] at h0
        dsimp only at h0 ⊢
        rw [List.length_cons] at h0
        rw [decide_eq_true (show acc.length < LM by omega)]
        show compL turn s n (i + 1) (acc ++ [x]) S = _
        rw [compL_acc hs ht n (i + 1) (acc ++ [x]) (by rw [List.length_append]; simp; omega) (by omega) (by omega), List.append_assoc]
        rfl
    · have e : i = items.length := by omega
      subst e
      rw [List.getElem?_eq_none (Nat.le_refl _), List.drop_length]
      simp
theorem w_xComp2 {t t1 : D → En → Sto → R En} {it it1 : En → Sto → R Sr} {c c1 : XT} {e : XE} {vs vs1 : List Nat} {q : En} {S : Sto} {Q : D → Sto → Prop} {E : XN → Sto → Prop} : (xComp2 t it c t1 it1 c1 e vs vs1 q S).holds Q E ↔ (it q S).holds (fun s S => (compO (xOut t c it1 t1 c1 e vs vs1 q) s FU 0 [] S).holds (fun ds S => Q (.ref S.length) (S ++ [.lst ds])) (fun _ _ => False)) E := by
  unfold xComp2
  simp only [w_bind, w_ok]
  refine iff_of_eq (congrArg (fun z => (it q S).holds z E) ?_)
  funext s S
  refine propext ?_
  rw [w_noX]
theorem w_xOut {t t1 : D → En → Sto → R En} {it1 : En → Sto → R Sr} {c c1 : XT} {e : XE} {vs vs1 : List Nat} {q : En} {S : Sto} {d : D} {acc : List D} {Q : List D → Sto → Prop} {E : XN → Sto → Prop} : (xOut t c it1 t1 c1 e vs vs1 q d acc S).holds Q E ↔ (t d (wipeD q vs) S).holds (fun q1 S => (c q1 S).holds (fun b S => if b = true then (it1 q1 S).holds (fun s1 S => (compL (xInn t1 c1 e vs1 q1) s1 FU 0 acc S).holds Q E) E else Q acc S) E) E := by
  unfold xOut
  simp only [w_bind]
  refine iff_of_eq (congrArg (fun z => (t d (wipeD q vs) S).holds z E) ?_)
  funext q S
  refine congrArg (fun z => (c q S).holds z E) ?_
  funext b S
  cases b
  · simp [w_ok]
  · simp [w_bind]
theorem w_xInn {t1 : D → En → Sto → R En} {c1 : XT} {e : XE} {vs1 : List Nat} {q1 : En} {S : Sto} {d : D} {Q : Option D → Sto → Prop} {E : XN → Sto → Prop} : (xInn t1 c1 e vs1 q1 d S).holds Q E ↔ (t1 d (wipeD q1 vs1) S).holds (fun q S => (c1 q S).holds (fun b S => if b = true then (e q S).holds (fun x S => Q (some x) S) E else Q none S) E) E := w_xTurn
section
variable {S : Sto} {i j : Nat} {ds zs : List D}
theorem ext_at (h : S[i]? = some (.lst ds)) (h2 : S[j]? = some (.lst zs)) (hl : ds.length + zs.length ≤ LM) : methD .extend (.ref i) [.ref j] S = .ok .non (S.set i (.lst (ds ++ zs))) := by
  show (optB (lstD S (.ref i)) fun ds => optB (lstD S (.ref j)) fun zs => ifR (decide (ds.length + zs.length ≤ LM)) (.ok .non (S.set i (.lst (ds ++ zs)))) : R D) = _
  rw [lstD_at h, lstD_at h2]
  show (ifR (decide (ds.length + zs.length ≤ LM)) (.ok .non (S.set i (.lst (ds ++ zs)))) : R D) = _
  rw [decide_eq_true hl]
  rfl
theorem app_at {d : D} (h : S[i]? = some (.lst ds)) (hl : ds.length < LM) : methD .append (.ref i) [d] S = .ok .non (S.set i (.lst (ds ++ [d]))) := by
  show (optB (lstD S (.ref i)) fun ds => ifR (decide (ds.length < LM)) (.ok .non (S.set i (.lst (ds ++ [d])))) : R D) = _
  rw [lstD_at h]
  show (ifR (decide (ds.length < LM)) (.ok .non (S.set i (.lst (ds ++ [d])))) : R D) = _
  rw [decide_eq_true hl]
  rfl
theorem kAt (h : S[i]? = some (.lst ds)) (m : Me) (hm : m = .append ∨ m = .pop ∨ m = .extend) : meK m (.ref i) S = true := by
  rcases hm with rfl | rfl | rfl <;> (unfold meK; rw [lstD_at h]; rfl)
theorem tuple_at (h : S[i]? = some (.lst ds)) : bltD .tuple [.ref i] S = .ok (.tup ds) S := by
  show (optB (seqD S (.ref i)) fun es => .ok (.tup es) S : R D) = _
  rw [seqD_at h]
  rfl
theorem rng_src1 (lo : Int) (n i : Nat) (S : Sto) : srcAt (.rng lo n) i S = some ((List.range n).map fun t : Nat => D.int (lo + t))[i]? := by
  unfold srcAt
  dsimp only
  by_cases h : i < n
  · rw [if_pos h]
    simp [h]
  · rw [if_neg h, List.getElem?_eq_none (by simpa using h)]
theorem rngS1 {n : Int} (h : -(2 ^ 62) ≤ n ∧ n < 2 ^ 62) : rngS [.int n] S = .ok (.rng 0 n.toNat) S := by
  show (ifR (decide (-(2 ^ 62) ≤ n ∧ n < 2 ^ 62)) (.ok (.rng 0 n.toNat) S) : R Sr) = _
  rw [decide_eq_true h]
  rfl
theorem rngS2 {a b : Int} (h : -(2 ^ 62) ≤ a ∧ a < 2 ^ 62 ∧ -(2 ^ 62) ≤ b ∧ b < 2 ^ 62) : rngS [.int a, .int b] S = .ok (.rng a (b - a).toNat) S := by
  show (ifR (decide (-(2 ^ 62) ≤ a ∧ a < 2 ^ 62 ∧ -(2 ^ 62) ≤ b ∧ b < 2 ^ 62)) (.ok (.rng a (b - a).toNat) S) : R Sr) = _
  rw [decide_eq_true h]
  rfl
end
/-- a pair (data, truth) is itself -/
theorem eqD_told {S : Sto} {d : D} (b : Bool) (h : okI d = true) (hd : dpI d ≤ 40) : eqD S (.tup [d, .bl b]) (.tup [d, .bl b]) = some true := by
  obtain ⟨h1, h2⟩ := lay_okI d h
  refine eqD_refl (y := .tuple [pyI d, .bool b]) ?_ ?_
  · rw [pyD_tup]
    have e1 : pyD 59 S d = some (pyI d) := pyD_okI S d 59 h (by omega)
    have e2 : pyD 59 S (.bl b) = some (.bool b) := rfl
    simp only [List.map_cons, List.map_nil, optAll, e1, e2, Option.map]
  · unfold SeqAt.shaped
    simp [PyData.canLay0, PyData.canLayAll0, PyData.depth, PyData.depthAll, h1, h2]
    omega
theorem pT_fold (a b : List Nat) : D.tup [nT a, nT b] = pT a b := rfl
theorem ne_pT {S : Sto} (a b c d : List Nat) : cmpD .NotEq (pT a b) (pT c d) S = .ok (.bl (!(decide (a = c) && decide (b = d)))) S := c_ne (eqD_pT a b c d)
theorem eq_pT {S : Sto} (a b c d : List Nat) : cmpD .Eq (pT a b) (pT c d) S = .ok (.bl (decide (a = c) && decide (b = d))) S := c_eq (eqD_pT a b c d)
end DI
/-! DI: the law's end. -/
namespace DI
open PySem L2
def Keep (S S' : Sto) (N : Nat) : Prop := ∀ x o, x < N → S[x]? = some o → S'[x]? = some o
theorem Keep.rfl {S : Sto} {N : Nat} : Keep S S N := fun _ _ _ h => h
theorem Keep.trans {S S1 S2 : Sto} {N : Nat} (a : Keep S S1 N) (b : Keep S1 S2 N) : Keep S S2 N := fun x o hx h => b x o hx (a x o hx h)
theorem Fra.keep {i j N : Nat} {S S' : Sto} (h : Fra i j S S') (hi : N ≤ i) (hj : N ≤ j) : Keep S S' N := fun x o hx e => h.2 x o (by omega) (by omega) e
theorem Ext'.keep {N : Nat} {S S' : Sto} (h : Ext' S S') : Keep S S' N := fun x o _ e => h.at e
theorem keep_app {S T : Sto} {N : Nat} : Keep S (S ++ T) N := fun x o _ e => get_old e
theorem good_of {pg : PG} {cs : List CF2} {i : Nat} {c : CF2} (same : Same pg pg.fns cs) (hc : cs[i]? = some c)
    (h : ∀ (S : Sto) (a : D) (ns : List Int), (S = [.fz (ns.map .int)] ∧ a = .ref 0) ∨ (S = [] ∧ a = .cl (ns.map .int)) → (runC c (runZ cs 39) [a] S).holds (fun d S' => d = .bl true ∧ Keep S S' S.length) (fun _ _ => False)) : Good pg 40 i := good_z same fun ns _ => by
  constructor
  · have h := h _ _ ns (.inl ⟨rfl, rfl⟩)
    cases e : runC c (runZ cs 39) [.ref 0] [.fz (ns.map .int)] with
    | ok d S1 =>
      rw [e] at h
      obtain ⟨rfl, hk⟩ := h
      have h0 := hk 0 _ (by simp) (show ([O.fz (ns.map .int)] : Sto)[0]? = some _ from rfl)
      obtain ⟨o, T, rfl⟩ : ∃ o T, S1 = o :: T := by
        cases S1 with
        | nil => simp at h0
        | cons o T => exact ⟨o, T, rfl⟩
      have ho : o = .fz (ns.map .int) := by simpa using h0
      subst ho
      refine ⟨[.fz (ns.map .int)], ?_⟩
      show runZ cs (39 + 1) i [.ref 0] [.fz (ns.map .int)] = _
      rw [run_at hc, runY_eq]
      unfold pureC
      rw [show rfs [.ref 0] = false from rfl]
      dsimp only
      have hiso : isoR (runC c (runZ cs 39)) [.ref 0] [.fz (ns.map .int)] = some (.ok (.bl true) [.fz (ns.map .int)]) := by
        unfold isoR
        rw [show refsD [.ref 0] = some [0] from rfl]
        dsimp only
        rw [show subS [.fz (ns.map .int)] [0] = some [.fz (ns.map .int)] by
          unfold subS
          rw [show ([O.fz (ns.map D.int)] : List O)[0]? = some (O.fz (ns.map D.int)) from rfl]
          dsimp only
          rw [show flatO (.fz (ns.map .int)) = true from rfs_ints ns]
          rfl]
        dsimp only
        rw [show renD 0 [.ref 0] = [.ref 0] from rfl, show runC c (runZ cs 39) [.ref 0] [.fz (ns.map .int)] = _ from e]
        dsimp only
        rw [show backS [.fz (ns.map .int)] [0] (.fz (ns.map .int) :: T) = some [.fz (ns.map .int)] by
          show (if flatO (.fz (ns.map .int)) then backS _ [] T else none) = _
          rw [show flatO (.fz (ns.map .int)) = true from rfs_ints ns, if_pos rfl]
          unfold backS
          rfl]
        rfl
      rw [hiso]
    | _ =>
      rw [e] at h
      exact h.elim
  · have h := h _ _ ns (.inr ⟨rfl, rfl⟩)
    cases e : runC c (runZ cs 39) [.cl (ns.map .int)] [] with
    | ok d S1 =>
      rw [e] at h
      obtain ⟨rfl, -⟩ := h
      refine ⟨[], ?_⟩
      show runZ cs (39 + 1) i [.cl (ns.map .int)] [] = _
      rw [run_at hc, runY_eq]
      refine pure_ret ?_ e rfl []
      show (rfs (ns.map .int) && true) = true
      rw [rfs_ints]
      rfl
    | _ =>
      rw [e] at h
      exact h.elim
theorem head_at {S : Sto} {o : O} (h : S[0]? = some o) : ∃ T, S = [o] ++ T := by
  cases S with
  | nil => cases h
  | cons a T => exact ⟨T, by simp at h; rw [h]; rfl⟩
theorem DR.up {S : Sto} {j i n m : Nat} (h : DR S j i n) (hm : n ≤ m) : DR S j i m := by
  obtain ⟨cs, s, t, h, ht⟩ := h
  exact ⟨cs, s, t, h, by omega⟩
theorem DR.push {S : Sto} {j i n : Nat} (h : DR S j i n) (o : O) : DR (S ++ [o]) j i n := by
  obtain ⟨cs, s, t, h, ht⟩ := h
  exact ⟨cs, s, t, h.push o, ht⟩
theorem DR.lt {S : Sto} {j i n : Nat} (h : DR S j i n) : j < S.length ∧ i < S.length := by
  obtain ⟨cs, s, t, h, ht⟩ := h
  exact ⟨get_lt h.dk, get_lt h.ls⟩
theorem DR.set {S : Sto} {j i n m : Nat} {o : O} (h : DR S j i n) (h1 : m ≠ i) (h2 : m ≠ j) : DR (S.set m o) j i n := by
  obtain ⟨cs, s, t, h, ht⟩ := h
  exact ⟨cs, s, t, ⟨by rw [set_off (Ne.symm h2)]; exact h.dk, by rw [set_off (Ne.symm h1)]; exact h.ls, h.ln, h.s0, h.s1, h.t0⟩, ht⟩
theorem Keep.app {S S1 T : Sto} {N : Nat} (a : Keep S S1 N) : Keep S (S1 ++ T) N := a.trans keep_app
theorem Keep.set {S S1 : Sto} {N l : Nat} {o : O} (a : Keep S S1 N) (h : N ≤ l) : Keep S (S1.set l o) N := fun x p hx e => by
  rw [set_off (by omega)]
  exact a x p hx e
theorem tup_srcW (ds : List D) (i : Nat) (S : Sto) : srcAt (.tup ds) i S = some ds[i]? := rfl
end DI
namespace K34
open PySem L2 DI
def top (i : Nat) : Stmt := PySem.Challenge.pw_twocompanies_k34_whole_products_of_a_siz.main.body.getD i (.Pass ⟨0, 0, 0, 0⟩)
def gs : GS := ⟨[(("is_integer" : Str), (["thing"] : List Str)), (("is_size" : Str), (["thing", "greatest"] : List Str)), (("is_place" : Str), (["size", "thing"] : List Str)), (("is_set" : Str), (["size", "thing"] : List Str)), (("are_sets" : Str), (["size", "rows", "columns"] : List Str)), (("is_pair" : Str), (["thing"] : List Str)), (("sets_of" : Str), (["size", "many"] : List Str)), (("other_places" : Str), (["size", "some"] : List Str)), (("need_sets" : Str), (["size", "rows", "columns"] : List Str)), (("need_size" : Str), (["size"] : List Str)), (("is_product" : Str), (["size", "thing"] : List Str)), (("need_product" : Str), (["size", "product"] : List Str)), (("products" : Str), (["size"] : List Str)), (("others_of" : Str), (["size", "rows", "columns"] : List Str)), (("product_of" : Str), (["size", "rows", "columns"] : List Str)), (("other_company" : Str), (["size", "product"] : List Str)), (("_law_deck" : Str), (["_law_script"] : List Str)), (("_law_draw" : Str), (["_law_deck_here", "_law_below"] : List Str)), (("_law_pick" : Str), (["_law_deck_here", "_law_some"] : List Str)), (("_law_sets" : Str), (["_law_n"] : List Str)), (("_law_left" : Str), (["_law_n", "_law_some"] : List Str)), (("_law_due" : Str), (["_law_sets_here"] : List Str)), (("_law_is_refused" : Str), (["_law_n", "_law_rows", "_law_columns"] : List Str)), (("_law_pair_right" : Str), (["_law_n", "_law_rows", "_law_columns"] : List Str)), (("_law_pairs" : Str), (["_law_deck_here", "_law_n", "_law_sets_here"] : List Str)), (("law" : Str), (["_law_script"] : List Str))], ["GREATEST_SIZE"], ["isinstance", "int", "bool", "tuple", "len", "range", "sorted", "max", "repr"], ["BadSets", "BadSize", "BadProduct", "CompanyError"]⟩
def kw : List KP := [⟨14, 0, ["size", "rows", "columns"], [0, 1, 2]⟩, ⟨10, 0, ["size", "thing"], [0, 1]⟩, ⟨15, 0, ["size", "product"], [0, 1]⟩, ⟨12, 0, ["size"], [0]⟩]
/-- is_integer -/
def f0 : FC := ⟨1, 1, .cons (.ret (.and (.cons (.isi [0] (.var 0)) (.cons (.not (.isi [1] (.var 0))) .nil)))) .nil⟩
/-- is_size -/
def f1 : FC := ⟨2, 2, .cons (.ret (.and (.cons (.call 0 (.cons (.var 0) .nil)) (.cons (.chain .LtE .LtE (.int 1) (.var 0) (.var 1)) .nil)))) .nil⟩
/-- is_place -/
def f2 : FC := ⟨2, 2, .cons (.ret (.and (.cons (.call 0 (.cons (.var 1) .nil)) (.cons (.chain .LtE .Lt (.int 0) (.var 1) (.var 0)) .nil)))) .nil⟩
/-- is_set -/
def f3 : FC := ⟨2, 4, .cons (.ite (.not (.isi [3] (.var 1))) (.cons (.ret (.bl false)) .nil) (.nil)) (.cons (.asg (.name 2) (.neg (.int 1))) (.cons (.for (.name 3) (.seq (.var 1)) (.cons (.ite (.or (.cons (.not (.call 2 (.cons (.var 0) (.cons (.var 3) .nil)))) (.cons (.cmp .LtE (.var 3) (.var 2)) .nil))) (.cons (.ret (.bl false)) .nil) (.nil)) (.cons (.asg (.name 2) (.var 3)) .nil))) (.cons (.ret (.bl true)) .nil)))⟩
/-- are_sets -/
def f4 : FC := ⟨3, 3, .cons (.ret (.and (.cons (.call 3 (.cons (.var 0) (.cons (.var 1) .nil))) (.cons (.call 3 (.cons (.var 0) (.cons (.var 2) .nil))) (.cons (.cmp .Eq (.blt .len (.cons (.var 1) .nil)) (.blt .len (.cons (.var 2) .nil))) .nil))))) .nil⟩
/-- is_pair -/
def f5 : FC := ⟨1, 1, .cons (.ret (.and (.cons (.isi [3] (.var 0)) (.cons (.cmp .Eq (.blt .len (.cons (.var 0) .nil)) (.int 2)) .nil)))) .nil⟩
/-- sets_of -/
def f6 : FC := ⟨2, 6, .cons (.asg (.name 2) (.lst (.cons (.tup (.nil)) .nil))) (.cons (.for (.name 3) (.rng (.cons (.var 1) .nil)) (.cons (.asg (.name 2) (.comp2 (.name 4) (.seq (.var 2)) .none (.name 5) (.rng (.cons (.var 0) .nil)) (.some (.or (.cons (.cmp .Eq (.var 4) (.tup (.nil))) (.cons (.cmp .Gt (.var 5) (.idx (.var 4) (.neg (.int 1)))) .nil)))) (.bin .Add (.var 4) (.tup (.cons (.var 5) .nil))) [4, 5] [5])) .nil)) (.cons (.ret (.var 2)) .nil))⟩
/-- other_places -/
def f7 : FC := ⟨2, 3, .cons (.ret (.blt .tuple (.cons (.comp (.name 2) (.rng (.cons (.var 0) .nil)) (.some (.cmp .NotIn (.var 2) (.var 1))) (.var 2) [2]) .nil))) .nil⟩
/-- need_sets -/
def f8 : FC := ⟨3, 3, .cons (.ite (.not (.call 4 (.cons (.var 0) (.cons (.var 1) (.cons (.var 2) .nil))))) (.cons (.raise 0 (.cons (.tup (.cons (.var 1) (.cons (.var 2) .nil))) .nil)) .nil) (.nil)) .nil⟩
/-- need_size -/
def f9 : FC := ⟨1, 1, .cons (.ite (.not (.call 1 (.cons (.var 0) (.cons (.glob 0) .nil)))) (.cons (.raise 1 (.cons (.var 0) .nil)) .nil) (.nil)) .nil⟩
/-- is_product -/
def f10 : FC := ⟨2, 2, .cons (.ite (.or (.cons (.not (.call 5 (.cons (.var 1) .nil))) (.cons (.not (.call 4 (.cons (.var 0) (.cons (.idx (.var 1) (.int 0)) (.cons (.idx (.var 1) (.int 1)) .nil))))) .nil))) (.cons (.ret (.bl false)) .nil) (.nil)) (.cons (.ret (.cmp .In (.int 0) (.idx (.var 1) (.int 0)))) .nil)⟩
/-- need_product -/
def f11 : FC := ⟨2, 2, .cons (.ite (.not (.call 10 (.cons (.var 0) (.cons (.var 1) .nil)))) (.cons (.raise 2 (.cons (.var 1) .nil)) .nil) (.nil)) .nil⟩
/-- products -/
def f12 : FC := ⟨1, 6, .cons (.expr (.call 9 (.cons (.var 0) .nil))) (.cons (.asg (.name 1) (.lst (.nil))) (.cons (.for (.name 2) (.rng (.cons (.int 1) (.cons (.bin .Add (.var 0) (.int 1)) .nil))) (.cons (.asg (.name 3) (.call 6 (.cons (.var 0) (.cons (.var 2) .nil)))) (.cons (.expr (.meth .extend (.var 1) (.cons (.comp2 (.name 4) (.seq (.var 3)) .none (.name 5) (.seq (.var 3)) (.some (.cmp .In (.int 0) (.var 4))) (.tup (.cons (.var 4) (.cons (.var 5) .nil))) [4, 5] [5]) .nil))) .nil))) (.cons (.ret (.blt .tuple (.cons (.blt .sorted (.cons (.var 1) .nil)) .nil))) .nil)))⟩
/-- others_of -/
def f13 : FC := ⟨3, 3, .cons (.ret (.tup (.cons (.call 7 (.cons (.var 0) (.cons (.var 1) .nil))) (.cons (.call 7 (.cons (.var 0) (.cons (.var 2) .nil))) .nil)))) .nil⟩
/-- product_of -/
def f14 : FC := ⟨3, 3, .cons (.expr (.call 9 (.cons (.var 0) .nil))) (.cons (.expr (.call 8 (.cons (.var 0) (.cons (.var 1) (.cons (.var 2) .nil))))) (.cons (.ret (.ite (.cmp .In (.int 0) (.var 1)) (.tup (.cons (.var 1) (.cons (.var 2) .nil))) (.call 13 (.cons (.var 0) (.cons (.var 1) (.cons (.var 2) .nil)))))) .nil))⟩
/-- other_company -/
def f15 : FC := ⟨2, 2, .cons (.expr (.call 9 (.cons (.var 0) .nil))) (.cons (.expr (.call 11 (.cons (.var 0) (.cons (.var 1) .nil)))) (.cons (.ret (.call 13 (.cons (.var 0) (.cons (.idx (.var 1) (.int 0)) (.cons (.idx (.var 1) (.int 1)) .nil))))) .nil))⟩
/-- _law_deck -/
def f16 : FC := ⟨1, 4, .cons (.par2 2 3 (.comp (.name 1) (.seq (.slice (.var 0) .none (.some (.int 63)))) .none (.bin .Mod (.blt .int (.cons (.var 1) .nil)) (.bin .Add (.bin .Pow (.int 10) (.int 24)) (.int 7))) [1]) (.int 10875034)) (.cons (.for (.name 1) (.seq (.var 2)) (.cons (.asg (.name 3) (.bin .Mod (.bin .Add (.bin .Add (.bin .Mult (.var 3) (.int 69621)) (.bin .Mod (.var 1) (.int 2147483543))) (.int 34)) (.int 2147483647))) .nil)) (.cons (.ret (.dict [.inr (⟨#[114, 101, 115, 116]⟩ : Str), .inr (⟨#[109, 105, 120, 101, 100]⟩ : Str), .inr (⟨#[116, 117, 114, 110]⟩ : Str)] (.cons (.rev (.var 2)) (.cons (.var 3) (.cons (.int 0) .nil))))) .nil))⟩
/-- _law_draw -/
def f17 : FC := ⟨2, 4, .cons (.asg (.sub (.var 0) (.str (⟨#[116, 117, 114, 110]⟩ : Str))) (.bin .Add (.idx (.var 0) (.str (⟨#[116, 117, 114, 110]⟩ : Str))) (.int 1))) (.cons (.ite (.cmp .NotEq (.idx (.var 0) (.str (⟨#[114, 101, 115, 116]⟩ : Str))) (.lst (.nil))) (.cons (.asg (.name 3) (.meth .pop (.idx (.var 0) (.str (⟨#[114, 101, 115, 116]⟩ : Str))) .nil)) (.cons (.ite (.cmp .GtE (.var 3) (.bin .Pow (.int 10) (.int 6))) (.cons (.expr (.meth .append (.idx (.var 0) (.str (⟨#[114, 101, 115, 116]⟩ : Str))) (.cons (.bin .FloorDiv (.var 3) (.blt .max2 (.cons (.int 2) (.cons (.var 1) .nil)))) .nil))) .nil) (.nil)) (.cons (.ret (.bin .Mod (.var 3) (.var 1))) .nil))) (.nil)) (.cons (.asg (.name 2) (.bin .Mod (.bin .Add (.idx (.var 0) (.str (⟨#[109, 105, 120, 101, 100]⟩ : Str))) (.bin .Mult (.bin .Mult (.int 40692) (.idx (.var 0) (.str (⟨#[116, 117, 114, 110]⟩ : Str)))) (.idx (.var 0) (.str (⟨#[116, 117, 114, 110]⟩ : Str))))) (.int 2147483399))) (.cons (.asg (.name 2) (.bin .Mod (.bin .Mult (.var 2) (.var 2)) (.int 2147483563))) (.cons (.ret (.bin .Mod (.bin .FloorDiv (.bin .Mod (.bin .Add (.bin .Mult (.var 2) (.int 39373)) (.bin .Mult (.idx (.var 0) (.str (⟨#[116, 117, 114, 110]⟩ : Str))) (.int 7919))) (.int 2147483629)) (.int 64)) (.var 1))) .nil))))⟩
/-- _law_pick -/
def f18 : FC := ⟨2, 2, .cons (.ret (.idx (.var 1) (.call 17 (.cons (.var 0) (.cons (.blt .len (.cons (.var 1) .nil)) .nil))))) .nil⟩
/-- _law_sets -/
def f19 : FC := ⟨1, 4, .cons (.asg (.name 1) (.lst (.cons (.tup (.nil)) .nil))) (.cons (.for (.name 2) (.rng (.cons (.var 0) .nil)) (.cons (.asg (.name 1) (.bin .Add (.var 1) (.comp (.name 3) (.seq (.var 1)) .none (.bin .Add (.var 3) (.tup (.cons (.var 2) .nil))) [3]))) .nil)) (.cons (.ret (.blt .sorted (.cons (.var 1) .nil))) .nil))⟩
/-- _law_left -/
def f20 : FC := ⟨2, 3, .cons (.ret (.blt .tuple (.cons (.comp (.name 2) (.rng (.cons (.var 0) .nil)) (.some (.cmp .NotIn (.var 2) (.var 1))) (.var 2) [2]) .nil))) .nil⟩
/-- _law_due -/
def f21 : FC := ⟨1, 4, .cons (.asg (.name 1) (.lst (.nil))) (.cons (.for (.name 2) (.seq (.var 0)) (.cons (.ite (.cmp .In (.int 0) (.var 2)) (.cons (.expr (.meth .extend (.var 1) (.cons (.comp (.name 3) (.seq (.var 0)) (.some (.cmp .Eq (.blt .len (.cons (.var 3) .nil)) (.blt .len (.cons (.var 2) .nil)))) (.tup (.cons (.var 2) (.cons (.var 3) .nil))) [3]) .nil))) .nil) (.nil)) .nil)) (.cons (.ret (.blt .tuple (.cons (.var 1) .nil))) .nil))⟩
/-- _law_is_refused -/
def f22 : FC := ⟨3, 5, .cons (.asg (.name 3) (.non)) (.cons (.try_ (.cons (.expr (.call 14 (.cons (.var 0) (.cons (.var 1) (.cons (.var 2) .nil))))) .nil) 0 4 (.asg 3 (.tup (.cons (.fld (⟨#[116, 104, 105, 110, 103]⟩ : Str)) (.cons (.isE 3) .nil))))) (.cons (.ret (.cmp .Eq (.var 3) (.tup (.cons (.tup (.cons (.var 1) (.cons (.var 2) .nil))) (.cons (.bl true) .nil))))) .nil))⟩
/-- _law_pair_right -/
def f23 : FC := ⟨3, 7, .cons (.ite (.cmp .NotEq (.blt .len (.cons (.var 1) .nil)) (.blt .len (.cons (.var 2) .nil))) (.cons (.ret (.call 22 (.cons (.var 0) (.cons (.var 1) (.cons (.var 2) .nil))))) .nil) (.nil)) (.cons (.par2 3 4 (.tup (.cons (.var 1) (.cons (.var 2) .nil))) (.tup (.cons (.call 20 (.cons (.var 0) (.cons (.var 1) .nil))) (.cons (.call 20 (.cons (.var 0) (.cons (.var 2) .nil))) .nil)))) (.cons (.asg (.tup (.cons (.name 5) (.cons (.name 6) .nil))) (.ite (.cmp .In (.int 0) (.var 1)) (.tup (.cons (.var 3) (.cons (.var 4) .nil))) (.tup (.cons (.var 4) (.cons (.var 3) .nil))))) (.cons (.ite (.or (.cons (.cmp .NotEq (.call 14 (.cons (.var 0) (.cons (.var 1) (.cons (.var 2) .nil)))) (.var 5)) (.cons (.cmp .NotEq (.call 14 (.cons (.var 0) (.cons (.idx (.var 4) (.int 0)) (.cons (.idx (.var 4) (.int 1)) .nil)))) (.var 5)) .nil))) (.cons (.ret (.bl false)) .nil) (.nil)) (.cons (.ite (.or (.cons (.cmp .NotEq (.callk 0 (.nil) (.cons (.var 0) (.cons (.var 1) (.cons (.var 2) .nil)))) (.var 5)) (.cons (.cmp .IsNot (.call 10 (.cons (.var 0) (.cons (.var 5) .nil))) (.bl true)) .nil))) (.cons (.ret (.bl false)) .nil) (.nil)) (.cons (.ite (.or (.cons (.cmp .IsNot (.call 10 (.cons (.var 0) (.cons (.var 6) .nil))) (.bl false)) (.cons (.cmp .NotEq (.blt .repr (.cons (.callk 1 (.nil) (.cons (.var 0) (.cons (.var 3) .nil))) .nil)) (.blt .repr (.cons (.cmp .Eq (.var 5) (.var 3)) .nil))) .nil))) (.cons (.ret (.bl false)) .nil) (.nil)) (.cons (.ret (.and (.cons (.cmp .Eq (.call 15 (.cons (.var 0) (.cons (.var 5) .nil))) (.var 6)) (.cons (.cmp .Eq (.callk 2 (.nil) (.cons (.var 0) (.cons (.var 5) .nil))) (.var 6)) .nil)))) .nil))))))⟩
/-- _law_pairs -/
def f24 : FC := ⟨3, 9, .cons (.asg (.name 3) (.lst (.nil))) (.cons (.ite (.cmp .Lt (.var 1) (.int 4)) (.cons (.for (.name 5) (.seq (.var 2)) (.cons (.expr (.meth .extend (.var 3) (.cons (.comp (.name 8) (.seq (.var 2)) .none (.tup (.cons (.var 5) (.cons (.var 8) .nil))) [8]) .nil))) .nil)) (.cons (.ret (.var 3)) .nil)) (.nil)) (.cons (.for (.name 4) (.rng (.cons (.int 24) .nil)) (.cons (.asg (.name 5) (.call 18 (.cons (.var 0) (.cons (.var 2) .nil)))) (.cons (.asg (.name 6) (.comp (.name 7) (.seq (.var 2)) (.some (.cmp .Eq (.blt .len (.cons (.var 7) .nil)) (.blt .len (.cons (.var 5) .nil)))) (.var 7) [7])) (.cons (.expr (.meth .append (.var 3) (.cons (.tup (.cons (.var 5) (.cons (.ite (.cmp .Gt (.call 17 (.cons (.var 0) (.cons (.int 5) .nil))) (.int 0)) (.call 18 (.cons (.var 0) (.cons (.var 6) .nil))) (.call 18 (.cons (.var 0) (.cons (.var 2) .nil)))) .nil))) .nil))) .nil)))) (.cons (.ret (.var 3)) .nil)))⟩
/-- law -/
def f25 : FC := ⟨1, 9, .cons (.asg (.name 1) (.call 16 (.cons (.var 0) .nil))) (.cons (.asg (.name 2) (.call 18 (.cons (.var 1) (.cons (.tup (.cons (.int 3) (.cons (.int 2) (.cons (.int 4) (.cons (.int 3) (.cons (.int 1) (.cons (.int 4) (.cons (.int 5) (.cons (.int 2) (.cons (.int 3) (.cons (.int 6) (.cons (.int 4) (.cons (.int 5) .nil))))))))))))) .nil)))) (.cons (.asg (.name 3) (.call 19 (.cons (.var 2) .nil))) (.cons (.asg (.name 4) (.call 21 (.cons (.var 3) .nil))) (.cons (.asg (.name 5) (.call 12 (.cons (.var 2) .nil))) (.cons (.ite (.or (.cons (.cmp .NotEq (.var 5) (.var 4)) (.cons (.cmp .NotEq (.callk 3 (.nil) (.cons (.var 2) .nil)) (.var 4)) (.cons (.cmp .NotEq (.blt .len (.cons (.var 5) .nil)) (.idx (.tup (.cons (.int 1) (.cons (.int 3) (.cons (.int 10) (.cons (.int 35) (.cons (.int 126) (.cons (.int 462) .nil))))))) (.bin .Sub (.var 2) (.int 1)))) .nil)))) (.cons (.ret (.bl false)) .nil) (.nil)) (.cons (.for (.tup (.cons (.name 6) (.cons (.name 7) .nil))) (.seq (.tup (.cons (.idx (.var 5) (.int 0)) (.cons (.idx (.var 5) (.neg (.int 1))) (.cons (.call 18 (.cons (.var 1) (.cons (.var 5) .nil))) .nil))))) (.cons (.ite (.cmp .NotEq (.comp (.name 8) (.seq (.bin .Add (.var 6) (.var 7))) (.some (.isi [1] (.var 8))) (.var 8) [8]) (.lst (.nil))) (.cons (.ret (.bl false)) .nil) (.nil)) .nil)) (.cons (.for (.tup (.cons (.name 6) (.cons (.name 7) .nil))) (.seq (.call 24 (.cons (.var 1) (.cons (.var 2) (.cons (.var 3) .nil))))) (.cons (.ite (.not (.call 23 (.cons (.var 2) (.cons (.var 6) (.cons (.var 7) .nil))))) (.cons (.ret (.bl false)) .nil) (.nil)) .nil)) (.cons (.ret (.cmp .Eq (.call 12 (.cons (.var 2) .nil)) (.var 4))) .nil))))))))⟩
def pg : PG := ⟨[f0, f1, f2, f3, f4, f5, f6, f7, f8, f9, f10, f11, f12, f13, f14, f15, f16, f17, f18, f19, f20, f21, f22, f23, f24, f25], [.int 6], kw, [⟨["thing"], [0, 3]⟩, ⟨["thing"], [1, 3]⟩, ⟨["thing"], [2, 3]⟩, ⟨[], [3]⟩]⟩
abbrev t0 : FT := ⟨"is_integer", ["thing"], ["thing"], top 6⟩
abbrev t1 : FT := ⟨"is_size", ["thing", "greatest"], ["thing", "greatest"], top 7⟩
abbrev t2 : FT := ⟨"is_place", ["size", "thing"], ["size", "thing"], top 8⟩
abbrev t3 : FT := ⟨"is_set", ["size", "thing"], ["size", "thing", "before", "place"], top 9⟩
abbrev t4 : FT := ⟨"are_sets", ["size", "rows", "columns"], ["size", "rows", "columns"], top 10⟩
abbrev t5 : FT := ⟨"is_pair", ["thing"], ["thing"], top 11⟩
abbrev t6 : FT := ⟨"sets_of", ["size", "many"], ["size", "many", "found", "_", "some", "place"], top 12⟩
abbrev t7 : FT := ⟨"other_places", ["size", "some"], ["size", "some", "place"], top 13⟩
abbrev t8 : FT := ⟨"need_sets", ["size", "rows", "columns"], ["size", "rows", "columns"], top 15⟩
abbrev t9 : FT := ⟨"need_size", ["size"], ["size"], top 18⟩
abbrev t10 : FT := ⟨"is_product", ["size", "thing"], ["size", "thing"], top 20⟩
abbrev t11 : FT := ⟨"need_product", ["size", "product"], ["size", "product"], top 21⟩
abbrev t12 : FT := ⟨"products", ["size"], ["size", "found", "many", "sets", "rows", "columns"], top 22⟩
abbrev t13 : FT := ⟨"others_of", ["size", "rows", "columns"], ["size", "rows", "columns"], top 23⟩
abbrev t14 : FT := ⟨"product_of", ["size", "rows", "columns"], ["size", "rows", "columns"], top 24⟩
abbrev t15 : FT := ⟨"other_company", ["size", "product"], ["size", "product"], top 25⟩
abbrev t16 : FT := ⟨"_law_deck", ["_law_script"], ["_law_script", "_law_cell", "_law_rest", "_law_mixed"], top 27⟩
abbrev t17 : FT := ⟨"_law_draw", ["_law_deck_here", "_law_below"], ["_law_deck_here", "_law_below", "_law_number", "_law_cell"], top 28⟩
abbrev t18 : FT := ⟨"_law_pick", ["_law_deck_here", "_law_some"], ["_law_deck_here", "_law_some"], top 29⟩
abbrev t19 : FT := ⟨"_law_sets", ["_law_n"], ["_law_n", "_law_found", "_law_place", "_law_some"], top 30⟩
abbrev t20 : FT := ⟨"_law_left", ["_law_n", "_law_some"], ["_law_n", "_law_some", "_law_place"], top 31⟩
abbrev t21 : FT := ⟨"_law_due", ["_law_sets_here"], ["_law_sets_here", "_law_found", "_law_rows", "_law_columns"], top 32⟩
abbrev t22 : FT := ⟨"_law_is_refused", ["_law_n", "_law_rows", "_law_columns"], ["_law_n", "_law_rows", "_law_columns", "_law_told", "e"], top 33⟩
abbrev t23 : FT := ⟨"_law_pair_right", ["_law_n", "_law_rows", "_law_columns"], ["_law_n", "_law_rows", "_law_columns", "_law_one", "_law_other", "_law_due_here", "_law_left_here"], top 34⟩
abbrev t24 : FT := ⟨"_law_pairs", ["_law_deck_here", "_law_n", "_law_sets_here"], ["_law_deck_here", "_law_n", "_law_sets_here", "_law_found", "_law_turn", "_law_rows", "_law_like", "_law_some", "_law_columns"], top 35⟩
abbrev t25 : FT := ⟨"law", ["_law_script"], ["_law_script", "_law_deck_here", "_law_n", "_law_sets_here", "_law_due_here", "_law_told", "_law_rows", "_law_columns", "_law_place"], top 36⟩
def ts : List FT := [t0, t1, t2, t3, t4, t5, t6, t7, t8, t9, t10, t11, t12, t13, t14, t15, t16, t17, t18, t19, t20, t21, t22, t23, t24, t25]
theorem ok_ch : chFns gs pg.kws ts pg.fns = true := by decide +kernel
theorem fcons {A : Type} {P : A → Prop} {a : A} {l : List A} (h : P a) (t : ∀ x ∈ l, P x) : ∀ x ∈ a :: l, P x := fun x hx => by
  rcases List.mem_cons.mp hx with e | e
  · rw [e]
    exact h
  · exact t x e
theorem fnil {A : Type} {P : A → Prop} : ∀ x ∈ ([] : List A), P x := fun x hx => by cases hx
theorem bnd0 : ∀ us : List Value, us.length = t0.ps.length → BndT t0 us [] (t0.ps.zip us) :=
  fun us hl => match us, hl with | [_], _ => fun _ _ _ _ _ _ => rfl
theorem bnd1 : ∀ us : List Value, us.length = t1.ps.length → BndT t1 us [] (t1.ps.zip us) :=
  fun us hl => match us, hl with | [_, _], _ => fun _ _ _ _ _ _ => rfl
theorem bnd2 : ∀ us : List Value, us.length = t2.ps.length → BndT t2 us [] (t2.ps.zip us) :=
  fun us hl => match us, hl with | [_, _], _ => fun _ _ _ _ _ _ => rfl
theorem bnd3 : ∀ us : List Value, us.length = t3.ps.length → BndT t3 us [] (t3.ps.zip us) :=
  fun us hl => match us, hl with | [_, _], _ => fun _ _ _ _ _ _ => rfl
theorem bnd4 : ∀ us : List Value, us.length = t4.ps.length → BndT t4 us [] (t4.ps.zip us) :=
  fun us hl => match us, hl with | [_, _, _], _ => fun _ _ _ _ _ _ => rfl
theorem bnd5 : ∀ us : List Value, us.length = t5.ps.length → BndT t5 us [] (t5.ps.zip us) :=
  fun us hl => match us, hl with | [_], _ => fun _ _ _ _ _ _ => rfl
theorem bnd6 : ∀ us : List Value, us.length = t6.ps.length → BndT t6 us [] (t6.ps.zip us) :=
  fun us hl => match us, hl with | [_, _], _ => fun _ _ _ _ _ _ => rfl
theorem bnd7 : ∀ us : List Value, us.length = t7.ps.length → BndT t7 us [] (t7.ps.zip us) :=
  fun us hl => match us, hl with | [_, _], _ => fun _ _ _ _ _ _ => rfl
theorem bnd8 : ∀ us : List Value, us.length = t8.ps.length → BndT t8 us [] (t8.ps.zip us) :=
  fun us hl => match us, hl with | [_, _, _], _ => fun _ _ _ _ _ _ => rfl
theorem bnd9 : ∀ us : List Value, us.length = t9.ps.length → BndT t9 us [] (t9.ps.zip us) :=
  fun us hl => match us, hl with | [_], _ => fun _ _ _ _ _ _ => rfl
theorem bnd10 : ∀ us : List Value, us.length = t10.ps.length → BndT t10 us [] (t10.ps.zip us) :=
  fun us hl => match us, hl with | [_, _], _ => fun _ _ _ _ _ _ => rfl
theorem bnd11 : ∀ us : List Value, us.length = t11.ps.length → BndT t11 us [] (t11.ps.zip us) :=
  fun us hl => match us, hl with | [_, _], _ => fun _ _ _ _ _ _ => rfl
theorem bnd12 : ∀ us : List Value, us.length = t12.ps.length → BndT t12 us [] (t12.ps.zip us) :=
  fun us hl => match us, hl with | [_], _ => fun _ _ _ _ _ _ => rfl
theorem bnd13 : ∀ us : List Value, us.length = t13.ps.length → BndT t13 us [] (t13.ps.zip us) :=
  fun us hl => match us, hl with | [_, _, _], _ => fun _ _ _ _ _ _ => rfl
theorem bnd14 : ∀ us : List Value, us.length = t14.ps.length → BndT t14 us [] (t14.ps.zip us) :=
  fun us hl => match us, hl with | [_, _, _], _ => fun _ _ _ _ _ _ => rfl
theorem bnd15 : ∀ us : List Value, us.length = t15.ps.length → BndT t15 us [] (t15.ps.zip us) :=
  fun us hl => match us, hl with | [_, _], _ => fun _ _ _ _ _ _ => rfl
theorem bnd16 : ∀ us : List Value, us.length = t16.ps.length → BndT t16 us [] (t16.ps.zip us) :=
  fun us hl => match us, hl with | [_], _ => fun _ _ _ _ _ _ => rfl
theorem bnd17 : ∀ us : List Value, us.length = t17.ps.length → BndT t17 us [] (t17.ps.zip us) :=
  fun us hl => match us, hl with | [_, _], _ => fun _ _ _ _ _ _ => rfl
theorem bnd18 : ∀ us : List Value, us.length = t18.ps.length → BndT t18 us [] (t18.ps.zip us) :=
  fun us hl => match us, hl with | [_, _], _ => fun _ _ _ _ _ _ => rfl
theorem bnd19 : ∀ us : List Value, us.length = t19.ps.length → BndT t19 us [] (t19.ps.zip us) :=
  fun us hl => match us, hl with | [_], _ => fun _ _ _ _ _ _ => rfl
theorem bnd20 : ∀ us : List Value, us.length = t20.ps.length → BndT t20 us [] (t20.ps.zip us) :=
  fun us hl => match us, hl with | [_, _], _ => fun _ _ _ _ _ _ => rfl
theorem bnd21 : ∀ us : List Value, us.length = t21.ps.length → BndT t21 us [] (t21.ps.zip us) :=
  fun us hl => match us, hl with | [_], _ => fun _ _ _ _ _ _ => rfl
theorem bnd22 : ∀ us : List Value, us.length = t22.ps.length → BndT t22 us [] (t22.ps.zip us) :=
  fun us hl => match us, hl with | [_, _, _], _ => fun _ _ _ _ _ _ => rfl
theorem bnd23 : ∀ us : List Value, us.length = t23.ps.length → BndT t23 us [] (t23.ps.zip us) :=
  fun us hl => match us, hl with | [_, _, _], _ => fun _ _ _ _ _ _ => rfl
theorem bnd24 : ∀ us : List Value, us.length = t24.ps.length → BndT t24 us [] (t24.ps.zip us) :=
  fun us hl => match us, hl with | [_, _, _], _ => fun _ _ _ _ _ _ => rfl
theorem bnd25 : ∀ us : List Value, us.length = t25.ps.length → BndT t25 us [] (t25.ps.zip us) :=
  fun us hl => match us, hl with | [_], _ => fun _ _ _ _ _ _ => rfl
theorem kwd0 : ∀ us ws : List Value, us.length = 0 → ws.length = 3 → BndT t14 us ((["size", "rows", "columns"] : List Str).zip ws) (t14.ps.zip ([0, 1, 2].map fun j => (us ++ ws).getD j .none)) :=
  fun us ws h1 h2 => match us, ws, h1, h2 with | [], [_, _, _], _, _ => fun _ _ _ _ _ _ => rfl
theorem kwd1 : ∀ us ws : List Value, us.length = 0 → ws.length = 2 → BndT t10 us ((["size", "thing"] : List Str).zip ws) (t10.ps.zip ([0, 1].map fun j => (us ++ ws).getD j .none)) :=
  fun us ws h1 h2 => match us, ws, h1, h2 with | [], [_, _], _, _ => fun _ _ _ _ _ _ => rfl
theorem kwd2 : ∀ us ws : List Value, us.length = 0 → ws.length = 2 → BndT t15 us ((["size", "product"] : List Str).zip ws) (t15.ps.zip ([0, 1].map fun j => (us ++ ws).getD j .none)) :=
  fun us ws h1 h2 => match us, ws, h1, h2 with | [], [_, _], _, _ => fun _ _ _ _ _ _ => rfl
theorem kwd3 : ∀ us ws : List Value, us.length = 0 → ws.length = 1 → BndT t12 us ((["size"] : List Str).zip ws) (t12.ps.zip ([0].map fun j => (us ++ ws).getD j .none)) :=
  fun us ws h1 h2 => match us, ws, h1, h2 with | [], [_], _, _ => fun _ _ _ _ _ _ => rfl
theorem ok_bnd : ∀ t ∈ ts, ∀ us : List Value, us.length = t.ps.length → BndT t us [] (t.ps.zip us) :=
  (fcons (bnd0) (fcons (bnd1) (fcons (bnd2) (fcons (bnd3) (fcons (bnd4) (fcons (bnd5) (fcons (bnd6) (fcons (bnd7) (fcons (bnd8) (fcons (bnd9) (fcons (bnd10) (fcons (bnd11) (fcons (bnd12) (fcons (bnd13) (fcons (bnd14) (fcons (bnd15) (fcons (bnd16) (fcons (bnd17) (fcons (bnd18) (fcons (bnd19) (fcons (bnd20) (fcons (bnd21) (fcons (bnd22) (fcons (bnd23) (fcons (bnd24) (fcons (bnd25) fnil))))))))))))))))))))))))))
theorem ok_kwd : ∀ q ∈ kw, ∃ t, ts[q.f]? = some t ∧ q.perm.length = t.ps.length ∧ t.ps ≠ [] ∧ ∀ us ws : List Value, us.length = q.np → ws.length = q.ks.length → BndT t us (q.ks.zip ws) (t.ps.zip (q.perm.map fun j => (us ++ ws).getD j .none)) :=
  (fcons (⟨t14, rfl, rfl, by decide +kernel, kwd0⟩) (fcons (⟨t10, rfl, rfl, by decide +kernel, kwd1⟩) (fcons (⟨t15, rfl, rfl, by decide +kernel, kwd2⟩) (fcons (⟨t12, rfl, rfl, by decide +kernel, kwd3⟩) fnil))))
theorem tx : Text gs pg ts := ⟨rfl, ok_ch, ok_bnd, ok_kwd⟩
/-- is_integer -/
noncomputable def b0 (cl : Cl) : XS := (sCons (sRet (xAndV (xIsi [0] (rVar 0)) (xNot (xIsi [1] (rVar 0))))) sNil)
theorem b0_ok (cl : Cl) : exSs pg cl f0.body = b0 cl := by
  unfold b0
  simp only [rVar_eq, yCmp_eq, uCmp_eq, rLst_eq, ySlice_eq, yBlt_eq, yMeth_eq, rComp_eq, rName_eq, rFor_eq, rPar2_eq, rBin_eq, rvVar_eq, gSubF_eq]
  kernel_rfl
/-- is_size -/
noncomputable def b1 (cl : Cl) : XS := (sCons (sRet (xAndV (xCall (cl 0) (xCons (rVar 0) xNil)) (xChain .LtE .LtE (xC (.int 1)) (rVar 0) (rVar 1)))) sNil)
theorem b1_ok (cl : Cl) : exSs pg cl f1.body = b1 cl := by
  unfold b1
  simp only [rVar_eq, yCmp_eq, uCmp_eq, rLst_eq, ySlice_eq, yBlt_eq, yMeth_eq, rComp_eq, rName_eq, rFor_eq, rPar2_eq, rBin_eq, rvVar_eq, gSubF_eq]
  kernel_rfl
/-- is_place -/
noncomputable def b2 (cl : Cl) : XS := (sCons (sRet (xAndV (xCall (cl 0) (xCons (rVar 1) xNil)) (xChain .LtE .Lt (xC (.int 0)) (rVar 1) (rVar 0)))) sNil)
theorem b2_ok (cl : Cl) : exSs pg cl f2.body = b2 cl := by
  unfold b2
  simp only [rVar_eq, yCmp_eq, uCmp_eq, rLst_eq, ySlice_eq, yBlt_eq, yMeth_eq, rComp_eq, rName_eq, rFor_eq, rPar2_eq, rBin_eq, rvVar_eq, gSubF_eq]
  kernel_rfl
/-- is_set -/
noncomputable def b3 (cl : Cl) : XS := (sCons (sIf (tNot (tIsi [3] (rVar 1))) (sCons (sRet (xC (.bl false))) sNil) sNil) (sCons (sAsg (rName 2) (xNeg (xC (.int 1)))) (sCons (rFor (rName 3) (iSeq (rVar 1)) (sCons (sIf (tOr (tNot (tCall (cl 2) (xCons (rVar 0) (xCons (rVar 3) xNil)))) (uCmp .LtE (rVar 3) (rVar 2))) (sCons (sRet (xC (.bl false))) sNil) sNil) (sCons (sAsg (rName 2) (rVar 3)) sNil))) (sCons (sRet (xC (.bl true))) sNil))))
theorem b3_ok (cl : Cl) : exSs pg cl f3.body = b3 cl := by
  unfold b3
  simp only [rVar_eq, yCmp_eq, uCmp_eq, rLst_eq, ySlice_eq, yBlt_eq, yMeth_eq, rComp_eq, rName_eq, rFor_eq, rPar2_eq, rBin_eq, rvVar_eq, gSubF_eq]
  kernel_rfl
/-- are_sets -/
noncomputable def b4 (cl : Cl) : XS := (sCons (sRet (xAndV (xCall (cl 3) (xCons (rVar 0) (xCons (rVar 1) xNil))) (xAndV (xCall (cl 3) (xCons (rVar 0) (xCons (rVar 2) xNil))) (yCmp .Eq (yBlt .len (xCons (rVar 1) xNil)) (yBlt .len (xCons (rVar 2) xNil)))))) sNil)
theorem b4_ok (cl : Cl) : exSs pg cl f4.body = b4 cl := by
  unfold b4
  simp only [rVar_eq, yCmp_eq, uCmp_eq, rLst_eq, ySlice_eq, yBlt_eq, yMeth_eq, rComp_eq, rName_eq, rFor_eq, rPar2_eq, rBin_eq, rvVar_eq, gSubF_eq]
  kernel_rfl
/-- is_pair -/
noncomputable def b5 (cl : Cl) : XS := (sCons (sRet (xAndV (xIsi [3] (rVar 0)) (yCmp .Eq (yBlt .len (xCons (rVar 0) xNil)) (xC (.int 2))))) sNil)
theorem b5_ok (cl : Cl) : exSs pg cl f5.body = b5 cl := by
  unfold b5
  simp only [rVar_eq, yCmp_eq, uCmp_eq, rLst_eq, ySlice_eq, yBlt_eq, yMeth_eq, rComp_eq, rName_eq, rFor_eq, rPar2_eq, rBin_eq, rvVar_eq, gSubF_eq]
  kernel_rfl
/-- sets_of -/
noncomputable def b6 (cl : Cl) : XS := (sCons (sAsg (rName 2) (rLst (xCons (xTup xNil) xNil))) (sCons (rFor (rName 3) (iRng (xCons (rVar 1) xNil)) (sCons (sAsg (rName 2) (xComp2 (rName 4) (iSeq (rVar 2)) (tBl true) (rName 5) (iRng (xCons (rVar 0) xNil)) (tOr (uCmp .Eq (rVar 4) (xTup xNil)) (uCmp .Gt (rVar 5) (xIdx (rVar 4) (xNeg (xC (.int 1)))))) (rBin .Add (rVar 4) (xTup (xCons (rVar 5) xNil))) [4, 5] [5])) sNil)) (sCons (sRet (rVar 2)) sNil)))
theorem b6_ok (cl : Cl) : exSs pg cl f6.body = b6 cl := by
  unfold b6
  simp only [rVar_eq, yCmp_eq, uCmp_eq, rLst_eq, ySlice_eq, yBlt_eq, yMeth_eq, rComp_eq, rName_eq, rFor_eq, rPar2_eq, rBin_eq, rvVar_eq, gSubF_eq]
  kernel_rfl
/-- other_places -/
noncomputable def b7 (cl : Cl) : XS := (sCons (sRet (yBlt .tuple (xCons (rComp (rName 2) (iRng (xCons (rVar 0) xNil)) (uCmp .NotIn (rVar 2) (rVar 1)) (rVar 2) [2]) xNil))) sNil)
theorem b7_ok (cl : Cl) : exSs pg cl f7.body = b7 cl := by
  unfold b7
  simp only [rVar_eq, yCmp_eq, uCmp_eq, rLst_eq, ySlice_eq, yBlt_eq, yMeth_eq, rComp_eq, rName_eq, rFor_eq, rPar2_eq, rBin_eq, rvVar_eq, gSubF_eq]
  kernel_rfl
/-- need_sets -/
noncomputable def b8 (cl : Cl) : XS := (sCons (sIf (tNot (tCall (cl 4) (xCons (rVar 0) (xCons (rVar 1) (xCons (rVar 2) xNil))))) (sCons (sRaise (canRaise pg 0) 0 (xCons (xTup (xCons (rVar 1) (xCons (rVar 2) xNil))) xNil)) sNil) sNil) sNil)
theorem b8_ok (cl : Cl) : exSs pg cl f8.body = b8 cl := by
  unfold b8
  simp only [rVar_eq, yCmp_eq, uCmp_eq, rLst_eq, ySlice_eq, yBlt_eq, yMeth_eq, rComp_eq, rName_eq, rFor_eq, rPar2_eq, rBin_eq, rvVar_eq, gSubF_eq]
  kernel_rfl
/-- need_size -/
noncomputable def b9 (cl : Cl) : XS := (sCons (sIf (tNot (tCall (cl 1) (xCons (rVar 0) (xCons (xC (.int 6)) xNil)))) (sCons (sRaise (canRaise pg 1) 1 (xCons (rVar 0) xNil)) sNil) sNil) sNil)
theorem b9_ok (cl : Cl) : exSs pg cl f9.body = b9 cl := by
  unfold b9
  simp only [rVar_eq, yCmp_eq, uCmp_eq, rLst_eq, ySlice_eq, yBlt_eq, yMeth_eq, rComp_eq, rName_eq, rFor_eq, rPar2_eq, rBin_eq, rvVar_eq, gSubF_eq]
  kernel_rfl
/-- is_product -/
noncomputable def b10 (cl : Cl) : XS := (sCons (sIf (tOr (tNot (tCall (cl 5) (xCons (rVar 1) xNil))) (tNot (tCall (cl 4) (xCons (rVar 0) (xCons (xIdx (rVar 1) (xC (.int 0))) (xCons (xIdx (rVar 1) (xC (.int 1))) xNil)))))) (sCons (sRet (xC (.bl false))) sNil) sNil) (sCons (sRet (yCmp .In (xC (.int 0)) (xIdx (rVar 1) (xC (.int 0))))) sNil))
theorem b10_ok (cl : Cl) : exSs pg cl f10.body = b10 cl := by
  unfold b10
  simp only [rVar_eq, yCmp_eq, uCmp_eq, rLst_eq, ySlice_eq, yBlt_eq, yMeth_eq, rComp_eq, rName_eq, rFor_eq, rPar2_eq, rBin_eq, rvVar_eq, gSubF_eq]
  kernel_rfl
/-- need_product -/
noncomputable def b11 (cl : Cl) : XS := (sCons (sIf (tNot (tCall (cl 10) (xCons (rVar 0) (xCons (rVar 1) xNil)))) (sCons (sRaise (canRaise pg 2) 2 (xCons (rVar 1) xNil)) sNil) sNil) sNil)
theorem b11_ok (cl : Cl) : exSs pg cl f11.body = b11 cl := by
  unfold b11
  simp only [rVar_eq, yCmp_eq, uCmp_eq, rLst_eq, ySlice_eq, yBlt_eq, yMeth_eq, rComp_eq, rName_eq, rFor_eq, rPar2_eq, rBin_eq, rvVar_eq, gSubF_eq]
  kernel_rfl
/-- products -/
noncomputable def b12 (cl : Cl) : XS := (sCons (sExpr (xCall (cl 9) (xCons (rVar 0) xNil))) (sCons (sAsg (rName 1) (rLst xNil)) (sCons (rFor (rName 2) (iRng (xCons (xC (.int 1)) (xCons (rBin .Add (rVar 0) (xC (.int 1))) xNil))) (sCons (sAsg (rName 3) (xCall (cl 6) (xCons (rVar 0) (xCons (rVar 2) xNil)))) (sCons (sExpr (yMeth .extend (rVar 1) (xCons (xComp2 (rName 4) (iSeq (rVar 3)) (tBl true) (rName 5) (iSeq (rVar 3)) (uCmp .In (xC (.int 0)) (rVar 4)) (xTup (xCons (rVar 4) (xCons (rVar 5) xNil))) [4, 5] [5]) xNil))) sNil))) (sCons (sRet (yBlt .tuple (xCons (yBlt .sorted (xCons (rVar 1) xNil)) xNil))) sNil))))
theorem b12_ok (cl : Cl) : exSs pg cl f12.body = b12 cl := by
  unfold b12
  simp only [rVar_eq, yCmp_eq, uCmp_eq, rLst_eq, ySlice_eq, yBlt_eq, yMeth_eq, rComp_eq, rName_eq, rFor_eq, rPar2_eq, rBin_eq, rvVar_eq, gSubF_eq]
  kernel_rfl
/-- others_of -/
noncomputable def b13 (cl : Cl) : XS := (sCons (sRet (xTup (xCons (xCall (cl 7) (xCons (rVar 0) (xCons (rVar 1) xNil))) (xCons (xCall (cl 7) (xCons (rVar 0) (xCons (rVar 2) xNil))) xNil)))) sNil)
theorem b13_ok (cl : Cl) : exSs pg cl f13.body = b13 cl := by
  unfold b13
  simp only [rVar_eq, yCmp_eq, uCmp_eq, rLst_eq, ySlice_eq, yBlt_eq, yMeth_eq, rComp_eq, rName_eq, rFor_eq, rPar2_eq, rBin_eq, rvVar_eq, gSubF_eq]
  kernel_rfl
/-- product_of -/
noncomputable def b14 (cl : Cl) : XS := (sCons (sExpr (xCall (cl 9) (xCons (rVar 0) xNil))) (sCons (sExpr (xCall (cl 8) (xCons (rVar 0) (xCons (rVar 1) (xCons (rVar 2) xNil))))) (sCons (sRet (xIte (uCmp .In (xC (.int 0)) (rVar 1)) (xTup (xCons (rVar 1) (xCons (rVar 2) xNil))) (xCall (cl 13) (xCons (rVar 0) (xCons (rVar 1) (xCons (rVar 2) xNil)))))) sNil)))
theorem b14_ok (cl : Cl) : exSs pg cl f14.body = b14 cl := by
  unfold b14
  simp only [rVar_eq, yCmp_eq, uCmp_eq, rLst_eq, ySlice_eq, yBlt_eq, yMeth_eq, rComp_eq, rName_eq, rFor_eq, rPar2_eq, rBin_eq, rvVar_eq, gSubF_eq]
  kernel_rfl
/-- other_company -/
noncomputable def b15 (cl : Cl) : XS := (sCons (sExpr (xCall (cl 9) (xCons (rVar 0) xNil))) (sCons (sExpr (xCall (cl 11) (xCons (rVar 0) (xCons (rVar 1) xNil)))) (sCons (sRet (xCall (cl 13) (xCons (rVar 0) (xCons (xIdx (rVar 1) (xC (.int 0))) (xCons (xIdx (rVar 1) (xC (.int 1))) xNil))))) sNil)))
theorem b15_ok (cl : Cl) : exSs pg cl f15.body = b15 cl := by
  unfold b15
  simp only [rVar_eq, yCmp_eq, uCmp_eq, rLst_eq, ySlice_eq, yBlt_eq, yMeth_eq, rComp_eq, rName_eq, rFor_eq, rPar2_eq, rBin_eq, rvVar_eq, gSubF_eq]
  kernel_rfl
/-- _law_deck -/
noncomputable def b16 (cl : Cl) : XS := (sCons (rPar2 2 3 (rComp (rName 1) (iSeq (ySlice (rVar 0) oNone (oSome (xC (.int 63))))) (tBl true) (rBin .Mod (yBlt .int (xCons (rVar 1) xNil)) (rBin .Add (rBin .Pow (xC (.int 10)) (xC (.int 24))) (xC (.int 7)))) [1]) (xC (.int 10875034))) (sCons (rFor (rName 1) (iSeq (rVar 2)) (sCons (sAsg (rName 3) (rBin .Mod (rBin .Add (rBin .Add (rBin .Mult (rVar 3) (xC (.int 69621))) (rBin .Mod (rVar 1) (xC (.int 2147483543)))) (xC (.int 34))) (xC (.int 2147483647)))) sNil)) (sCons (sRet (xDict [.inr (⟨#[114, 101, 115, 116]⟩ : Str), .inr (⟨#[109, 105, 120, 101, 100]⟩ : Str), .inr (⟨#[116, 117, 114, 110]⟩ : Str)] (xCons (xRev (rVar 2)) (xCons (rVar 3) (xCons (xC (.int 0)) xNil))))) sNil)))
theorem b16_ok (cl : Cl) : exSs pg cl f16.body = b16 cl := by
  unfold b16
  simp only [rVar_eq, yCmp_eq, uCmp_eq, rLst_eq, ySlice_eq, yBlt_eq, yMeth_eq, rComp_eq, rName_eq, rFor_eq, rPar2_eq, rBin_eq, rvVar_eq, gSubF_eq]
  kernel_rfl
/-- _law_draw -/
noncomputable def b17 (cl : Cl) : XS := (sCons (sAsg (gSubF (rVar 0) (xC (.str (⟨#[116, 117, 114, 110]⟩ : Str)))) (rBin .Add (xIdx (rVar 0) (xC (.str (⟨#[116, 117, 114, 110]⟩ : Str)))) (xC (.int 1)))) (sCons (sIf (uCmp .NotEq (xIdx (rVar 0) (xC (.str (⟨#[114, 101, 115, 116]⟩ : Str)))) (rLst xNil)) (sCons (sAsg (rName 3) (yMeth .pop (xIdx (rVar 0) (xC (.str (⟨#[114, 101, 115, 116]⟩ : Str)))) xNil)) (sCons (sIf (uCmp .GtE (rVar 3) (rBin .Pow (xC (.int 10)) (xC (.int 6)))) (sCons (sExpr (yMeth .append (xIdx (rVar 0) (xC (.str (⟨#[114, 101, 115, 116]⟩ : Str)))) (xCons (rBin .FloorDiv (rVar 3) (yBlt .max2 (xCons (xC (.int 2)) (xCons (rVar 1) xNil)))) xNil))) sNil) sNil) (sCons (sRet (rBin .Mod (rVar 3) (rVar 1))) sNil))) sNil) (sCons (sAsg (rName 2) (rBin .Mod (rBin .Add (xIdx (rVar 0) (xC (.str (⟨#[109, 105, 120, 101, 100]⟩ : Str)))) (rBin .Mult (rBin .Mult (xC (.int 40692)) (xIdx (rVar 0) (xC (.str (⟨#[116, 117, 114, 110]⟩ : Str))))) (xIdx (rVar 0) (xC (.str (⟨#[116, 117, 114, 110]⟩ : Str)))))) (xC (.int 2147483399)))) (sCons (sAsg (rName 2) (rBin .Mod (rBin .Mult (rVar 2) (rVar 2)) (xC (.int 2147483563)))) (sCons (sRet (rBin .Mod (rBin .FloorDiv (rBin .Mod (rBin .Add (rBin .Mult (rVar 2) (xC (.int 39373))) (rBin .Mult (xIdx (rVar 0) (xC (.str (⟨#[116, 117, 114, 110]⟩ : Str)))) (xC (.int 7919)))) (xC (.int 2147483629))) (xC (.int 64))) (rVar 1))) sNil)))))
theorem b17_ok (cl : Cl) : exSs pg cl f17.body = b17 cl := by
  unfold b17
  simp only [rVar_eq, yCmp_eq, uCmp_eq, rLst_eq, ySlice_eq, yBlt_eq, yMeth_eq, rComp_eq, rName_eq, rFor_eq, rPar2_eq, rBin_eq, rvVar_eq, gSubF_eq]
  kernel_rfl
/-- _law_pick -/
noncomputable def b18 (cl : Cl) : XS := (sCons (sRet (xIdx (rVar 1) (xCall (cl 17) (xCons (rVar 0) (xCons (yBlt .len (xCons (rVar 1) xNil)) xNil))))) sNil)
theorem b18_ok (cl : Cl) : exSs pg cl f18.body = b18 cl := by
  unfold b18
  simp only [rVar_eq, yCmp_eq, uCmp_eq, rLst_eq, ySlice_eq, yBlt_eq, yMeth_eq, rComp_eq, rName_eq, rFor_eq, rPar2_eq, rBin_eq, rvVar_eq, gSubF_eq]
  kernel_rfl
/-- _law_sets -/
noncomputable def b19 (cl : Cl) : XS := (sCons (sAsg (rName 1) (rLst (xCons (xTup xNil) xNil))) (sCons (rFor (rName 2) (iRng (xCons (rVar 0) xNil)) (sCons (sAsg (rName 1) (rBin .Add (rVar 1) (rComp (rName 3) (iSeq (rVar 1)) (tBl true) (rBin .Add (rVar 3) (xTup (xCons (rVar 2) xNil))) [3]))) sNil)) (sCons (sRet (yBlt .sorted (xCons (rVar 1) xNil))) sNil)))
theorem b19_ok (cl : Cl) : exSs pg cl f19.body = b19 cl := by
  unfold b19
  simp only [rVar_eq, yCmp_eq, uCmp_eq, rLst_eq, ySlice_eq, yBlt_eq, yMeth_eq, rComp_eq, rName_eq, rFor_eq, rPar2_eq, rBin_eq, rvVar_eq, gSubF_eq]
  kernel_rfl
/-- _law_left -/
noncomputable def b20 (cl : Cl) : XS := (sCons (sRet (yBlt .tuple (xCons (rComp (rName 2) (iRng (xCons (rVar 0) xNil)) (uCmp .NotIn (rVar 2) (rVar 1)) (rVar 2) [2]) xNil))) sNil)
theorem b20_ok (cl : Cl) : exSs pg cl f20.body = b20 cl := by
  unfold b20
  simp only [rVar_eq, yCmp_eq, uCmp_eq, rLst_eq, ySlice_eq, yBlt_eq, yMeth_eq, rComp_eq, rName_eq, rFor_eq, rPar2_eq, rBin_eq, rvVar_eq, gSubF_eq]
  kernel_rfl
/-- _law_due -/
noncomputable def b21 (cl : Cl) : XS := (sCons (sAsg (rName 1) (rLst xNil)) (sCons (rFor (rName 2) (iSeq (rVar 0)) (sCons (sIf (uCmp .In (xC (.int 0)) (rVar 2)) (sCons (sExpr (yMeth .extend (rVar 1) (xCons (rComp (rName 3) (iSeq (rVar 0)) (uCmp .Eq (yBlt .len (xCons (rVar 3) xNil)) (yBlt .len (xCons (rVar 2) xNil))) (xTup (xCons (rVar 2) (xCons (rVar 3) xNil))) [3]) xNil))) sNil) sNil) sNil)) (sCons (sRet (yBlt .tuple (xCons (rVar 1) xNil))) sNil)))
theorem b21_ok (cl : Cl) : exSs pg cl f21.body = b21 cl := by
  unfold b21
  simp only [rVar_eq, yCmp_eq, uCmp_eq, rLst_eq, ySlice_eq, yBlt_eq, yMeth_eq, rComp_eq, rName_eq, rFor_eq, rPar2_eq, rBin_eq, rvVar_eq, gSubF_eq]
  kernel_rfl
/-- _law_is_refused -/
noncomputable def b22 (cl : Cl) : XS := (sCons (sAsg (rName 3) (xC .non)) (sCons (sTry pg cl (sCons (sExpr (xCall (cl 14) (xCons (rVar 0) (xCons (rVar 1) (xCons (rVar 2) xNil))))) sNil) 0 4 (.asg 3 (.tup (.cons (.fld (⟨#[116, 104, 105, 110, 103]⟩ : Str)) (.cons (.isE 3) .nil))))) (sCons (sRet (yCmp .Eq (rVar 3) (xTup (xCons (xTup (xCons (rVar 1) (xCons (rVar 2) xNil))) (xCons (xC (.bl true)) xNil))))) sNil)))
theorem b22_ok (cl : Cl) : exSs pg cl f22.body = b22 cl := by
  unfold b22
  simp only [rVar_eq, yCmp_eq, uCmp_eq, rLst_eq, ySlice_eq, yBlt_eq, yMeth_eq, rComp_eq, rName_eq, rFor_eq, rPar2_eq, rBin_eq, rvVar_eq, gSubF_eq]
  kernel_rfl
/-- _law_pair_right -/
noncomputable def b23 (cl : Cl) : XS := (sCons (sIf (uCmp .NotEq (yBlt .len (xCons (rVar 1) xNil)) (yBlt .len (xCons (rVar 2) xNil))) (sCons (sRet (xCall (cl 22) (xCons (rVar 0) (xCons (rVar 1) (xCons (rVar 2) xNil))))) sNil) sNil) (sCons (rPar2 3 4 (xTup (xCons (rVar 1) (xCons (rVar 2) xNil))) (xTup (xCons (xCall (cl 20) (xCons (rVar 0) (xCons (rVar 1) xNil))) (xCons (xCall (cl 20) (xCons (rVar 0) (xCons (rVar 2) xNil))) xNil)))) (sCons (sAsg (gTup (gCons (rName 5) (gCons (rName 6) gNil))) (xIte (uCmp .In (xC (.int 0)) (rVar 1)) (xTup (xCons (rVar 3) (xCons (rVar 4) xNil))) (xTup (xCons (rVar 4) (xCons (rVar 3) xNil))))) (sCons (sIf (tOr (uCmp .NotEq (xCall (cl 14) (xCons (rVar 0) (xCons (rVar 1) (xCons (rVar 2) xNil)))) (rVar 5)) (uCmp .NotEq (xCall (cl 14) (xCons (rVar 0) (xCons (xIdx (rVar 4) (xC (.int 0))) (xCons (xIdx (rVar 4) (xC (.int 1))) xNil)))) (rVar 5))) (sCons (sRet (xC (.bl false))) sNil) sNil) (sCons (sIf (tOr (uCmp .NotEq (xCallk (cl 14) 0 3 [0, 1, 2] xNil (xCons (rVar 0) (xCons (rVar 1) (xCons (rVar 2) xNil)))) (rVar 5)) (uCmp .IsNot (xCall (cl 10) (xCons (rVar 0) (xCons (rVar 5) xNil))) (xC (.bl true)))) (sCons (sRet (xC (.bl false))) sNil) sNil) (sCons (sIf (tOr (uCmp .IsNot (xCall (cl 10) (xCons (rVar 0) (xCons (rVar 6) xNil))) (xC (.bl false))) (uCmp .NotEq (yBlt .repr (xCons (xCallk (cl 10) 0 2 [0, 1] xNil (xCons (rVar 0) (xCons (rVar 3) xNil))) xNil)) (yBlt .repr (xCons (yCmp .Eq (rVar 5) (rVar 3)) xNil)))) (sCons (sRet (xC (.bl false))) sNil) sNil) (sCons (sRet (xAndV (yCmp .Eq (xCall (cl 15) (xCons (rVar 0) (xCons (rVar 5) xNil))) (rVar 6)) (yCmp .Eq (xCallk (cl 15) 0 2 [0, 1] xNil (xCons (rVar 0) (xCons (rVar 5) xNil))) (rVar 6)))) sNil)))))))
theorem b23_ok (cl : Cl) : exSs pg cl f23.body = b23 cl := by
  unfold b23
  simp only [rVar_eq, yCmp_eq, uCmp_eq, rLst_eq, ySlice_eq, yBlt_eq, yMeth_eq, rComp_eq, rName_eq, rFor_eq, rPar2_eq, rBin_eq, rvVar_eq, gSubF_eq]
  kernel_rfl
/-- _law_pairs -/
noncomputable def b24 (cl : Cl) : XS := (sCons (sAsg (rName 3) (rLst xNil)) (sCons (sIf (uCmp .Lt (rVar 1) (xC (.int 4))) (sCons (rFor (rName 5) (iSeq (rVar 2)) (sCons (sExpr (yMeth .extend (rVar 3) (xCons (rComp (rName 8) (iSeq (rVar 2)) (tBl true) (xTup (xCons (rVar 5) (xCons (rVar 8) xNil))) [8]) xNil))) sNil)) (sCons (sRet (rVar 3)) sNil)) sNil) (sCons (rFor (rName 4) (iRng (xCons (xC (.int 24)) xNil)) (sCons (sAsg (rName 5) (xCall (cl 18) (xCons (rVar 0) (xCons (rVar 2) xNil)))) (sCons (sAsg (rName 6) (rComp (rName 7) (iSeq (rVar 2)) (uCmp .Eq (yBlt .len (xCons (rVar 7) xNil)) (yBlt .len (xCons (rVar 5) xNil))) (rVar 7) [7])) (sCons (sExpr (yMeth .append (rVar 3) (xCons (xTup (xCons (rVar 5) (xCons (xIte (uCmp .Gt (xCall (cl 17) (xCons (rVar 0) (xCons (xC (.int 5)) xNil))) (xC (.int 0))) (xCall (cl 18) (xCons (rVar 0) (xCons (rVar 6) xNil))) (xCall (cl 18) (xCons (rVar 0) (xCons (rVar 2) xNil)))) xNil))) xNil))) sNil)))) (sCons (sRet (rVar 3)) sNil))))
theorem b24_ok (cl : Cl) : exSs pg cl f24.body = b24 cl := by
  unfold b24
  simp only [rVar_eq, yCmp_eq, uCmp_eq, rLst_eq, ySlice_eq, yBlt_eq, yMeth_eq, rComp_eq, rName_eq, rFor_eq, rPar2_eq, rBin_eq, rvVar_eq, gSubF_eq]
  kernel_rfl
/-- law -/
noncomputable def b25 (cl : Cl) : XS := (sCons (sAsg (rName 1) (xCall (cl 16) (xCons (rVar 0) xNil))) (sCons (sAsg (rName 2) (xCall (cl 18) (xCons (rVar 1) (xCons (xTup (xCons (xC (.int 3)) (xCons (xC (.int 2)) (xCons (xC (.int 4)) (xCons (xC (.int 3)) (xCons (xC (.int 1)) (xCons (xC (.int 4)) (xCons (xC (.int 5)) (xCons (xC (.int 2)) (xCons (xC (.int 3)) (xCons (xC (.int 6)) (xCons (xC (.int 4)) (xCons (xC (.int 5)) xNil))))))))))))) xNil)))) (sCons (sAsg (rName 3) (xCall (cl 19) (xCons (rVar 2) xNil))) (sCons (sAsg (rName 4) (xCall (cl 21) (xCons (rVar 3) xNil))) (sCons (sAsg (rName 5) (xCall (cl 12) (xCons (rVar 2) xNil))) (sCons (sIf (tOr (uCmp .NotEq (rVar 5) (rVar 4)) (tOr (uCmp .NotEq (xCallk (cl 12) 0 1 [0] xNil (xCons (rVar 2) xNil)) (rVar 4)) (uCmp .NotEq (yBlt .len (xCons (rVar 5) xNil)) (xIdx (xTup (xCons (xC (.int 1)) (xCons (xC (.int 3)) (xCons (xC (.int 10)) (xCons (xC (.int 35)) (xCons (xC (.int 126)) (xCons (xC (.int 462)) xNil))))))) (rBin .Sub (rVar 2) (xC (.int 1))))))) (sCons (sRet (xC (.bl false))) sNil) sNil) (sCons (rFor (gTup (gCons (rName 6) (gCons (rName 7) gNil))) (iSeq (xTup (xCons (xIdx (rVar 5) (xC (.int 0))) (xCons (xIdx (rVar 5) (xNeg (xC (.int 1)))) (xCons (xCall (cl 18) (xCons (rVar 1) (xCons (rVar 5) xNil))) xNil))))) (sCons (sIf (uCmp .NotEq (rComp (rName 8) (iSeq (rBin .Add (rVar 6) (rVar 7))) (tIsi [1] (rVar 8)) (rVar 8) [8]) (rLst xNil)) (sCons (sRet (xC (.bl false))) sNil) sNil) sNil)) (sCons (rFor (gTup (gCons (rName 6) (gCons (rName 7) gNil))) (iSeq (xCall (cl 24) (xCons (rVar 1) (xCons (rVar 2) (xCons (rVar 3) xNil))))) (sCons (sIf (tNot (tCall (cl 23) (xCons (rVar 2) (xCons (rVar 6) (xCons (rVar 7) xNil))))) (sCons (sRet (xC (.bl false))) sNil) sNil) sNil)) (sCons (sRet (yCmp .Eq (xCall (cl 12) (xCons (rVar 2) xNil)) (rVar 4))) sNil)))))))))
theorem b25_ok (cl : Cl) : exSs pg cl f25.body = b25 cl := by
  unfold b25
  simp only [rVar_eq, yCmp_eq, uCmp_eq, rLst_eq, ySlice_eq, yBlt_eq, yMeth_eq, rComp_eq, rName_eq, rFor_eq, rPar2_eq, rBin_eq, rvVar_eq, gSubF_eq]
  kernel_rfl
noncomputable def cs : List CF2 := [⟨1, 1, b0⟩, ⟨2, 2, b1⟩, ⟨2, 2, b2⟩, ⟨2, 4, b3⟩, ⟨3, 3, b4⟩, ⟨1, 1, b5⟩, ⟨2, 6, b6⟩, ⟨2, 3, b7⟩, ⟨3, 3, b8⟩, ⟨1, 1, b9⟩, ⟨2, 2, b10⟩, ⟨2, 2, b11⟩, ⟨1, 6, b12⟩, ⟨3, 3, b13⟩, ⟨3, 3, b14⟩, ⟨2, 2, b15⟩, ⟨1, 4, b16⟩, ⟨2, 4, b17⟩, ⟨2, 2, b18⟩, ⟨1, 4, b19⟩, ⟨2, 3, b20⟩, ⟨1, 4, b21⟩, ⟨3, 5, b22⟩, ⟨3, 7, b23⟩, ⟨3, 9, b24⟩, ⟨1, 9, b25⟩]
theorem same : Same pg pg.fns cs := (.cons rfl rfl b0_ok (.cons rfl rfl b1_ok (.cons rfl rfl b2_ok (.cons rfl rfl b3_ok (.cons rfl rfl b4_ok (.cons rfl rfl b5_ok (.cons rfl rfl b6_ok (.cons rfl rfl b7_ok (.cons rfl rfl b8_ok (.cons rfl rfl b9_ok (.cons rfl rfl b10_ok (.cons rfl rfl b11_ok (.cons rfl rfl b12_ok (.cons rfl rfl b13_ok (.cons rfl rfl b14_ok (.cons rfl rfl b15_ok (.cons rfl rfl b16_ok (.cons rfl rfl b17_ok (.cons rfl rfl b18_ok (.cons rfl rfl b19_ok (.cons rfl rfl b20_ok (.cons rfl rfl b21_ok (.cons rfl rfl b22_ok (.cons rfl rfl b23_ok (.cons rfl rfl b24_ok (.cons rfl rfl b25_ok .nil))))))))))))))))))))))))))
section
/-! ### the sets of a size -/
def sb : Nat → Nat → List (List Nat)
  | 0, _ => [[]]
  | m + 1, i => [] :: ((sb m (i + 1)).map (i :: ·)) ++ (sb m (i + 1)).tail
def oth (n : Nat) (s : List Nat) : List Nat := (List.range n).filter fun x => !hasN s x
def prs (n : Nat) : List D := (sb n 0).flatMap fun r => bif hasN r 0 then ((sb n 0).filter fun c => Nat.beq c.length r.length).map fun c => pT r c else []
/-! ### small functions -/
theorem pu_int (i : Int) : Pu cs 0 1 [.int i] (.bl true) := pu_of (j := 0) rfl rfl rfl fun k hk => by
  simp only [b0, w_runC, w_ok, w_exn, w_stk, w_bind, w_ifR, w_optS, w_noX, asB_bl, asI_int, lk0, lkS, w_rVar, w_xC, w_xNil, w_xCons, w_xTup, w_rLst, w_rBin, w_xNeg, w_yCmp, w_uCmp, w_xAndV, w_xOrV, w_xNot, w_xIte, w_xChain, w_xIdx, w_xCall, w_xCallk, w_yBlt, w_xLrng, w_xIsi, w_yMeth, w_ySlice, w_oNone, w_oSome, w_xRev, w_xDict, w_tAnd, w_tOr, w_tNot, w_tBl, w_rvVar, w_tCall, w_tCallk, w_tBlt, w_tIsi, w_tIdx, w_iSeq, w_iRng, w_iEnm, w_rName, w_gTup, w_gCons, w_gNil, w_gSubF, seqW_next, seqW_ret, seqW_brk, seqW_cnt, seqW_exn, w_sCons, w_sNil, w_sAsg, w_sExpr, w_sRet, w_sRetN, w_sIf, w_rPar2, w_sPar3, w_sAug, w_sFor, w_sRaise, w_raise1, w_sTry, w_sPass, w_sBrk, w_sCnt, w_rComp, w_xTurn, retsW_ret, retsW_next, retsW_exn, startD, List.map_cons, List.map_nil, List.replicate_succ, List.replicate_zero, List.set_cons_zero, List.set_cons_succ, List.length_cons, List.length_nil, List.cons_append, List.nil_append, Nat.reduceAdd, Nat.reduceSub, Nat.reduceLeDiff, Nat.zero_add, List.getD_cons_zero, List.getD_cons_succ, ty_int, ty_bl, ty_str, ty_tup, ty_non, tr_bl, tr_tup, isi_00, isi_01, isi_10, isi_11, isi_33, isi_03, isi_13, isi_30, isi_31, c_lt, c_le, c_gt, c_ge, c_eqI, c_neI, dAdd, dSub, LM_le2, LM_le1, LM_le0, LM_le3, LM_le4, len_tup, idx0, idx1, Option.some.injEq, exists_eq_left', exists_eq_left, D.bl.injEq, D.int.injEq, Bool.not_true, Bool.not_false, if_true, if_false, Bool.false_eq_true, reduceIte, and_true, true_and, and_self, decide_true, decide_false]
theorem pu_size (i g : Int) : Pu cs 1 2 [.int i, .int g] (.bl (decide (1 ≤ i) && decide (i ≤ g))) := pu_of (j := 1) rfl rfl rfl fun k hk => by
  simp only [b1, (pu_int _).w hk, w_runC, w_ok, w_exn, w_stk, w_bind, w_ifR, w_optS, w_noX, asB_bl, asI_int, lk0, lkS, w_rVar, w_xC, w_xNil, w_xCons, w_xTup, w_rLst, w_rBin, w_xNeg, w_yCmp, w_uCmp, w_xAndV, w_xOrV, w_xNot, w_xIte, w_xChain, w_xIdx, w_xCall, w_xCallk, w_yBlt, w_xLrng, w_xIsi, w_yMeth, w_ySlice, w_oNone, w_oSome, w_xRev, w_xDict, w_tAnd, w_tOr, w_tNot, w_tBl, w_rvVar, w_tCall, w_tCallk, w_tBlt, w_tIsi, w_tIdx, w_iSeq, w_iRng, w_iEnm, w_rName, w_gTup, w_gCons, w_gNil, w_gSubF, seqW_next, seqW_ret, seqW_brk, seqW_cnt, seqW_exn, w_sCons, w_sNil, w_sAsg, w_sExpr, w_sRet, w_sRetN, w_sIf, w_rPar2, w_sPar3, w_sAug, w_sFor, w_sRaise, w_raise1, w_sTry, w_sPass, w_sBrk, w_sCnt, w_rComp, w_xTurn, retsW_ret, retsW_next, retsW_exn, startD, List.map_cons, List.map_nil, List.replicate_succ, List.replicate_zero, List.set_cons_zero, List.set_cons_succ, List.length_cons, List.length_nil, List.cons_append, List.nil_append, Nat.reduceAdd, Nat.reduceSub, Nat.reduceLeDiff, Nat.zero_add, List.getD_cons_zero, List.getD_cons_succ, ty_int, ty_bl, ty_str, ty_tup, ty_non, tr_bl, tr_tup, isi_00, isi_01, isi_10, isi_11, isi_33, isi_03, isi_13, isi_30, isi_31, c_lt, c_le, c_gt, c_ge, c_eqI, c_neI, dAdd, dSub, LM_le2, LM_le1, LM_le0, LM_le3, LM_le4, len_tup, idx0, idx1, Option.some.injEq, exists_eq_left', exists_eq_left, D.bl.injEq, D.int.injEq, Bool.not_true, Bool.not_false, if_true, if_false, Bool.false_eq_true, reduceIte, and_true, true_and, and_self, decide_true, decide_false]
  by_cases h : (1 : Int) ≤ i <;> simp [h]
theorem pu_pair (a b : D) (ha : rf a = true) (hb : rf b = true) : Pu cs 5 1 [.tup [a, b]] (.bl true) := pu_of (j := 0) rfl (by simp [rfs, rf, ha, hb]) rfl fun k hk => by
  simp only [b5, w_runC, w_ok, w_exn, w_stk, w_bind, w_ifR, w_optS, w_noX, asB_bl, asI_int, lk0, lkS, w_rVar, w_xC, w_xNil, w_xCons, w_xTup, w_rLst, w_rBin, w_xNeg, w_yCmp, w_uCmp, w_xAndV, w_xOrV, w_xNot, w_xIte, w_xChain, w_xIdx, w_xCall, w_xCallk, w_yBlt, w_xLrng, w_xIsi, w_yMeth, w_ySlice, w_oNone, w_oSome, w_xRev, w_xDict, w_tAnd, w_tOr, w_tNot, w_tBl, w_rvVar, w_tCall, w_tCallk, w_tBlt, w_tIsi, w_tIdx, w_iSeq, w_iRng, w_iEnm, w_rName, w_gTup, w_gCons, w_gNil, w_gSubF, seqW_next, seqW_ret, seqW_brk, seqW_cnt, seqW_exn, w_sCons, w_sNil, w_sAsg, w_sExpr, w_sRet, w_sRetN, w_sIf, w_rPar2, w_sPar3, w_sAug, w_sFor, w_sRaise, w_raise1, w_sTry, w_sPass, w_sBrk, w_sCnt, w_rComp, w_xTurn, retsW_ret, retsW_next, retsW_exn, startD, List.map_cons, List.map_nil, List.replicate_succ, List.replicate_zero, List.set_cons_zero, List.set_cons_succ, List.length_cons, List.length_nil, List.cons_append, List.nil_append, Nat.reduceAdd, Nat.reduceSub, Nat.reduceLeDiff, Nat.zero_add, List.getD_cons_zero, List.getD_cons_succ, ty_int, ty_bl, ty_str, ty_tup, ty_non, tr_bl, tr_tup, isi_00, isi_01, isi_10, isi_11, isi_33, isi_03, isi_13, isi_30, isi_31, c_lt, c_le, c_gt, c_ge, c_eqI, c_neI, dAdd, dSub, LM_le2, LM_le1, LM_le0, LM_le3, LM_le4, len_tup, idx0, idx1, Option.some.injEq, exists_eq_left', exists_eq_left, D.bl.injEq, D.int.injEq, Bool.not_true, Bool.not_false, if_true, if_false, Bool.false_eq_true, reduceIte, and_true, true_and, and_self, decide_true, decide_false]
  rfl
/-- what is known of a size -/
structure Fn (n : Nat) : Prop where
  n1 : 1 ≤ n
  n6 : n ≤ 6
  sets : Pl cs 19 1 [.int n] ((sb n 0).map nT)
  prod : Pu cs 12 6 [.int n] (.tup (prs n))
  is : ∀ s ∈ sb n 0, Pu cs 3 3 [.int n, nT s] (.bl true)
  ot : ∀ s ∈ sb n 0, Pu cs 7 1 [.int n, nT s] (nT (oth n s))
  lf : ∀ s ∈ sb n 0, Pu cs 20 1 [.int n, nT s] (nT (oth n s))
  om : ∀ s ∈ sb n 0, oth n s ∈ sb n 0 ∧ oth n (oth n s) = s ∧ hasN (oth n s) 0 = !hasN s 0 ∧ (oth n s).length + s.length = n
variable {n : Nat} {r c : List Nat}
theorem need_size (F : Fn n) : Pu cs 9 3 [.int n] .non := pu_of (j := 2) rfl rfl rfl fun k hk => by
  have h1 := F.n1
  have h6 := F.n6
  have e : (decide ((1 : Int) ≤ n) && decide ((n : Int) ≤ 6)) = true := by simp; omega
  simp only [b9, (pu_size _ _).w hk, e, w_runC, w_ok, w_exn, w_stk, w_bind, w_ifR, w_optS, w_noX, asB_bl, asI_int, lk0, lkS, w_rVar, w_xC, w_xNil, w_xCons, w_xTup, w_rLst, w_rBin, w_xNeg, w_yCmp, w_uCmp, w_xAndV, w_xOrV, w_xNot, w_xIte, w_xChain, w_xIdx, w_xCall, w_xCallk, w_yBlt, w_xLrng, w_xIsi, w_yMeth, w_ySlice, w_oNone, w_oSome, w_xRev, w_xDict, w_tAnd, w_tOr, w_tNot, w_tBl, w_rvVar, w_tCall, w_tCallk, w_tBlt, w_tIsi, w_tIdx, w_iSeq, w_iRng, w_iEnm, w_rName, w_gTup, w_gCons, w_gNil, w_gSubF, seqW_next, seqW_ret, seqW_brk, seqW_cnt, seqW_exn, w_sCons, w_sNil, w_sAsg, w_sExpr, w_sRet, w_sRetN, w_sIf, w_rPar2, w_sPar3, w_sAug, w_sFor, w_sRaise, w_raise1, w_sTry, w_sPass, w_sBrk, w_sCnt, w_rComp, w_xTurn, retsW_ret, retsW_next, retsW_exn, startD, List.map_cons, List.map_nil, List.replicate_succ, List.replicate_zero, List.set_cons_zero, List.set_cons_succ, List.length_cons, List.length_nil, List.cons_append, List.nil_append, Nat.reduceAdd, Nat.reduceSub, Nat.reduceLeDiff, Nat.zero_add, List.getD_cons_zero, List.getD_cons_succ, ty_int, ty_bl, ty_str, ty_tup, ty_non, tr_bl, tr_tup, isi_00, isi_01, isi_10, isi_11, isi_33, isi_03, isi_13, isi_30, isi_31, c_lt, c_le, c_gt, c_ge, c_eqI, c_neI, dAdd, dSub, LM_le2, LM_le1, LM_le0, LM_le3, LM_le4, len_tup, idx0, idx1, Option.some.injEq, exists_eq_left', exists_eq_left, D.bl.injEq, D.int.injEq, Bool.not_true, Bool.not_false, if_true, if_false, Bool.false_eq_true, reduceIte, and_true, true_and, and_self, decide_true, decide_false]
theorem rf_st (n : Nat) (r c : List Nat) : rfs [.int n, nT r, nT c] = true := by simp [rfs, rf, rf_nT]
theorem are_sets (F : Fn n) (hr : r ∈ sb n 0) (hc : c ∈ sb n 0) : Pu cs 4 4 [.int n, nT r, nT c] (.bl (decide (r.length = c.length))) := pu_of (j := 3) rfl (rf_st _ _ _) rfl fun k hk => by
  simp only [b4, (F.is r hr).w hk, (F.is c hc).w hk, len_nT, w_runC, w_ok, w_exn, w_stk, w_bind, w_ifR, w_optS, w_noX, asB_bl, asI_int, lk0, lkS, w_rVar, w_xC, w_xNil, w_xCons, w_xTup, w_rLst, w_rBin, w_xNeg, w_yCmp, w_uCmp, w_xAndV, w_xOrV, w_xNot, w_xIte, w_xChain, w_xIdx, w_xCall, w_xCallk, w_yBlt, w_xLrng, w_xIsi, w_yMeth, w_ySlice, w_oNone, w_oSome, w_xRev, w_xDict, w_tAnd, w_tOr, w_tNot, w_tBl, w_rvVar, w_tCall, w_tCallk, w_tBlt, w_tIsi, w_tIdx, w_iSeq, w_iRng, w_iEnm, w_rName, w_gTup, w_gCons, w_gNil, w_gSubF, seqW_next, seqW_ret, seqW_brk, seqW_cnt, seqW_exn, w_sCons, w_sNil, w_sAsg, w_sExpr, w_sRet, w_sRetN, w_sIf, w_rPar2, w_sPar3, w_sAug, w_sFor, w_sRaise, w_raise1, w_sTry, w_sPass, w_sBrk, w_sCnt, w_rComp, w_xTurn, retsW_ret, retsW_next, retsW_exn, startD, List.map_cons, List.map_nil, List.replicate_succ, List.replicate_zero, List.set_cons_zero, List.set_cons_succ, List.length_cons, List.length_nil, List.cons_append, List.nil_append, Nat.reduceAdd, Nat.reduceSub, Nat.reduceLeDiff, Nat.zero_add, List.getD_cons_zero, List.getD_cons_succ, ty_int, ty_bl, ty_str, ty_tup, ty_non, tr_bl, tr_tup, isi_00, isi_01, isi_10, isi_11, isi_33, isi_03, isi_13, isi_30, isi_31, c_lt, c_le, c_gt, c_ge, c_eqI, c_neI, dAdd, dSub, LM_le2, LM_le1, LM_le0, LM_le3, LM_le4, len_tup, idx0, idx1, Option.some.injEq, exists_eq_left', exists_eq_left, D.bl.injEq, D.int.injEq, Bool.not_true, Bool.not_false, if_true, if_false, Bool.false_eq_true, reduceIte, and_true, true_and, and_self, decide_true, decide_false]
  rw [Bool.eq_iff_iff, beq_iff_eq, decide_eq_true_eq]
  omega
theorem need_sets (F : Fn n) (hr : r ∈ sb n 0) (hc : c ∈ sb n 0) (h : r.length = c.length) : Pu cs 8 5 [.int n, nT r, nT c] .non := pu_of (j := 4) rfl (rf_st _ _ _) rfl fun k hk => by
  simp only [b8, (are_sets F hr hc).w hk, h, w_runC, w_ok, w_exn, w_stk, w_bind, w_ifR, w_optS, w_noX, asB_bl, asI_int, lk0, lkS, w_rVar, w_xC, w_xNil, w_xCons, w_xTup, w_rLst, w_rBin, w_xNeg, w_yCmp, w_uCmp, w_xAndV, w_xOrV, w_xNot, w_xIte, w_xChain, w_xIdx, w_xCall, w_xCallk, w_yBlt, w_xLrng, w_xIsi, w_yMeth, w_ySlice, w_oNone, w_oSome, w_xRev, w_xDict, w_tAnd, w_tOr, w_tNot, w_tBl, w_rvVar, w_tCall, w_tCallk, w_tBlt, w_tIsi, w_tIdx, w_iSeq, w_iRng, w_iEnm, w_rName, w_gTup, w_gCons, w_gNil, w_gSubF, seqW_next, seqW_ret, seqW_brk, seqW_cnt, seqW_exn, w_sCons, w_sNil, w_sAsg, w_sExpr, w_sRet, w_sRetN, w_sIf, w_rPar2, w_sPar3, w_sAug, w_sFor, w_sRaise, w_raise1, w_sTry, w_sPass, w_sBrk, w_sCnt, w_rComp, w_xTurn, retsW_ret, retsW_next, retsW_exn, startD, List.map_cons, List.map_nil, List.replicate_succ, List.replicate_zero, List.set_cons_zero, List.set_cons_succ, List.length_cons, List.length_nil, List.cons_append, List.nil_append, Nat.reduceAdd, Nat.reduceSub, Nat.reduceLeDiff, Nat.zero_add, List.getD_cons_zero, List.getD_cons_succ, ty_int, ty_bl, ty_str, ty_tup, ty_non, tr_bl, tr_tup, isi_00, isi_01, isi_10, isi_11, isi_33, isi_03, isi_13, isi_30, isi_31, c_lt, c_le, c_gt, c_ge, c_eqI, c_neI, dAdd, dSub, LM_le2, LM_le1, LM_le0, LM_le3, LM_le4, len_tup, idx0, idx1, Option.some.injEq, exists_eq_left', exists_eq_left, D.bl.injEq, D.int.injEq, Bool.not_true, Bool.not_false, if_true, if_false, Bool.false_eq_true, reduceIte, and_true, true_and, and_self, decide_true, decide_false]
theorem need_setsX (F : Fn n) (hr : r ∈ sb n 0) (hc : c ∈ sb n 0) (h : r.length ≠ c.length) : Px cs 8 5 [.int n, nT r, nT c] ⟨0, [("thing", pT r c)]⟩ := px_of (j := 4) rfl (rf_st _ _ _) (by simp [rfs, rf_pT]) fun k hk => by
  simp only [b8, (are_sets F hr hc).w hk, h, w_runC, w_ok, w_exn, w_stk, w_bind, w_ifR, w_optS, w_noX, asB_bl, asI_int, lk0, lkS, w_rVar, w_xC, w_xNil, w_xCons, w_xTup, w_rLst, w_rBin, w_xNeg, w_yCmp, w_uCmp, w_xAndV, w_xOrV, w_xNot, w_xIte, w_xChain, w_xIdx, w_xCall, w_xCallk, w_yBlt, w_xLrng, w_xIsi, w_yMeth, w_ySlice, w_oNone, w_oSome, w_xRev, w_xDict, w_tAnd, w_tOr, w_tNot, w_tBl, w_rvVar, w_tCall, w_tCallk, w_tBlt, w_tIsi, w_tIdx, w_iSeq, w_iRng, w_iEnm, w_rName, w_gTup, w_gCons, w_gNil, w_gSubF, seqW_next, seqW_ret, seqW_brk, seqW_cnt, seqW_exn, w_sCons, w_sNil, w_sAsg, w_sExpr, w_sRet, w_sRetN, w_sIf, w_rPar2, w_sPar3, w_sAug, w_sFor, w_sRaise, w_raise1, w_sTry, w_sPass, w_sBrk, w_sCnt, w_rComp, w_xTurn, retsW_ret, retsW_next, retsW_exn, startD, List.map_cons, List.map_nil, List.replicate_succ, List.replicate_zero, List.set_cons_zero, List.set_cons_succ, List.length_cons, List.length_nil, List.cons_append, List.nil_append, Nat.reduceAdd, Nat.reduceSub, Nat.reduceLeDiff, Nat.zero_add, List.getD_cons_zero, List.getD_cons_succ, ty_int, ty_bl, ty_str, ty_tup, ty_non, tr_bl, tr_tup, isi_00, isi_01, isi_10, isi_11, isi_33, isi_03, isi_13, isi_30, isi_31, c_lt, c_le, c_gt, c_ge, c_eqI, c_neI, dAdd, dSub, LM_le2, LM_le1, LM_le0, LM_le3, LM_le4, len_tup, idx0, idx1, Option.some.injEq, exists_eq_left', exists_eq_left, D.bl.injEq, D.int.injEq, Bool.not_true, Bool.not_false, if_true, if_false, Bool.false_eq_true, reduceIte, and_true, true_and, and_self, decide_true, decide_false]
  exact ⟨rfl, rfl⟩
theorem others (F : Fn n) (hr : r ∈ sb n 0) (hc : c ∈ sb n 0) : Pu cs 13 2 [.int n, nT r, nT c] (pT (oth n r) (oth n c)) := pu_of (j := 1) rfl (rf_st _ _ _) (rf_pT _ _) fun k hk => by
  simp only [b13, (F.ot r hr).w hk, (F.ot c hc).w hk, w_runC, w_ok, w_exn, w_stk, w_bind, w_ifR, w_optS, w_noX, asB_bl, asI_int, lk0, lkS, w_rVar, w_xC, w_xNil, w_xCons, w_xTup, w_rLst, w_rBin, w_xNeg, w_yCmp, w_uCmp, w_xAndV, w_xOrV, w_xNot, w_xIte, w_xChain, w_xIdx, w_xCall, w_xCallk, w_yBlt, w_xLrng, w_xIsi, w_yMeth, w_ySlice, w_oNone, w_oSome, w_xRev, w_xDict, w_tAnd, w_tOr, w_tNot, w_tBl, w_rvVar, w_tCall, w_tCallk, w_tBlt, w_tIsi, w_tIdx, w_iSeq, w_iRng, w_iEnm, w_rName, w_gTup, w_gCons, w_gNil, w_gSubF, seqW_next, seqW_ret, seqW_brk, seqW_cnt, seqW_exn, w_sCons, w_sNil, w_sAsg, w_sExpr, w_sRet, w_sRetN, w_sIf, w_rPar2, w_sPar3, w_sAug, w_sFor, w_sRaise, w_raise1, w_sTry, w_sPass, w_sBrk, w_sCnt, w_rComp, w_xTurn, retsW_ret, retsW_next, retsW_exn, startD, List.map_cons, List.map_nil, List.replicate_succ, List.replicate_zero, List.set_cons_zero, List.set_cons_succ, List.length_cons, List.length_nil, List.cons_append, List.nil_append, Nat.reduceAdd, Nat.reduceSub, Nat.reduceLeDiff, Nat.zero_add, List.getD_cons_zero, List.getD_cons_succ, ty_int, ty_bl, ty_str, ty_tup, ty_non, tr_bl, tr_tup, isi_00, isi_01, isi_10, isi_11, isi_33, isi_03, isi_13, isi_30, isi_31, c_lt, c_le, c_gt, c_ge, c_eqI, c_neI, dAdd, dSub, LM_le2, LM_le1, LM_le0, LM_le3, LM_le4, len_tup, idx0, idx1, Option.some.injEq, exists_eq_left', exists_eq_left, D.bl.injEq, D.int.injEq, Bool.not_true, Bool.not_false, if_true, if_false, Bool.false_eq_true, reduceIte, and_true, true_and, and_self, decide_true, decide_false]
  rfl
end

section
variable {n : Nat} {r c : List Nat}
/-! ### product_of, is_product, other_company -/
theorem product_of (F : Fn n) (hr : r ∈ sb n 0) (hc : c ∈ sb n 0) (h : r.length = c.length) : Pu cs 14 6 [.int n, nT r, nT c] (bif hasN r 0 then pT r c else pT (oth n r) (oth n c)) := pu_of (j := 5) rfl (rf_st _ _ _) (by cases hasN r 0 <;> exact rf_pT _ _) fun k hk => by
  have e0 : ∀ S, cmpD .In (.int 0) (nT r) S = .ok (.bl (hasN r 0)) S := fun S => c_inN 0 r
  simp only [b14, (need_size F).w (show 3 ≤ k by omega), (need_sets F hr hc h).w hk, (others F hr hc).w (show 2 ≤ k by omega), e0, w_runC, w_ok, w_exn, w_stk, w_bind, w_ifR, w_optS, w_noX, asB_bl, asI_int, lk0, lkS, w_rVar, w_xC, w_xNil, w_xCons, w_xTup, w_rLst, w_rBin, w_xNeg, w_yCmp, w_uCmp, w_xAndV, w_xOrV, w_xNot, w_xIte, w_xChain, w_xIdx, w_xCall, w_xCallk, w_yBlt, w_xLrng, w_xIsi, w_yMeth, w_ySlice, w_oNone, w_oSome, w_xRev, w_xDict, w_tAnd, w_tOr, w_tNot, w_tBl, w_rvVar, w_tCall, w_tCallk, w_tBlt, w_tIsi, w_tIdx, w_iSeq, w_iRng, w_iEnm, w_rName, w_gTup, w_gCons, w_gNil, w_gSubF, seqW_next, seqW_ret, seqW_brk, seqW_cnt, seqW_exn, w_sCons, w_sNil, w_sAsg, w_sExpr, w_sRet, w_sRetN, w_sIf, w_rPar2, w_sPar3, w_sAug, w_sFor, w_sRaise, w_raise1, w_sTry, w_sPass, w_sBrk, w_sCnt, w_rComp, w_xTurn, retsW_ret, retsW_next, retsW_exn, w_xComp2, flW_next, flW_cnt, flW_brk, flW_ret, flW_exn, startD, List.map_cons, List.map_nil, List.replicate_succ, List.replicate_zero, List.set_cons_zero, List.set_cons_succ, List.length_cons, List.length_nil, List.cons_append, List.nil_append, Nat.reduceAdd, Nat.reduceSub, Nat.reduceLeDiff, Nat.zero_add, List.getD_cons_zero, List.getD_cons_succ, ty_int, ty_bl, ty_str, ty_tup, ty_non, tr_bl, tr_tup, isi_00, isi_01, isi_10, isi_11, isi_33, isi_03, isi_13, isi_30, isi_31, c_lt, c_le, c_gt, c_ge, c_eqI, c_neI, dAdd, dSub, LM_le2, LM_le1, LM_le0, LM_le3, LM_le4, len_tup, idx0, idx1, Option.some.injEq, exists_eq_left', exists_eq_left, D.bl.injEq, D.int.injEq, Bool.not_true, Bool.not_false, if_true, if_false, Bool.false_eq_true, reduceIte, and_true, true_and, and_self, decide_true, decide_false]
  cases hasN r 0 <;> rfl
theorem product_ofX (F : Fn n) (hr : r ∈ sb n 0) (hc : c ∈ sb n 0) (h : r.length ≠ c.length) : Px cs 14 6 [.int n, nT r, nT c] ⟨0, [("thing", pT r c)]⟩ := px_of (j := 5) rfl (rf_st _ _ _) (by simp [rfs, rf_pT]) fun k hk => by
  simp only [b14, (need_size F).w (show 3 ≤ k by omega), (need_setsX F hr hc h).w hk, w_runC, w_ok, w_exn, w_stk, w_bind, w_ifR, w_optS, w_noX, asB_bl, asI_int, lk0, lkS, w_rVar, w_xC, w_xNil, w_xCons, w_xTup, w_rLst, w_rBin, w_xNeg, w_yCmp, w_uCmp, w_xAndV, w_xOrV, w_xNot, w_xIte, w_xChain, w_xIdx, w_xCall, w_xCallk, w_yBlt, w_xLrng, w_xIsi, w_yMeth, w_ySlice, w_oNone, w_oSome, w_xRev, w_xDict, w_tAnd, w_tOr, w_tNot, w_tBl, w_rvVar, w_tCall, w_tCallk, w_tBlt, w_tIsi, w_tIdx, w_iSeq, w_iRng, w_iEnm, w_rName, w_gTup, w_gCons, w_gNil, w_gSubF, seqW_next, seqW_ret, seqW_brk, seqW_cnt, seqW_exn, w_sCons, w_sNil, w_sAsg, w_sExpr, w_sRet, w_sRetN, w_sIf, w_rPar2, w_sPar3, w_sAug, w_sFor, w_sRaise, w_raise1, w_sTry, w_sPass, w_sBrk, w_sCnt, w_rComp, w_xTurn, retsW_ret, retsW_next, retsW_exn, w_xComp2, flW_next, flW_cnt, flW_brk, flW_ret, flW_exn, startD, List.map_cons, List.map_nil, List.replicate_succ, List.replicate_zero, List.set_cons_zero, List.set_cons_succ, List.length_cons, List.length_nil, List.cons_append, List.nil_append, Nat.reduceAdd, Nat.reduceSub, Nat.reduceLeDiff, Nat.zero_add, List.getD_cons_zero, List.getD_cons_succ, ty_int, ty_bl, ty_str, ty_tup, ty_non, tr_bl, tr_tup, isi_00, isi_01, isi_10, isi_11, isi_33, isi_03, isi_13, isi_30, isi_31, c_lt, c_le, c_gt, c_ge, c_eqI, c_neI, dAdd, dSub, LM_le2, LM_le1, LM_le0, LM_le3, LM_le4, len_tup, idx0, idx1, Option.some.injEq, exists_eq_left', exists_eq_left, D.bl.injEq, D.int.injEq, Bool.not_true, Bool.not_false, if_true, if_false, Bool.false_eq_true, reduceIte, and_true, true_and, and_self, decide_true, decide_false]
theorem is_product (F : Fn n) (hr : r ∈ sb n 0) (hc : c ∈ sb n 0) (h : r.length = c.length) : Pu cs 10 5 [.int n, pT r c] (.bl (hasN r 0)) := pu_of (j := 4) rfl (by simp [rfs, rf, rf_pT]) rfl fun k hk => by
  have e0 : ∀ S, cmpD .In (.int 0) (nT r) S = .ok (.bl (hasN r 0)) S := fun S => c_inN 0 r
  simp only [b10, pT, (pu_pair (nT r) (nT c) (rf_nT r) (rf_nT c)).w (show 1 ≤ k by omega), (are_sets F hr hc).w hk, h, e0, w_runC, w_ok, w_exn, w_stk, w_bind, w_ifR, w_optS, w_noX, asB_bl, asI_int, lk0, lkS, w_rVar, w_xC, w_xNil, w_xCons, w_xTup, w_rLst, w_rBin, w_xNeg, w_yCmp, w_uCmp, w_xAndV, w_xOrV, w_xNot, w_xIte, w_xChain, w_xIdx, w_xCall, w_xCallk, w_yBlt, w_xLrng, w_xIsi, w_yMeth, w_ySlice, w_oNone, w_oSome, w_xRev, w_xDict, w_tAnd, w_tOr, w_tNot, w_tBl, w_rvVar, w_tCall, w_tCallk, w_tBlt, w_tIsi, w_tIdx, w_iSeq, w_iRng, w_iEnm, w_rName, w_gTup, w_gCons, w_gNil, w_gSubF, seqW_next, seqW_ret, seqW_brk, seqW_cnt, seqW_exn, w_sCons, w_sNil, w_sAsg, w_sExpr, w_sRet, w_sRetN, w_sIf, w_rPar2, w_sPar3, w_sAug, w_sFor, w_sRaise, w_raise1, w_sTry, w_sPass, w_sBrk, w_sCnt, w_rComp, w_xTurn, retsW_ret, retsW_next, retsW_exn, w_xComp2, flW_next, flW_cnt, flW_brk, flW_ret, flW_exn, startD, List.map_cons, List.map_nil, List.replicate_succ, List.replicate_zero, List.set_cons_zero, List.set_cons_succ, List.length_cons, List.length_nil, List.cons_append, List.nil_append, Nat.reduceAdd, Nat.reduceSub, Nat.reduceLeDiff, Nat.zero_add, List.getD_cons_zero, List.getD_cons_succ, ty_int, ty_bl, ty_str, ty_tup, ty_non, tr_bl, tr_tup, isi_00, isi_01, isi_10, isi_11, isi_33, isi_03, isi_13, isi_30, isi_31, c_lt, c_le, c_gt, c_ge, c_eqI, c_neI, dAdd, dSub, LM_le2, LM_le1, LM_le0, LM_le3, LM_le4, len_tup, idx0, idx1, Option.some.injEq, exists_eq_left', exists_eq_left, D.bl.injEq, D.int.injEq, Bool.not_true, Bool.not_false, if_true, if_false, Bool.false_eq_true, reduceIte, and_true, true_and, and_self, decide_true, decide_false]
theorem need_product (F : Fn n) (hr : r ∈ sb n 0) (hc : c ∈ sb n 0) (h : r.length = c.length) (h0 : hasN r 0 = true) : Pu cs 11 6 [.int n, pT r c] .non := pu_of (j := 5) rfl (by simp [rfs, rf, rf_pT]) rfl fun k hk => by
  simp only [b11, (is_product F hr hc h).w hk, h0, w_runC, w_ok, w_exn, w_stk, w_bind, w_ifR, w_optS, w_noX, asB_bl, asI_int, lk0, lkS, w_rVar, w_xC, w_xNil, w_xCons, w_xTup, w_rLst, w_rBin, w_xNeg, w_yCmp, w_uCmp, w_xAndV, w_xOrV, w_xNot, w_xIte, w_xChain, w_xIdx, w_xCall, w_xCallk, w_yBlt, w_xLrng, w_xIsi, w_yMeth, w_ySlice, w_oNone, w_oSome, w_xRev, w_xDict, w_tAnd, w_tOr, w_tNot, w_tBl, w_rvVar, w_tCall, w_tCallk, w_tBlt, w_tIsi, w_tIdx, w_iSeq, w_iRng, w_iEnm, w_rName, w_gTup, w_gCons, w_gNil, w_gSubF, seqW_next, seqW_ret, seqW_brk, seqW_cnt, seqW_exn, w_sCons, w_sNil, w_sAsg, w_sExpr, w_sRet, w_sRetN, w_sIf, w_rPar2, w_sPar3, w_sAug, w_sFor, w_sRaise, w_raise1, w_sTry, w_sPass, w_sBrk, w_sCnt, w_rComp, w_xTurn, retsW_ret, retsW_next, retsW_exn, w_xComp2, flW_next, flW_cnt, flW_brk, flW_ret, flW_exn, startD, List.map_cons, List.map_nil, List.replicate_succ, List.replicate_zero, List.set_cons_zero, List.set_cons_succ, List.length_cons, List.length_nil, List.cons_append, List.nil_append, Nat.reduceAdd, Nat.reduceSub, Nat.reduceLeDiff, Nat.zero_add, List.getD_cons_zero, List.getD_cons_succ, ty_int, ty_bl, ty_str, ty_tup, ty_non, tr_bl, tr_tup, isi_00, isi_01, isi_10, isi_11, isi_33, isi_03, isi_13, isi_30, isi_31, c_lt, c_le, c_gt, c_ge, c_eqI, c_neI, dAdd, dSub, LM_le2, LM_le1, LM_le0, LM_le3, LM_le4, len_tup, idx0, idx1, Option.some.injEq, exists_eq_left', exists_eq_left, D.bl.injEq, D.int.injEq, Bool.not_true, Bool.not_false, if_true, if_false, Bool.false_eq_true, reduceIte, and_true, true_and, and_self, decide_true, decide_false]
theorem other_company (F : Fn n) (hr : r ∈ sb n 0) (hc : c ∈ sb n 0) (h : r.length = c.length) (h0 : hasN r 0 = true) : Pu cs 15 7 [.int n, pT r c] (pT (oth n r) (oth n c)) := pu_of (j := 6) rfl (by simp [rfs, rf, rf_pT]) (rf_pT _ _) fun k hk => by
  simp only [b15, (need_size F).w (show 3 ≤ k by omega), (need_product F hr hc h h0).w hk, w_runC, w_ok, w_exn, w_stk, w_bind, w_ifR, w_optS, w_noX, asB_bl, asI_int, lk0, lkS, w_rVar, w_xC, w_xNil, w_xCons, w_xTup, w_rLst, w_rBin, w_xNeg, w_yCmp, w_uCmp, w_xAndV, w_xOrV, w_xNot, w_xIte, w_xChain, w_xIdx, w_xCall, w_xCallk, w_yBlt, w_xLrng, w_xIsi, w_yMeth, w_ySlice, w_oNone, w_oSome, w_xRev, w_xDict, w_tAnd, w_tOr, w_tNot, w_tBl, w_rvVar, w_tCall, w_tCallk, w_tBlt, w_tIsi, w_tIdx, w_iSeq, w_iRng, w_iEnm, w_rName, w_gTup, w_gCons, w_gNil, w_gSubF, seqW_next, seqW_ret, seqW_brk, seqW_cnt, seqW_exn, w_sCons, w_sNil, w_sAsg, w_sExpr, w_sRet, w_sRetN, w_sIf, w_rPar2, w_sPar3, w_sAug, w_sFor, w_sRaise, w_raise1, w_sTry, w_sPass, w_sBrk, w_sCnt, w_rComp, w_xTurn, retsW_ret, retsW_next, retsW_exn, w_xComp2, flW_next, flW_cnt, flW_brk, flW_ret, flW_exn, startD, List.map_cons, List.map_nil, List.replicate_succ, List.replicate_zero, List.set_cons_zero, List.set_cons_succ, List.length_cons, List.length_nil, List.cons_append, List.nil_append, Nat.reduceAdd, Nat.reduceSub, Nat.reduceLeDiff, Nat.zero_add, List.getD_cons_zero, List.getD_cons_succ, ty_int, ty_bl, ty_str, ty_tup, ty_non, tr_bl, tr_tup, isi_00, isi_01, isi_10, isi_11, isi_33, isi_03, isi_13, isi_30, isi_31, c_lt, c_le, c_gt, c_ge, c_eqI, c_neI, dAdd, dSub, LM_le2, LM_le1, LM_le0, LM_le3, LM_le4, len_tup, idx0, idx1, Option.some.injEq, exists_eq_left', exists_eq_left, D.bl.injEq, D.int.injEq, Bool.not_true, Bool.not_false, if_true, if_false, Bool.false_eq_true, reduceIte, and_true, true_and, and_self, decide_true, decide_false]
  simp only [pT, (others F hr hc).w (show 2 ≤ k by omega), w_runC, w_ok, w_exn, w_stk, w_bind, w_ifR, w_optS, w_noX, asB_bl, asI_int, lk0, lkS, w_rVar, w_xC, w_xNil, w_xCons, w_xTup, w_rLst, w_rBin, w_xNeg, w_yCmp, w_uCmp, w_xAndV, w_xOrV, w_xNot, w_xIte, w_xChain, w_xIdx, w_xCall, w_xCallk, w_yBlt, w_xLrng, w_xIsi, w_yMeth, w_ySlice, w_oNone, w_oSome, w_xRev, w_xDict, w_tAnd, w_tOr, w_tNot, w_tBl, w_rvVar, w_tCall, w_tCallk, w_tBlt, w_tIsi, w_tIdx, w_iSeq, w_iRng, w_iEnm, w_rName, w_gTup, w_gCons, w_gNil, w_gSubF, seqW_next, seqW_ret, seqW_brk, seqW_cnt, seqW_exn, w_sCons, w_sNil, w_sAsg, w_sExpr, w_sRet, w_sRetN, w_sIf, w_rPar2, w_sPar3, w_sAug, w_sFor, w_sRaise, w_raise1, w_sTry, w_sPass, w_sBrk, w_sCnt, w_rComp, w_xTurn, retsW_ret, retsW_next, retsW_exn, w_xComp2, flW_next, flW_cnt, flW_brk, flW_ret, flW_exn, startD, List.map_cons, List.map_nil, List.replicate_succ, List.replicate_zero, List.set_cons_zero, List.set_cons_succ, List.length_cons, List.length_nil, List.cons_append, List.nil_append, Nat.reduceAdd, Nat.reduceSub, Nat.reduceLeDiff, Nat.zero_add, List.getD_cons_zero, List.getD_cons_succ, ty_int, ty_bl, ty_str, ty_tup, ty_non, tr_bl, tr_tup, isi_00, isi_01, isi_10, isi_11, isi_33, isi_03, isi_13, isi_30, isi_31, c_lt, c_le, c_gt, c_ge, c_eqI, c_neI, dAdd, dSub, LM_le2, LM_le1, LM_le0, LM_le3, LM_le4, len_tup, idx0, idx1, Option.some.injEq, exists_eq_left', exists_eq_left, D.bl.injEq, D.int.injEq, Bool.not_true, Bool.not_false, if_true, if_false, Bool.false_eq_true, reduceIte, and_true, true_and, and_self, decide_true, decide_false]
/-! ### a pair of sets is right -/
theorem refused (F : Fn n) (hr : r ∈ sb n 0) (hc : c ∈ sb n 0) (h : r.length ≠ c.length) : Pu cs 22 7 [.int n, nT r, nT c] (.bl true) := pu_of (j := 6) rfl (rf_st _ _ _) rfl fun k hk => by
  simp only [b22, (product_ofX F hr hc h).w hk, w_runC, w_ok, w_exn, w_stk, w_bind, w_ifR, w_optS, w_noX, asB_bl, asI_int, lk0, lkS, w_rVar, w_xC, w_xNil, w_xCons, w_xTup, w_rLst, w_rBin, w_xNeg, w_yCmp, w_uCmp, w_xAndV, w_xOrV, w_xNot, w_xIte, w_xChain, w_xIdx, w_xCall, w_xCallk, w_yBlt, w_xLrng, w_xIsi, w_yMeth, w_ySlice, w_oNone, w_oSome, w_xRev, w_xDict, w_tAnd, w_tOr, w_tNot, w_tBl, w_rvVar, w_tCall, w_tCallk, w_tBlt, w_tIsi, w_tIdx, w_iSeq, w_iRng, w_iEnm, w_rName, w_gTup, w_gCons, w_gNil, w_gSubF, seqW_next, seqW_ret, seqW_brk, seqW_cnt, seqW_exn, w_sCons, w_sNil, w_sAsg, w_sExpr, w_sRet, w_sRetN, w_sIf, w_rPar2, w_sPar3, w_sAug, w_sFor, w_sRaise, w_raise1, w_sTry, w_sPass, w_sBrk, w_sCnt, w_rComp, w_xTurn, retsW_ret, retsW_next, retsW_exn, w_xComp2, flW_next, flW_cnt, flW_brk, flW_ret, flW_exn, startD, List.map_cons, List.map_nil, List.replicate_succ, List.replicate_zero, List.set_cons_zero, List.set_cons_succ, List.length_cons, List.length_nil, List.cons_append, List.nil_append, Nat.reduceAdd, Nat.reduceSub, Nat.reduceLeDiff, Nat.zero_add, List.getD_cons_zero, List.getD_cons_succ, ty_int, ty_bl, ty_str, ty_tup, ty_non, tr_bl, tr_tup, isi_00, isi_01, isi_10, isi_11, isi_33, isi_03, isi_13, isi_30, isi_31, c_lt, c_le, c_gt, c_ge, c_eqI, c_neI, dAdd, dSub, LM_le2, LM_le1, LM_le0, LM_le3, LM_le4, len_tup, idx0, idx1, Option.some.injEq, exists_eq_left', exists_eq_left, D.bl.injEq, D.int.injEq, Bool.not_true, Bool.not_false, if_true, if_false, Bool.false_eq_true, reduceIte, and_true, true_and, and_self, decide_true, decide_false]
  show (R.ok (Fl.next [some (D.int n), some (nT r), some (nT c), some (D.tup [pT r c, D.bl true]), none]) []).holds _ _
  simp only [w_runC, w_ok, w_exn, w_stk, w_bind, w_ifR, w_optS, w_noX, asB_bl, asI_int, lk0, lkS, w_rVar, w_xC, w_xNil, w_xCons, w_xTup, w_rLst, w_rBin, w_xNeg, w_yCmp, w_uCmp, w_xAndV, w_xOrV, w_xNot, w_xIte, w_xChain, w_xIdx, w_xCall, w_xCallk, w_yBlt, w_xLrng, w_xIsi, w_yMeth, w_ySlice, w_oNone, w_oSome, w_xRev, w_xDict, w_tAnd, w_tOr, w_tNot, w_tBl, w_rvVar, w_tCall, w_tCallk, w_tBlt, w_tIsi, w_tIdx, w_iSeq, w_iRng, w_iEnm, w_rName, w_gTup, w_gCons, w_gNil, w_gSubF, seqW_next, seqW_ret, seqW_brk, seqW_cnt, seqW_exn, w_sCons, w_sNil, w_sAsg, w_sExpr, w_sRet, w_sRetN, w_sIf, w_rPar2, w_sPar3, w_sAug, w_sFor, w_sRaise, w_raise1, w_sTry, w_sPass, w_sBrk, w_sCnt, w_rComp, w_xTurn, retsW_ret, retsW_next, retsW_exn, w_xComp2, flW_next, flW_cnt, flW_brk, flW_ret, flW_exn, startD, List.map_cons, List.map_nil, List.replicate_succ, List.replicate_zero, List.set_cons_zero, List.set_cons_succ, List.length_cons, List.length_nil, List.cons_append, List.nil_append, Nat.reduceAdd, Nat.reduceSub, Nat.reduceLeDiff, Nat.zero_add, List.getD_cons_zero, List.getD_cons_succ, ty_int, ty_bl, ty_str, ty_tup, ty_non, tr_bl, tr_tup, isi_00, isi_01, isi_10, isi_11, isi_33, isi_03, isi_13, isi_30, isi_31, c_lt, c_le, c_gt, c_ge, c_eqI, c_neI, dAdd, dSub, LM_le2, LM_le1, LM_le0, LM_le3, LM_le4, len_tup, idx0, idx1, Option.some.injEq, exists_eq_left', exists_eq_left, D.bl.injEq, D.int.injEq, Bool.not_true, Bool.not_false, if_true, if_false, Bool.false_eq_true, reduceIte, and_true, true_and, and_self, decide_true, decide_false]
  simp only [pT_fold, w_runC, w_ok, w_exn, w_stk, w_bind, w_ifR, w_optS, w_noX, asB_bl, asI_int, lk0, lkS, w_rVar, w_xC, w_xNil, w_xCons, w_xTup, w_rLst, w_rBin, w_xNeg, w_yCmp, w_uCmp, w_xAndV, w_xOrV, w_xNot, w_xIte, w_xChain, w_xIdx, w_xCall, w_xCallk, w_yBlt, w_xLrng, w_xIsi, w_yMeth, w_ySlice, w_oNone, w_oSome, w_xRev, w_xDict, w_tAnd, w_tOr, w_tNot, w_tBl, w_rvVar, w_tCall, w_tCallk, w_tBlt, w_tIsi, w_tIdx, w_iSeq, w_iRng, w_iEnm, w_rName, w_gTup, w_gCons, w_gNil, w_gSubF, seqW_next, seqW_ret, seqW_brk, seqW_cnt, seqW_exn, w_sCons, w_sNil, w_sAsg, w_sExpr, w_sRet, w_sRetN, w_sIf, w_rPar2, w_sPar3, w_sAug, w_sFor, w_sRaise, w_raise1, w_sTry, w_sPass, w_sBrk, w_sCnt, w_rComp, w_xTurn, retsW_ret, retsW_next, retsW_exn, w_xComp2, flW_next, flW_cnt, flW_brk, flW_ret, flW_exn, startD, List.map_cons, List.map_nil, List.replicate_succ, List.replicate_zero, List.set_cons_zero, List.set_cons_succ, List.length_cons, List.length_nil, List.cons_append, List.nil_append, Nat.reduceAdd, Nat.reduceSub, Nat.reduceLeDiff, Nat.zero_add, List.getD_cons_zero, List.getD_cons_succ, ty_int, ty_bl, ty_str, ty_tup, ty_non, tr_bl, tr_tup, isi_00, isi_01, isi_10, isi_11, isi_33, isi_03, isi_13, isi_30, isi_31, c_lt, c_le, c_gt, c_ge, c_eqI, c_neI, dAdd, dSub, LM_le2, LM_le1, LM_le0, LM_le3, LM_le4, len_tup, idx0, idx1, Option.some.injEq, exists_eq_left', exists_eq_left, D.bl.injEq, D.int.injEq, Bool.not_true, Bool.not_false, if_true, if_false, Bool.false_eq_true, reduceIte, and_true, true_and, and_self, decide_true, decide_false]
  rw [c_eq (eqD_told true (okI_pT r c) (by rw [dpI_pT]; omega))]
  exact rfl
theorem left_ (F : Fn n) (hr : r ∈ sb n 0) (hc : c ∈ sb n 0) : Pu cs 20 1 [.int n, nT r] (nT (oth n r)) := F.lf r hr
theorem pair_right (F : Fn n) (hr : r ∈ sb n 0) (hc : c ∈ sb n 0) : Pu cs 23 8 [.int n, nT r, nT c] (.bl true) := pu_of (j := 7) rfl (rf_st _ _ _) rfl fun k hk => by
  obtain ⟨o1, o2, o3, o4⟩ := F.om r hr
  obtain ⟨q1, q2, q3, q4⟩ := F.om c hc
  have e0 : ∀ S, cmpD .In (.int 0) (nT r) S = .ok (.bl (hasN r 0)) S := fun S => c_inN 0 r
  by_cases h : r.length = c.length
  · have ho : (oth n r).length = (oth n c).length := by omega
    have hi : ((r.length : Int) == (c.length : Int)) = true := by rw [beq_iff_eq]; omega
    simp only [b23, len_nT, hi, (F.lf r hr).w (show 1 ≤ k by omega), (F.lf c hc).w (show 1 ≤ k by omega), e0, w_runC, w_ok, w_exn, w_stk, w_bind, w_ifR, w_optS, w_noX, asB_bl, asI_int, lk0, lkS, w_rVar, w_xC, w_xNil, w_xCons, w_xTup, w_rLst, w_rBin, w_xNeg, w_yCmp, w_uCmp, w_xAndV, w_xOrV, w_xNot, w_xIte, w_xChain, w_xIdx, w_xCall, w_xCallk, w_yBlt, w_xLrng, w_xIsi, w_yMeth, w_ySlice, w_oNone, w_oSome, w_xRev, w_xDict, w_tAnd, w_tOr, w_tNot, w_tBl, w_rvVar, w_tCall, w_tCallk, w_tBlt, w_tIsi, w_tIdx, w_iSeq, w_iRng, w_iEnm, w_rName, w_gTup, w_gCons, w_gNil, w_gSubF, seqW_next, seqW_ret, seqW_brk, seqW_cnt, seqW_exn, w_sCons, w_sNil, w_sAsg, w_sExpr, w_sRet, w_sRetN, w_sIf, w_rPar2, w_sPar3, w_sAug, w_sFor, w_sRaise, w_raise1, w_sTry, w_sPass, w_sBrk, w_sCnt, w_rComp, w_xTurn, retsW_ret, retsW_next, retsW_exn, w_xComp2, flW_next, flW_cnt, flW_brk, flW_ret, flW_exn, startD, List.map_cons, List.map_nil, List.replicate_succ, List.replicate_zero, List.set_cons_zero, List.set_cons_succ, List.length_cons, List.length_nil, List.cons_append, List.nil_append, Nat.reduceAdd, Nat.reduceSub, Nat.reduceLeDiff, Nat.zero_add, List.getD_cons_zero, List.getD_cons_succ, ty_int, ty_bl, ty_str, ty_tup, ty_non, tr_bl, tr_tup, isi_00, isi_01, isi_10, isi_11, isi_33, isi_03, isi_13, isi_30, isi_31, c_lt, c_le, c_gt, c_ge, c_eqI, c_neI, dAdd, dSub, LM_le2, LM_le1, LM_le0, LM_le3, LM_le4, len_tup, idx0, idx1, Option.some.injEq, exists_eq_left', exists_eq_left, D.bl.injEq, D.int.injEq, Bool.not_true, Bool.not_false, if_true, if_false, Bool.false_eq_true, reduceIte, and_true, true_and, and_self, decide_true, decide_false]
    have ne : oth n r ≠ r := fun z => by
      rw [z] at o3
      revert o3
      cases hasN r 0 <;> simp
    have k14 : 6 ≤ k := by omega
    have k10 : 5 ≤ k := by omega
    cases h0 : hasN r 0 with
    | true =>
      rw [h0] at o3
      simp only [pT_fold, (product_of F hr hc h).w k14, (product_of F o1 q1 ho).w k14, (is_product F hr hc h).w k10, (is_product F o1 q1 ho).w k10, (other_company F hr hc h h0).w hk, h0, o3, cond_true, cond_false, o2, q2, ne_pT, eq_pT, c_isB, c_inB, rep_bl, ne_rep, Bool.and_self, w_runC, w_ok, w_exn, w_stk, w_bind, w_ifR, w_optS, w_noX, asB_bl, asI_int, lk0, lkS, w_rVar, w_xC, w_xNil, w_xCons, w_xTup, w_rLst, w_rBin, w_xNeg, w_yCmp, w_uCmp, w_xAndV, w_xOrV, w_xNot, w_xIte, w_xChain, w_xIdx, w_xCall, w_xCallk, w_yBlt, w_xLrng, w_xIsi, w_yMeth, w_ySlice, w_oNone, w_oSome, w_xRev, w_xDict, w_tAnd, w_tOr, w_tNot, w_tBl, w_rvVar, w_tCall, w_tCallk, w_tBlt, w_tIsi, w_tIdx, w_iSeq, w_iRng, w_iEnm, w_rName, w_gTup, w_gCons, w_gNil, w_gSubF, seqW_next, seqW_ret, seqW_brk, seqW_cnt, seqW_exn, w_sCons, w_sNil, w_sAsg, w_sExpr, w_sRet, w_sRetN, w_sIf, w_rPar2, w_sPar3, w_sAug, w_sFor, w_sRaise, w_raise1, w_sTry, w_sPass, w_sBrk, w_sCnt, w_rComp, w_xTurn, retsW_ret, retsW_next, retsW_exn, w_xComp2, flW_next, flW_cnt, flW_brk, flW_ret, flW_exn, startD, List.map_cons, List.map_nil, List.replicate_succ, List.replicate_zero, List.set_cons_zero, List.set_cons_succ, List.length_cons, List.length_nil, List.cons_append, List.nil_append, Nat.reduceAdd, Nat.reduceSub, Nat.reduceLeDiff, Nat.zero_add, List.getD_cons_zero, List.getD_cons_succ, ty_int, ty_bl, ty_str, ty_tup, ty_non, tr_bl, tr_tup, isi_00, isi_01, isi_10, isi_11, isi_33, isi_03, isi_13, isi_30, isi_31, c_lt, c_le, c_gt, c_ge, c_eqI, c_neI, dAdd, dSub, LM_le2, LM_le1, LM_le0, LM_le3, LM_le4, len_tup, idx0, idx1, Option.some.injEq, exists_eq_left', exists_eq_left, D.bl.injEq, D.int.injEq, Bool.not_true, Bool.not_false, if_true, if_false, Bool.false_eq_true, reduceIte, and_true, true_and, and_self, decide_true, decide_false]
    | false =>
      rw [h0] at o3
      have o3' : hasN (oth n r) 0 = true := o3
      simp only [pT_fold, (product_of F hr hc h).w k14, (product_of F o1 q1 ho).w k14, (is_product F hr hc h).w k10, (is_product F o1 q1 ho).w k10, (other_company F o1 q1 ho o3').w hk, h0, o3, cond_true, cond_false, o2, q2, ne_pT, eq_pT, c_isB, c_inB, rep_bl, ne_rep, Bool.and_self, ne, Bool.false_and, w_runC, w_ok, w_exn, w_stk, w_bind, w_ifR, w_optS, w_noX, asB_bl, asI_int, lk0, lkS, w_rVar, w_xC, w_xNil, w_xCons, w_xTup, w_rLst, w_rBin, w_xNeg, w_yCmp, w_uCmp, w_xAndV, w_xOrV, w_xNot, w_xIte, w_xChain, w_xIdx, w_xCall, w_xCallk, w_yBlt, w_xLrng, w_xIsi, w_yMeth, w_ySlice, w_oNone, w_oSome, w_xRev, w_xDict, w_tAnd, w_tOr, w_tNot, w_tBl, w_rvVar, w_tCall, w_tCallk, w_tBlt, w_tIsi, w_tIdx, w_iSeq, w_iRng, w_iEnm, w_rName, w_gTup, w_gCons, w_gNil, w_gSubF, seqW_next, seqW_ret, seqW_brk, seqW_cnt, seqW_exn, w_sCons, w_sNil, w_sAsg, w_sExpr, w_sRet, w_sRetN, w_sIf, w_rPar2, w_sPar3, w_sAug, w_sFor, w_sRaise, w_raise1, w_sTry, w_sPass, w_sBrk, w_sCnt, w_rComp, w_xTurn, retsW_ret, retsW_next, retsW_exn, w_xComp2, flW_next, flW_cnt, flW_brk, flW_ret, flW_exn, startD, List.map_cons, List.map_nil, List.replicate_succ, List.replicate_zero, List.set_cons_zero, List.set_cons_succ, List.length_cons, List.length_nil, List.cons_append, List.nil_append, Nat.reduceAdd, Nat.reduceSub, Nat.reduceLeDiff, Nat.zero_add, List.getD_cons_zero, List.getD_cons_succ, ty_int, ty_bl, ty_str, ty_tup, ty_non, tr_bl, tr_tup, isi_00, isi_01, isi_10, isi_11, isi_33, isi_03, isi_13, isi_30, isi_31, c_lt, c_le, c_gt, c_ge, c_eqI, c_neI, dAdd, dSub, LM_le2, LM_le1, LM_le0, LM_le3, LM_le4, len_tup, idx0, idx1, Option.some.injEq, exists_eq_left', exists_eq_left, D.bl.injEq, D.int.injEq, Bool.not_true, Bool.not_false, if_true, if_false, Bool.false_eq_true, reduceIte, and_true, true_and, and_self, decide_true, decide_false]
  · have hi : ((r.length : Int) == (c.length : Int)) = false := by rw [beq_eq_false_iff_ne]; omega
    simp only [b23, len_nT, hi, (refused F hr hc h).w hk, w_runC, w_ok, w_exn, w_stk, w_bind, w_ifR, w_optS, w_noX, asB_bl, asI_int, lk0, lkS, w_rVar, w_xC, w_xNil, w_xCons, w_xTup, w_rLst, w_rBin, w_xNeg, w_yCmp, w_uCmp, w_xAndV, w_xOrV, w_xNot, w_xIte, w_xChain, w_xIdx, w_xCall, w_xCallk, w_yBlt, w_xLrng, w_xIsi, w_yMeth, w_ySlice, w_oNone, w_oSome, w_xRev, w_xDict, w_tAnd, w_tOr, w_tNot, w_tBl, w_rvVar, w_tCall, w_tCallk, w_tBlt, w_tIsi, w_tIdx, w_iSeq, w_iRng, w_iEnm, w_rName, w_gTup, w_gCons, w_gNil, w_gSubF, seqW_next, seqW_ret, seqW_brk, seqW_cnt, seqW_exn, w_sCons, w_sNil, w_sAsg, w_sExpr, w_sRet, w_sRetN, w_sIf, w_rPar2, w_sPar3, w_sAug, w_sFor, w_sRaise, w_raise1, w_sTry, w_sPass, w_sBrk, w_sCnt, w_rComp, w_xTurn, retsW_ret, retsW_next, retsW_exn, w_xComp2, flW_next, flW_cnt, flW_brk, flW_ret, flW_exn, startD, List.map_cons, List.map_nil, List.replicate_succ, List.replicate_zero, List.set_cons_zero, List.set_cons_succ, List.length_cons, List.length_nil, List.cons_append, List.nil_append, Nat.reduceAdd, Nat.reduceSub, Nat.reduceLeDiff, Nat.zero_add, List.getD_cons_zero, List.getD_cons_succ, ty_int, ty_bl, ty_str, ty_tup, ty_non, tr_bl, tr_tup, isi_00, isi_01, isi_10, isi_11, isi_33, isi_03, isi_13, isi_30, isi_31, c_lt, c_le, c_gt, c_ge, c_eqI, c_neI, dAdd, dSub, LM_le2, LM_le1, LM_le0, LM_le3, LM_le4, len_tup, idx0, idx1, Option.some.injEq, exists_eq_left', exists_eq_left, D.bl.injEq, D.int.injEq, Bool.not_true, Bool.not_false, if_true, if_false, Bool.false_eq_true, reduceIte, and_true, true_and, and_self, decide_true, decide_false]
end

section
variable {n : Nat}
/-! ### products, by their groups -/
abbrev PrL := List (List Nat × List Nat)
def sbk (n m : Nat) : List (List Nat) := (sb n 0).filter fun s => Nat.beq s.length m
def grp (n m : Nat) : PrL := (sbk n m).flatMap fun r => bif hasN r 0 then (sbk n m).map fun c => (r, c) else []
def pre (n i : Nat) : PrL := (List.range i).flatMap fun m => grp n (m + 1)
def prN (n : Nat) : PrL := (sb n 0).flatMap fun r => bif hasN r 0 then ((sb n 0).filter fun c => Nat.beq c.length r.length).map fun c => (r, c) else []
def pD (l : PrL) : List D := l.map fun p => pT p.1 p.2
def cdS (s : List Nat) : Nat := s.foldl (fun a x => 8 * a + (x + 1)) 0
def dcS : Nat → Nat → List Nat → List Nat
  | 0, _, a => a
  | f + 1, c, a => bif Nat.beq c 0 then a else dcS f (c / 8) ((c % 8 - 1) :: a)
def cdP (p : List Nat × List Nat) : Nat := cdS p.1 * 16777216 + cdS p.2
def dcP (c : Nat) : List Nat × List Nat := (dcS 7 (c / 16777216) [], dcS 7 (c % 16777216) [])
def eqP (a b : List Nat × List Nat) : Bool := eqNs a.1 b.1 && eqNs a.2 b.2
def okC (l : PrL) : Bool := l.all fun p => eqP (dcP (cdP p)) p
def kPerm (n : Nat) : Bool := eqNs (srtN ((pre n n).map cdP)) (srtN ((prN n).map cdP)) && (okC (pre n n) && okC (prN n))
def kLen (n : Nat) : Bool := (List.range n).all fun i => Nat.ble ((pre n i).length + (grp n (i + 1)).length) 1000 && Nat.ble (sbk n (i + 1)).length 100
def kCh (n : Nat) : Bool := chB (pD (prN n)) && (alB (pyIs (pD (pre n n))) && sblB (pyIs (pD (pre n n))))
theorem prs_eq (n : Nat) : prs n = pD (prN n) := by
  unfold prs pD prN
  rw [List.map_flatMap]
  refine congrArg (fun f => List.flatMap f (sb n 0)) ?_
  funext r
  cases hasN r 0
  · rfl
  · show _ = List.map _ (List.map _ _)
    rw [List.map_map]
    rfl
theorem eqP_eq {a b : List Nat × List Nat} (h : eqP a b = true) : a = b := by
  unfold eqP at h
  rw [Bool.and_eq_true] at h
  exact Prod.ext (eqNs_eq h.1) (eqNs_eq h.2)
theorem perm_of (h : kPerm n = true) : (pD (pre n n)).Perm (pD (prN n)) := by
  unfold kPerm okC at h
  simp only [Bool.and_eq_true, List.all_eq_true] at h
  exact (perm_code h.1 (fun x hx => eqP_eq (h.2.1 x hx)) fun x hx => eqP_eq (h.2.2 x hx)).map _
/-- what is to be known for products -/
structure Fp (n : Nat) : Prop where
  n1 : 1 ≤ n
  n6 : n ≤ 6
  so : ∀ m, 1 ≤ m → m ≤ n → Pl cs 6 1 [.int n, .int m] ((sbk n m).map nT)
  pm : kPerm n = true
  ln : kLen n = true
  ch : kCh n = true
theorem len_of (F : Fp n) {i : Nat} (hi : i < n) : (pre n i).length + (grp n (i + 1)).length ≤ 1000 ∧ (sbk n (i + 1)).length ≤ 100 := by
  have h := F.ln
  unfold kLen at h
  rw [List.all_eq_true] at h
  have := h i (List.mem_range.mpr hi)
  rw [Bool.and_eq_true] at this
  exact ⟨Nat.le_of_ble_eq_true this.1, Nat.le_of_ble_eq_true this.2⟩
theorem pre_succ (n i : Nat) : pre n (i + 1) = pre n i ++ grp n (i + 1) := by
  unfold pre
  rw [List.range_succ, List.flatMap_append]
  simp
theorem pD_app (a b : PrL) : pD (a ++ b) = pD a ++ pD b := List.map_append
theorem grp_D (n m : Nat) : ((sbk n m).map nT).flatMap (fun d => match d with
    | .tup ds => bif ds.any (fun y => eqF y (.int 0)) then ((sbk n m).map nT).map fun e => D.tup [d, e] else []
    | _ => []) = pD (grp n m) := by
  unfold grp pD
  rw [List.map_flatMap, List.flatMap_map]
  refine congrArg (fun f => List.flatMap f (sbk n m)) ?_
  funext r
  show (bif (r.map fun n : Nat => D.int n).any (fun y => eqF y (.int 0)) then _ else []) = _
  rw [show (r.map fun n : Nat => D.int n).any (fun y => eqF y (.int 0)) = hasN r 0 from any_nT 0 r]
  cases hasN r 0
  · rfl
  · show List.map _ (List.map _ _) = List.map _ (List.map _ _)
    rw [List.map_map, List.map_map]
    rfl
theorem need_sizeP (F : Fp n) : Pu cs 9 3 [.int n] .non := pu_of (j := 2) rfl rfl rfl fun k hk => by
  have h1 := F.n1
  have h6 := F.n6
  have e : (decide ((1 : Int) ≤ n) && decide ((n : Int) ≤ 6)) = true := by simp; omega
  simp only [b9, (pu_size _ _).w hk, e, w_runC, w_ok, w_exn, w_stk, w_bind, w_ifR, w_optS, w_noX, asB_bl, asI_int, lk0, lkS, w_rVar, w_xC, w_xNil, w_xCons, w_xTup, w_rLst, w_rBin, w_xNeg, w_yCmp, w_uCmp, w_xAndV, w_xOrV, w_xNot, w_xIte, w_xChain, w_xIdx, w_xCall, w_xCallk, w_yBlt, w_xLrng, w_xIsi, w_yMeth, w_ySlice, w_oNone, w_oSome, w_xRev, w_xDict, w_tAnd, w_tOr, w_tNot, w_tBl, w_rvVar, w_tCall, w_tCallk, w_tBlt, w_tIsi, w_tIdx, w_iSeq, w_iRng, w_iEnm, w_rName, w_gTup, w_gCons, w_gNil, w_gSubF, seqW_next, seqW_ret, seqW_brk, seqW_cnt, seqW_exn, w_sCons, w_sNil, w_sAsg, w_sExpr, w_sRet, w_sRetN, w_sIf, w_rPar2, w_sPar3, w_sAug, w_sFor, w_sRaise, w_raise1, w_sTry, w_sPass, w_sBrk, w_sCnt, w_rComp, w_xTurn, retsW_ret, retsW_next, retsW_exn, w_xComp2, flW_next, flW_cnt, flW_brk, flW_ret, flW_exn, startD, List.map_cons, List.map_nil, List.replicate_succ, List.replicate_zero, List.set_cons_zero, List.set_cons_succ, List.length_cons, List.length_nil, List.cons_append, List.nil_append, Nat.reduceAdd, Nat.reduceSub, Nat.reduceLeDiff, Nat.zero_add, List.getD_cons_zero, List.getD_cons_succ, ty_int, ty_bl, ty_str, ty_tup, ty_non, tr_bl, tr_tup, isi_00, isi_01, isi_10, isi_11, isi_33, isi_03, isi_13, isi_30, isi_31, c_lt, c_le, c_gt, c_ge, c_eqI, c_neI, dAdd, dSub, LM_le2, LM_le1, LM_le0, LM_le3, LM_le4, len_tup, idx0, idx1, Option.some.injEq, exists_eq_left', exists_eq_left, D.bl.injEq, D.int.injEq, Bool.not_true, Bool.not_false, if_true, if_false, Bool.false_eq_true, reduceIte, and_true, true_and, and_self, decide_true, decide_false]
theorem products (F : Fp n) : Pu cs 12 4 [.int n] (.tup (prs n)) := pu_of (j := 3) rfl rfl (by
    rw [prs_eq]
    show rfs (pD (prN n)) = true
    refine rfs_okI _ (okIs_of fun d hd => ?_)
    obtain ⟨p, _, rfl⟩ := List.mem_map.mp hd
    exact okI_pT _ _) fun k hk => by
  have h1 := F.n1
  have h6 := F.n6
  have er : ∀ S, rngS [.int 1, .int ((n : Int) + 1)] S = .ok (.rng 1 n) S := fun S => by
    rw [rngS2 (by omega)]
    have : ((n : Int) + 1 - 1).toNat = n := by omega
    rw [this]
  simp only [b12, (need_sizeP F).w hk, er, w_runC, w_ok, w_exn, w_stk, w_bind, w_ifR, w_optS, w_noX, asB_bl, asI_int, lk0, lkS, w_rVar, w_xC, w_xNil, w_xCons, w_xTup, w_rLst, w_rBin, w_xNeg, w_yCmp, w_uCmp, w_xAndV, w_xOrV, w_xNot, w_xIte, w_xChain, w_xIdx, w_xCall, w_xCallk, w_yBlt, w_xLrng, w_xIsi, w_yMeth, w_ySlice, w_oNone, w_oSome, w_xRev, w_xDict, w_tAnd, w_tOr, w_tNot, w_tBl, w_rvVar, w_tCall, w_tCallk, w_tBlt, w_tIsi, w_tIdx, w_iSeq, w_iRng, w_iEnm, w_rName, w_gTup, w_gCons, w_gNil, w_gSubF, seqW_next, seqW_ret, seqW_brk, seqW_cnt, seqW_exn, w_sCons, w_sNil, w_sAsg, w_sExpr, w_sRet, w_sRetN, w_sIf, w_rPar2, w_sPar3, w_sAug, w_sFor, w_sRaise, w_raise1, w_sTry, w_sPass, w_sBrk, w_sCnt, w_rComp, w_xTurn, retsW_ret, retsW_next, retsW_exn, w_xComp2, flW_next, flW_cnt, flW_brk, flW_ret, flW_exn, startD, List.map_cons, List.map_nil, List.replicate_succ, List.replicate_zero, List.set_cons_zero, List.set_cons_succ, List.length_cons, List.length_nil, List.cons_append, List.nil_append, Nat.reduceAdd, Nat.reduceSub, Nat.reduceLeDiff, Nat.zero_add, List.getD_cons_zero, List.getD_cons_succ, ty_int, ty_bl, ty_str, ty_tup, ty_non, tr_bl, tr_tup, isi_00, isi_01, isi_10, isi_11, isi_33, isi_03, isi_13, isi_30, isi_31, c_lt, c_le, c_gt, c_ge, c_eqI, c_neI, dAdd, dSub, LM_le2, LM_le1, LM_le0, LM_le3, LM_le4, len_tup, idx0, idx1, Option.some.injEq, exists_eq_left', exists_eq_left, D.bl.injEq, D.int.injEq, Bool.not_true, Bool.not_false, if_true, if_false, Bool.false_eq_true, reduceIte, and_true, true_and, and_self, decide_true, decide_false]
  refine w_forL (items := (List.range n).map fun t : Nat => D.int (1 + t)) (fun i q S => i ≤ n → S[0]? = some (.lst (pD (pre n i))) ∧ ∃ a b c d, q = [some (.int n), some (.ref 0), a, b, c, d]) (fun i q S _ => rng_src1 1 n i S) (by rw [List.length_map, List.length_range]; unfold LM; omega) ?_ (fun _ => ⟨rfl, none, none, none, none, rfl⟩) ?_
  · intro i d q S hd hP
    have hi : i < n := by
      have := (List.getElem?_eq_some_iff.mp hd).1
      rwa [List.length_map, List.length_range] at this
    obtain ⟨h0, a, b, c, e, rfl⟩ := hP (by omega)
    have hd' : D.int ((1 : Int) + (i : Nat)) = d := by
      rw [List.getElem?_map, List.getElem?_range hi] at hd
      exact Option.some.inj hd
    subst hd'
    obtain ⟨l1, l2⟩ := len_of F hi
    have so := F.so (i + 1) (by omega) (by omega)
    rw [show ((1 : Int) + (i : Nat)) = ((i + 1 : Nat) : Int) by omega]
    have g0 := get_old (T := [.lst ((sbk n (i + 1)).map nT)]) h0
    have g1 : (S ++ [.lst ((sbk n (i + 1)).map nT)])[S.length]? = some (.lst ((sbk n (i + 1)).map nT)) := get_new
    simp only [w_bindE, so.w (show 1 ≤ k by omega), kAt g0 .extend (.inr (.inr rfl)), seqS_at g1, w_runC, w_ok, w_exn, w_stk, w_bind, w_ifR, w_optS, w_noX, asB_bl, asI_int, lk0, lkS, w_rVar, w_xC, w_xNil, w_xCons, w_xTup, w_rLst, w_rBin, w_xNeg, w_yCmp, w_uCmp, w_xAndV, w_xOrV, w_xNot, w_xIte, w_xChain, w_xIdx, w_xCall, w_xCallk, w_yBlt, w_xLrng, w_xIsi, w_yMeth, w_ySlice, w_oNone, w_oSome, w_xRev, w_xDict, w_tAnd, w_tOr, w_tNot, w_tBl, w_rvVar, w_tCall, w_tCallk, w_tBlt, w_tIsi, w_tIdx, w_iSeq, w_iRng, w_iEnm, w_rName, w_gTup, w_gCons, w_gNil, w_gSubF, seqW_next, seqW_ret, seqW_brk, seqW_cnt, seqW_exn, w_sCons, w_sNil, w_sAsg, w_sExpr, w_sRet, w_sRetN, w_sIf, w_rPar2, w_sPar3, w_sAug, w_sFor, w_sRaise, w_raise1, w_sTry, w_sPass, w_sBrk, w_sCnt, w_rComp, w_xTurn, retsW_ret, retsW_next, retsW_exn, w_xComp2, flW_next, flW_cnt, flW_brk, flW_ret, flW_exn, startD, List.map_cons, List.map_nil, List.replicate_succ, List.replicate_zero, List.set_cons_zero, List.set_cons_succ, List.length_cons, List.length_nil, List.cons_append, List.nil_append, Nat.reduceAdd, Nat.reduceSub, Nat.reduceLeDiff, Nat.zero_add, List.getD_cons_zero, List.getD_cons_succ, ty_int, ty_bl, ty_str, ty_tup, ty_non, tr_bl, tr_tup, isi_00, isi_01, isi_10, isi_11, isi_33, isi_03, isi_13, isi_30, isi_31, c_lt, c_le, c_gt, c_ge, c_eqI, c_neI, dAdd, dSub, LM_le2, LM_le1, LM_le0, LM_le3, LM_le4, len_tup, idx0, idx1, Option.some.injEq, exists_eq_left', exists_eq_left, D.bl.injEq, D.int.injEq, Bool.not_true, Bool.not_false, if_true, if_false, Bool.false_eq_true, reduceIte, and_true, true_and, and_self, decide_true, decide_false]
    generalize S ++ [.lst ((sbk n (i + 1)).map nT)] = S1 at g0 g1
    generalize S.length = m at g1
    refine w_compO (items := (sbk n (i + 1)).map nT) _ (fun j => srcL g1) (by rw [List.length_map]; unfold LM; omega) (by rw [grp_D]; unfold pD; rw [List.length_map]; unfold LM; omega) ?_ ?_
    · intro d hd acc ha
      obtain ⟨r, hr, rfl⟩ := List.mem_map.mp hd
      refine eq_ok ?_
      rw [w_xOut]
      simp only [wipeD, seqS_at g1, w_runC, w_ok, w_exn, w_stk, w_bind, w_ifR, w_optS, w_noX, asB_bl, asI_int, lk0, lkS, w_rVar, w_xC, w_xNil, w_xCons, w_xTup, w_rLst, w_rBin, w_xNeg, w_yCmp, w_uCmp, w_xAndV, w_xOrV, w_xNot, w_xIte, w_xChain, w_xIdx, w_xCall, w_xCallk, w_yBlt, w_xLrng, w_xIsi, w_yMeth, w_ySlice, w_oNone, w_oSome, w_xRev, w_xDict, w_tAnd, w_tOr, w_tNot, w_tBl, w_rvVar, w_tCall, w_tCallk, w_tBlt, w_tIsi, w_tIdx, w_iSeq, w_iRng, w_iEnm, w_rName, w_gTup, w_gCons, w_gNil, w_gSubF, seqW_next, seqW_ret, seqW_brk, seqW_cnt, seqW_exn, w_sCons, w_sNil, w_sAsg, w_sExpr, w_sRet, w_sRetN, w_sIf, w_rPar2, w_sPar3, w_sAug, w_sFor, w_sRaise, w_raise1, w_sTry, w_sPass, w_sBrk, w_sCnt, w_rComp, w_xTurn, retsW_ret, retsW_next, retsW_exn, w_xComp2, flW_next, flW_cnt, flW_brk, flW_ret, flW_exn, startD, List.map_cons, List.map_nil, List.replicate_succ, List.replicate_zero, List.set_cons_zero, List.set_cons_succ, List.length_cons, List.length_nil, List.cons_append, List.nil_append, Nat.reduceAdd, Nat.reduceSub, Nat.reduceLeDiff, Nat.zero_add, List.getD_cons_zero, List.getD_cons_succ, ty_int, ty_bl, ty_str, ty_tup, ty_non, tr_bl, tr_tup, isi_00, isi_01, isi_10, isi_11, isi_33, isi_03, isi_13, isi_30, isi_31, c_lt, c_le, c_gt, c_ge, c_eqI, c_neI, dAdd, dSub, LM_le2, LM_le1, LM_le0, LM_le3, LM_le4, len_tup, idx0, idx1, Option.some.injEq, exists_eq_left', exists_eq_left, D.bl.injEq, D.int.injEq, Bool.not_true, Bool.not_false, if_true, if_false, Bool.false_eq_true, reduceIte, and_true, true_and, and_self, decide_true, decide_false]
      have hf : ∀ zs : List D, (bif (r.map fun n : Nat => D.int n).any (fun y => eqF y (.int 0)) then zs.map fun e => D.tup [nT r, e] else []) = zs.filterMap fun e => bif hasN r 0 then some (D.tup [nT r, e]) else none := fun zs => by
        rw [show (r.map fun n : Nat => D.int n).any (fun y => eqF y (.int 0)) = hasN r 0 from any_nT 0 r]
        cases hasN r 0
        · induction zs with
          | nil => rfl
          | cons z zs ih => exact ih
        · induction zs with
          | nil => rfl
          | cons z zs ih => exact congrArg (D.tup [nT r, z] :: ·) ih
      have hf' := hf ((sbk n (i + 1)).map nT)
      have ha' : acc.length + (((sbk n (i + 1)).map nT).filterMap fun e => bif hasN r 0 then some (D.tup [nT r, e]) else none).length ≤ LM := by
        rw [← hf']
        exact ha
      have e0 : ∀ S, cmpD .In (.int 0) (nT r) S = .ok (.bl (hasN r 0)) S := fun S => c_inN 0 r
      rw [compL_acc (items := (sbk n (i + 1)).map nT) (o := fun e => bif hasN r 0 then some (D.tup [nT r, e]) else none) (fun j => srcL g1) (fun d hd => ?_) FU 0 acc (by simpa using ha') (Nat.zero_le _) (by rw [List.length_map]; unfold FU; omega)]
      · refine ⟨?_, rfl⟩
        rw [List.drop_zero, ← hf']
        rfl
      · refine eq_ok ?_
        rw [w_xInn]
        simp only [wipeD, e0, w_runC, w_ok, w_exn, w_stk, w_bind, w_ifR, w_optS, w_noX, asB_bl, asI_int, lk0, lkS, w_rVar, w_xC, w_xNil, w_xCons, w_xTup, w_rLst, w_rBin, w_xNeg, w_yCmp, w_uCmp, w_xAndV, w_xOrV, w_xNot, w_xIte, w_xChain, w_xIdx, w_xCall, w_xCallk, w_yBlt, w_xLrng, w_xIsi, w_yMeth, w_ySlice, w_oNone, w_oSome, w_xRev, w_xDict, w_tAnd, w_tOr, w_tNot, w_tBl, w_rvVar, w_tCall, w_tCallk, w_tBlt, w_tIsi, w_tIdx, w_iSeq, w_iRng, w_iEnm, w_rName, w_gTup, w_gCons, w_gNil, w_gSubF, seqW_next, seqW_ret, seqW_brk, seqW_cnt, seqW_exn, w_sCons, w_sNil, w_sAsg, w_sExpr, w_sRet, w_sRetN, w_sIf, w_rPar2, w_sPar3, w_sAug, w_sFor, w_sRaise, w_raise1, w_sTry, w_sPass, w_sBrk, w_sCnt, w_rComp, w_xTurn, retsW_ret, retsW_next, retsW_exn, w_xComp2, flW_next, flW_cnt, flW_brk, flW_ret, flW_exn, startD, List.map_cons, List.map_nil, List.replicate_succ, List.replicate_zero, List.set_cons_zero, List.set_cons_succ, List.length_cons, List.length_nil, List.cons_append, List.nil_append, Nat.reduceAdd, Nat.reduceSub, Nat.reduceLeDiff, Nat.zero_add, List.getD_cons_zero, List.getD_cons_succ, ty_int, ty_bl, ty_str, ty_tup, ty_non, tr_bl, tr_tup, isi_00, isi_01, isi_10, isi_11, isi_33, isi_03, isi_13, isi_30, isi_31, c_lt, c_le, c_gt, c_ge, c_eqI, c_neI, dAdd, dSub, LM_le2, LM_le1, LM_le0, LM_le3, LM_le4, len_tup, idx0, idx1, Option.some.injEq, exists_eq_left', exists_eq_left, D.bl.injEq, D.int.injEq, Bool.not_true, Bool.not_false, if_true, if_false, Bool.false_eq_true, reduceIte, and_true, true_and, and_self, decide_true, decide_false]
        cases hasN r 0 <;> simp
    · rw [grp_D]
      have g2 := get_old (T := [.lst (pD (grp n (i + 1)))]) g0
      have g3 : (S1 ++ [.lst (pD (grp n (i + 1)))])[S1.length]? = some (.lst (pD (grp n (i + 1)))) := get_new
      rw [ext_at g2 g3 (by unfold pD; rw [List.length_map, List.length_map]; unfold LM; omega)]
      simp only [w_runC, w_ok, w_exn, w_stk, w_bind, w_ifR, w_optS, w_noX, asB_bl, asI_int, lk0, lkS, w_rVar, w_xC, w_xNil, w_xCons, w_xTup, w_rLst, w_rBin, w_xNeg, w_yCmp, w_uCmp, w_xAndV, w_xOrV, w_xNot, w_xIte, w_xChain, w_xIdx, w_xCall, w_xCallk, w_yBlt, w_xLrng, w_xIsi, w_yMeth, w_ySlice, w_oNone, w_oSome, w_xRev, w_xDict, w_tAnd, w_tOr, w_tNot, w_tBl, w_rvVar, w_tCall, w_tCallk, w_tBlt, w_tIsi, w_tIdx, w_iSeq, w_iRng, w_iEnm, w_rName, w_gTup, w_gCons, w_gNil, w_gSubF, seqW_next, seqW_ret, seqW_brk, seqW_cnt, seqW_exn, w_sCons, w_sNil, w_sAsg, w_sExpr, w_sRet, w_sRetN, w_sIf, w_rPar2, w_sPar3, w_sAug, w_sFor, w_sRaise, w_raise1, w_sTry, w_sPass, w_sBrk, w_sCnt, w_rComp, w_xTurn, retsW_ret, retsW_next, retsW_exn, w_xComp2, flW_next, flW_cnt, flW_brk, flW_ret, flW_exn, startD, List.map_cons, List.map_nil, List.replicate_succ, List.replicate_zero, List.set_cons_zero, List.set_cons_succ, List.length_cons, List.length_nil, List.cons_append, List.nil_append, Nat.reduceAdd, Nat.reduceSub, Nat.reduceLeDiff, Nat.zero_add, List.getD_cons_zero, List.getD_cons_succ, ty_int, ty_bl, ty_str, ty_tup, ty_non, tr_bl, tr_tup, isi_00, isi_01, isi_10, isi_11, isi_33, isi_03, isi_13, isi_30, isi_31, c_lt, c_le, c_gt, c_ge, c_eqI, c_neI, dAdd, dSub, LM_le2, LM_le1, LM_le0, LM_le3, LM_le4, len_tup, idx0, idx1, Option.some.injEq, exists_eq_left', exists_eq_left, D.bl.injEq, D.int.injEq, Bool.not_true, Bool.not_false, if_true, if_false, Bool.false_eq_true, reduceIte, and_true, true_and, and_self, decide_true, decide_false]
      intro _
      refine ⟨?_, _, _, _, _, rfl⟩
      rw [set_at g2, pre_succ, pD_app]
  · rintro q S hP
    rw [List.length_map, List.length_range] at hP
    obtain ⟨h0, a, b, c, e, rfl⟩ := hP (Nat.le_refl _)
    have hc := F.ch
    unfold kCh at hc
    simp only [Bool.and_eq_true] at hc
    have hs := sorted_at (S := S) (d := .ref 0) (es := pD (pre n n)) (zs := pD (prN n)) (seqD_at h0) (fun d hd => by
      obtain ⟨p, _, rfl⟩ := List.mem_map.mp hd
      exact ⟨okI_pT _ _, by rw [dpI_pT]; omega⟩) (perm_of F.pm) (ch_pair hc.1) hc.2.1 hc.2.2
    simp only [hs, w_runC, w_ok, w_exn, w_stk, w_bind, w_ifR, w_optS, w_noX, asB_bl, asI_int, lk0, lkS, w_rVar, w_xC, w_xNil, w_xCons, w_xTup, w_rLst, w_rBin, w_xNeg, w_yCmp, w_uCmp, w_xAndV, w_xOrV, w_xNot, w_xIte, w_xChain, w_xIdx, w_xCall, w_xCallk, w_yBlt, w_xLrng, w_xIsi, w_yMeth, w_ySlice, w_oNone, w_oSome, w_xRev, w_xDict, w_tAnd, w_tOr, w_tNot, w_tBl, w_rvVar, w_tCall, w_tCallk, w_tBlt, w_tIsi, w_tIdx, w_iSeq, w_iRng, w_iEnm, w_rName, w_gTup, w_gCons, w_gNil, w_gSubF, seqW_next, seqW_ret, seqW_brk, seqW_cnt, seqW_exn, w_sCons, w_sNil, w_sAsg, w_sExpr, w_sRet, w_sRetN, w_sIf, w_rPar2, w_sPar3, w_sAug, w_sFor, w_sRaise, w_raise1, w_sTry, w_sPass, w_sBrk, w_sCnt, w_rComp, w_xTurn, retsW_ret, retsW_next, retsW_exn, w_xComp2, flW_next, flW_cnt, flW_brk, flW_ret, flW_exn, startD, List.map_cons, List.map_nil, List.replicate_succ, List.replicate_zero, List.set_cons_zero, List.set_cons_succ, List.length_cons, List.length_nil, List.cons_append, List.nil_append, Nat.reduceAdd, Nat.reduceSub, Nat.reduceLeDiff, Nat.zero_add, List.getD_cons_zero, List.getD_cons_succ, ty_int, ty_bl, ty_str, ty_tup, ty_non, tr_bl, tr_tup, isi_00, isi_01, isi_10, isi_11, isi_33, isi_03, isi_13, isi_30, isi_31, c_lt, c_le, c_gt, c_ge, c_eqI, c_neI, dAdd, dSub, LM_le2, LM_le1, LM_le0, LM_le3, LM_le4, len_tup, idx0, idx1, Option.some.injEq, exists_eq_left', exists_eq_left, D.bl.injEq, D.int.injEq, Bool.not_true, Bool.not_false, if_true, if_false, Bool.false_eq_true, reduceIte, and_true, true_and, and_self, decide_true, decide_false]
    rw [tuple_at get_new, prs_eq]
    exact rfl
end

section
variable {n : Nat}
/-! ### _law_due -/
def row (n : Nat) (r : List Nat) : PrL := bif hasN r 0 then ((sb n 0).filter fun c => Nat.beq c.length r.length).map fun c => (r, c) else []
theorem prN_row (n : Nat) : prN n = (sb n 0).flatMap (row n) := rfl
theorem flt_row (r : List Nat) (zs : List (List Nat)) : (zs.map nT).filterMap (fun d => match d with | .tup ds => (bif Nat.beq ds.length r.length then some (D.tup [nT r, d]) else none) | _ => none) = pD ((zs.filter fun c => Nat.beq c.length r.length).map fun c => (r, c)) := by
  induction zs with
  | nil => rfl
  | cons z zs ih =>
    rw [List.map_cons, List.filterMap_cons, ih, List.filter_cons]
    simp only [nT, List.length_map]
    cases Nat.beq z.length r.length <;> rfl
theorem len_eqb (a b : Nat) : ((a : Int) == (b : Int)) = Nat.beq a b := by
  rw [Bool.eq_iff_iff, beq_iff_eq, Nat.beq_eq]
  omega
theorem rfs_sets (n : Nat) : rfs ((sb n 0).map nT) = true := rfs_okI _ (okIs_of fun d hd => by
  obtain ⟨p, _, rfl⟩ := List.mem_map.mp hd
  exact okI_nT _)
theorem rf_prs (n : Nat) : rf (.tup (prs n)) = true := by
  rw [prs_eq]
  show rfs (pD (prN n)) = true
  refine rfs_okI _ (okIs_of fun d hd => ?_)
  obtain ⟨p, _, rfl⟩ := List.mem_map.mp hd
  exact okI_pT _ _
theorem take_succ {A : Type} {l : List A} {i : Nat} {x : A} (h : l[i]? = some x) : l.take (i + 1) = l.take i ++ [x] := by
  rw [List.take_add_one, h]
  rfl
theorem due (h64 : (sb n 0).length ≤ 100) (hp : (prN n).length ≤ 1000) {k m : Nat} {S : Sto} (hm : S[m]? = some (.lst ((sb n 0).map nT))) : runZ cs (k + 1) 21 [.ref m] S = .ok (.tup (prs n)) S := by
  refine iso1 (c := ⟨1, 4, b21⟩) rfl hm (rfs_sets n) (rf_prs n) ?_
  simp only [b21, w_runC, w_ok, w_exn, w_stk, w_bind, w_ifR, w_optS, w_noX, asB_bl, asI_int, lk0, lkS, w_rVar, w_xC, w_xNil, w_xCons, w_xTup, w_rLst, w_rBin, w_xNeg, w_yCmp, w_uCmp, w_xAndV, w_xOrV, w_xNot, w_xIte, w_xChain, w_xIdx, w_xCall, w_xCallk, w_yBlt, w_xLrng, w_xIsi, w_yMeth, w_ySlice, w_oNone, w_oSome, w_xRev, w_xDict, w_tAnd, w_tOr, w_tNot, w_tBl, w_rvVar, w_tCall, w_tCallk, w_tBlt, w_tIsi, w_tIdx, w_iSeq, w_iRng, w_iEnm, w_rName, w_gTup, w_gCons, w_gNil, w_gSubF, seqW_next, seqW_ret, seqW_brk, seqW_cnt, seqW_exn, w_sCons, w_sNil, w_sAsg, w_sExpr, w_sRet, w_sRetN, w_sIf, w_rPar2, w_sPar3, w_sAug, w_sFor, w_sRaise, w_raise1, w_sTry, w_sPass, w_sBrk, w_sCnt, w_rComp, w_xTurn, retsW_ret, retsW_next, retsW_exn, w_xComp2, flW_next, flW_cnt, flW_brk, flW_ret, flW_exn, startD, List.map_cons, List.map_nil, List.replicate_succ, List.replicate_zero, List.set_cons_zero, List.set_cons_succ, List.length_cons, List.length_nil, List.cons_append, List.nil_append, Nat.reduceAdd, Nat.reduceSub, Nat.reduceLeDiff, Nat.zero_add, List.getD_cons_zero, List.getD_cons_succ, ty_int, ty_bl, ty_str, ty_tup, ty_non, tr_bl, tr_tup, isi_00, isi_01, isi_10, isi_11, isi_33, isi_03, isi_13, isi_30, isi_31, c_lt, c_le, c_gt, c_ge, c_eqI, c_neI, dAdd, dSub, LM_le2, LM_le1, LM_le0, LM_le3, LM_le4, len_tup, idx0, idx1, Option.some.injEq, exists_eq_left', exists_eq_left, D.bl.injEq, D.int.injEq, Bool.not_true, Bool.not_false, if_true, if_false, Bool.false_eq_true, reduceIte, and_true, true_and, and_self, decide_true, decide_false]
  have g0 : ([O.lst ((sb n 0).map nT)] : Sto)[0]? = some (.lst ((sb n 0).map nT)) := rfl
  have g1 : ([O.lst ((sb n 0).map nT), O.lst []] : Sto)[0]? = some (.lst ((sb n 0).map nT)) := rfl
  rw [seqS_at g1]
  simp only [w_runC, w_ok, w_exn, w_stk, w_bind, w_ifR, w_optS, w_noX, asB_bl, asI_int, lk0, lkS, w_rVar, w_xC, w_xNil, w_xCons, w_xTup, w_rLst, w_rBin, w_xNeg, w_yCmp, w_uCmp, w_xAndV, w_xOrV, w_xNot, w_xIte, w_xChain, w_xIdx, w_xCall, w_xCallk, w_yBlt, w_xLrng, w_xIsi, w_yMeth, w_ySlice, w_oNone, w_oSome, w_xRev, w_xDict, w_tAnd, w_tOr, w_tNot, w_tBl, w_rvVar, w_tCall, w_tCallk, w_tBlt, w_tIsi, w_tIdx, w_iSeq, w_iRng, w_iEnm, w_rName, w_gTup, w_gCons, w_gNil, w_gSubF, seqW_next, seqW_ret, seqW_brk, seqW_cnt, seqW_exn, w_sCons, w_sNil, w_sAsg, w_sExpr, w_sRet, w_sRetN, w_sIf, w_rPar2, w_sPar3, w_sAug, w_sFor, w_sRaise, w_raise1, w_sTry, w_sPass, w_sBrk, w_sCnt, w_rComp, w_xTurn, retsW_ret, retsW_next, retsW_exn, w_xComp2, flW_next, flW_cnt, flW_brk, flW_ret, flW_exn, startD, List.map_cons, List.map_nil, List.replicate_succ, List.replicate_zero, List.set_cons_zero, List.set_cons_succ, List.length_cons, List.length_nil, List.cons_append, List.nil_append, Nat.reduceAdd, Nat.reduceSub, Nat.reduceLeDiff, Nat.zero_add, List.getD_cons_zero, List.getD_cons_succ, ty_int, ty_bl, ty_str, ty_tup, ty_non, tr_bl, tr_tup, isi_00, isi_01, isi_10, isi_11, isi_33, isi_03, isi_13, isi_30, isi_31, c_lt, c_le, c_gt, c_ge, c_eqI, c_neI, dAdd, dSub, LM_le2, LM_le1, LM_le0, LM_le3, LM_le4, len_tup, idx0, idx1, Option.some.injEq, exists_eq_left', exists_eq_left, D.bl.injEq, D.int.injEq, Bool.not_true, Bool.not_false, if_true, if_false, Bool.false_eq_true, reduceIte, and_true, true_and, and_self, decide_true, decide_false]
  have lp : ∀ i, (((sb n 0).take i).flatMap (row n)).length ≤ 1000 := fun i => by
    have e : prN n = ((sb n 0).take i).flatMap (row n) ++ ((sb n 0).drop i).flatMap (row n) := by
      rw [← List.flatMap_append, List.take_append_drop]
      rfl
    rw [e, List.length_append] at hp
    omega
  refine w_forL (items := (sb n 0).map nT) (fun i q S => S[0]? = some (.lst ((sb n 0).map nT)) ∧ S[1]? = some (.lst (pD (((sb n 0).take i).flatMap (row n)))) ∧ ∃ a b, q = [some (.ref 0), some (.ref 1), a, b]) (fun i q S h => srcL h.1) (by rw [List.length_map]; unfold LM; omega) ?_ ⟨rfl, rfl, none, none, rfl⟩ ?_
  · rintro i d q S hd ⟨h0, h1, a, b, rfl⟩
    rw [List.getElem?_map] at hd
    cases hr : (sb n 0)[i]? with
    | none => rw [hr] at hd; cases hd
    | some r =>
      rw [hr] at hd
      cases hd
      have e0 : ∀ S, cmpD .In (.int 0) (nT r) S = .ok (.bl (hasN r 0)) S := fun S => c_inN 0 r
      have lp' := lp (i + 1)
      rw [take_succ hr, List.flatMap_append, List.length_append] at lp'
      rw [take_succ hr, List.flatMap_append]
      simp only [w_bindE, e0, kAt h1 .extend (.inr (.inr rfl)), seqS_at h0, w_runC, w_ok, w_exn, w_stk, w_bind, w_ifR, w_optS, w_noX, asB_bl, asI_int, lk0, lkS, w_rVar, w_xC, w_xNil, w_xCons, w_xTup, w_rLst, w_rBin, w_xNeg, w_yCmp, w_uCmp, w_xAndV, w_xOrV, w_xNot, w_xIte, w_xChain, w_xIdx, w_xCall, w_xCallk, w_yBlt, w_xLrng, w_xIsi, w_yMeth, w_ySlice, w_oNone, w_oSome, w_xRev, w_xDict, w_tAnd, w_tOr, w_tNot, w_tBl, w_rvVar, w_tCall, w_tCallk, w_tBlt, w_tIsi, w_tIdx, w_iSeq, w_iRng, w_iEnm, w_rName, w_gTup, w_gCons, w_gNil, w_gSubF, seqW_next, seqW_ret, seqW_brk, seqW_cnt, seqW_exn, w_sCons, w_sNil, w_sAsg, w_sExpr, w_sRet, w_sRetN, w_sIf, w_rPar2, w_sPar3, w_sAug, w_sFor, w_sRaise, w_raise1, w_sTry, w_sPass, w_sBrk, w_sCnt, w_rComp, w_xTurn, retsW_ret, retsW_next, retsW_exn, w_xComp2, flW_next, flW_cnt, flW_brk, flW_ret, flW_exn, startD, List.map_cons, List.map_nil, List.replicate_succ, List.replicate_zero, List.set_cons_zero, List.set_cons_succ, List.length_cons, List.length_nil, List.cons_append, List.nil_append, Nat.reduceAdd, Nat.reduceSub, Nat.reduceLeDiff, Nat.zero_add, List.getD_cons_zero, List.getD_cons_succ, ty_int, ty_bl, ty_str, ty_tup, ty_non, tr_bl, tr_tup, isi_00, isi_01, isi_10, isi_11, isi_33, isi_03, isi_13, isi_30, isi_31, c_lt, c_le, c_gt, c_ge, c_eqI, c_neI, dAdd, dSub, LM_le2, LM_le1, LM_le0, LM_le3, LM_le4, len_tup, idx0, idx1, Option.some.injEq, exists_eq_left', exists_eq_left, D.bl.injEq, D.int.injEq, Bool.not_true, Bool.not_false, if_true, if_false, Bool.false_eq_true, reduceIte, and_true, true_and, and_self, decide_true, decide_false]
      cases hb : hasN r 0 with
      | false =>
        simp only [w_runC, w_ok, w_exn, w_stk, w_bind, w_ifR, w_optS, w_noX, asB_bl, asI_int, lk0, lkS, w_rVar, w_xC, w_xNil, w_xCons, w_xTup, w_rLst, w_rBin, w_xNeg, w_yCmp, w_uCmp, w_xAndV, w_xOrV, w_xNot, w_xIte, w_xChain, w_xIdx, w_xCall, w_xCallk, w_yBlt, w_xLrng, w_xIsi, w_yMeth, w_ySlice, w_oNone, w_oSome, w_xRev, w_xDict, w_tAnd, w_tOr, w_tNot, w_tBl, w_rvVar, w_tCall, w_tCallk, w_tBlt, w_tIsi, w_tIdx, w_iSeq, w_iRng, w_iEnm, w_rName, w_gTup, w_gCons, w_gNil, w_gSubF, seqW_next, seqW_ret, seqW_brk, seqW_cnt, seqW_exn, w_sCons, w_sNil, w_sAsg, w_sExpr, w_sRet, w_sRetN, w_sIf, w_rPar2, w_sPar3, w_sAug, w_sFor, w_sRaise, w_raise1, w_sTry, w_sPass, w_sBrk, w_sCnt, w_rComp, w_xTurn, retsW_ret, retsW_next, retsW_exn, w_xComp2, flW_next, flW_cnt, flW_brk, flW_ret, flW_exn, startD, List.map_cons, List.map_nil, List.replicate_succ, List.replicate_zero, List.set_cons_zero, List.set_cons_succ, List.length_cons, List.length_nil, List.cons_append, List.nil_append, Nat.reduceAdd, Nat.reduceSub, Nat.reduceLeDiff, Nat.zero_add, List.getD_cons_zero, List.getD_cons_succ, ty_int, ty_bl, ty_str, ty_tup, ty_non, tr_bl, tr_tup, isi_00, isi_01, isi_10, isi_11, isi_33, isi_03, isi_13, isi_30, isi_31, c_lt, c_le, c_gt, c_ge, c_eqI, c_neI, dAdd, dSub, LM_le2, LM_le1, LM_le0, LM_le3, LM_le4, len_tup, idx0, idx1, Option.some.injEq, exists_eq_left', exists_eq_left, D.bl.injEq, D.int.injEq, Bool.not_true, Bool.not_false, if_true, if_false, Bool.false_eq_true, reduceIte, and_true, true_and, and_self, decide_true, decide_false]
        refine ⟨h0, ?_, _, _, rfl⟩
        rw [h1]
        simp [row, hb, pD]
      | true =>
        simp only [w_runC, w_ok, w_exn, w_stk, w_bind, w_ifR, w_optS, w_noX, asB_bl, asI_int, lk0, lkS, w_rVar, w_xC, w_xNil, w_xCons, w_xTup, w_rLst, w_rBin, w_xNeg, w_yCmp, w_uCmp, w_xAndV, w_xOrV, w_xNot, w_xIte, w_xChain, w_xIdx, w_xCall, w_xCallk, w_yBlt, w_xLrng, w_xIsi, w_yMeth, w_ySlice, w_oNone, w_oSome, w_xRev, w_xDict, w_tAnd, w_tOr, w_tNot, w_tBl, w_rvVar, w_tCall, w_tCallk, w_tBlt, w_tIsi, w_tIdx, w_iSeq, w_iRng, w_iEnm, w_rName, w_gTup, w_gCons, w_gNil, w_gSubF, seqW_next, seqW_ret, seqW_brk, seqW_cnt, seqW_exn, w_sCons, w_sNil, w_sAsg, w_sExpr, w_sRet, w_sRetN, w_sIf, w_rPar2, w_sPar3, w_sAug, w_sFor, w_sRaise, w_raise1, w_sTry, w_sPass, w_sBrk, w_sCnt, w_rComp, w_xTurn, retsW_ret, retsW_next, retsW_exn, w_xComp2, flW_next, flW_cnt, flW_brk, flW_ret, flW_exn, startD, List.map_cons, List.map_nil, List.replicate_succ, List.replicate_zero, List.set_cons_zero, List.set_cons_succ, List.length_cons, List.length_nil, List.cons_append, List.nil_append, Nat.reduceAdd, Nat.reduceSub, Nat.reduceLeDiff, Nat.zero_add, List.getD_cons_zero, List.getD_cons_succ, ty_int, ty_bl, ty_str, ty_tup, ty_non, tr_bl, tr_tup, isi_00, isi_01, isi_10, isi_11, isi_33, isi_03, isi_13, isi_30, isi_31, c_lt, c_le, c_gt, c_ge, c_eqI, c_neI, dAdd, dSub, LM_le2, LM_le1, LM_le0, LM_le3, LM_le4, len_tup, idx0, idx1, Option.some.injEq, exists_eq_left', exists_eq_left, D.bl.injEq, D.int.injEq, Bool.not_true, Bool.not_false, if_true, if_false, Bool.false_eq_true, reduceIte, and_true, true_and, and_self, decide_true, decide_false]
        refine w_compL (items := (sb n 0).map nT) (fun d => match d with | .tup ds => (bif Nat.beq ds.length r.length then some (D.tup [nT r, d]) else none) | _ => none) (fun j => srcL h0) (by rw [List.length_map]; unfold LM; omega) ?_ ?_
        · intro d hd
          obtain ⟨z, _, rfl⟩ := List.mem_map.mp hd
          refine eq_ok ?_
          simp only [wipeD, len_nT, len_eqb, w_runC, w_ok, w_exn, w_stk, w_bind, w_ifR, w_optS, w_noX, asB_bl, asI_int, lk0, lkS, w_rVar, w_xC, w_xNil, w_xCons, w_xTup, w_rLst, w_rBin, w_xNeg, w_yCmp, w_uCmp, w_xAndV, w_xOrV, w_xNot, w_xIte, w_xChain, w_xIdx, w_xCall, w_xCallk, w_yBlt, w_xLrng, w_xIsi, w_yMeth, w_ySlice, w_oNone, w_oSome, w_xRev, w_xDict, w_tAnd, w_tOr, w_tNot, w_tBl, w_rvVar, w_tCall, w_tCallk, w_tBlt, w_tIsi, w_tIdx, w_iSeq, w_iRng, w_iEnm, w_rName, w_gTup, w_gCons, w_gNil, w_gSubF, seqW_next, seqW_ret, seqW_brk, seqW_cnt, seqW_exn, w_sCons, w_sNil, w_sAsg, w_sExpr, w_sRet, w_sRetN, w_sIf, w_rPar2, w_sPar3, w_sAug, w_sFor, w_sRaise, w_raise1, w_sTry, w_sPass, w_sBrk, w_sCnt, w_rComp, w_xTurn, retsW_ret, retsW_next, retsW_exn, w_xComp2, flW_next, flW_cnt, flW_brk, flW_ret, flW_exn, startD, List.map_cons, List.map_nil, List.replicate_succ, List.replicate_zero, List.set_cons_zero, List.set_cons_succ, List.length_cons, List.length_nil, List.cons_append, List.nil_append, Nat.reduceAdd, Nat.reduceSub, Nat.reduceLeDiff, Nat.zero_add, List.getD_cons_zero, List.getD_cons_succ, ty_int, ty_bl, ty_str, ty_tup, ty_non, tr_bl, tr_tup, isi_00, isi_01, isi_10, isi_11, isi_33, isi_03, isi_13, isi_30, isi_31, c_lt, c_le, c_gt, c_ge, c_eqI, c_neI, dAdd, dSub, LM_le2, LM_le1, LM_le0, LM_le3, LM_le4, len_tup, idx0, idx1, Option.some.injEq, exists_eq_left', exists_eq_left, D.bl.injEq, D.int.injEq, Bool.not_true, Bool.not_false, if_true, if_false, Bool.false_eq_true, reduceIte, and_true, true_and, and_self, decide_true, decide_false]
          show _
          simp only [nT, List.length_map]
          cases Nat.beq z.length r.length <;> simp
        · rw [flt_row]
          have er : ((sb n 0).filter fun c => Nat.beq c.length r.length).map (fun c => (r, c)) = row n r := by simp [row, hb]
          rw [er]
          have g2 := get_old (T := [.lst (pD (row n r))]) h1
          have g3 : (S ++ [.lst (pD (row n r))])[S.length]? = some (.lst (pD (row n r))) := get_new
          have gl : (row n r).length ≤ 1000 := by
            simp only [List.flatMap_cons, List.flatMap_nil, List.append_nil] at lp'
            omega
          have gl2 := lp i
          rw [ext_at g2 g3 (by unfold pD; rw [List.length_map, List.length_map]; unfold LM; omega)]
          simp only [w_runC, w_ok, w_exn, w_stk, w_bind, w_ifR, w_optS, w_noX, asB_bl, asI_int, lk0, lkS, w_rVar, w_xC, w_xNil, w_xCons, w_xTup, w_rLst, w_rBin, w_xNeg, w_yCmp, w_uCmp, w_xAndV, w_xOrV, w_xNot, w_xIte, w_xChain, w_xIdx, w_xCall, w_xCallk, w_yBlt, w_xLrng, w_xIsi, w_yMeth, w_ySlice, w_oNone, w_oSome, w_xRev, w_xDict, w_tAnd, w_tOr, w_tNot, w_tBl, w_rvVar, w_tCall, w_tCallk, w_tBlt, w_tIsi, w_tIdx, w_iSeq, w_iRng, w_iEnm, w_rName, w_gTup, w_gCons, w_gNil, w_gSubF, seqW_next, seqW_ret, seqW_brk, seqW_cnt, seqW_exn, w_sCons, w_sNil, w_sAsg, w_sExpr, w_sRet, w_sRetN, w_sIf, w_rPar2, w_sPar3, w_sAug, w_sFor, w_sRaise, w_raise1, w_sTry, w_sPass, w_sBrk, w_sCnt, w_rComp, w_xTurn, retsW_ret, retsW_next, retsW_exn, w_xComp2, flW_next, flW_cnt, flW_brk, flW_ret, flW_exn, startD, List.map_cons, List.map_nil, List.replicate_succ, List.replicate_zero, List.set_cons_zero, List.set_cons_succ, List.length_cons, List.length_nil, List.cons_append, List.nil_append, Nat.reduceAdd, Nat.reduceSub, Nat.reduceLeDiff, Nat.zero_add, List.getD_cons_zero, List.getD_cons_succ, ty_int, ty_bl, ty_str, ty_tup, ty_non, tr_bl, tr_tup, isi_00, isi_01, isi_10, isi_11, isi_33, isi_03, isi_13, isi_30, isi_31, c_lt, c_le, c_gt, c_ge, c_eqI, c_neI, dAdd, dSub, LM_le2, LM_le1, LM_le0, LM_le3, LM_le4, len_tup, idx0, idx1, Option.some.injEq, exists_eq_left', exists_eq_left, D.bl.injEq, D.int.injEq, Bool.not_true, Bool.not_false, if_true, if_false, Bool.false_eq_true, reduceIte, and_true, true_and, and_self, decide_true, decide_false]
          refine ⟨?_, ?_, _, _, rfl⟩
          · rw [set_off (by omega)]
            exact get_old h0
          · rw [set_at g2, pD_app]
            simp
  · rintro q S ⟨h0, h1, a, b, rfl⟩
    rw [List.length_map, List.take_length] at h1
    simp only [tuple_at h1, w_runC, w_ok, w_exn, w_stk, w_bind, w_ifR, w_optS, w_noX, asB_bl, asI_int, lk0, lkS, w_rVar, w_xC, w_xNil, w_xCons, w_xTup, w_rLst, w_rBin, w_xNeg, w_yCmp, w_uCmp, w_xAndV, w_xOrV, w_xNot, w_xIte, w_xChain, w_xIdx, w_xCall, w_xCallk, w_yBlt, w_xLrng, w_xIsi, w_yMeth, w_ySlice, w_oNone, w_oSome, w_xRev, w_xDict, w_tAnd, w_tOr, w_tNot, w_tBl, w_rvVar, w_tCall, w_tCallk, w_tBlt, w_tIsi, w_tIdx, w_iSeq, w_iRng, w_iEnm, w_rName, w_gTup, w_gCons, w_gNil, w_gSubF, seqW_next, seqW_ret, seqW_brk, seqW_cnt, seqW_exn, w_sCons, w_sNil, w_sAsg, w_sExpr, w_sRet, w_sRetN, w_sIf, w_rPar2, w_sPar3, w_sAug, w_sFor, w_sRaise, w_raise1, w_sTry, w_sPass, w_sBrk, w_sCnt, w_rComp, w_xTurn, retsW_ret, retsW_next, retsW_exn, w_xComp2, flW_next, flW_cnt, flW_brk, flW_ret, flW_exn, startD, List.map_cons, List.map_nil, List.replicate_succ, List.replicate_zero, List.set_cons_zero, List.set_cons_succ, List.length_cons, List.length_nil, List.cons_append, List.nil_append, Nat.reduceAdd, Nat.reduceSub, Nat.reduceLeDiff, Nat.zero_add, List.getD_cons_zero, List.getD_cons_succ, ty_int, ty_bl, ty_str, ty_tup, ty_non, tr_bl, tr_tup, isi_00, isi_01, isi_10, isi_11, isi_33, isi_03, isi_13, isi_30, isi_31, c_lt, c_le, c_gt, c_ge, c_eqI, c_neI, dAdd, dSub, LM_le2, LM_le1, LM_le0, LM_le3, LM_le4, len_tup, idx0, idx1, Option.some.injEq, exists_eq_left', exists_eq_left, D.bl.injEq, D.int.injEq, Bool.not_true, Bool.not_false, if_true, if_false, Bool.false_eq_true, reduceIte, and_true, true_and, and_self, decide_true, decide_false]
    exact ⟨by rw [prs_eq, prN_row], head_at h0⟩
/-! ### _law_pairs -/
def In2 (n : Nat) (ps : PrL) : Prop := ∀ p ∈ ps, p.1 ∈ sb n 0 ∧ p.2 ∈ sb n 0
def PairsP (S0 : Sto) (N0 n j i m N : Nat) (d : D) (S' : Sto) : Prop := Keep S0 S' N0 ∧ ∃ l ps, d = .ref l ∧ S'[l]? = some (.lst (pD ps)) ∧ ps.length ≤ 10000 ∧ In2 n ps ∧ DR S' j i (N + 100) ∧ S'[m]? = some (.lst ((sb n 0).map nT))
theorem all_row (r : List Nat) (zs : List (List Nat)) : (zs.map nT).filterMap (fun d => some (D.tup [nT r, d])) = pD (zs.map fun c => (r, c)) := by
  induction zs with
  | nil => rfl
  | cons z zs ih =>
    rw [List.map_cons, List.filterMap_cons, ih]
    rfl
theorem flt_like (r : List Nat) (zs : List (List Nat)) : (zs.map nT).filterMap (fun d => match d with | .tup ds => (bif Nat.beq ds.length r.length then some d else none) | _ => none) = (zs.filter fun c => Nat.beq c.length r.length).map nT := by
  induction zs with
  | nil => rfl
  | cons z zs ih =>
    rw [List.map_cons, List.filterMap_cons, ih, List.filter_cons]
    simp only [nT, List.length_map]
    cases Nat.beq z.length r.length <;> rfl
theorem pairs {k : Nat} (h64 : (sb n 0).length ≤ 100) (hne : sb n 0 ≠ []) {S : Sto} {j i m N : Nat} (hD : DR S j i N) (hN : N < 900000) (hm : S[m]? = some (.lst ((sb n 0).map nT))) (hmi : m ≠ i) {S0 : Sto} {N0 : Nat} (hK : Keep S0 S N0) (ni : N0 ≤ i) (nj : N0 ≤ j) : (runZ cs (k + 3) 24 [.ref j, .int n, .ref m] S).holds (PairsP S0 N0 n j i m N) (fun _ _ => False) := by
  have hmj : m ≠ j := hD.nj hm
  have hD' := hD
  obtain ⟨_, _, _, hD', _⟩ := hD'
  rw [run_dk (c := ⟨3, 9, b24⟩) rfl hD'.dk]
  have drw : DrwC (runZ cs (k + 2) 17) := drwC_run (k := k + 1) rfl
  have pck : PckL (runZ cs (k + 2) 18) := pckL_run (k := k + 1) (g := 17) (drwC_run (k := k) rfl) rfl
  have hlt := hD.lt
  simp only [b24, w_runC, w_ok, w_exn, w_stk, w_bind, w_ifR, w_optS, w_noX, asB_bl, asI_int, lk0, lkS, w_rVar, w_xC, w_xNil, w_xCons, w_xTup, w_rLst, w_rBin, w_xNeg, w_yCmp, w_uCmp, w_xAndV, w_xOrV, w_xNot, w_xIte, w_xChain, w_xIdx, w_xCall, w_xCallk, w_yBlt, w_xLrng, w_xIsi, w_yMeth, w_ySlice, w_oNone, w_oSome, w_xRev, w_xDict, w_tAnd, w_tOr, w_tNot, w_tBl, w_rvVar, w_tCall, w_tCallk, w_tBlt, w_tIsi, w_tIdx, w_iSeq, w_iRng, w_iEnm, w_rName, w_gTup, w_gCons, w_gNil, w_gSubF, seqW_next, seqW_ret, seqW_brk, seqW_cnt, seqW_exn, w_sCons, w_sNil, w_sAsg, w_sExpr, w_sRet, w_sRetN, w_sIf, w_rPar2, w_sPar3, w_sAug, w_sFor, w_sRaise, w_raise1, w_sTry, w_sPass, w_sBrk, w_sCnt, w_rComp, w_xTurn, retsW_ret, retsW_next, retsW_exn, w_xComp2, flW_next, flW_cnt, flW_brk, flW_ret, flW_exn, startD, List.map_cons, List.map_nil, List.replicate_succ, List.replicate_zero, List.set_cons_zero, List.set_cons_succ, List.length_cons, List.length_nil, List.cons_append, List.nil_append, Nat.reduceAdd, Nat.reduceSub, Nat.reduceLeDiff, Nat.zero_add, List.getD_cons_zero, List.getD_cons_succ, ty_int, ty_bl, ty_str, ty_tup, ty_non, tr_bl, tr_tup, isi_00, isi_01, isi_10, isi_11, isi_33, isi_03, isi_13, isi_30, isi_31, c_lt, c_le, c_gt, c_ge, c_eqI, c_neI, dAdd, dSub, LM_le2, LM_le1, LM_le0, LM_le3, LM_le4, len_tup, idx0, idx1, Option.some.injEq, exists_eq_left', exists_eq_left, D.bl.injEq, D.int.injEq, Bool.not_true, Bool.not_false, if_true, if_false, Bool.false_eq_true, reduceIte, and_true, true_and, and_self, decide_true, decide_false]
  have g3 : (S ++ [O.lst []])[S.length]? = some (.lst []) := get_new
  have gm := get_old (T := [.lst []]) hm
  have gD := hD.push (.lst [])
  have li : S.length ≠ i := by omega
  have lj : S.length ≠ j := by omega
  have lm : S.length ≠ m := by
    have := get_lt hm
    omega
  have gK : Keep S0 (S ++ [O.lst []]) N0 := hK.app
  have nl : N0 ≤ S.length := by omega
  generalize S ++ [O.lst []] = S1 at g3 gm gD gK
  generalize S.length = l at g3 li lj lm nl
  by_cases h4 : ((n : Int) < 4)
  · simp only [h4, decide_true, if_true]
    simp only [seqS_at gm, w_runC, w_ok, w_exn, w_stk, w_bind, w_ifR, w_optS, w_noX, asB_bl, asI_int, lk0, lkS, w_rVar, w_xC, w_xNil, w_xCons, w_xTup, w_rLst, w_rBin, w_xNeg, w_yCmp, w_uCmp, w_xAndV, w_xOrV, w_xNot, w_xIte, w_xChain, w_xIdx, w_xCall, w_xCallk, w_yBlt, w_xLrng, w_xIsi, w_yMeth, w_ySlice, w_oNone, w_oSome, w_xRev, w_xDict, w_tAnd, w_tOr, w_tNot, w_tBl, w_rvVar, w_tCall, w_tCallk, w_tBlt, w_tIsi, w_tIdx, w_iSeq, w_iRng, w_iEnm, w_rName, w_gTup, w_gCons, w_gNil, w_gSubF, seqW_next, seqW_ret, seqW_brk, seqW_cnt, seqW_exn, w_sCons, w_sNil, w_sAsg, w_sExpr, w_sRet, w_sRetN, w_sIf, w_rPar2, w_sPar3, w_sAug, w_sFor, w_sRaise, w_raise1, w_sTry, w_sPass, w_sBrk, w_sCnt, w_rComp, w_xTurn, retsW_ret, retsW_next, retsW_exn, w_xComp2, flW_next, flW_cnt, flW_brk, flW_ret, flW_exn, startD, List.map_cons, List.map_nil, List.replicate_succ, List.replicate_zero, List.set_cons_zero, List.set_cons_succ, List.length_cons, List.length_nil, List.cons_append, List.nil_append, Nat.reduceAdd, Nat.reduceSub, Nat.reduceLeDiff, Nat.zero_add, List.getD_cons_zero, List.getD_cons_succ, ty_int, ty_bl, ty_str, ty_tup, ty_non, tr_bl, tr_tup, isi_00, isi_01, isi_10, isi_11, isi_33, isi_03, isi_13, isi_30, isi_31, c_lt, c_le, c_gt, c_ge, c_eqI, c_neI, dAdd, dSub, LM_le2, LM_le1, LM_le0, LM_le3, LM_le4, len_tup, idx0, idx1, Option.some.injEq, exists_eq_left', exists_eq_left, D.bl.injEq, D.int.injEq, Bool.not_true, Bool.not_false, if_true, if_false, Bool.false_eq_true, reduceIte, and_true, true_and, and_self, decide_true, decide_false]
    refine w_forL (items := (sb n 0).map nT) (fun x q S => Keep S0 S N0 ∧ S[m]? = some (.lst ((sb n 0).map nT)) ∧ DR S j i N ∧ (∃ ps, S[l]? = some (.lst (pD ps)) ∧ ps.length ≤ x * 100 ∧ In2 n ps) ∧ ∃ a b c d e, q = [some (.ref j), some (.int n), some (.ref m), some (.ref l), a, b, c, d, e]) (fun x q S h => srcL h.2.1) (by rw [List.length_map]; unfold LM; omega) ?_ ⟨gK, gm, gD, ⟨[], g3, Nat.zero_le _, fun p hp => by cases hp⟩, none, none, none, none, none, rfl⟩ ?_
    · rintro x d q S hd ⟨hK, hm, hD, ⟨ps, hl, hps, hin⟩, a, b, c, d', e, rfl⟩
      rw [List.getElem?_map] at hd
      cases hr : (sb n 0)[x]? with
      | none => rw [hr] at hd; cases hd
      | some r =>
        rw [hr] at hd
        cases hd
        have hx : x < (sb n 0).length := (List.getElem?_eq_some_iff.mp hr).1
        simp only [w_bindE, kAt hl .extend (.inr (.inr rfl)), seqS_at hm, w_runC, w_ok, w_exn, w_stk, w_bind, w_ifR, w_optS, w_noX, asB_bl, asI_int, lk0, lkS, w_rVar, w_xC, w_xNil, w_xCons, w_xTup, w_rLst, w_rBin, w_xNeg, w_yCmp, w_uCmp, w_xAndV, w_xOrV, w_xNot, w_xIte, w_xChain, w_xIdx, w_xCall, w_xCallk, w_yBlt, w_xLrng, w_xIsi, w_yMeth, w_ySlice, w_oNone, w_oSome, w_xRev, w_xDict, w_tAnd, w_tOr, w_tNot, w_tBl, w_rvVar, w_tCall, w_tCallk, w_tBlt, w_tIsi, w_tIdx, w_iSeq, w_iRng, w_iEnm, w_rName, w_gTup, w_gCons, w_gNil, w_gSubF, seqW_next, seqW_ret, seqW_brk, seqW_cnt, seqW_exn, w_sCons, w_sNil, w_sAsg, w_sExpr, w_sRet, w_sRetN, w_sIf, w_rPar2, w_sPar3, w_sAug, w_sFor, w_sRaise, w_raise1, w_sTry, w_sPass, w_sBrk, w_sCnt, w_rComp, w_xTurn, retsW_ret, retsW_next, retsW_exn, w_xComp2, flW_next, flW_cnt, flW_brk, flW_ret, flW_exn, startD, List.map_cons, List.map_nil, List.replicate_succ, List.replicate_zero, List.set_cons_zero, List.set_cons_succ, List.length_cons, List.length_nil, List.cons_append, List.nil_append, Nat.reduceAdd, Nat.reduceSub, Nat.reduceLeDiff, Nat.zero_add, List.getD_cons_zero, List.getD_cons_succ, ty_int, ty_bl, ty_str, ty_tup, ty_non, tr_bl, tr_tup, isi_00, isi_01, isi_10, isi_11, isi_33, isi_03, isi_13, isi_30, isi_31, c_lt, c_le, c_gt, c_ge, c_eqI, c_neI, dAdd, dSub, LM_le2, LM_le1, LM_le0, LM_le3, LM_le4, len_tup, idx0, idx1, Option.some.injEq, exists_eq_left', exists_eq_left, D.bl.injEq, D.int.injEq, Bool.not_true, Bool.not_false, if_true, if_false, Bool.false_eq_true, reduceIte, and_true, true_and, and_self, decide_true, decide_false]
        refine w_compL (items := (sb n 0).map nT) (fun d => some (D.tup [nT r, d])) (fun y => srcL hm) (by rw [List.length_map]; unfold LM; omega) ?_ ?_
        · intro d hd
          refine eq_ok ?_
          simp only [wipeD, w_runC, w_ok, w_exn, w_stk, w_bind, w_ifR, w_optS, w_noX, asB_bl, asI_int, lk0, lkS, w_rVar, w_xC, w_xNil, w_xCons, w_xTup, w_rLst, w_rBin, w_xNeg, w_yCmp, w_uCmp, w_xAndV, w_xOrV, w_xNot, w_xIte, w_xChain, w_xIdx, w_xCall, w_xCallk, w_yBlt, w_xLrng, w_xIsi, w_yMeth, w_ySlice, w_oNone, w_oSome, w_xRev, w_xDict, w_tAnd, w_tOr, w_tNot, w_tBl, w_rvVar, w_tCall, w_tCallk, w_tBlt, w_tIsi, w_tIdx, w_iSeq, w_iRng, w_iEnm, w_rName, w_gTup, w_gCons, w_gNil, w_gSubF, seqW_next, seqW_ret, seqW_brk, seqW_cnt, seqW_exn, w_sCons, w_sNil, w_sAsg, w_sExpr, w_sRet, w_sRetN, w_sIf, w_rPar2, w_sPar3, w_sAug, w_sFor, w_sRaise, w_raise1, w_sTry, w_sPass, w_sBrk, w_sCnt, w_rComp, w_xTurn, retsW_ret, retsW_next, retsW_exn, w_xComp2, flW_next, flW_cnt, flW_brk, flW_ret, flW_exn, startD, List.map_cons, List.map_nil, List.replicate_succ, List.replicate_zero, List.set_cons_zero, List.set_cons_succ, List.length_cons, List.length_nil, List.cons_append, List.nil_append, Nat.reduceAdd, Nat.reduceSub, Nat.reduceLeDiff, Nat.zero_add, List.getD_cons_zero, List.getD_cons_succ, ty_int, ty_bl, ty_str, ty_tup, ty_non, tr_bl, tr_tup, isi_00, isi_01, isi_10, isi_11, isi_33, isi_03, isi_13, isi_30, isi_31, c_lt, c_le, c_gt, c_ge, c_eqI, c_neI, dAdd, dSub, LM_le2, LM_le1, LM_le0, LM_le3, LM_le4, len_tup, idx0, idx1, Option.some.injEq, exists_eq_left', exists_eq_left, D.bl.injEq, D.int.injEq, Bool.not_true, Bool.not_false, if_true, if_false, Bool.false_eq_true, reduceIte, and_true, true_and, and_self, decide_true, decide_false]
        · rw [all_row]
          have g2 := get_old (T := [.lst (pD ((sb n 0).map fun c => (r, c)))]) hl
          have g5 : (S ++ [.lst (pD ((sb n 0).map fun c => (r, c)))])[S.length]? = some (.lst (pD ((sb n 0).map fun c => (r, c)))) := get_new
          have x100 : x * 100 ≤ 10000 := by omega
          rw [ext_at g2 g5 (by unfold pD; rw [List.length_map, List.length_map, List.length_map]; unfold LM; omega)]
          simp only [w_runC, w_ok, w_exn, w_stk, w_bind, w_ifR, w_optS, w_noX, asB_bl, asI_int, lk0, lkS, w_rVar, w_xC, w_xNil, w_xCons, w_xTup, w_rLst, w_rBin, w_xNeg, w_yCmp, w_uCmp, w_xAndV, w_xOrV, w_xNot, w_xIte, w_xChain, w_xIdx, w_xCall, w_xCallk, w_yBlt, w_xLrng, w_xIsi, w_yMeth, w_ySlice, w_oNone, w_oSome, w_xRev, w_xDict, w_tAnd, w_tOr, w_tNot, w_tBl, w_rvVar, w_tCall, w_tCallk, w_tBlt, w_tIsi, w_tIdx, w_iSeq, w_iRng, w_iEnm, w_rName, w_gTup, w_gCons, w_gNil, w_gSubF, seqW_next, seqW_ret, seqW_brk, seqW_cnt, seqW_exn, w_sCons, w_sNil, w_sAsg, w_sExpr, w_sRet, w_sRetN, w_sIf, w_rPar2, w_sPar3, w_sAug, w_sFor, w_sRaise, w_raise1, w_sTry, w_sPass, w_sBrk, w_sCnt, w_rComp, w_xTurn, retsW_ret, retsW_next, retsW_exn, w_xComp2, flW_next, flW_cnt, flW_brk, flW_ret, flW_exn, startD, List.map_cons, List.map_nil, List.replicate_succ, List.replicate_zero, List.set_cons_zero, List.set_cons_succ, List.length_cons, List.length_nil, List.cons_append, List.nil_append, Nat.reduceAdd, Nat.reduceSub, Nat.reduceLeDiff, Nat.zero_add, List.getD_cons_zero, List.getD_cons_succ, ty_int, ty_bl, ty_str, ty_tup, ty_non, tr_bl, tr_tup, isi_00, isi_01, isi_10, isi_11, isi_33, isi_03, isi_13, isi_30, isi_31, c_lt, c_le, c_gt, c_ge, c_eqI, c_neI, dAdd, dSub, LM_le2, LM_le1, LM_le0, LM_le3, LM_le4, len_tup, idx0, idx1, Option.some.injEq, exists_eq_left', exists_eq_left, D.bl.injEq, D.int.injEq, Bool.not_true, Bool.not_false, if_true, if_false, Bool.false_eq_true, reduceIte, and_true, true_and, and_self, decide_true, decide_false]
          refine ⟨hK.app.set nl, ?_, (hD.push _).set li lj, ⟨ps ++ (sb n 0).map (fun c => (r, c)), ?_, ?_, ?_⟩, _, _, _, _, _, rfl⟩
          · rw [set_off (Ne.symm lm)]
            exact get_old hm
          · rw [set_at g2, pD_app]
          · rw [List.length_append, List.length_map]
            omega
          · intro p hp
            rcases List.mem_append.mp hp with hp | hp
            · exact hin p hp
            · obtain ⟨c, hc, rfl⟩ := List.mem_map.mp hp
              exact ⟨List.mem_of_getElem? hr, hc⟩
    · rintro q S ⟨hK, hm, hD, ⟨ps, hl, hps, hin⟩, a, b, c, d', e, rfl⟩
      simp only [w_runC, w_ok, w_exn, w_stk, w_bind, w_ifR, w_optS, w_noX, asB_bl, asI_int, lk0, lkS, w_rVar, w_xC, w_xNil, w_xCons, w_xTup, w_rLst, w_rBin, w_xNeg, w_yCmp, w_uCmp, w_xAndV, w_xOrV, w_xNot, w_xIte, w_xChain, w_xIdx, w_xCall, w_xCallk, w_yBlt, w_xLrng, w_xIsi, w_yMeth, w_ySlice, w_oNone, w_oSome, w_xRev, w_xDict, w_tAnd, w_tOr, w_tNot, w_tBl, w_rvVar, w_tCall, w_tCallk, w_tBlt, w_tIsi, w_tIdx, w_iSeq, w_iRng, w_iEnm, w_rName, w_gTup, w_gCons, w_gNil, w_gSubF, seqW_next, seqW_ret, seqW_brk, seqW_cnt, seqW_exn, w_sCons, w_sNil, w_sAsg, w_sExpr, w_sRet, w_sRetN, w_sIf, w_rPar2, w_sPar3, w_sAug, w_sFor, w_sRaise, w_raise1, w_sTry, w_sPass, w_sBrk, w_sCnt, w_rComp, w_xTurn, retsW_ret, retsW_next, retsW_exn, w_xComp2, flW_next, flW_cnt, flW_brk, flW_ret, flW_exn, startD, List.map_cons, List.map_nil, List.replicate_succ, List.replicate_zero, List.set_cons_zero, List.set_cons_succ, List.length_cons, List.length_nil, List.cons_append, List.nil_append, Nat.reduceAdd, Nat.reduceSub, Nat.reduceLeDiff, Nat.zero_add, List.getD_cons_zero, List.getD_cons_succ, ty_int, ty_bl, ty_str, ty_tup, ty_non, tr_bl, tr_tup, isi_00, isi_01, isi_10, isi_11, isi_33, isi_03, isi_13, isi_30, isi_31, c_lt, c_le, c_gt, c_ge, c_eqI, c_neI, dAdd, dSub, LM_le2, LM_le1, LM_le0, LM_le3, LM_le4, len_tup, idx0, idx1, Option.some.injEq, exists_eq_left', exists_eq_left, D.bl.injEq, D.int.injEq, Bool.not_true, Bool.not_false, if_true, if_false, Bool.false_eq_true, reduceIte, and_true, true_and, and_self, decide_true, decide_false]
      refine ⟨hK, l, ps, rfl, hl, ?_, hin, hD.up (by omega), hm⟩
      rw [List.length_map] at hps
      omega
  · simp only [h4, decide_false, if_false]
    simp only [rngS1 (show -(2 ^ 62) ≤ (24 : Int) ∧ (24 : Int) < 2 ^ 62 by omega), show (24 : Int).toNat = 24 from rfl, w_runC, w_ok, w_exn, w_stk, w_bind, w_ifR, w_optS, w_noX, asB_bl, asI_int, lk0, lkS, w_rVar, w_xC, w_xNil, w_xCons, w_xTup, w_rLst, w_rBin, w_xNeg, w_yCmp, w_uCmp, w_xAndV, w_xOrV, w_xNot, w_xIte, w_xChain, w_xIdx, w_xCall, w_xCallk, w_yBlt, w_xLrng, w_xIsi, w_yMeth, w_ySlice, w_oNone, w_oSome, w_xRev, w_xDict, w_tAnd, w_tOr, w_tNot, w_tBl, w_rvVar, w_tCall, w_tCallk, w_tBlt, w_tIsi, w_tIdx, w_iSeq, w_iRng, w_iEnm, w_rName, w_gTup, w_gCons, w_gNil, w_gSubF, seqW_next, seqW_ret, seqW_brk, seqW_cnt, seqW_exn, w_sCons, w_sNil, w_sAsg, w_sExpr, w_sRet, w_sRetN, w_sIf, w_rPar2, w_sPar3, w_sAug, w_sFor, w_sRaise, w_raise1, w_sTry, w_sPass, w_sBrk, w_sCnt, w_rComp, w_xTurn, retsW_ret, retsW_next, retsW_exn, w_xComp2, flW_next, flW_cnt, flW_brk, flW_ret, flW_exn, startD, List.map_cons, List.map_nil, List.replicate_succ, List.replicate_zero, List.set_cons_zero, List.set_cons_succ, List.length_cons, List.length_nil, List.cons_append, List.nil_append, Nat.reduceAdd, Nat.reduceSub, Nat.reduceLeDiff, Nat.zero_add, List.getD_cons_zero, List.getD_cons_succ, ty_int, ty_bl, ty_str, ty_tup, ty_non, tr_bl, tr_tup, isi_00, isi_01, isi_10, isi_11, isi_33, isi_03, isi_13, isi_30, isi_31, c_lt, c_le, c_gt, c_ge, c_eqI, c_neI, dAdd, dSub, LM_le2, LM_le1, LM_le0, LM_le3, LM_le4, len_tup, idx0, idx1, Option.some.injEq, exists_eq_left', exists_eq_left, D.bl.injEq, D.int.injEq, Bool.not_true, Bool.not_false, if_true, if_false, Bool.false_eq_true, reduceIte, and_true, true_and, and_self, decide_true, decide_false]
    refine w_forL (items := (List.range 24).map fun t : Nat => D.int (0 + t)) (fun x q S => Keep S0 S N0 ∧ S[m]? = some (.lst ((sb n 0).map nT)) ∧ DR S j i (N + 3 * x) ∧ (∃ ps, S[l]? = some (.lst (pD ps)) ∧ ps.length ≤ x ∧ In2 n ps) ∧ ∃ a b c d e, q = [some (.ref j), some (.int n), some (.ref m), some (.ref l), a, b, c, d, e]) (fun x q S h => rng_src1 0 24 x S) (by simp [LM]) ?_ ⟨gK, gm, gD, ⟨[], g3, Nat.zero_le _, fun p hp => by cases hp⟩, none, none, none, none, none, rfl⟩ ?_
    · rintro x d q S hd ⟨hK, hm, hD, ⟨ps, hl, hps, hin⟩, a, b, c, d', e, rfl⟩
      have hx : x < 24 := by
        have := (List.getElem?_eq_some_iff.mp hd).1
        simpa using this
      simp only [w_bindE, w_runC, w_ok, w_exn, w_stk, w_bind, w_ifR, w_optS, w_noX, asB_bl, asI_int, lk0, lkS, w_rVar, w_xC, w_xNil, w_xCons, w_xTup, w_rLst, w_rBin, w_xNeg, w_yCmp, w_uCmp, w_xAndV, w_xOrV, w_xNot, w_xIte, w_xChain, w_xIdx, w_xCall, w_xCallk, w_yBlt, w_xLrng, w_xIsi, w_yMeth, w_ySlice, w_oNone, w_oSome, w_xRev, w_xDict, w_tAnd, w_tOr, w_tNot, w_tBl, w_rvVar, w_tCall, w_tCallk, w_tBlt, w_tIsi, w_tIdx, w_iSeq, w_iRng, w_iEnm, w_rName, w_gTup, w_gCons, w_gNil, w_gSubF, seqW_next, seqW_ret, seqW_brk, seqW_cnt, seqW_exn, w_sCons, w_sNil, w_sAsg, w_sExpr, w_sRet, w_sRetN, w_sIf, w_rPar2, w_sPar3, w_sAug, w_sFor, w_sRaise, w_raise1, w_sTry, w_sPass, w_sBrk, w_sCnt, w_rComp, w_xTurn, retsW_ret, retsW_next, retsW_exn, w_xComp2, flW_next, flW_cnt, flW_brk, flW_ret, flW_exn, startD, List.map_cons, List.map_nil, List.replicate_succ, List.replicate_zero, List.set_cons_zero, List.set_cons_succ, List.length_cons, List.length_nil, List.cons_append, List.nil_append, Nat.reduceAdd, Nat.reduceSub, Nat.reduceLeDiff, Nat.zero_add, List.getD_cons_zero, List.getD_cons_succ, ty_int, ty_bl, ty_str, ty_tup, ty_non, tr_bl, tr_tup, isi_00, isi_01, isi_10, isi_11, isi_33, isi_03, isi_13, isi_30, isi_31, c_lt, c_le, c_gt, c_ge, c_eqI, c_neI, dAdd, dSub, LM_le2, LM_le1, LM_le0, LM_le3, LM_le4, len_tup, idx0, idx1, Option.some.injEq, exists_eq_left', exists_eq_left, D.bl.injEq, D.int.injEq, Bool.not_true, Bool.not_false, if_true, if_false, Bool.false_eq_true, reduceIte, and_true, true_and, and_self, decide_true, decide_false]
      refine h_mp (pck S j i (N + 3 * x) m _ hD (by omega) hm hmi (by simpa using hne) (by rw [List.length_map]; unfold LM; omega)) ?_ no_x
      rintro d2 S2 ⟨hd2, hD2, f2⟩
      obtain ⟨r, hr, rfl⟩ := List.mem_map.mp hd2
      have hm2 := f2.2 m _ hmi hmj hm
      have hl2 := f2.2 l _ li lj hl
      simp only [seqS_at hm2, w_runC, w_ok, w_exn, w_stk, w_bind, w_ifR, w_optS, w_noX, asB_bl, asI_int, lk0, lkS, w_rVar, w_xC, w_xNil, w_xCons, w_xTup, w_rLst, w_rBin, w_xNeg, w_yCmp, w_uCmp, w_xAndV, w_xOrV, w_xNot, w_xIte, w_xChain, w_xIdx, w_xCall, w_xCallk, w_yBlt, w_xLrng, w_xIsi, w_yMeth, w_ySlice, w_oNone, w_oSome, w_xRev, w_xDict, w_tAnd, w_tOr, w_tNot, w_tBl, w_rvVar, w_tCall, w_tCallk, w_tBlt, w_tIsi, w_tIdx, w_iSeq, w_iRng, w_iEnm, w_rName, w_gTup, w_gCons, w_gNil, w_gSubF, seqW_next, seqW_ret, seqW_brk, seqW_cnt, seqW_exn, w_sCons, w_sNil, w_sAsg, w_sExpr, w_sRet, w_sRetN, w_sIf, w_rPar2, w_sPar3, w_sAug, w_sFor, w_sRaise, w_raise1, w_sTry, w_sPass, w_sBrk, w_sCnt, w_rComp, w_xTurn, retsW_ret, retsW_next, retsW_exn, w_xComp2, flW_next, flW_cnt, flW_brk, flW_ret, flW_exn, startD, List.map_cons, List.map_nil, List.replicate_succ, List.replicate_zero, List.set_cons_zero, List.set_cons_succ, List.length_cons, List.length_nil, List.cons_append, List.nil_append, Nat.reduceAdd, Nat.reduceSub, Nat.reduceLeDiff, Nat.zero_add, List.getD_cons_zero, List.getD_cons_succ, ty_int, ty_bl, ty_str, ty_tup, ty_non, tr_bl, tr_tup, isi_00, isi_01, isi_10, isi_11, isi_33, isi_03, isi_13, isi_30, isi_31, c_lt, c_le, c_gt, c_ge, c_eqI, c_neI, dAdd, dSub, LM_le2, LM_le1, LM_le0, LM_le3, LM_le4, len_tup, idx0, idx1, Option.some.injEq, exists_eq_left', exists_eq_left, D.bl.injEq, D.int.injEq, Bool.not_true, Bool.not_false, if_true, if_false, Bool.false_eq_true, reduceIte, and_true, true_and, and_self, decide_true, decide_false]
      refine w_compL (items := (sb n 0).map nT) (fun d => match d with | .tup ds => (bif Nat.beq ds.length r.length then some d else none) | _ => none) (fun y => srcL hm2) (by rw [List.length_map]; unfold LM; omega) ?_ ?_
      · intro d hd
        obtain ⟨z, _, rfl⟩ := List.mem_map.mp hd
        refine eq_ok ?_
        simp only [wipeD, len_nT, len_eqb, w_runC, w_ok, w_exn, w_stk, w_bind, w_ifR, w_optS, w_noX, asB_bl, asI_int, lk0, lkS, w_rVar, w_xC, w_xNil, w_xCons, w_xTup, w_rLst, w_rBin, w_xNeg, w_yCmp, w_uCmp, w_xAndV, w_xOrV, w_xNot, w_xIte, w_xChain, w_xIdx, w_xCall, w_xCallk, w_yBlt, w_xLrng, w_xIsi, w_yMeth, w_ySlice, w_oNone, w_oSome, w_xRev, w_xDict, w_tAnd, w_tOr, w_tNot, w_tBl, w_rvVar, w_tCall, w_tCallk, w_tBlt, w_tIsi, w_tIdx, w_iSeq, w_iRng, w_iEnm, w_rName, w_gTup, w_gCons, w_gNil, w_gSubF, seqW_next, seqW_ret, seqW_brk, seqW_cnt, seqW_exn, w_sCons, w_sNil, w_sAsg, w_sExpr, w_sRet, w_sRetN, w_sIf, w_rPar2, w_sPar3, w_sAug, w_sFor, w_sRaise, w_raise1, w_sTry, w_sPass, w_sBrk, w_sCnt, w_rComp, w_xTurn, retsW_ret, retsW_next, retsW_exn, w_xComp2, flW_next, flW_cnt, flW_brk, flW_ret, flW_exn, startD, List.map_cons, List.map_nil, List.replicate_succ, List.replicate_zero, List.set_cons_zero, List.set_cons_succ, List.length_cons, List.length_nil, List.cons_append, List.nil_append, Nat.reduceAdd, Nat.reduceSub, Nat.reduceLeDiff, Nat.zero_add, List.getD_cons_zero, List.getD_cons_succ, ty_int, ty_bl, ty_str, ty_tup, ty_non, tr_bl, tr_tup, isi_00, isi_01, isi_10, isi_11, isi_33, isi_03, isi_13, isi_30, isi_31, c_lt, c_le, c_gt, c_ge, c_eqI, c_neI, dAdd, dSub, LM_le2, LM_le1, LM_le0, LM_le3, LM_le4, len_tup, idx0, idx1, Option.some.injEq, exists_eq_left', exists_eq_left, D.bl.injEq, D.int.injEq, Bool.not_true, Bool.not_false, if_true, if_false, Bool.false_eq_true, reduceIte, and_true, true_and, and_self, decide_true, decide_false]
        simp only [nT, List.length_map]
        cases Nat.beq z.length r.length <;> simp
      · rw [flt_like]
        have hD3 := hD2.push (.lst (((sb n 0).filter fun c => Nat.beq c.length r.length).map nT))
        have hm3 := get_old (T := [.lst (((sb n 0).filter fun c => Nat.beq c.length r.length).map nT)]) hm2
        have hl3 := get_old (T := [.lst (((sb n 0).filter fun c => Nat.beq c.length r.length).map nT)]) hl2
        have hk3 : (S2 ++ [.lst (((sb n 0).filter fun c => Nat.beq c.length r.length).map nT)])[S2.length]? = some (.lst (((sb n 0).filter fun c => Nat.beq c.length r.length).map nT)) := get_new
        have hK3 : Keep S0 (S2 ++ [.lst (((sb n 0).filter fun c => Nat.beq c.length r.length).map nT)]) N0 := (hK.trans (f2.keep ni nj)).app
        have hlt2 := hD2.lt
        have ki : S2.length ≠ i := by omega
        have kj : S2.length ≠ j := by omega
        have hrl : r ∈ (sb n 0).filter fun c => Nat.beq c.length r.length := List.mem_filter.mpr ⟨hr, by simp⟩
        have hll : ((sb n 0).filter fun c => Nat.beq c.length r.length).length ≤ 100 := Nat.le_trans (List.length_filter_le _ _) h64
        generalize S2 ++ [.lst (((sb n 0).filter fun c => Nat.beq c.length r.length).map nT)] = S3 at hD3 hm3 hl3 hk3 hK3
        generalize S2.length = w at hk3 ki kj
        simp only [kAt hl3 .append (.inl rfl), w_runC, w_ok, w_exn, w_stk, w_bind, w_ifR, w_optS, w_noX, asB_bl, asI_int, lk0, lkS, w_rVar, w_xC, w_xNil, w_xCons, w_xTup, w_rLst, w_rBin, w_xNeg, w_yCmp, w_uCmp, w_xAndV, w_xOrV, w_xNot, w_xIte, w_xChain, w_xIdx, w_xCall, w_xCallk, w_yBlt, w_xLrng, w_xIsi, w_yMeth, w_ySlice, w_oNone, w_oSome, w_xRev, w_xDict, w_tAnd, w_tOr, w_tNot, w_tBl, w_rvVar, w_tCall, w_tCallk, w_tBlt, w_tIsi, w_tIdx, w_iSeq, w_iRng, w_iEnm, w_rName, w_gTup, w_gCons, w_gNil, w_gSubF, seqW_next, seqW_ret, seqW_brk, seqW_cnt, seqW_exn, w_sCons, w_sNil, w_sAsg, w_sExpr, w_sRet, w_sRetN, w_sIf, w_rPar2, w_sPar3, w_sAug, w_sFor, w_sRaise, w_raise1, w_sTry, w_sPass, w_sBrk, w_sCnt, w_rComp, w_xTurn, retsW_ret, retsW_next, retsW_exn, w_xComp2, flW_next, flW_cnt, flW_brk, flW_ret, flW_exn, startD, List.map_cons, List.map_nil, List.replicate_succ, List.replicate_zero, List.set_cons_zero, List.set_cons_succ, List.length_cons, List.length_nil, List.cons_append, List.nil_append, Nat.reduceAdd, Nat.reduceSub, Nat.reduceLeDiff, Nat.zero_add, List.getD_cons_zero, List.getD_cons_succ, ty_int, ty_bl, ty_str, ty_tup, ty_non, tr_bl, tr_tup, isi_00, isi_01, isi_10, isi_11, isi_33, isi_03, isi_13, isi_30, isi_31, c_lt, c_le, c_gt, c_ge, c_eqI, c_neI, dAdd, dSub, LM_le2, LM_le1, LM_le0, LM_le3, LM_le4, len_tup, idx0, idx1, Option.some.injEq, exists_eq_left', exists_eq_left, D.bl.injEq, D.int.injEq, Bool.not_true, Bool.not_false, if_true, if_false, Bool.false_eq_true, reduceIte, and_true, true_and, and_self, decide_true, decide_false]
        refine h_mp (drw S3 j i (N + 3 * x + 1) 5 hD3 (by omega) (by omega) (by omega)) ?_ no_x
        rintro d4 S4 ⟨t, rfl, t0, t1, hD4, f4⟩
        have hm4 := f4.2 m _ hmi hmj hm3
        have hl4 := f4.2 l _ li lj hl3
        have hk4 := f4.2 w _ ki kj hk3
        have fin : ∀ (c : List Nat) (S5 : Sto), c ∈ sb n 0 → DR S5 j i (N + 3 * x + 3) → Fra i j S4 S5 → S5[l]? = some (.lst (pD ps)) → (methD .append (.ref l) [.tup [nT r, nT c]] S5).holds (fun _ S => Keep S0 S N0 ∧ S[m]? = some (.lst ((sb n 0).map nT)) ∧ DR S j i (N + 3 * (x + 1)) ∧ (∃ ps, S[l]? = some (.lst (pD ps)) ∧ ps.length ≤ x + 1 ∧ In2 n ps) ∧ ∃ a1 a2 a3 a4 a5, ([some (.ref j), some (.int n), some (.ref m), some (.ref l), some (.int (0 + (x : Int))), some (nT r), some (.ref w), d', e] : En) = [some (.ref j), some (.int n), some (.ref m), some (.ref l), a1, a2, a3, a4, a5]) (fun x_1 S => False) := by
          intro c S5 hc hD5 f5 hl5
          rw [app_at hl5 (by unfold pD; rw [List.length_map]; unfold LM; omega)]
          refine ⟨((hK3.trans (f4.keep ni nj)).trans (f5.keep ni nj)).set nl, ?_, (hD5.up (by omega)).set li lj, ⟨ps ++ [(r, c)], ?_, ?_, ?_⟩, _, _, _, _, _, rfl⟩
          · rw [set_off (Ne.symm lm)]
            exact f5.2 m _ hmi hmj hm4
          · rw [set_at hl5, pD_app]
            rfl
          · rw [List.length_append]
            simp
            omega
          · intro p hp
            rcases List.mem_append.mp hp with hp | hp
            · exact hin p hp
            · rw [List.mem_singleton.mp hp]
              exact ⟨hr, hc⟩
        have ed : d = .int (0 + (x : Int)) := by
          rw [List.getElem?_map, List.getElem?_range hx] at hd
          exact (Option.some.inj hd).symm
        subst ed
        simp only [w_runC, w_ok, w_exn, w_stk, w_bind, w_ifR, w_optS, w_noX, asB_bl, asI_int, lk0, lkS, w_rVar, w_xC, w_xNil, w_xCons, w_xTup, w_rLst, w_rBin, w_xNeg, w_yCmp, w_uCmp, w_xAndV, w_xOrV, w_xNot, w_xIte, w_xChain, w_xIdx, w_xCall, w_xCallk, w_yBlt, w_xLrng, w_xIsi, w_yMeth, w_ySlice, w_oNone, w_oSome, w_xRev, w_xDict, w_tAnd, w_tOr, w_tNot, w_tBl, w_rvVar, w_tCall, w_tCallk, w_tBlt, w_tIsi, w_tIdx, w_iSeq, w_iRng, w_iEnm, w_rName, w_gTup, w_gCons, w_gNil, w_gSubF, seqW_next, seqW_ret, seqW_brk, seqW_cnt, seqW_exn, w_sCons, w_sNil, w_sAsg, w_sExpr, w_sRet, w_sRetN, w_sIf, w_rPar2, w_sPar3, w_sAug, w_sFor, w_sRaise, w_raise1, w_sTry, w_sPass, w_sBrk, w_sCnt, w_rComp, w_xTurn, retsW_ret, retsW_next, retsW_exn, w_xComp2, flW_next, flW_cnt, flW_brk, flW_ret, flW_exn, startD, List.map_cons, List.map_nil, List.replicate_succ, List.replicate_zero, List.set_cons_zero, List.set_cons_succ, List.length_cons, List.length_nil, List.cons_append, List.nil_append, Nat.reduceAdd, Nat.reduceSub, Nat.reduceLeDiff, Nat.zero_add, List.getD_cons_zero, List.getD_cons_succ, ty_int, ty_bl, ty_str, ty_tup, ty_non, tr_bl, tr_tup, isi_00, isi_01, isi_10, isi_11, isi_33, isi_03, isi_13, isi_30, isi_31, c_lt, c_le, c_gt, c_ge, c_eqI, c_neI, dAdd, dSub, LM_le2, LM_le1, LM_le0, LM_le3, LM_le4, len_tup, idx0, idx1, Option.some.injEq, exists_eq_left', exists_eq_left, D.bl.injEq, D.int.injEq, Bool.not_true, Bool.not_false, if_true, if_false, Bool.false_eq_true, reduceIte, and_true, true_and, and_self, decide_true, decide_false]
        by_cases ht : (0 : Int) < t
        · simp only [ht, decide_true, if_true]
          refine h_mp (pck S4 j i (N + 3 * x + 2) w _ hD4 (by omega) hk4 ki (by simp only [ne_eq, List.map_eq_nil_iff]; intro z; rw [z] at hrl; cases hrl) (by rw [List.length_map]; unfold LM; omega)) ?_ no_x
          rintro d5 S5 ⟨hd5, hD5, f5⟩
          obtain ⟨c, hc, rfl⟩ := List.mem_map.mp hd5
          exact fin c S5 (List.mem_filter.mp hc).1 hD5 f5 (f5.2 l _ li lj hl4)
        · simp only [ht, decide_false, if_false]
          refine h_mp (pck S4 j i (N + 3 * x + 2) m _ hD4 (by omega) hm4 hmi (by simpa using hne) (by rw [List.length_map]; unfold LM; omega)) ?_ no_x
          rintro d5 S5 ⟨hd5, hD5, f5⟩
          obtain ⟨c, hc, rfl⟩ := List.mem_map.mp hd5
          exact fin c S5 hc hD5 f5 (f5.2 l _ li lj hl4)
    · rintro q S ⟨hK, hm, hD, ⟨ps, hl, hps, hin⟩, a, b, c, d', e, rfl⟩
      simp only [w_runC, w_ok, w_exn, w_stk, w_bind, w_ifR, w_optS, w_noX, asB_bl, asI_int, lk0, lkS, w_rVar, w_xC, w_xNil, w_xCons, w_xTup, w_rLst, w_rBin, w_xNeg, w_yCmp, w_uCmp, w_xAndV, w_xOrV, w_xNot, w_xIte, w_xChain, w_xIdx, w_xCall, w_xCallk, w_yBlt, w_xLrng, w_xIsi, w_yMeth, w_ySlice, w_oNone, w_oSome, w_xRev, w_xDict, w_tAnd, w_tOr, w_tNot, w_tBl, w_rvVar, w_tCall, w_tCallk, w_tBlt, w_tIsi, w_tIdx, w_iSeq, w_iRng, w_iEnm, w_rName, w_gTup, w_gCons, w_gNil, w_gSubF, seqW_next, seqW_ret, seqW_brk, seqW_cnt, seqW_exn, w_sCons, w_sNil, w_sAsg, w_sExpr, w_sRet, w_sRetN, w_sIf, w_rPar2, w_sPar3, w_sAug, w_sFor, w_sRaise, w_raise1, w_sTry, w_sPass, w_sBrk, w_sCnt, w_rComp, w_xTurn, retsW_ret, retsW_next, retsW_exn, w_xComp2, flW_next, flW_cnt, flW_brk, flW_ret, flW_exn, startD, List.map_cons, List.map_nil, List.replicate_succ, List.replicate_zero, List.set_cons_zero, List.set_cons_succ, List.length_cons, List.length_nil, List.cons_append, List.nil_append, Nat.reduceAdd, Nat.reduceSub, Nat.reduceLeDiff, Nat.zero_add, List.getD_cons_zero, List.getD_cons_succ, ty_int, ty_bl, ty_str, ty_tup, ty_non, tr_bl, tr_tup, isi_00, isi_01, isi_10, isi_11, isi_33, isi_03, isi_13, isi_30, isi_31, c_lt, c_le, c_gt, c_ge, c_eqI, c_neI, dAdd, dSub, LM_le2, LM_le1, LM_le0, LM_le3, LM_le4, len_tup, idx0, idx1, Option.some.injEq, exists_eq_left', exists_eq_left, D.bl.injEq, D.int.injEq, Bool.not_true, Bool.not_false, if_true, if_false, Bool.false_eq_true, reduceIte, and_true, true_and, and_self, decide_true, decide_false]
      have z : ((List.range 24).map fun t : Nat => D.int (0 + t)).length = 24 := by simp
      rw [z] at hps hD
      exact ⟨hK, l, ps, rfl, hl, by omega, hin, hD.up (by omega), hm⟩
end

section
variable {n : Nat}
theorem eqD_same {S : Sto} {d : D} (o : okI d = true) (h : dpI d ≤ 50) : eqD S d d = some true := by
  rw [eqD_okI o o h h, eqb_refl d o]
theorem ok_prs (n : Nat) : okI (.tup (prs n)) = true ∧ dpI (.tup (prs n)) ≤ 5 := by
  rw [prs_eq]
  have h1 : ∀ d ∈ pD (prN n), okI d = true ∧ dpI d ≤ 2 := fun d hd => by
    obtain ⟨p, _, rfl⟩ := List.mem_map.mp hd
    exact ⟨okI_pT _ _, by rw [dpI_pT]; omega⟩
  refine ⟨okIs_of fun d hd => (h1 d hd).1, ?_⟩
  have := dpIs_le (n := 2) fun d hd => (h1 d hd).2
  simp only [dpI]
  omega
def cnt : List Nat := [1, 3, 10, 35, 126, 462]
theorem idx_cnt {S : Sto} (h1 : 1 ≤ n) (h6 : n ≤ 6) : idxD (.tup [.int 1, .int 3, .int 10, .int 35, .int 126, .int 462]) (.int ((n : Int) - 1)) S = .ok (.int (cnt.getD (n - 1) 0 : Nat)) S := by
  match n, h1, h6 with
  | 1, _, _ => rfl
  | 2, _, _ => rfl
  | 3, _, _ => rfl
  | 4, _, _ => rfl
  | 5, _, _ => rfl
  | 6, _, _ => rfl
theorem idx_first {S : Sto} {ds : List D} (h : ds ≠ []) : ∃ d ∈ ds, idxD (.tup ds) (.int 0) S = .ok d S := by
  cases ds with
  | nil => exact (h rfl).elim
  | cons d r => exact ⟨d, by simp, idx0⟩
theorem idx_last {S : Sto} {ds : List D} (h : ds ≠ []) : ∃ d ∈ ds, idxD (.tup ds) (.int (-1)) S = .ok d S := by
  have hl : 0 < ds.length := List.length_pos_iff.mpr h
  have hlt : ds.length - 1 < ds.length := by omega
  refine ⟨ds[ds.length - 1], List.getElem_mem hlt, ?_⟩
  show optR (atI ds (-1)) S = _
  have e : ixN ds.length (-1) = some (ds.length - 1) := by
    unfold ixN
    rw [if_neg (by omega)]
    rw [if_pos (by omega)]
    congr 1
    omega
  unfold atI
  rw [e]
  show optR ds[ds.length - 1]? S = _
  rw [List.getElem?_eq_getElem hlt]
  rfl
/-- all that is to be known -/
structure Fa (n : Nat) : Prop where
  F : Fn n
  l64 : (sb n 0).length ≤ 100
  pl : (prN n).length ≤ 1000
  cn : (prN n).length = cnt.getD (n - 1) 0
  ne : sb n 0 ≠ []
theorem cnt_pos (h1 : 1 ≤ n) (h6 : n ≤ 6) : cnt.getD (n - 1) 0 ≠ 0 := by
  match n, h1, h6 with
  | 1, _, _ => decide
  | 2, _, _ => decide
  | 3, _, _ => decide
  | 4, _, _ => decide
  | 5, _, _ => decide
  | 6, _, _ => decide
theorem prs_ne (A : Fa n) : prs n ≠ [] := by
  rw [prs_eq]
  intro z
  have z' : prN n = [] := by simpa [pD] using z
  exact cnt_pos A.F.n1 A.F.n6 (by rw [← A.cn, z']; rfl)
theorem prN_in {p : List Nat × List Nat} (h : p ∈ prN n) : p.1 ∈ sb n 0 ∧ p.2 ∈ sb n 0 := by
  unfold prN at h
  obtain ⟨r, hr, h⟩ := List.mem_flatMap.mp h
  cases e : hasN r 0 with
  | false => rw [e] at h; cases h
  | true =>
    rw [e] at h
    obtain ⟨c, hc, rfl⟩ := List.mem_map.mp h
    exact ⟨hr, (List.mem_filter.mp hc).1⟩
theorem prs_mem {d : D} (h : d ∈ prs n) : ∃ r c, d = pT r c ∧ r ∈ sb n 0 ∧ c ∈ sb n 0 := by
  rw [prs_eq] at h
  obtain ⟨p, hp, rfl⟩ := List.mem_map.mp h
  exact ⟨_, _, rfl, prN_in hp⟩
theorem prs_len (A : Fa n) : (prs n).length = cnt.getD (n - 1) 0 := by
  rw [prs_eq, ← A.cn]
  simp [pD]
theorem no_bool (r c : List Nat) : ((r.map fun n : Nat => D.int n) ++ c.map fun n : Nat => D.int n).filterMap (fun d => match d with | .bl b => some (D.bl b) | _ => none) = [] := by
  rw [List.filterMap_eq_nil_iff]
  intro d hd
  rcases List.mem_append.mp hd with h | h <;> (obtain ⟨x, _, rfl⟩ := List.mem_map.mp h; rfl)
theorem add_tup {S : Sto} (xs ys : List D) (h : xs.length + ys.length ≤ LM) : opD .Add (.tup xs) (.tup ys) S = .ok (.tup (xs ++ ys)) S := by
  show (ifR (decide (xs.length + ys.length ≤ LM)) (.ok (.tup (xs ++ ys)) S) : R D) = _
  rw [decide_eq_true h]
  rfl
theorem nil_nil {S : Sto} {a b : Nat} (h : S[a]? = some (.lst [])) (h2 : S[b]? = some (.lst [])) : cmpD .NotEq (.ref a) (.ref b) S = .ok (.bl false) S := c_ne (t := true) (eq_nil (cs := []) h h2)
theorem law_ok (A : ∀ n, 1 ≤ n → n ≤ 6 → Fa n) (S : Sto) (a : D) (hdeck : (runZ cs 39 16 [a] S).holds (DckP S) (fun _ _ => False)) : (runC ⟨1, 9, b25⟩ (runZ cs 39) [a] S).holds (fun d S' => d = .bl true ∧ Keep S S' S.length) (fun _ _ => False) := by
  have pckT : PckT (runZ cs 39 18) := pckT_run (k := 38) (g := 17) (drwC_run (k := 37) rfl) rfl
  simp only [b25, w_runC, w_ok, w_exn, w_stk, w_bind, w_ifR, w_optS, w_noX, asB_bl, asI_int, lk0, lkS, w_rVar, w_xC, w_xNil, w_xCons, w_xTup, w_rLst, w_rBin, w_xNeg, w_yCmp, w_uCmp, w_xAndV, w_xOrV, w_xNot, w_xIte, w_xChain, w_xIdx, w_xCall, w_xCallk, w_yBlt, w_xLrng, w_xIsi, w_yMeth, w_ySlice, w_oNone, w_oSome, w_xRev, w_xDict, w_tAnd, w_tOr, w_tNot, w_tBl, w_rvVar, w_tCall, w_tCallk, w_tBlt, w_tIsi, w_tIdx, w_iSeq, w_iRng, w_iEnm, w_rName, w_gTup, w_gCons, w_gNil, w_gSubF, seqW_next, seqW_ret, seqW_brk, seqW_cnt, seqW_exn, w_sCons, w_sNil, w_sAsg, w_sExpr, w_sRet, w_sRetN, w_sIf, w_rPar2, w_sPar3, w_sAug, w_sFor, w_sRaise, w_raise1, w_sTry, w_sPass, w_sBrk, w_sCnt, w_rComp, w_xTurn, retsW_ret, retsW_next, retsW_exn, w_xComp2, flW_next, flW_cnt, flW_brk, flW_ret, flW_exn, startD, List.map_cons, List.map_nil, List.replicate_succ, List.replicate_zero, List.set_cons_zero, List.set_cons_succ, List.length_cons, List.length_nil, List.cons_append, List.nil_append, Nat.reduceAdd, Nat.reduceSub, Nat.reduceLeDiff, Nat.zero_add, List.getD_cons_zero, List.getD_cons_succ, ty_int, ty_bl, ty_str, ty_tup, ty_non, tr_bl, tr_tup, isi_00, isi_01, isi_10, isi_11, isi_33, isi_03, isi_13, isi_30, isi_31, c_lt, c_le, c_gt, c_ge, c_eqI, c_neI, dAdd, dSub, LM_le2, LM_le1, LM_le0, LM_le3, LM_le4, len_tup, idx0, idx1, Option.some.injEq, exists_eq_left', exists_eq_left, D.bl.injEq, D.int.injEq, Bool.not_true, Bool.not_false, if_true, if_false, Bool.false_eq_true, reduceIte, and_true, true_and, and_self, decide_true, decide_false]
  refine h_mp hdeck ?_ no_x
  rintro d S1 ⟨j, i, rfl, hD, hE, hj, hi⟩
  have K1 : Keep S S1 S.length := hE.keep
  try simp only [w_runC, w_ok, w_exn, w_stk, w_bind, w_ifR, w_optS, w_noX, asB_bl, asI_int, lk0, lkS, w_rVar, w_xC, w_xNil, w_xCons, w_xTup, w_rLst, w_rBin, w_xNeg, w_yCmp, w_uCmp, w_xAndV, w_xOrV, w_xNot, w_xIte, w_xChain, w_xIdx, w_xCall, w_xCallk, w_yBlt, w_xLrng, w_xIsi, w_yMeth, w_ySlice, w_oNone, w_oSome, w_xRev, w_xDict, w_tAnd, w_tOr, w_tNot, w_tBl, w_rvVar, w_tCall, w_tCallk, w_tBlt, w_tIsi, w_tIdx, w_iSeq, w_iRng, w_iEnm, w_rName, w_gTup, w_gCons, w_gNil, w_gSubF, seqW_next, seqW_ret, seqW_brk, seqW_cnt, seqW_exn, w_sCons, w_sNil, w_sAsg, w_sExpr, w_sRet, w_sRetN, w_sIf, w_rPar2, w_sPar3, w_sAug, w_sFor, w_sRaise, w_raise1, w_sTry, w_sPass, w_sBrk, w_sCnt, w_rComp, w_xTurn, retsW_ret, retsW_next, retsW_exn, w_xComp2, flW_next, flW_cnt, flW_brk, flW_ret, flW_exn, startD, List.map_cons, List.map_nil, List.replicate_succ, List.replicate_zero, List.set_cons_zero, List.set_cons_succ, List.length_cons, List.length_nil, List.cons_append, List.nil_append, Nat.reduceAdd, Nat.reduceSub, Nat.reduceLeDiff, Nat.zero_add, List.getD_cons_zero, List.getD_cons_succ, ty_int, ty_bl, ty_str, ty_tup, ty_non, tr_bl, tr_tup, isi_00, isi_01, isi_10, isi_11, isi_33, isi_03, isi_13, isi_30, isi_31, c_lt, c_le, c_gt, c_ge, c_eqI, c_neI, dAdd, dSub, LM_le2, LM_le1, LM_le0, LM_le3, LM_le4, len_tup, idx0, idx1, Option.some.injEq, exists_eq_left', exists_eq_left, D.bl.injEq, D.int.injEq, Bool.not_true, Bool.not_false, if_true, if_false, Bool.false_eq_true, reduceIte, and_true, true_and, and_self, decide_true, decide_false]
  have l12 : (12 ≤ LM) = True := eq_true (by unfold LM; omega)
  have l6 : (6 ≤ LM) = True := eq_true (by unfold LM; omega)
  rw [l12]
  simp only [w_runC, w_ok, w_exn, w_stk, w_bind, w_ifR, w_optS, w_noX, asB_bl, asI_int, lk0, lkS, w_rVar, w_xC, w_xNil, w_xCons, w_xTup, w_rLst, w_rBin, w_xNeg, w_yCmp, w_uCmp, w_xAndV, w_xOrV, w_xNot, w_xIte, w_xChain, w_xIdx, w_xCall, w_xCallk, w_yBlt, w_xLrng, w_xIsi, w_yMeth, w_ySlice, w_oNone, w_oSome, w_xRev, w_xDict, w_tAnd, w_tOr, w_tNot, w_tBl, w_rvVar, w_tCall, w_tCallk, w_tBlt, w_tIsi, w_tIdx, w_iSeq, w_iRng, w_iEnm, w_rName, w_gTup, w_gCons, w_gNil, w_gSubF, seqW_next, seqW_ret, seqW_brk, seqW_cnt, seqW_exn, w_sCons, w_sNil, w_sAsg, w_sExpr, w_sRet, w_sRetN, w_sIf, w_rPar2, w_sPar3, w_sAug, w_sFor, w_sRaise, w_raise1, w_sTry, w_sPass, w_sBrk, w_sCnt, w_rComp, w_xTurn, retsW_ret, retsW_next, retsW_exn, w_xComp2, flW_next, flW_cnt, flW_brk, flW_ret, flW_exn, startD, List.map_cons, List.map_nil, List.replicate_succ, List.replicate_zero, List.set_cons_zero, List.set_cons_succ, List.length_cons, List.length_nil, List.cons_append, List.nil_append, Nat.reduceAdd, Nat.reduceSub, Nat.reduceLeDiff, Nat.zero_add, List.getD_cons_zero, List.getD_cons_succ, ty_int, ty_bl, ty_str, ty_tup, ty_non, tr_bl, tr_tup, isi_00, isi_01, isi_10, isi_11, isi_33, isi_03, isi_13, isi_30, isi_31, c_lt, c_le, c_gt, c_ge, c_eqI, c_neI, dAdd, dSub, LM_le2, LM_le1, LM_le0, LM_le3, LM_le4, len_tup, idx0, idx1, Option.some.injEq, exists_eq_left', exists_eq_left, D.bl.injEq, D.int.injEq, Bool.not_true, Bool.not_false, if_true, if_false, Bool.false_eq_true, reduceIte, and_true, true_and, and_self, decide_true, decide_false]
  refine h_mp (pckT S1 j i 0 _ hD (by omega) (by simp) (by simp [LM])) ?_ no_x
  rintro d S2 ⟨hd, hD2, f2⟩
  have K2 := K1.trans (f2.keep hi hj)
  obtain ⟨n, h1, h6, rfl⟩ : ∃ n : Nat, 1 ≤ n ∧ n ≤ 6 ∧ d = .int n := by
    simp only [List.mem_cons, List.not_mem_nil, or_false] at hd
    rcases hd with rfl | rfl | rfl | rfl | rfl | rfl | rfl | rfl | rfl | rfl | rfl | rfl
    · exact ⟨3, by omega, by omega, rfl⟩
    · exact ⟨2, by omega, by omega, rfl⟩
    · exact ⟨4, by omega, by omega, rfl⟩
    · exact ⟨3, by omega, by omega, rfl⟩
    · exact ⟨1, by omega, by omega, rfl⟩
    · exact ⟨4, by omega, by omega, rfl⟩
    · exact ⟨5, by omega, by omega, rfl⟩
    · exact ⟨2, by omega, by omega, rfl⟩
    · exact ⟨3, by omega, by omega, rfl⟩
    · exact ⟨6, by omega, by omega, rfl⟩
    · exact ⟨4, by omega, by omega, rfl⟩
    · exact ⟨5, by omega, by omega, rfl⟩
  have B := A n h1 h6
  have hD3 := hD2.push (.lst ((sb n 0).map nT))
  have K3 : Keep S (S2 ++ [.lst ((sb n 0).map nT)]) S.length := K2.trans keep_app
  have hm : (S2 ++ [O.lst ((sb n 0).map nT)])[S2.length]? = some (.lst ((sb n 0).map nT)) := get_new
  have hlt := hD2.lt
  simp only [B.F.sets.w (show 1 ≤ 39 by omega), w_runC, w_ok, w_exn, w_stk, w_bind, w_ifR, w_optS, w_noX, asB_bl, asI_int, lk0, lkS, w_rVar, w_xC, w_xNil, w_xCons, w_xTup, w_rLst, w_rBin, w_xNeg, w_yCmp, w_uCmp, w_xAndV, w_xOrV, w_xNot, w_xIte, w_xChain, w_xIdx, w_xCall, w_xCallk, w_yBlt, w_xLrng, w_xIsi, w_yMeth, w_ySlice, w_oNone, w_oSome, w_xRev, w_xDict, w_tAnd, w_tOr, w_tNot, w_tBl, w_rvVar, w_tCall, w_tCallk, w_tBlt, w_tIsi, w_tIdx, w_iSeq, w_iRng, w_iEnm, w_rName, w_gTup, w_gCons, w_gNil, w_gSubF, seqW_next, seqW_ret, seqW_brk, seqW_cnt, seqW_exn, w_sCons, w_sNil, w_sAsg, w_sExpr, w_sRet, w_sRetN, w_sIf, w_rPar2, w_sPar3, w_sAug, w_sFor, w_sRaise, w_raise1, w_sTry, w_sPass, w_sBrk, w_sCnt, w_rComp, w_xTurn, retsW_ret, retsW_next, retsW_exn, w_xComp2, flW_next, flW_cnt, flW_brk, flW_ret, flW_exn, startD, List.map_cons, List.map_nil, List.replicate_succ, List.replicate_zero, List.set_cons_zero, List.set_cons_succ, List.length_cons, List.length_nil, List.cons_append, List.nil_append, Nat.reduceAdd, Nat.reduceSub, Nat.reduceLeDiff, Nat.zero_add, List.getD_cons_zero, List.getD_cons_succ, ty_int, ty_bl, ty_str, ty_tup, ty_non, tr_bl, tr_tup, isi_00, isi_01, isi_10, isi_11, isi_33, isi_03, isi_13, isi_30, isi_31, c_lt, c_le, c_gt, c_ge, c_eqI, c_neI, dAdd, dSub, LM_le2, LM_le1, LM_le0, LM_le3, LM_le4, len_tup, idx0, idx1, Option.some.injEq, exists_eq_left', exists_eq_left, D.bl.injEq, D.int.injEq, Bool.not_true, Bool.not_false, if_true, if_false, Bool.false_eq_true, reduceIte, and_true, true_and, and_self, decide_true, decide_false]
  have mi : S2.length ≠ i := by omega
  have mj : S2.length ≠ j := by omega
  generalize S2 ++ [O.lst ((sb n 0).map nT)] = S3 at hD3 K3 hm
  generalize S2.length = m at hm mi mj
  obtain ⟨o1, o2⟩ := ok_prs n
  have en : ∀ S, cmpD .NotEq (.tup (prs n)) (.tup (prs n)) S = .ok (.bl false) S := fun S => c_ne (t := true) (eqD_same o1 (by omega))
  have ee : ∀ S, cmpD .Eq (.tup (prs n)) (.tup (prs n)) S = .ok (.bl true) S := fun S => c_eq (eqD_same o1 (by omega))
  have el : ((prs n).length : Int) = ((cnt.getD (n - 1) 0 : Nat) : Int) := by rw [prs_len B]
  have hb : ∀ x : Int, (x == x) = true := fun x => by simp
  simp only [due B.l64 B.pl (k := 38) hm, B.F.prod.w (show 6 ≤ 39 by omega), en, l6, idx_cnt h1 h6, el, hb, w_runC, w_ok, w_exn, w_stk, w_bind, w_ifR, w_optS, w_noX, asB_bl, asI_int, lk0, lkS, w_rVar, w_xC, w_xNil, w_xCons, w_xTup, w_rLst, w_rBin, w_xNeg, w_yCmp, w_uCmp, w_xAndV, w_xOrV, w_xNot, w_xIte, w_xChain, w_xIdx, w_xCall, w_xCallk, w_yBlt, w_xLrng, w_xIsi, w_yMeth, w_ySlice, w_oNone, w_oSome, w_xRev, w_xDict, w_tAnd, w_tOr, w_tNot, w_tBl, w_rvVar, w_tCall, w_tCallk, w_tBlt, w_tIsi, w_tIdx, w_iSeq, w_iRng, w_iEnm, w_rName, w_gTup, w_gCons, w_gNil, w_gSubF, seqW_next, seqW_ret, seqW_brk, seqW_cnt, seqW_exn, w_sCons, w_sNil, w_sAsg, w_sExpr, w_sRet, w_sRetN, w_sIf, w_rPar2, w_sPar3, w_sAug, w_sFor, w_sRaise, w_raise1, w_sTry, w_sPass, w_sBrk, w_sCnt, w_rComp, w_xTurn, retsW_ret, retsW_next, retsW_exn, w_xComp2, flW_next, flW_cnt, flW_brk, flW_ret, flW_exn, startD, List.map_cons, List.map_nil, List.replicate_succ, List.replicate_zero, List.set_cons_zero, List.set_cons_succ, List.length_cons, List.length_nil, List.cons_append, List.nil_append, Nat.reduceAdd, Nat.reduceSub, Nat.reduceLeDiff, Nat.zero_add, List.getD_cons_zero, List.getD_cons_succ, ty_int, ty_bl, ty_str, ty_tup, ty_non, tr_bl, tr_tup, isi_00, isi_01, isi_10, isi_11, isi_33, isi_03, isi_13, isi_30, isi_31, c_lt, c_le, c_gt, c_ge, c_eqI, c_neI, dAdd, dSub, LM_le2, LM_le1, LM_le0, LM_le3, LM_le4, len_tup, idx0, idx1, Option.some.injEq, exists_eq_left', exists_eq_left, D.bl.injEq, D.int.injEq, Bool.not_true, Bool.not_false, if_true, if_false, Bool.false_eq_true, reduceIte, and_true, true_and, and_self, decide_true, decide_false]
  obtain ⟨d1, m1, i1⟩ := idx_first (S := S3) (prs_ne B)
  obtain ⟨d2, m2, i2⟩ := idx_last (S := S3) (prs_ne B)
  obtain ⟨r1, c1, rfl, a1, b1⟩ := prs_mem m1
  obtain ⟨r2, c2, rfl, a2, b2⟩ := prs_mem m2
  simp only [i1, i2, w_runC, w_ok, w_exn, w_stk, w_bind, w_ifR, w_optS, w_noX, asB_bl, asI_int, lk0, lkS, w_rVar, w_xC, w_xNil, w_xCons, w_xTup, w_rLst, w_rBin, w_xNeg, w_yCmp, w_uCmp, w_xAndV, w_xOrV, w_xNot, w_xIte, w_xChain, w_xIdx, w_xCall, w_xCallk, w_yBlt, w_xLrng, w_xIsi, w_yMeth, w_ySlice, w_oNone, w_oSome, w_xRev, w_xDict, w_tAnd, w_tOr, w_tNot, w_tBl, w_rvVar, w_tCall, w_tCallk, w_tBlt, w_tIsi, w_tIdx, w_iSeq, w_iRng, w_iEnm, w_rName, w_gTup, w_gCons, w_gNil, w_gSubF, seqW_next, seqW_ret, seqW_brk, seqW_cnt, seqW_exn, w_sCons, w_sNil, w_sAsg, w_sExpr, w_sRet, w_sRetN, w_sIf, w_rPar2, w_sPar3, w_sAug, w_sFor, w_sRaise, w_raise1, w_sTry, w_sPass, w_sBrk, w_sCnt, w_rComp, w_xTurn, retsW_ret, retsW_next, retsW_exn, w_xComp2, flW_next, flW_cnt, flW_brk, flW_ret, flW_exn, startD, List.map_cons, List.map_nil, List.replicate_succ, List.replicate_zero, List.set_cons_zero, List.set_cons_succ, List.length_cons, List.length_nil, List.cons_append, List.nil_append, Nat.reduceAdd, Nat.reduceSub, Nat.reduceLeDiff, Nat.zero_add, List.getD_cons_zero, List.getD_cons_succ, ty_int, ty_bl, ty_str, ty_tup, ty_non, tr_bl, tr_tup, isi_00, isi_01, isi_10, isi_11, isi_33, isi_03, isi_13, isi_30, isi_31, c_lt, c_le, c_gt, c_ge, c_eqI, c_neI, dAdd, dSub, LM_le2, LM_le1, LM_le0, LM_le3, LM_le4, len_tup, idx0, idx1, Option.some.injEq, exists_eq_left', exists_eq_left, D.bl.injEq, D.int.injEq, Bool.not_true, Bool.not_false, if_true, if_false, Bool.false_eq_true, reduceIte, and_true, true_and, and_self, decide_true, decide_false]
  refine h_mp (pckT S3 j i 1 _ hD3 (by omega) (prs_ne B) (by rw [prs_len B]; unfold LM; have := B.cn; have := B.pl; omega)) ?_ no_x
  rintro d3 S4 ⟨hd3, hD4, f4⟩
  obtain ⟨r3, c3, rfl, a3, b3⟩ := prs_mem hd3
  have K4 := K3.trans (f4.keep hi hj)
  have hm4 := f4.2 m _ mi mj hm
  have e3 : ∀ S, seqS (.tup [pT r1 c1, pT r2 c2, pT r3 c3]) S = .ok (.tup [pT r1 c1, pT r2 c2, pT r3 c3]) S := fun S => rfl
  simp only [e3, w_runC, w_ok, w_exn, w_stk, w_bind, w_ifR, w_optS, w_noX, asB_bl, asI_int, lk0, lkS, w_rVar, w_xC, w_xNil, w_xCons, w_xTup, w_rLst, w_rBin, w_xNeg, w_yCmp, w_uCmp, w_xAndV, w_xOrV, w_xNot, w_xIte, w_xChain, w_xIdx, w_xCall, w_xCallk, w_yBlt, w_xLrng, w_xIsi, w_yMeth, w_ySlice, w_oNone, w_oSome, w_xRev, w_xDict, w_tAnd, w_tOr, w_tNot, w_tBl, w_rvVar, w_tCall, w_tCallk, w_tBlt, w_tIsi, w_tIdx, w_iSeq, w_iRng, w_iEnm, w_rName, w_gTup, w_gCons, w_gNil, w_gSubF, seqW_next, seqW_ret, seqW_brk, seqW_cnt, seqW_exn, w_sCons, w_sNil, w_sAsg, w_sExpr, w_sRet, w_sRetN, w_sIf, w_rPar2, w_sPar3, w_sAug, w_sFor, w_sRaise, w_raise1, w_sTry, w_sPass, w_sBrk, w_sCnt, w_rComp, w_xTurn, retsW_ret, retsW_next, retsW_exn, w_xComp2, flW_next, flW_cnt, flW_brk, flW_ret, flW_exn, startD, List.map_cons, List.map_nil, List.replicate_succ, List.replicate_zero, List.set_cons_zero, List.set_cons_succ, List.length_cons, List.length_nil, List.cons_append, List.nil_append, Nat.reduceAdd, Nat.reduceSub, Nat.reduceLeDiff, Nat.zero_add, List.getD_cons_zero, List.getD_cons_succ, ty_int, ty_bl, ty_str, ty_tup, ty_non, tr_bl, tr_tup, isi_00, isi_01, isi_10, isi_11, isi_33, isi_03, isi_13, isi_30, isi_31, c_lt, c_le, c_gt, c_ge, c_eqI, c_neI, dAdd, dSub, LM_le2, LM_le1, LM_le0, LM_le3, LM_le4, len_tup, idx0, idx1, Option.some.injEq, exists_eq_left', exists_eq_left, D.bl.injEq, D.int.injEq, Bool.not_true, Bool.not_false, if_true, if_false, Bool.false_eq_true, reduceIte, and_true, true_and, and_self, decide_true, decide_false]
  refine w_forL (items := [pT r1 c1, pT r2 c2, pT r3 c3]) (fun _ q S' => Keep S S' S.length ∧ DR S' j i 2 ∧ S'[m]? = some (.lst ((sb n 0).map nT)) ∧ ∃ x y z, q = [some a, some (.ref j), some (.int n), some (.ref m), some (.tup (prs n)), some (.tup (prs n)), x, y, z]) (fun x q S _ => tup_srcW _ x S) (by simp [LM]) ?_ ⟨K4, hD4, hm4, none, none, none, rfl⟩ ?_
  · rintro x d q S5 hd ⟨K5, hD5, hm5, u, v, w, rfl⟩
    obtain ⟨r, c, rfl, hr, hc⟩ : ∃ r c, d = pT r c ∧ r ∈ sb n 0 ∧ c ∈ sb n 0 := by
      have := List.mem_of_getElem? hd
      simp only [List.mem_cons, List.not_mem_nil, or_false] at this
      rcases this with rfl | rfl | rfl
      · exact ⟨_, _, rfl, a1, b1⟩
      · exact ⟨_, _, rfl, a2, b2⟩
      · exact ⟨_, _, rfl, a3, b3⟩
    have lr := (B.F.om r hr).2.2.2
    have lc := (B.F.om c hc).2.2.2
    have hrc : (r.map fun n : Nat => D.int n).length + (c.map fun n : Nat => D.int n).length ≤ LM := by
      rw [List.length_map, List.length_map]
      unfold LM
      omega
    have es : seqS (.tup ((r.map fun n : Nat => D.int n) ++ c.map fun n : Nat => D.int n)) S5 = .ok (.tup ((r.map fun n : Nat => D.int n) ++ c.map fun n : Nat => D.int n)) S5 := rfl
    simp only [w_bindE, pT, nT, add_tup _ _ hrc, es, w_runC, w_ok, w_exn, w_stk, w_bind, w_ifR, w_optS, w_noX, asB_bl, asI_int, lk0, lkS, w_rVar, w_xC, w_xNil, w_xCons, w_xTup, w_rLst, w_rBin, w_xNeg, w_yCmp, w_uCmp, w_xAndV, w_xOrV, w_xNot, w_xIte, w_xChain, w_xIdx, w_xCall, w_xCallk, w_yBlt, w_xLrng, w_xIsi, w_yMeth, w_ySlice, w_oNone, w_oSome, w_xRev, w_xDict, w_tAnd, w_tOr, w_tNot, w_tBl, w_rvVar, w_tCall, w_tCallk, w_tBlt, w_tIsi, w_tIdx, w_iSeq, w_iRng, w_iEnm, w_rName, w_gTup, w_gCons, w_gNil, w_gSubF, seqW_next, seqW_ret, seqW_brk, seqW_cnt, seqW_exn, w_sCons, w_sNil, w_sAsg, w_sExpr, w_sRet, w_sRetN, w_sIf, w_rPar2, w_sPar3, w_sAug, w_sFor, w_sRaise, w_raise1, w_sTry, w_sPass, w_sBrk, w_sCnt, w_rComp, w_xTurn, retsW_ret, retsW_next, retsW_exn, w_xComp2, flW_next, flW_cnt, flW_brk, flW_ret, flW_exn, startD, List.map_cons, List.map_nil, List.replicate_succ, List.replicate_zero, List.set_cons_zero, List.set_cons_succ, List.length_cons, List.length_nil, List.cons_append, List.nil_append, Nat.reduceAdd, Nat.reduceSub, Nat.reduceLeDiff, Nat.zero_add, List.getD_cons_zero, List.getD_cons_succ, ty_int, ty_bl, ty_str, ty_tup, ty_non, tr_bl, tr_tup, isi_00, isi_01, isi_10, isi_11, isi_33, isi_03, isi_13, isi_30, isi_31, c_lt, c_le, c_gt, c_ge, c_eqI, c_neI, dAdd, dSub, LM_le2, LM_le1, LM_le0, LM_le3, LM_le4, len_tup, idx0, idx1, Option.some.injEq, exists_eq_left', exists_eq_left, D.bl.injEq, D.int.injEq, Bool.not_true, Bool.not_false, if_true, if_false, Bool.false_eq_true, reduceIte, and_true, true_and, and_self, decide_true, decide_false]
    refine w_compL (items := (r.map fun n : Nat => D.int n) ++ c.map fun n : Nat => D.int n) (fun d => match d with | .bl b => some (D.bl b) | _ => none) (fun y => tup_srcW _ y S5) (by rw [List.length_append]; exact hrc) ?_ ?_
    · intro d hd
      obtain ⟨y, rfl⟩ : ∃ y : Nat, d = .int y := by
        rcases List.mem_append.mp hd with h | h <;> (obtain ⟨y, _, rfl⟩ := List.mem_map.mp h; exact ⟨y, rfl⟩)
      refine eq_ok ?_
      simp only [wipeD, w_runC, w_ok, w_exn, w_stk, w_bind, w_ifR, w_optS, w_noX, asB_bl, asI_int, lk0, lkS, w_rVar, w_xC, w_xNil, w_xCons, w_xTup, w_rLst, w_rBin, w_xNeg, w_yCmp, w_uCmp, w_xAndV, w_xOrV, w_xNot, w_xIte, w_xChain, w_xIdx, w_xCall, w_xCallk, w_yBlt, w_xLrng, w_xIsi, w_yMeth, w_ySlice, w_oNone, w_oSome, w_xRev, w_xDict, w_tAnd, w_tOr, w_tNot, w_tBl, w_rvVar, w_tCall, w_tCallk, w_tBlt, w_tIsi, w_tIdx, w_iSeq, w_iRng, w_iEnm, w_rName, w_gTup, w_gCons, w_gNil, w_gSubF, seqW_next, seqW_ret, seqW_brk, seqW_cnt, seqW_exn, w_sCons, w_sNil, w_sAsg, w_sExpr, w_sRet, w_sRetN, w_sIf, w_rPar2, w_sPar3, w_sAug, w_sFor, w_sRaise, w_raise1, w_sTry, w_sPass, w_sBrk, w_sCnt, w_rComp, w_xTurn, retsW_ret, retsW_next, retsW_exn, w_xComp2, flW_next, flW_cnt, flW_brk, flW_ret, flW_exn, startD, List.map_cons, List.map_nil, List.replicate_succ, List.replicate_zero, List.set_cons_zero, List.set_cons_succ, List.length_cons, List.length_nil, List.cons_append, List.nil_append, Nat.reduceAdd, Nat.reduceSub, Nat.reduceLeDiff, Nat.zero_add, List.getD_cons_zero, List.getD_cons_succ, ty_int, ty_bl, ty_str, ty_tup, ty_non, tr_bl, tr_tup, isi_00, isi_01, isi_10, isi_11, isi_33, isi_03, isi_13, isi_30, isi_31, c_lt, c_le, c_gt, c_ge, c_eqI, c_neI, dAdd, dSub, LM_le2, LM_le1, LM_le0, LM_le3, LM_le4, len_tup, idx0, idx1, Option.some.injEq, exists_eq_left', exists_eq_left, D.bl.injEq, D.int.injEq, Bool.not_true, Bool.not_false, if_true, if_false, Bool.false_eq_true, reduceIte, and_true, true_and, and_self, decide_true, decide_false]
    · rw [no_bool]
      have g1 : (S5 ++ [O.lst []] ++ [O.lst []])[S5.length]? = some (.lst []) := get_old get_new
      have g2 : (S5 ++ [O.lst []] ++ [O.lst []])[(S5 ++ [O.lst []]).length]? = some (.lst []) := get_new
      simp only [nil_nil g1 g2, w_runC, w_ok, w_exn, w_stk, w_bind, w_ifR, w_optS, w_noX, asB_bl, asI_int, lk0, lkS, w_rVar, w_xC, w_xNil, w_xCons, w_xTup, w_rLst, w_rBin, w_xNeg, w_yCmp, w_uCmp, w_xAndV, w_xOrV, w_xNot, w_xIte, w_xChain, w_xIdx, w_xCall, w_xCallk, w_yBlt, w_xLrng, w_xIsi, w_yMeth, w_ySlice, w_oNone, w_oSome, w_xRev, w_xDict, w_tAnd, w_tOr, w_tNot, w_tBl, w_rvVar, w_tCall, w_tCallk, w_tBlt, w_tIsi, w_tIdx, w_iSeq, w_iRng, w_iEnm, w_rName, w_gTup, w_gCons, w_gNil, w_gSubF, seqW_next, seqW_ret, seqW_brk, seqW_cnt, seqW_exn, w_sCons, w_sNil, w_sAsg, w_sExpr, w_sRet, w_sRetN, w_sIf, w_rPar2, w_sPar3, w_sAug, w_sFor, w_sRaise, w_raise1, w_sTry, w_sPass, w_sBrk, w_sCnt, w_rComp, w_xTurn, retsW_ret, retsW_next, retsW_exn, w_xComp2, flW_next, flW_cnt, flW_brk, flW_ret, flW_exn, startD, List.map_cons, List.map_nil, List.replicate_succ, List.replicate_zero, List.set_cons_zero, List.set_cons_succ, List.length_cons, List.length_nil, List.cons_append, List.nil_append, Nat.reduceAdd, Nat.reduceSub, Nat.reduceLeDiff, Nat.zero_add, List.getD_cons_zero, List.getD_cons_succ, ty_int, ty_bl, ty_str, ty_tup, ty_non, tr_bl, tr_tup, isi_00, isi_01, isi_10, isi_11, isi_33, isi_03, isi_13, isi_30, isi_31, c_lt, c_le, c_gt, c_ge, c_eqI, c_neI, dAdd, dSub, LM_le2, LM_le1, LM_le0, LM_le3, LM_le4, len_tup, idx0, idx1, Option.some.injEq, exists_eq_left', exists_eq_left, D.bl.injEq, D.int.injEq, Bool.not_true, Bool.not_false, if_true, if_false, Bool.false_eq_true, reduceIte, and_true, true_and, and_self, decide_true, decide_false]
      exact ⟨K5.app.app, (hD5.push _).push _, get_old (get_old hm5), _, _, _, rfl⟩
  · rintro q S5 ⟨K5, hD5, hm5, u, v, w, rfl⟩
    simp only [w_runC, w_ok, w_exn, w_stk, w_bind, w_ifR, w_optS, w_noX, asB_bl, asI_int, lk0, lkS, w_rVar, w_xC, w_xNil, w_xCons, w_xTup, w_rLst, w_rBin, w_xNeg, w_yCmp, w_uCmp, w_xAndV, w_xOrV, w_xNot, w_xIte, w_xChain, w_xIdx, w_xCall, w_xCallk, w_yBlt, w_xLrng, w_xIsi, w_yMeth, w_ySlice, w_oNone, w_oSome, w_xRev, w_xDict, w_tAnd, w_tOr, w_tNot, w_tBl, w_rvVar, w_tCall, w_tCallk, w_tBlt, w_tIsi, w_tIdx, w_iSeq, w_iRng, w_iEnm, w_rName, w_gTup, w_gCons, w_gNil, w_gSubF, seqW_next, seqW_ret, seqW_brk, seqW_cnt, seqW_exn, w_sCons, w_sNil, w_sAsg, w_sExpr, w_sRet, w_sRetN, w_sIf, w_rPar2, w_sPar3, w_sAug, w_sFor, w_sRaise, w_raise1, w_sTry, w_sPass, w_sBrk, w_sCnt, w_rComp, w_xTurn, retsW_ret, retsW_next, retsW_exn, w_xComp2, flW_next, flW_cnt, flW_brk, flW_ret, flW_exn, startD, List.map_cons, List.map_nil, List.replicate_succ, List.replicate_zero, List.set_cons_zero, List.set_cons_succ, List.length_cons, List.length_nil, List.cons_append, List.nil_append, Nat.reduceAdd, Nat.reduceSub, Nat.reduceLeDiff, Nat.zero_add, List.getD_cons_zero, List.getD_cons_succ, ty_int, ty_bl, ty_str, ty_tup, ty_non, tr_bl, tr_tup, isi_00, isi_01, isi_10, isi_11, isi_33, isi_03, isi_13, isi_30, isi_31, c_lt, c_le, c_gt, c_ge, c_eqI, c_neI, dAdd, dSub, LM_le2, LM_le1, LM_le0, LM_le3, LM_le4, len_tup, idx0, idx1, Option.some.injEq, exists_eq_left', exists_eq_left, D.bl.injEq, D.int.injEq, Bool.not_true, Bool.not_false, if_true, if_false, Bool.false_eq_true, reduceIte, and_true, true_and, and_self, decide_true, decide_false]
    have prs24 := pairs (k := 36) B.l64 B.ne hD5 (by omega) hm5 mi K5 hi hj
    refine h_mp prs24 ?_ no_x
    rintro d S6 ⟨K6, l, ps, rfl, hl, hps, hin, hD6, hm6⟩
    simp only [seqS_at hl, w_runC, w_ok, w_exn, w_stk, w_bind, w_ifR, w_optS, w_noX, asB_bl, asI_int, lk0, lkS, w_rVar, w_xC, w_xNil, w_xCons, w_xTup, w_rLst, w_rBin, w_xNeg, w_yCmp, w_uCmp, w_xAndV, w_xOrV, w_xNot, w_xIte, w_xChain, w_xIdx, w_xCall, w_xCallk, w_yBlt, w_xLrng, w_xIsi, w_yMeth, w_ySlice, w_oNone, w_oSome, w_xRev, w_xDict, w_tAnd, w_tOr, w_tNot, w_tBl, w_rvVar, w_tCall, w_tCallk, w_tBlt, w_tIsi, w_tIdx, w_iSeq, w_iRng, w_iEnm, w_rName, w_gTup, w_gCons, w_gNil, w_gSubF, seqW_next, seqW_ret, seqW_brk, seqW_cnt, seqW_exn, w_sCons, w_sNil, w_sAsg, w_sExpr, w_sRet, w_sRetN, w_sIf, w_rPar2, w_sPar3, w_sAug, w_sFor, w_sRaise, w_raise1, w_sTry, w_sPass, w_sBrk, w_sCnt, w_rComp, w_xTurn, retsW_ret, retsW_next, retsW_exn, w_xComp2, flW_next, flW_cnt, flW_brk, flW_ret, flW_exn, startD, List.map_cons, List.map_nil, List.replicate_succ, List.replicate_zero, List.set_cons_zero, List.set_cons_succ, List.length_cons, List.length_nil, List.cons_append, List.nil_append, Nat.reduceAdd, Nat.reduceSub, Nat.reduceLeDiff, Nat.zero_add, List.getD_cons_zero, List.getD_cons_succ, ty_int, ty_bl, ty_str, ty_tup, ty_non, tr_bl, tr_tup, isi_00, isi_01, isi_10, isi_11, isi_33, isi_03, isi_13, isi_30, isi_31, c_lt, c_le, c_gt, c_ge, c_eqI, c_neI, dAdd, dSub, LM_le2, LM_le1, LM_le0, LM_le3, LM_le4, len_tup, idx0, idx1, Option.some.injEq, exists_eq_left', exists_eq_left, D.bl.injEq, D.int.injEq, Bool.not_true, Bool.not_false, if_true, if_false, Bool.false_eq_true, reduceIte, and_true, true_and, and_self, decide_true, decide_false]
    refine w_forL (items := pD ps) (fun _ q S' => S' = S6 ∧ ∃ x y, q = ([some a, some (.ref j), some (.int n), some (.ref m), some (.tup (prs n)), some (.tup (prs n)), x, y, w] : En)) (fun x q S h => by rw [h.1]; exact srcL hl) (by unfold pD; rw [List.length_map]; unfold LM; omega) ?_ ⟨rfl, u, v, rfl⟩ ?_
    · rintro x d q S hd ⟨rfl, u, v, rfl⟩
      obtain ⟨p, hp, rfl⟩ := List.mem_map.mp (List.mem_of_getElem? hd)
      obtain ⟨p1, p2⟩ := hin p hp
      simp only [w_bindE, pT, (pair_right B.F p1 p2).w (show 8 ≤ 39 by omega), w_runC, w_ok, w_exn, w_stk, w_bind, w_ifR, w_optS, w_noX, asB_bl, asI_int, lk0, lkS, w_rVar, w_xC, w_xNil, w_xCons, w_xTup, w_rLst, w_rBin, w_xNeg, w_yCmp, w_uCmp, w_xAndV, w_xOrV, w_xNot, w_xIte, w_xChain, w_xIdx, w_xCall, w_xCallk, w_yBlt, w_xLrng, w_xIsi, w_yMeth, w_ySlice, w_oNone, w_oSome, w_xRev, w_xDict, w_tAnd, w_tOr, w_tNot, w_tBl, w_rvVar, w_tCall, w_tCallk, w_tBlt, w_tIsi, w_tIdx, w_iSeq, w_iRng, w_iEnm, w_rName, w_gTup, w_gCons, w_gNil, w_gSubF, seqW_next, seqW_ret, seqW_brk, seqW_cnt, seqW_exn, w_sCons, w_sNil, w_sAsg, w_sExpr, w_sRet, w_sRetN, w_sIf, w_rPar2, w_sPar3, w_sAug, w_sFor, w_sRaise, w_raise1, w_sTry, w_sPass, w_sBrk, w_sCnt, w_rComp, w_xTurn, retsW_ret, retsW_next, retsW_exn, w_xComp2, flW_next, flW_cnt, flW_brk, flW_ret, flW_exn, startD, List.map_cons, List.map_nil, List.replicate_succ, List.replicate_zero, List.set_cons_zero, List.set_cons_succ, List.length_cons, List.length_nil, List.cons_append, List.nil_append, Nat.reduceAdd, Nat.reduceSub, Nat.reduceLeDiff, Nat.zero_add, List.getD_cons_zero, List.getD_cons_succ, ty_int, ty_bl, ty_str, ty_tup, ty_non, tr_bl, tr_tup, isi_00, isi_01, isi_10, isi_11, isi_33, isi_03, isi_13, isi_30, isi_31, c_lt, c_le, c_gt, c_ge, c_eqI, c_neI, dAdd, dSub, LM_le2, LM_le1, LM_le0, LM_le3, LM_le4, len_tup, idx0, idx1, Option.some.injEq, exists_eq_left', exists_eq_left, D.bl.injEq, D.int.injEq, Bool.not_true, Bool.not_false, if_true, if_false, Bool.false_eq_true, reduceIte, and_true, true_and, and_self, decide_true, decide_false]
      exact ⟨_, _, rfl⟩
    · rintro q S ⟨rfl, u, v, rfl⟩
      simp only [B.F.prod.w (show 6 ≤ 39 by omega), ee, w_runC, w_ok, w_exn, w_stk, w_bind, w_ifR, w_optS, w_noX, asB_bl, asI_int, lk0, lkS, w_rVar, w_xC, w_xNil, w_xCons, w_xTup, w_rLst, w_rBin, w_xNeg, w_yCmp, w_uCmp, w_xAndV, w_xOrV, w_xNot, w_xIte, w_xChain, w_xIdx, w_xCall, w_xCallk, w_yBlt, w_xLrng, w_xIsi, w_yMeth, w_ySlice, w_oNone, w_oSome, w_xRev, w_xDict, w_tAnd, w_tOr, w_tNot, w_tBl, w_rvVar, w_tCall, w_tCallk, w_tBlt, w_tIsi, w_tIdx, w_iSeq, w_iRng, w_iEnm, w_rName, w_gTup, w_gCons, w_gNil, w_gSubF, seqW_next, seqW_ret, seqW_brk, seqW_cnt, seqW_exn, w_sCons, w_sNil, w_sAsg, w_sExpr, w_sRet, w_sRetN, w_sIf, w_rPar2, w_sPar3, w_sAug, w_sFor, w_sRaise, w_raise1, w_sTry, w_sPass, w_sBrk, w_sCnt, w_rComp, w_xTurn, retsW_ret, retsW_next, retsW_exn, w_xComp2, flW_next, flW_cnt, flW_brk, flW_ret, flW_exn, startD, List.map_cons, List.map_nil, List.replicate_succ, List.replicate_zero, List.set_cons_zero, List.set_cons_succ, List.length_cons, List.length_nil, List.cons_append, List.nil_append, Nat.reduceAdd, Nat.reduceSub, Nat.reduceLeDiff, Nat.zero_add, List.getD_cons_zero, List.getD_cons_succ, ty_int, ty_bl, ty_str, ty_tup, ty_non, tr_bl, tr_tup, isi_00, isi_01, isi_10, isi_11, isi_33, isi_03, isi_13, isi_30, isi_31, c_lt, c_le, c_gt, c_ge, c_eqI, c_neI, dAdd, dSub, LM_le2, LM_le1, LM_le0, LM_le3, LM_le4, len_tup, idx0, idx1, Option.some.injEq, exists_eq_left', exists_eq_left, D.bl.injEq, D.int.injEq, Bool.not_true, Bool.not_false, if_true, if_false, Bool.false_eq_true, reduceIte, and_true, true_and, and_self, decide_true, decide_false]
      exact K6
end

section
/-! ### the facts of each size -/
noncomputable def kSet (k n : Nat) : Bool := lstIs (runY ⟨1, 4, b19⟩ (runZ cs (k + 0)) [.int n] []) ((sb n 0).map nT)
noncomputable def kSo (k n : Nat) : Bool := (List.range n).all fun m => lstIs (runY ⟨2, 6, b6⟩ (runZ cs (k + 0)) [.int n, .int (m + 1 : Nat)] []) ((sbk n (m + 1)).map nT)
noncomputable def kIs (k n : Nat) : Bool := (sb n 0).all fun s => retIs (runY ⟨2, 4, b3⟩ (runZ cs (k + 2)) [.int n, nT s] []) (.bl true)
noncomputable def kOt (k n : Nat) : Bool := (sb n 0).all fun s => retIs (runY ⟨2, 3, b7⟩ (runZ cs (k + 0)) [.int n, nT s] []) (nT (oth n s)) && retIs (runY ⟨2, 3, b20⟩ (runZ cs (k + 0)) [.int n, nT s] []) (nT (oth n s))
def kOm (n : Nat) : Bool := (sb n 0).all fun s => ((sb n 0).any fun t => eqNs t (oth n s)) && (eqNs (oth n (oth n s)) s && (Nat.beq ((oth n s).length + s.length) n && (hasN (oth n s) 0 == !hasN s 0)))
def kCn (n : Nat) : Bool := Nat.beq (prN n).length (cnt.getD (n - 1) 0) && (Nat.ble (prN n).length 1000 && (Nat.ble (sb n 0).length 100 && Nat.ble 1 (sb n 0).length))
theorem s6 (k : Nat) : kSet k 6 = true := by kernel_rfl
theorem s5 (k : Nat) : kSet k 5 = true := by kernel_rfl
theorem s4 (k : Nat) : kSet k 4 = true := by kernel_rfl
theorem s3 (k : Nat) : kSet k 3 = true := by kernel_rfl
theorem s2 (k : Nat) : kSet k 2 = true := by kernel_rfl
theorem s1 (k : Nat) : kSet k 1 = true := by kernel_rfl
theorem so6 (k : Nat) : kSo k 6 = true := by kernel_rfl
theorem so5 (k : Nat) : kSo k 5 = true := by kernel_rfl
theorem so4 (k : Nat) : kSo k 4 = true := by kernel_rfl
theorem so3 (k : Nat) : kSo k 3 = true := by kernel_rfl
theorem so2 (k : Nat) : kSo k 2 = true := by kernel_rfl
theorem so1 (k : Nat) : kSo k 1 = true := by kernel_rfl
theorem is6 (k : Nat) : kIs k 6 = true := by kernel_rfl
theorem is5 (k : Nat) : kIs k 5 = true := by kernel_rfl
theorem is4 (k : Nat) : kIs k 4 = true := by kernel_rfl
theorem is3 (k : Nat) : kIs k 3 = true := by kernel_rfl
theorem is2 (k : Nat) : kIs k 2 = true := by kernel_rfl
theorem is1 (k : Nat) : kIs k 1 = true := by kernel_rfl
theorem ot6 (k : Nat) : kOt k 6 = true := by kernel_rfl
theorem ot5 (k : Nat) : kOt k 5 = true := by kernel_rfl
theorem ot4 (k : Nat) : kOt k 4 = true := by kernel_rfl
theorem ot3 (k : Nat) : kOt k 3 = true := by kernel_rfl
theorem ot2 (k : Nat) : kOt k 2 = true := by kernel_rfl
theorem ot1 (k : Nat) : kOt k 1 = true := by kernel_rfl
theorem om : ([1, 2, 3, 4, 5, 6].all kOm) = true := by decide +kernel
theorem cn : ([1, 2, 3, 4, 5, 6].all kCn) = true := by decide +kernel
theorem pm : ([1, 2, 3, 4, 5, 6].all kPerm) = true := by decide +kernel
theorem ln : ([1, 2, 3, 4, 5, 6].all kLen) = true := by decide +kernel
theorem ch : ([1, 2, 3, 4, 5, 6].all kCh) = true := by decide +kernel
theorem all6 {P : Nat → Bool} (h : ([1, 2, 3, 4, 5, 6].all P) = true) (n : Nat) (h1 : 1 ≤ n) (h6 : n ≤ 6) : P n = true := by
  rw [List.all_eq_true] at h
  refine h n ?_
  simp only [List.mem_cons, List.not_mem_nil, or_false]
  omega
theorem six {P : Nat → Prop} (a1 : P 1) (a2 : P 2) (a3 : P 3) (a4 : P 4) (a5 : P 5) (a6 : P 6) (n : Nat) (h1 : 1 ≤ n) (h6 : n ≤ 6) : P n := by
  match n, h1, h6 with
  | 1, _, _ => exact a1
  | 2, _, _ => exact a2
  | 3, _, _ => exact a3
  | 4, _, _ => exact a4
  | 5, _, _ => exact a5
  | 6, _, _ => exact a6
theorem rf_nTs {n : Nat} (s : List Nat) : rfs [.int n, nT s] = true := by simp [rfs, rf, rf_nT]
theorem fp (n : Nat) (h1 : 1 ≤ n) (h6 : n ≤ 6) : Fp n := ⟨h1, h6, fun m m1 m2 => by
    have h := six (P := fun n => ∀ k, kSo k n = true) so1 so2 so3 so4 so5 so6 n h1 h6
    refine pl_run (j := 0) (c := ⟨2, 6, b6⟩) rfl rfl fun k => ?_
    have z := h k
    unfold kSo at z
    rw [List.all_eq_true] at z
    have := z (m - 1) (List.mem_range.mpr (by omega))
    rw [show m - 1 + 1 = m by omega] at this
    exact this, all6 pm n h1 h6, all6 ln n h1 h6, all6 ch n h1 h6⟩
theorem eq_any {s : List Nat} {l : List (List Nat)} (h : (l.any fun t => eqNs t s) = true) : s ∈ l := by
  rw [List.any_eq_true] at h
  obtain ⟨t, ht, e⟩ := h
  rw [← eqNs_eq e]
  exact ht
theorem fn (n : Nat) (h1 : 1 ≤ n) (h6 : n ≤ 6) : Fn n where
  n1 := h1
  n6 := h6
  sets := by
    have h := six (P := fun n => ∀ k, kSet k n = true) s1 s2 s3 s4 s5 s6 n h1 h6
    exact pl_run (j := 0) (c := ⟨1, 4, b19⟩) rfl rfl fun k => h k
  prod := fun k hk => products (fp n h1 h6) k (by omega)
  is := fun s hs => by
    have h := six (P := fun n => ∀ k, kIs k n = true) is1 is2 is3 is4 is5 is6 n h1 h6
    exact pu_run (j := 2) (c := ⟨2, 4, b3⟩) rfl (rf_nTs s) rfl fun k => List.all_eq_true.mp (h k) s hs
  ot := fun s hs => by
    have h := six (P := fun n => ∀ k, kOt k n = true) ot1 ot2 ot3 ot4 ot5 ot6 n h1 h6
    exact pu_run (j := 0) (c := ⟨2, 3, b7⟩) rfl (rf_nTs s) (rf_nT _) fun k => by
      have := List.all_eq_true.mp (h k) s hs
      rw [Bool.and_eq_true] at this
      exact this.1
  lf := fun s hs => by
    have h := six (P := fun n => ∀ k, kOt k n = true) ot1 ot2 ot3 ot4 ot5 ot6 n h1 h6
    exact pu_run (j := 0) (c := ⟨2, 3, b20⟩) rfl (rf_nTs s) (rf_nT _) fun k => by
      have := List.all_eq_true.mp (h k) s hs
      rw [Bool.and_eq_true] at this
      exact this.2
  om := fun s hs => by
    have h := List.all_eq_true.mp (all6 om n h1 h6) s hs
    simp only [Bool.and_eq_true, beq_iff_eq] at h
    exact ⟨eq_any h.1, eqNs_eq h.2.1, h.2.2.2, Nat.eq_of_beq_eq_true h.2.2.1⟩
theorem fa (n : Nat) (h1 : 1 ≤ n) (h6 : n ≤ 6) : Fa n := by
  have h := all6 cn n h1 h6
  unfold kCn at h
  simp only [Bool.and_eq_true] at h
  refine ⟨fn n h1 h6, Nat.le_of_ble_eq_true h.2.2.1, Nat.le_of_ble_eq_true h.2.1, Nat.eq_of_beq_eq_true h.1, fun z => ?_⟩
  have := Nat.le_of_ble_eq_true h.2.2.2
  rw [z] at this
  cases this
theorem good : Good pg 40 25 := good_of same (c := ⟨1, 9, b25⟩) rfl fun S a ns h => by
  refine law_ok fa S a ?_
  rcases h with ⟨rfl, rfl⟩ | ⟨rfl, rfl⟩
  · exact deckR_fz (k := 38) (c0 := 10875034) (mu := 69621) (ad := 34) (by omega) (by decide) rfl ns
  · exact deckR_cl (k := 38) (c0 := 10875034) (mu := 69621) (ad := 34) (by omega) (by decide) rfl ns
end

end K34
open PySem PySem.W PyProof.Rows
set_option maxRecDepth 100000 in
set_option maxHeartbeats 0 in
theorem PySem.Challenge.cw_twocompanies_k34_whole_products_of_a_siz_holds : PySem.Challenge.rw_twocompanies_k34_whole_products_of_a_siz.Holds := by
  w_on; o_law; k_head; (case hw => w_witness2)
  k_fill
  refine DI.walk (l := PySem.Challenge.rw_twocompanies_k34_whole_products_of_a_siz) K34.tx (i := 25) (k := 40) rfl K34.good ⟨rfl, by decide, by decide⟩ rfl rfl rfl (fun w h Y => PySem.W.kIn_of Y) ?F
  case F =>
    intro w mg h KX G
    refine DI.top_by KX G ?defs0 ?cons0 rfl ?blts0 ?exs0
    case defs0 =>
      refine (K34.fcons ?_ (K34.fcons ?_ (K34.fcons ?_ (K34.fcons ?_ (K34.fcons ?_ (K34.fcons ?_ (K34.fcons ?_ (K34.fcons ?_ (K34.fcons ?_ (K34.fcons ?_ (K34.fcons ?_ (K34.fcons ?_ (K34.fcons ?_ (K34.fcons ?_ (K34.fcons ?_ (K34.fcons ?_ (K34.fcons ?_ (K34.fcons ?_ (K34.fcons ?_ (K34.fcons ?_ (K34.fcons ?_ (K34.fcons ?_ (K34.fcons ?_ (K34.fcons ?_ (K34.fcons ?_ (K34.fcons ?_ K34.fnil))))))))))))))))))))))))))
      · show DI.FnF _ "is_integer" (K34.top 6)
        refine' DI.fn_fact ?a ?l ?c ?k
        (case a => k_is); (case l => k_is); (case c => k_is); (case k => k_is)
      · show DI.FnF _ "is_size" (K34.top 7)
        refine' DI.fn_fact ?a ?l ?c ?k
        (case a => k_is); (case l => k_is); (case c => k_is); (case k => k_is)
      · show DI.FnF _ "is_place" (K34.top 8)
        refine' DI.fn_fact ?a ?l ?c ?k
        (case a => k_is); (case l => k_is); (case c => k_is); (case k => k_is)
      · show DI.FnF _ "is_set" (K34.top 9)
        refine' DI.fn_fact ?a ?l ?c ?k
        (case a => k_is); (case l => k_is); (case c => k_is); (case k => k_is)
      · show DI.FnF _ "are_sets" (K34.top 10)
        refine' DI.fn_fact ?a ?l ?c ?k
        (case a => k_is); (case l => k_is); (case c => k_is); (case k => k_is)
      · show DI.FnF _ "is_pair" (K34.top 11)
        refine' DI.fn_fact ?a ?l ?c ?k
        (case a => k_is); (case l => k_is); (case c => k_is); (case k => k_is)
      · show DI.FnF _ "sets_of" (K34.top 12)
        refine' DI.fn_fact ?a ?l ?c ?k
        (case a => k_is); (case l => k_is); (case c => k_is); (case k => k_is)
      · show DI.FnF _ "other_places" (K34.top 13)
        refine' DI.fn_fact ?a ?l ?c ?k
        (case a => k_is); (case l => k_is); (case c => k_is); (case k => k_is)
      · show DI.FnF _ "need_sets" (K34.top 15)
        refine' DI.fn_fact ?a ?l ?c ?k
        (case a => k_is); (case l => k_is); (case c => k_is); (case k => k_is)
      · show DI.FnF _ "need_size" (K34.top 18)
        refine' DI.fn_fact ?a ?l ?c ?k
        (case a => k_is); (case l => k_is); (case c => k_is); (case k => k_is)
      · show DI.FnF _ "is_product" (K34.top 20)
        refine' DI.fn_fact ?a ?l ?c ?k
        (case a => k_is); (case l => k_is); (case c => k_is); (case k => k_is)
      · show DI.FnF _ "need_product" (K34.top 21)
        refine' DI.fn_fact ?a ?l ?c ?k
        (case a => k_is); (case l => k_is); (case c => k_is); (case k => k_is)
      · show DI.FnF _ "products" (K34.top 22)
        refine' DI.fn_fact ?a ?l ?c ?k
        (case a => k_is); (case l => k_is); (case c => k_is); (case k => k_is)
      · show DI.FnF _ "others_of" (K34.top 23)
        refine' DI.fn_fact ?a ?l ?c ?k
        (case a => k_is); (case l => k_is); (case c => k_is); (case k => k_is)
      · show DI.FnF _ "product_of" (K34.top 24)
        refine' DI.fn_fact ?a ?l ?c ?k
        (case a => k_is); (case l => k_is); (case c => k_is); (case k => k_is)
      · show DI.FnF _ "other_company" (K34.top 25)
        refine' DI.fn_fact ?a ?l ?c ?k
        (case a => k_is); (case l => k_is); (case c => k_is); (case k => k_is)
      · show DI.FnF _ "_law_deck" (K34.top 27)
        refine' DI.fn_fact ?a ?l ?c ?k
        (case a => k_is); (case l => k_is); (case c => k_is); (case k => k_is)
      · show DI.FnF _ "_law_draw" (K34.top 28)
        refine' DI.fn_fact ?a ?l ?c ?k
        (case a => k_is); (case l => k_is); (case c => k_is); (case k => k_is)
      · show DI.FnF _ "_law_pick" (K34.top 29)
        refine' DI.fn_fact ?a ?l ?c ?k
        (case a => k_is); (case l => k_is); (case c => k_is); (case k => k_is)
      · show DI.FnF _ "_law_sets" (K34.top 30)
        refine' DI.fn_fact ?a ?l ?c ?k
        (case a => k_is); (case l => k_is); (case c => k_is); (case k => k_is)
      · show DI.FnF _ "_law_left" (K34.top 31)
        refine' DI.fn_fact ?a ?l ?c ?k
        (case a => k_is); (case l => k_is); (case c => k_is); (case k => k_is)
      · show DI.FnF _ "_law_due" (K34.top 32)
        refine' DI.fn_fact ?a ?l ?c ?k
        (case a => k_is); (case l => k_is); (case c => k_is); (case k => k_is)
      · show DI.FnF _ "_law_is_refused" (K34.top 33)
        refine' DI.fn_fact ?a ?l ?c ?k
        (case a => k_is); (case l => k_is); (case c => k_is); (case k => k_is)
      · show DI.FnF _ "_law_pair_right" (K34.top 34)
        refine' DI.fn_fact ?a ?l ?c ?k
        (case a => k_is); (case l => k_is); (case c => k_is); (case k => k_is)
      · show DI.FnF _ "_law_pairs" (K34.top 35)
        refine' DI.fn_fact ?a ?l ?c ?k
        (case a => k_is); (case l => k_is); (case c => k_is); (case k => k_is)
      · show DI.FnF _ "law" (K34.top 36)
        refine' DI.fn_fact ?a ?l ?c ?k
        (case a => k_is); (case l => k_is); (case c => k_is); (case k => k_is)
    case cons0 =>
      refine (K34.fcons ?_ K34.fnil)
      · show DI.CnF _ "GREATEST_SIZE" (.int 6)
        refine' DI.cn_fact (v := .int 6) ?a ?r ?v
        (case a => k_is); (case r => exact ⟨_, rfl⟩); (case v => exact fun _ _ => .int _)
    case blts0 =>
      refine (K34.fcons ?_ (K34.fcons ?_ (K34.fcons ?_ (K34.fcons ?_ (K34.fcons ?_ (K34.fcons ?_ (K34.fcons ?_ (K34.fcons ?_ (K34.fcons ?_ K34.fnil)))))))))
      · show nsIn _ mainGlobals "isinstance" = some none
        k_is
      · show nsIn _ mainGlobals "int" = some none
        k_is
      · show nsIn _ mainGlobals "bool" = some none
        k_is
      · show nsIn _ mainGlobals "tuple" = some none
        k_is
      · show nsIn _ mainGlobals "len" = some none
        k_is
      · show nsIn _ mainGlobals "range" = some none
        k_is
      · show nsIn _ mainGlobals "sorted" = some none
        k_is
      · show nsIn _ mainGlobals "max" = some none
        k_is
      · show nsIn _ mainGlobals "repr" = some none
        k_is
    case exs0 =>
      refine ⟨rfl, ?exs1, by kernel_rfl⟩
      refine (K34.fcons ?_ (K34.fcons ?_ (K34.fcons ?_ (K34.fcons ?_ K34.fnil))))
      · show ∃ C, DI.ErK _ "BadSets" ⟨["thing"], [0, 3]⟩ C
        refine' DI.er_thing (x := "BadSets") (e := ⟨["thing"], [0, 3]⟩) (qn := "BadSets.__init__") ?a_0 ?f1_0 ?f2_0 ?f3_0 ?f4_0 ?f5_0 ?f6_0 ?f7_0 ?f8_0 ?g1_0 ?g2_0 ?g3_0 ?g4_0 ?g5_0 ?g6_0 ?g7_0 ?g8_0 ?g9_0 ?lk_0 ?cd_0 rfl
        (case a_0 => k_is); (case g7_0 => k_is); (case lk_0 => k_is); (case cd_0 => k_is); (all_goals first | k_is | kernel_rfl)
      · show ∃ C, DI.ErK _ "BadSize" ⟨["thing"], [1, 3]⟩ C
        refine' DI.er_thing (x := "BadSize") (e := ⟨["thing"], [1, 3]⟩) (qn := "BadSize.__init__") ?a_1 ?f1_1 ?f2_1 ?f3_1 ?f4_1 ?f5_1 ?f6_1 ?f7_1 ?f8_1 ?g1_1 ?g2_1 ?g3_1 ?g4_1 ?g5_1 ?g6_1 ?g7_1 ?g8_1 ?g9_1 ?lk_1 ?cd_1 rfl
        (case a_1 => k_is); (case g7_1 => k_is); (case lk_1 => k_is); (case cd_1 => k_is); (all_goals first | k_is | kernel_rfl)
      · show ∃ C, DI.ErK _ "BadProduct" ⟨["thing"], [2, 3]⟩ C
        refine' DI.er_thing (x := "BadProduct") (e := ⟨["thing"], [2, 3]⟩) (qn := "BadProduct.__init__") ?a_2 ?f1_2 ?f2_2 ?f3_2 ?f4_2 ?f5_2 ?f6_2 ?f7_2 ?f8_2 ?g1_2 ?g2_2 ?g3_2 ?g4_2 ?g5_2 ?g6_2 ?g7_2 ?g8_2 ?g9_2 ?lk_2 ?cd_2 rfl
        (case a_2 => k_is); (case g7_2 => k_is); (case lk_2 => k_is); (case cd_2 => k_is); (all_goals first | k_is | kernel_rfl)
      · show ∃ C, DI.ErK _ "CompanyError" ⟨[], [3]⟩ C
        refine' DI.er_base (x := "CompanyError") (e := ⟨[], [3]⟩) ?a_3 ?f1_3 ?f2_3 ?f3_3 ?f4_3 ?f5_3 ?f6_3 ?f7_3 ?f8_3 rfl
        (case a_3 => k_is); (all_goals first | k_is | kernel_rfl)
#print axioms PySem.Challenge.cw_twocompanies_k34_whole_products_of_a_siz_holds
