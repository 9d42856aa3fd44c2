import PyProof.Rows.All
import Wide.All
import OpenK.AllK
import Wide.FinOn
import KE.KStateDown
import KE.GoesMore
import KE.KOpsOwn
import HandS.ForMost
import HandS.Exc
import HandS.Defaults
import HandS.MakeKw
import HandS.Wide
import HandS.Walk
import HandS.Codes
import HandS.IsInst
import HandS.FStr
import HandS.Zip
import HandS.Style
import HandS.OwnEq
import HandS.SlotsOwn
import HandS.MakeKwOnly
import HandS.CallRecv
import HandS.TryMany
import HandS.TupAny
import HandS.NoneIn
import HandS.More
import HandS.MakeKw
import HandS.Head0
import HandS.Head1
import HandS.Head2
import HandS.Head3
import HandS.HeadEnd
import HandS.HeadHook1
import HandS.HeadHook2
import HandS.ExcOwn
import HandS.ExcInit
import HandS.ExcField
import HandS.ClsMeth
import HandS.Lambda
import HandS.EndTab
import HandS.HeadHook3
import HandS.HeadHook4
import HandS.HeadWalk
import HandS.Gcd
import PyProof.InstNe
import HandS.ExcIs
import HandS.Base
import HandS.Call
import KE.DataEq
import KE.IntTextText
import PyProof.ListStr
import HandS.StrMore
import HandS.Replace
import PySem.Challenge.RW_looptimes_k07_programs_refused
set_option Elab.async false
set_option linter.all false
set_option maxRecDepth 100000
set_option maxHeartbeats 2000000
set_option exponentiation.threshold 20000
set_option Elab.async false
set_option linter.all false
set_option maxRecDepth 100000
set_option maxHeartbeats 2000000
namespace Lt
open PySem PySem.Spec PyProof.Rows L2
/-! ### enumerate(a tuple) -/
section
open AutoSeq1 (wpAny_loadPart')
theorem meets_enumerate_newT (l : Addr) (items : Array Value) (n : Nat) (dct : Option Addr) (sl : Array (Option Value)) :
    Meets (Builtin.«enumerate.__new__» ⟨[.type "enumerate", .ref l], []⟩) (fun _ R s => s.heap.get? l = some { cls := .type "tuple", dict := dct, data := .seq items n, slots := sl } ∧
      R (.ok (.ret (.ref (s.heap.push { cls := .type "tuple_iterator", data := .fields #[.ref l, .int 0 0] }).objs.size)))
        { s with heap := (s.heap.push { cls := .type "tuple_iterator", data := .fields #[.ref l, .int 0 0] }).push { cls := .type "enumerate", data := .fields #[.none, .bool false, .ref s.heap.objs.size, rawInt 0, .none, .none] } }) :=
  .of_wp fun prog w A R s h => by
    obtain ⟨hp, g, d, tk, os⟩ := s; obtain ⟨hl, h⟩ := h
    have hsub := sub_enumerate
    have hL : Heap.IsTuple (Shared.heap ⟨hp, g, d, tk, os⟩) l items := ⟨_, hl, rfl, n, rfl⟩
    wp_walk using wpAny_loadPart' hl
    refine wpAny_stack_any fun st => wpAny_pure ?_
    split
    · rename_i c _ _ _ _ _
      cases (c == Value.type "enumerate")
      · wp_walk using wpAny_loadPart' hl, wpAny_pyIter_tuple hL
        exact ⟨_, rfl, h⟩
      · wp_walk using wpAny_loadPart' hl, wpAny_pyIter_tuple hL
        exact ⟨_, rfl, h⟩
    · wp_walk using wpAny_loadPart' hl, wpAny_pyIter_tuple hL
      exact ⟨_, rfl, h⟩
variable {prog : Program} {w : World} {A : Around} {E : Value → Shared → Prop} {s : Shared}
theorem call_enumerate_tup {l : Addr} {items : Array Value} {Q : Value → Shared → Prop} (hL : s.heap.IsTuple l items)
    (h : ∀ h', IsEnum h' (s.heap.objs.size + 1) s.heap.objs.size 0 .none → h'.IsTupleIter s.heap.objs.size l 0 → h'.objs.size = s.heap.objs.size + 2 →
      (∀ b o, s.heap.get? b = some o → h'.get? b = some o) → Q (.ref (s.heap.objs.size + 1)) { s with heap := h' }) :
    wpAny (model prog w) A (call (.type "enumerate") [.ref l]) Q E s := by
  obtain ⟨⟨c, dct, dt, sl⟩, hl, hc, n, hd⟩ := hL
  replace hc : c = .type "tuple" := hc
  replace hd : dt = .seq items n := hd
  subst hc hd
  refine callType_new F.called_enumerate (by decide) (F.typeCall_enumerate_1 _) (F.newCall_enumerate_1 _) (fun obj => F.args_object_init_2 obj _) F.entry_enumerate_new
    (meets_enumerate_newT l items n dct sl) ⟨hl, ?_⟩
  have hz : (s.heap.push { cls := .type "tuple_iterator", data := .fields #[.ref l, .int 0 0] }).objs.size = s.heap.objs.size + 1 := Heap.size_push ..
  show _ ∧ _
  rw [hz]
  have he : IsEnum ((s.heap.push { cls := .type "tuple_iterator", data := .fields #[.ref l, .int 0 0] }).push
      { cls := .type "enumerate", data := .fields #[.none, .bool false, .ref s.heap.objs.size, rawInt 0, .none, .none] }) (s.heap.objs.size + 1) s.heap.objs.size 0 .none := by
    have := Heap.get?_push_size (s.heap.push { cls := .type "tuple_iterator", data := .fields #[.ref l, .int 0 0] })
      (o := { cls := .type "enumerate", data := .fields #[.none, .bool false, .ref s.heap.objs.size, rawInt 0, .none, .none] }) rfl
    rw [hz] at this; exact this
  refine ⟨⟨_, he, rfl⟩, h _ he ⟨_, Heap.get?_push_of_some _ (Heap.get?_push_size _ rfl), rfl, rfl⟩ (by rw [Heap.size_push, hz]) fun b o x => Heap.get?_push_of_some _ (Heap.get?_push_of_some _ x)⟩
end
def IteT (K : PySem.W.Frag) (a : Addr) : It :=
  ⟨fun i H => ∃ (xs : List V) (x : V), SqT K H a xs ∧ xs[i]? = some x, fun i H v H' => ∃ T x, v = .ref T ∧ H T = none ∧ H' = upd H T (.tup [.int (i : Nat), x]) ∧ ∀ xs, SqT K H a xs → xs[i]? = some x, fun i H => ∃ xs : List V, SqT K H a xs ∧ xs.length ≤ i⟩
theorem tup_ne_iter {h : Heap} {t it a : Addr} {i : Nat} {items : Array Value} (ht : h.IsTuple t items) (hi : h.IsTupleIter it a i) : t ≠ it := by
  rintro rfl
  obtain ⟨o, ho, hc, _⟩ := ht
  obtain ⟨o2, ho2, hc2, _⟩ := hi
  rw [ho] at ho2
  cases ho2
  rw [hc] at hc2
  injection hc2 with q
  exact absurd q (by decide)
theorem turn_enumT {P : Program} {w : World} {K : PySem.W.Frag} {elts : List Expr} {kk : Nat} {tpos : Pos} (a e it : Addr) :
    Turn P w K (.Tuple elts kk tpos) (IteT K a) [e, it] e (fun i h => (∃ old, IsEnum h e it ((i : Nat) : Int) old) ∧ h.IsTupleIter it a i ∧ e ≠ it) where
  mem := by simp
  obj := fun i h st b hb => by
    obtain ⟨⟨old, he⟩, ⟨o, ho, hc, hd⟩, _⟩ := st
    have e' : b = e ∨ b = it := by simpa using hb
    rcases e' with z | z
    · rw [z]; exact ⟨_, he, fun v q => nomatch q⟩
    · rw [z]; exact ⟨o, ho, fun v q => by rw [hd] at q; cases q⟩
  keep := fun i h h' st k => let ⟨⟨old, he⟩, hi, hne⟩ := st; ⟨⟨old, k e (by simp) _ he⟩, hi.at fun o q => k it (by simp) o q, hne⟩
  item := by
    intro X hP hw hK hc i pins s σ H E I hf st hg
    subst hP hw hK
    obtain ⟨⟨old, he⟩, hit, hne⟩ := st
    obtain ⟨xs, x, hq, hx⟩ := hg
    obtain ⟨its, rv, p, hz⟩ := I.tuple hq
    obtain ⟨u, hu, ru⟩ := rv.get hx
    have ht : s.heap.IsTuple a its.toArray := p
    have hel : e < s.heap.objs.size := Heap.lt_size he
    have hil : it < s.heap.objs.size := by obtain ⟨_, q, _⟩ := hit; exact Heap.lt_size q
    have hane : a ≠ it := tup_ne_iter ht hit
    have hea : e ≠ a := by
      rintro rfl
      obtain ⟨o, ho, hc2, _⟩ := ht
      rw [show s.heap.get? e = some _ from he] at ho
      cases ho
      injection hc2 with q
      exact absurd q (by decide)
    have hlt : i < its.toArray.size := by
      have q := (List.getElem?_eq_some_iff.mp hu).1
      simpa using q
    refine wpAny_pyNext_enum_itemD (Draws.tuple (A := X.A.in1) (I.ok.hd hc) it a hane its.toArray) he ⟨hit, ht⟩ hlt hne (by simp [hea, hne]) fun x' h' tk hx' ho hst hT hsz hk => ?_
    have ex : x' = u := by
      have hx2 : its.toArray[i]? = some x' := hx'
      have hu2 : its.toArray[i]? = some u := by simpa using hu
      rw [hu2] at hx2
      cases hx2
      rfl
    subst ex
    refine ⟨_, rfl, wpAny_letOwnedTupleGo_enum (s := { s with heap := h', toks := tk + 1 }) ho fun h'' he' sb => ?_⟩
    have hT2 : h''.get? s.heap.objs.size = some { cls := .type "tuple", data := .seq #[.int i tk, x'] } := (sb.2 _ (Nat.ne_of_gt hel)).trans hT
    have new : ObjOk X.prog X.w (upd H s.heap.objs.size (.tup [.int (i : Nat), x])) h'' s.heap.objs.size (.tup [.int (i : Nat), x]) :=
      ⟨by show 2 ≤ sizeLine; decide, [.int i tk, x'], .cons ⟨_, rfl⟩ (.cons ru .nil), ⟨_, hT2, rfl, _, rfl⟩⟩
    have I1 : Inv X pins σ (upd H s.heap.objs.size (.tup [.int (i : Nat), x])) { s with heap := h'', toks := tk + 1 } :=
      I.turnedNew (ch := [e, it]) (fun b ob hb q => (sb.2 b (fun z => hb (by simp [z]))).trans (hk b ob (fun z => hb (by simp [z])) (fun z => hb (by simp [z])) q)) hf (Nat.le_refl _) new
    refine ⟨.ref s.heap.objs.size, _, I1, rfl, ⟨_, x, rfl, I.hok.fresh (Nat.le_refl _), rfl, fun ys hy => by rw [I.tuple_inj hy hq]; exact hx⟩, ⟨⟨x', ?_⟩, hst.1.at fun o q => (sb.2 it (Ne.symm hne)).trans q, hne⟩, fun b hb => ?_⟩
    · have e1 : ((i + 1 : Nat) : Int) = (i : Int) + 1 := by omega
      rw [e1]; exact he'
    · have hb' : b < s.heap.objs.size := by
        have e' : b = e ∨ b = it := by simpa using hb
        rcases e' with z | z
        · rw [z]; exact hel
        · rw [z]; exact hil
      rw [upd_ne (Nat.ne_of_lt hb')]
      exact (hf b hb).1
  done := by
    intro X hP hw hK hc i pins s σ H E I hf st hg
    subst hP hw hK
    obtain ⟨⟨old, he⟩, hit, hne⟩ := st
    obtain ⟨xs, hq, hx⟩ := hg
    obtain ⟨its, rv, p, hz⟩ := I.tuple hq
    have ht : s.heap.IsTuple a its.toArray := p
    obtain ⟨f0, f1, f2, f3, f4, f5⟩ := hf it (by simp)
    have hl := rv.length
    have hT : s.TypeIs (.ref e) "enumerate" := ⟨_, he, rfl⟩
    have hane : a ≠ it := tup_ne_iter ht hit
    unfold pyNext
    refine wpAny_bind (wpAny_attempt (wpAny_callSpecial?_slot (name := Str.ofString "__next__") hT F.slot_enumerate_next
      (wpAny_call_entry F.slot_enumerate_next hT F.entry_enumerate_next ?_ (F.args_enumerate_next_1 _))))
    show wpAny _ _ (field (.ref e) 2 >>= _) _ _ _
    refine wpAny_bind (wpAny_field he rfl (x := .ref it) rfl ?_)
    refine wpAny_bind (wpAny_nextOf_tuple_end (I.ok.hd hc) hit ht (by simp; omega) fun h' x he' hx' => ?_)
    obtain ⟨o, ho, hc⟩ := hx'
    refine wpAny_bind (wpAny_isInstance (T := "StopIteration") (b := true) ⟨o, ho, hc⟩ isSubtype_stop ?_)
    exact wpAny_pure ⟨rfl, I.turned (t' := s.toks) (fun b o hb q => he' b o hb q) f0 f1 f3 f4 f5⟩
  self := fun A i s Q E st h => let ⟨⟨_, he⟩, _⟩ := st; wpAny_pyIter_enum he h
def iEnumT (K : PySem.W.Frag) (ta : TA) : TI := fun σ H R => ta σ H fun vs H1 => ∃ a xs, vs = [.ref a] ∧ SqT K H1 a xs ∧ R (IteT K a) H1
theorem pi_enumT {X : Cx} {e : Expr} {ta : TA} {p pos tpos : Pos} {elts : List Expr} {kk : Nat} (hg : Gl X "enumerate") (hm : X.mg "enumerate" = none) (ha : PA X [e] ta) (hs : starEach [e] X.env = [(false, eval e X.env)] := by rfl) :
    PI X (.Tuple elts kk tpos) (.Call (.Name "enumerate" p) [e] [] pos) (iEnumT X.K ta) := by
  refine ⟨fun pins s σ H R I h => ?_⟩
  refine Call_ (ld_blt I hg hm boot_enumerate (PyProof.Rows.callWith_type1 (thn (ha.run pos pins s σ H _ I h) fun us s1 ⟨vs, H1, I1, r1, q1⟩ => ?_) hs rfl))
  obtain ⟨a, xs, ex, hq, q⟩ := q1
  subst ex
  cases r1 with
  | cons r rr =>
    cases rr
    cases r
    obtain ⟨its, rv, p', hz⟩ := I1.tuple hq
    refine call_enumerate_tup (show s1.heap.IsTuple a its.toArray from p') fun h' he hit hsz hk => wpAny_pyIter_enum he ?_
    have I2 : Inv X pins σ H1 { s1 with heap := h' } := I1.kept (t' := s1.toks) hk
    refine ⟨s1.heap.objs.size + 1, [s1.heap.objs.size + 1, s1.heap.objs.size], _, _, H1, rfl, I2, turn_enumT a (s1.heap.objs.size + 1) s1.heap.objs.size, ⟨⟨.none, he⟩, hit, Nat.succ_ne_self _⟩, fun b hb => ?_, q⟩
    have e' : b = s1.heap.objs.size + 1 ∨ b = s1.heap.objs.size := by simpa using hb
    have hle : s1.heap.objs.size ≤ b := by
      rcases e' with z | z
      · rw [z]; exact Nat.le_add_right _ _
      · rw [z]; exact Nat.le_refl _
    exact I1.fpOk hle (I1.hok.fresh hle)
theorem walk_enumT {K : PySem.W.Frag} {a : Addr} {xs : List V} : Walk (IteT K a) xs.length (fun H => SqT K H a xs) (YPair (fun i => some (.int (i : Nat))) (fun i => xs[i]?)) := by
  refine ⟨fun i _ hi q => ⟨xs, xs[i], q, by simp [hi]⟩, fun _ q => ⟨xs, q, Nat.le_refl _⟩, fun i H v H' _ q y => ?_⟩
  obtain ⟨T, x, h1, h2, h3, h4⟩ := y
  exact ⟨T, .int (i : Nat), x, h1, h2, h3, rfl, h4 xs q⟩
/-! ### a Hook with further facts -/
def obsM (fa : List He.Fa) (fs : List (PySem.W.Frag → Bool)) (fn : List He.DefD) (K : PySem.W.Frag) : He.AlD := ((fa.all fun f => f.ok K) && ((fs.all fun f => f K) && fn.all fun d => d.ok K), fn.map fun d => He.fnW K d.at_)
def SaysM (fa : List He.Fa) (fs : List (PySem.W.Frag → Bool)) (fn : List He.DefD) (K : PySem.W.Frag) : Prop := obsM fa fs fn K = He.valD fn
def obsMG (n : Nat) (fa : List He.Fa) (fs : List (PySem.W.Frag → Bool)) (fn : List He.DefD) (g : Addr → Option Obj) : He.AlD := obsM fa fs fn (He.frG g (He.asD g n))
def hookM (n : Nat) (fa : List He.Fa) (fs : List (PySem.W.Frag → Bool)) (fn : List He.DefD) : PySem.W.Hook where
  α := He.AlD
  obs := fun s => obsMG n fa fs fn s.heap.get?
  val := fun _ => He.valD fn
  says := fun _ h => ∃ K : PySem.W.Frag, K.In h ∧ SaysM fa fs fn K
  of := fun _ _ e => ⟨_, He.frG_in, e⟩
  keeps := fun _ _ _ ⟨K, hK, c⟩ k => ⟨K, PySem.W.Frag.In.keeps hK k, c⟩
theorem obsMG_eq {n : Nat} {fa : List He.Fa} {fs : List (PySem.W.Frag → Bool)} {fn : List He.DefD} {g : Addr → Option Obj} {s : Shared} (h : ∀ a, g a = s.heap.get? a) : obsMG n fa fs fn g = (hookM n fa fs fn).obs s := by
  have e : g = s.heap.get? := funext h
  rw [e] <;> rfl
section
variable {fa : List He.Fa} {fs : List (PySem.W.Frag → Bool)} {fn : List He.DefD} {K : PySem.W.Frag}
theorem SaysM.fact (c : SaysM fa fs fn K) (i : Nat) {f : He.Fa} (h : fa[i]? = some f) : f.ok K = true := by
  have c1 := (He.ba (show ((fa.all fun f => f.ok K) && ((fs.all fun f => f K) && fn.all fun d => d.ok K)) = true from congrArg (fun z : He.AlD => z.1) c)).1
  exact List.all_eq_true.mp c1 f (List.mem_of_getElem? h)
theorem SaysM.chk (c : SaysM fa fs fn K) (i : Nat) {f : PySem.W.Frag → Bool} (h : fs[i]? = some f) : f K = true := by
  have c1 := (He.ba (He.ba (show ((fa.all fun f => f.ok K) && ((fs.all fun f => f K) && fn.all fun d => d.ok K)) = true from congrArg (fun z : He.AlD => z.1) c)).2).1
  exact List.all_eq_true.mp c1 f (List.mem_of_getElem? h)
theorem SaysM.def_ (c : SaysM fa fs fn K) (i : Nat) {d : He.DefD} (h : fn[i]? = some d) : ∃ fd, FunD K d.name d.qual d.params d.body d.scope (d.dvs K) (d.kws K) (He.fAd K d.at_) fd := by
  have c2 := (He.ba (He.ba (show ((fa.all fun f => f.ok K) && ((fs.all fun f => f K) && fn.all fun d => d.ok K)) = true from congrArg (fun z : He.AlD => z.1) c)).2).2
  have e : fn.map (fun d => He.fnW K d.at_) = fn.map He.DefD.val := congrArg (fun z : He.AlD => z.2) c
  have e2 : (fn.map fun d => He.fnW K d.at_)[i]? = (fn.map He.DefD.val)[i]? := by rw [e]
  rw [List.getElem?_map, List.getElem?_map, h] at e2
  exact He.DefD.funD (Option.some.inj e2) (List.all_eq_true.mp c2 d (List.mem_of_getElem? h))
end
/-! ### the ledger: what is known of a heap, by addresses -/
abbrev Led := List (Addr × (HO → Prop))
def Is (o : HO) : HO → Prop := fun x => x = o
/-- behind H0: what stood there stands, but for the addresses of S, which hold something -/
def Kp (S : List Addr) (H0 H : Hp) : Prop := ∀ b o, H0 b = some o → H b = some o ∨ (b ∈ S ∧ ∃ u, H b = some u)
structure Stt (H0 : Hp) (S : List Addr) (l : Led) (H : Hp) : Prop where
  keep : Kp S H0 H
  nd : (l.map (·.1)).Nodup
  at_ : ∀ e ∈ l, ∃ o, H e.1 = some o ∧ e.2 o
inductive Put : Led → Addr → (HO → Prop) → Led → Prop where
  | head {a : Addr} {f g : HO → Prop} {l : Led} : Put ((a, f) :: l) a g ((a, g) :: l)
  | tail {a : Addr} {g : HO → Prop} {x : Addr × (HO → Prop)} {l l' : Led} (h : Put l a g l') : Put (x :: l) a g (x :: l')
theorem Kp.refl {S : List Addr} (H : Hp) : Kp S H H := fun _ _ e => .inl e
theorem Kp.none {S : List Addr} {H0 H : Hp} (h : Kp S H0 H) {p : Addr} (hp : H p = none) : H0 p = none := by
  cases e : H0 p with
  | none => rfl
  | some o =>
    rcases h p o e with q | ⟨_, u, q⟩
    · rw [hp] at q; cases q
    · rw [hp] at q; cases q
theorem Kp.trans {S S' : List Addr} {H0 H1 H2 : Hp} (a : Kp S H0 H1) (b : Kp S' H1 H2) (hs : ∀ x ∈ S', x ∈ S ∨ H0 x = Option.none) : Kp S H0 H2 := fun x o e => by
  rcases a x o e with q | ⟨m, u, q⟩
  · rcases b x o q with r | ⟨m, r⟩
    · exact .inl r
    · rcases hs x m with z | z
      · exact .inr ⟨z, r⟩
      · rw [e] at z; cases z
  · rcases b x u q with r | ⟨_, r⟩
    · exact .inr ⟨m, u, r⟩
    · exact .inr ⟨m, r⟩
theorem Kp.same {H0 H : Hp} (h : Kp [] H0 H) : Same H0 H := fun b o e => (h b o e).elim id fun z => nomatch z.1
theorem Kp.of_same {S : List Addr} {H0 H : Hp} (h : Same H0 H) : Kp S H0 H := fun b o e => .inl (h b o e)
theorem Kp.mono {S S' : List Addr} {H0 H : Hp} (h : Kp S H0 H) (hs : ∀ x ∈ S, x ∈ S') : Kp S' H0 H := fun b o e => (h b o e).imp id fun z => ⟨hs b z.1, z.2⟩
theorem Kp.get {S : List Addr} {H0 H : Hp} (h : Kp S H0 H) {a : Addr} {o : HO} (ha : a ∉ S) (e : H0 a = some o) : H a = some o := (h a o e).elim id fun z => absurd z.1 ha
theorem Kp.seqL {S : List Addr} {K : PySem.W.Frag} {H H' : Hp} {l : Addr} {xs : List V} (a : Kp S H H') (hl : l ∉ S) (h : SqL K H l xs) : SqL K H' l xs := by
  rcases h with (h | ⟨o, h⟩) | h
  · exact .inl (.inl (a.get hl h))
  · exact .inl (.inr ⟨o, a.get hl h⟩)
  · exact .inr h
section
variable {H0 H H1 : Hp} {S : List Addr} {l l' : Led} {a p : Addr} {o : HO} {f : HO → Prop}
theorem Put.keys (h : Put l a f l') : l'.map (·.1) = l.map (·.1) := by
  induction h with
  | head => rfl
  | tail h ih => simp only [List.map_cons, ih]
theorem Put.mem (h : Put l a f l') : a ∈ l.map (·.1) := by
  induction h with
  | head => exact List.mem_cons_self
  | tail h ih => exact List.mem_cons_of_mem _ ih
theorem Put.new (h : Put l a f l') (hn : (l.map (·.1)).Nodup) : ∀ e ∈ l', (e = (a, f)) ∨ (e ∈ l ∧ e.1 ≠ a) := by
  induction h with
  | head =>
    intro e he
    rcases List.mem_cons.mp he with z | z
    · exact .inl z
    · refine .inr ⟨List.mem_cons_of_mem _ z, fun q => ?_⟩
      rw [List.map_cons, List.nodup_cons] at hn
      exact hn.1 (List.mem_map.mpr ⟨e, z, q⟩)
  | @tail a g x l l' h ih =>
    intro e he
    rw [List.map_cons, List.nodup_cons] at hn
    rcases List.mem_cons.mp he with z | z
    · subst z
      refine .inr ⟨List.mem_cons_self, fun q => ?_⟩
      exact hn.1 (q ▸ h.mem)
    · rcases ih hn.2 e z with q | ⟨q1, q2⟩
      · exact .inl q
      · exact .inr ⟨List.mem_cons_of_mem _ q1, q2⟩
theorem Stt.nil : Stt H S [] H := ⟨.refl H, List.nodup_nil, fun _ h => nomatch h⟩
theorem Stt.none (h : Stt H0 S l H) (hp : H p = none) : H0 p = none := h.keep.none hp
theorem Stt.get (h : Stt H0 S l H) (m : (a, Is o) ∈ l) : H a = some o := by
  obtain ⟨u, e1, e2⟩ := h.at_ _ m
  rw [e1, show u = o from e2]
theorem Stt.pick (h : Stt H0 S l H) (m : (a, f) ∈ l) : ∃ o, H a = some o ∧ f o := h.at_ _ m
theorem Stt.ne (h : Stt H0 S l H) {b : Addr} {g : HO → Prop} (m : (a, f) ∈ l) (m2 : (b, g) ∈ l) (hd : ∀ o, f o → ¬ g o) : a ≠ b := by
  rintro rfl
  obtain ⟨o, e1, e2⟩ := h.at_ _ m
  obtain ⟨o2, e3, e4⟩ := h.at_ _ m2
  rw [e1] at e3
  cases e3
  exact hd _ e2 e4
theorem Stt.fresh (h : Stt H0 S l H) (hp : H p = Option.none) : p ∉ l.map (·.1) := fun m => by
  obtain ⟨e, me, q⟩ := List.mem_map.mp m
  obtain ⟨o, h1, _⟩ := h.at_ e me
  rw [q, hp] at h1
  cases h1
theorem Stt.new (h : Stt H0 S l H) (hp : H p = Option.none) (o : HO) : Stt H0 S ((p, Is o) :: l) (upd H p o) where
  keep := fun b u e => by
    rcases h.keep b u e with q | ⟨m, v, q⟩
    · exact .inl (by rw [upd_ne (ne_of_none q hp)]; exact q)
    · exact .inr ⟨m, v, by rw [upd_ne (ne_of_none q hp)]; exact q⟩
  nd := by
    rw [List.map_cons]
    exact List.nodup_cons.mpr ⟨h.fresh hp, h.nd⟩
  at_ := fun e m => by
    rcases List.mem_cons.mp m with z | z
    · subst z
      exact ⟨o, upd_same, rfl⟩
    · obtain ⟨u, h1, h2⟩ := h.at_ e z
      exact ⟨u, by rw [upd_ne (ne_of_none h1 hp)]; exact h1, h2⟩
theorem Stt.set (h : Stt H0 S l H) (u : Put l a (Is o) l') (ha : a ∈ S ∨ H0 a = Option.none) : Stt H0 S l' (upd H a o) where
  keep := fun b v e => by
    by_cases hb : b = a
    · subst hb
      rcases ha with z | z
      · exact .inr ⟨z, o, upd_same⟩
      · rw [e] at z; cases z
    · rw [upd_ne hb]
      exact h.keep b v e
  nd := by rw [u.keys]; exact h.nd
  at_ := fun e m => by
    rcases u.new h.nd e m with z | ⟨z1, z2⟩
    · subst z
      exact ⟨o, upd_same, rfl⟩
    · obtain ⟨v, h1, h2⟩ := h.at_ e z1
      exact ⟨v, by rw [upd_ne z2]; exact h1, h2⟩
/-- one entry told otherwise -/
theorem Stt.re (h : Stt H0 S l H) (u : Put l a f l') (hf : ∃ o, H a = some o ∧ f o) : Stt H0 S l' H := ⟨h.keep, by rw [u.keys]; exact h.nd, fun e m => by
  rcases u.new h.nd e m with z | ⟨z1, _⟩
  · subst z
    exact hf
  · exact h.at_ e z1⟩
theorem Stt.sub (h : Stt H0 S l H) (s : List.Sublist l' l) : Stt H0 S l' H := ⟨h.keep, List.Nodup.sublist (s.map _) h.nd, fun e m => h.at_ e (s.subset m)⟩
/-- a further entry, of another kind than all others -/
theorem Stt.add (h : Stt H0 S l H) (hf : ∃ o, H a = some o ∧ f o) (hn : a ∉ l.map (·.1)) : Stt H0 S ((a, f) :: l) H := ⟨h.keep, by
  rw [List.map_cons]
  exact List.nodup_cons.mpr ⟨hn, h.nd⟩, fun e m => by
  rcases List.mem_cons.mp m with z | z
  · subst z
    exact hf
  · exact h.at_ e z⟩
/-- behind a call that changed the addresses of S' alone and left them as they were told -/
theorem Stt.after {S' : List Addr} (h : Stt H0 S l H) (k : Kp S' H H1) (hs : ∀ x ∈ S', x ∈ S ∨ H0 x = Option.none) (hf : ∀ e ∈ l, e.1 ∈ S' → ∃ o, H1 e.1 = some o ∧ e.2 o) : Stt H0 S l H1 := ⟨h.keep.trans k hs, h.nd, fun e m => by
  obtain ⟨o, h1, h2⟩ := h.at_ e m
  by_cases z : e.1 ∈ S'
  · exact hf e m z
  · exact ⟨o, k.get z h1, h2⟩⟩
theorem Stt.after0 (h : Stt H0 S l H) (k : Kp [] H H1) : Stt H0 S l H1 := h.after k (fun _ z => nomatch z) fun _ _ z => nomatch z
/-- .. of one address -/
theorem Stt.after1 (h : Stt H0 S l H) (m : (a, f) ∈ l) (k : Kp [a] H H1) (hs : a ∈ S ∨ H0 a = Option.none) (hf : ∃ o, H1 a = some o ∧ f o) : Stt H0 S l H1 :=
  h.after k (fun x z => by rw [List.mem_singleton.mp z]; exact hs) fun e me z => by
    have q : e.1 = a := List.mem_singleton.mp z
    have : e = (a, f) := by
      have n := h.nd
      have i1 : (a, f).1 = e.1 := q.symm
      exact (inj_of_nodup n me m q)
    subst this
    exact hf
where
  inj_of_nodup : ∀ {l : Led} (_ : (l.map (·.1)).Nodup) {x y : Addr × (HO → Prop)}, x ∈ l → y ∈ l → x.1 = y.1 → x = y
    | [], _, _, _, h, _, _ => nomatch h
    | z :: r, n, x, y, hx, hy, e => by
      rw [List.map_cons, List.nodup_cons] at n
      rcases List.mem_cons.mp hx with q | q
      · rcases List.mem_cons.mp hy with q2 | q2
        · rw [q, q2]
        · exact absurd (List.mem_map.mpr ⟨y, q2, by rw [← e, q]⟩) n.1
      · rcases List.mem_cons.mp hy with q2 | q2
        · exact absurd (List.mem_map.mpr ⟨x, q, by rw [e, q2]⟩) n.1
        · exact inj_of_nodup n.2 q q2 e
/-- .. which is told otherwise behind it -/
theorem Stt.afterX {g : HO → Prop} (h : Stt H0 S ((a, f) :: l) H) (k : Kp [a] H H1) (hs : a ∈ S ∨ H0 a = Option.none) (hg : ∃ o, H1 a = some o ∧ g o) : Stt H0 S ((a, g) :: l) H1 := by
  have h2 : Stt H0 S ((a, fun _ => True) :: l) H := h.re .head (by obtain ⟨o, e, _⟩ := h.pick (a := a) (f := f) List.mem_cons_self; exact ⟨o, e, trivial⟩)
  obtain ⟨o, e, q⟩ := hg
  exact (h2.after1 List.mem_cons_self k hs ⟨o, e, trivial⟩).re .head ⟨o, e, q⟩
theorem Stt.base {S' : List Addr} (h : Stt H0 S l H) (s : List.Sublist l' l) : Stt H S' l' H := ⟨.refl H, List.Nodup.sublist (s.map _) h.nd, fun e m => h.at_ e (s.subset m)⟩
theorem Stt.sqL {K : PySem.W.Frag} {xs : List V} (h : Stt H0 S l H) (m : (a, Is (.lst xs)) ∈ l) : SqL K H a xs := .inl (.inl (h.get m))
theorem Stt.sqT {K : PySem.W.Frag} {xs : List V} (h : Stt H0 S l H) (m : (a, Is (.tup xs)) ∈ l) : SqT K H a xs := .inl (.inl (h.get m))
theorem Stt.sqF {K : PySem.W.Frag} {xs : List V} {fo : Obj} (h : Stt H0 S l H) (m : (a, Is (.frz fo (.lst xs))) ∈ l) : SqL K H a xs := .inl (.inr ⟨fo, h.get m⟩)
end
/-- a draw's state: a list [cells, nth, value, flag]; cells a list of ints -/
def DrS (c : Addr) : HO → Prop := fun o => ∃ (nth val : Int) (fl : Bool), o = .lst [.ref c, .int nth, .int val, .bl fl]
/-! ### readings, one step each -/
namespace Rd
variable {K : PySem.W.Frag} {D : Ends} {σ : L2.St} {H H0 : Hp} {Q : VK} {S : List Addr} {l l' : Led} {t t1 t2 u : TS} {te ta tb tc : TE} {x y v : V} {r : R2} {i j : Nat}
theorem seq (h : t1 { D with nx := t2 D } σ H) : tSeq t1 t2 D σ H := h
theorem cut (Mid : L2.St → Hp → Prop) (h1 : t1 { D with nx := Mid } σ H) (h2 : ∀ σ' H', Mid σ' H' → t2 D σ' H') : C8.tCut t1 t2 D σ H := ⟨Mid, h1, h2⟩
theorem next (h : D.nx σ H) : tNext D σ H := h
theorem brk (h : D.bk σ H) : tBreak D σ H := h
theorem cont (h : D.ct σ H) : tCont D σ H := h
theorem asg (h : te σ H fun x H1 => D.nx (σ.set i (some x)) H1) : tAsg te (gName i) D σ H := h
theorem drop (h : te σ H fun _ H1 => D.nx σ H1) : tDrop te D σ H := h
theorem ret (h : te σ H D.rt) : tRet te D σ H := h
theorem retN (h : D.rt .non H) : tRetN D σ H := h
def Par (D : Ends) (σ : L2.St) (i j : Nat) (vs : List V) (H1 : Hp) : Prop := ∃ v w, vs = [v, w] ∧ D.nx ((σ.set i (some v)).set j (some w)) H1
theorem par {ta : TA} (h : ta σ H fun vs H1 => Par D σ i j vs H1) : tPar i j ta D σ H := h
theorem parL {v w : V} (h : D.nx ((σ.set i (some v)).set j (some w)) H) : Par D σ i j [v, w] H := ⟨v, w, rfl, h⟩
theorem var (e : σ[i]? = some (some v)) (h : Q v H) : tVar i σ H Q := ⟨v, e, h⟩
theorem con (h : Q v H) : tC v σ H Q := h
theorem op (h : ta σ H fun x H1 => tb σ H1 fun y H2 => r x y H2 Q) : tOp r ta tb σ H Q := h
theorem un {r : V → Hp → VK → Prop} (h : ta σ H fun x H1 => r x H1 Q) : tUn r ta σ H Q := h
theorem i0 {g : Int → Int → V} {a b : Int} (h : Q (g a b) H) : rI0 g (.int a) (.int b) H Q := ⟨a, b, rfl, rfl, h⟩
theorem ic {C : Int → Int → Prop} {g : Int → Int → V} {a b : Int} (c : C a b) (h : Q (g a b) H) : rI C g (.int a) (.int b) H Q := ⟨a, b, rfl, rfl, c, h⟩
theorem u1 {g : Int → V} {a : Int} (h : Q (g a) H) : rU g (.int a) H Q := ⟨a, rfl, h⟩
theorem eqS (s : scal x y = true) (h : Q (.bl (decide (x = y))) H) : rEq x y H Q := ⟨s, h⟩
theorem neS (s : scal x y = true) (h : Q (.bl (!decide (x = y))) H) : rNe x y H Q := ⟨s, h⟩
theorem nil {Q : List V → Hp → Prop} (h : Q [] H) : tNil σ H Q := h
theorem cons {ts : TA} {Q : List V → Hp → Prop} (h : te σ H fun x H1 => ts σ H1 fun xs H2 => Q (x :: xs) H2) : tCons te ts σ H Q := h
def Tup (vs : List V) (H1 : Hp) (Q : VK) : Prop := vs.length ≤ sizeLine ∧ ∀ p, H1 p = none → Q (.ref p) (upd H1 p (.tup vs))
def Lst (vs : List V) (H1 : Hp) (Q : VK) : Prop := vs.length ≤ sizeLine ∧ ∀ p, H1 p = none → Q (.ref p) (upd H1 p (.lst vs))
theorem tup {ta : TA} (h : ta σ H fun vs H1 => Tup vs H1 Q) : tTup ta σ H Q := h
theorem lst {ta : TA} (h : ta σ H fun vs H1 => Lst vs H1 Q) : tLst ta σ H Q := h
theorem tupN {vs : List V} (st : Stt H0 S l H) (hz : vs.length ≤ 100000) (k : ∀ p H1, H0 p = none → Stt H0 S ((p, Is (.tup vs)) :: l) H1 → Q (.ref p) H1) : Tup vs H Q :=
  ⟨Nat.le_trans hz (by decide), fun p hp => k p _ (st.none hp) (st.new hp _)⟩
theorem lstN {vs : List V} (st : Stt H0 S l H) (hz : vs.length ≤ 100000) (k : ∀ p H1, H0 p = none → Stt H0 S ((p, Is (.lst vs)) :: l) H1 → Q (.ref p) H1) : Lst vs H Q :=
  ⟨Nat.le_trans hz (by decide), fun p hp => k p _ (st.none hp) (st.new hp _)⟩
theorem ixL {p : Addr} {xs : List V} {z : Int} (st : Stt H0 S l H) (m : (p, Is (.lst xs)) ∈ l) (e : atI xs z = some v) (h : Q v H) : rIxL K (.ref p) (.int z) H Q := ⟨p, xs, z, v, rfl, rfl, st.sqL m, e, h⟩
theorem ixT {p : Addr} {xs : List V} {z : Int} (st : Stt H0 S l H) (m : (p, Is (.tup xs)) ∈ l) (e : atI xs z = some v) (h : Q v H) : rIxT K (.ref p) (.int z) H Q := ⟨p, xs, z, v, rfl, rfl, st.sqT m, e, h⟩
theorem ixLs {p : Addr} {xs : List V} {z : Int} (s : SqL K H p xs) (e : atI xs z = some v) (h : Q v H) : rIxL K (.ref p) (.int z) H Q := ⟨p, xs, z, v, rfl, rfl, s, e, h⟩
def rLenQ (K : PySem.W.Frag) : List V → Hp → VK → Prop := fun xs H Q => ∃ p ys, xs = [V.ref p] ∧ (SqL K H p ys ∨ SqT K H p ys) ∧ Q (V.int (ys.length : Int)) H
theorem cb {r : List V → Hp → VK → Prop} {ta : TA} (h : ta σ H fun vs H1 => r vs H1 Q) : tCB r ta σ H Q := h
theorem lenL {p : Addr} {xs : List V} (st : Stt H0 S l H) (m : (p, Is (.lst xs)) ∈ l) (h : Q (.int (xs.length : Int)) H) : rLenQ K [.ref p] H Q := ⟨p, xs, rfl, .inl (st.sqL m), h⟩
theorem lenT {p : Addr} {xs : List V} (st : Stt H0 S l H) (m : (p, Is (.tup xs)) ∈ l) (h : Q (.int (xs.length : Int)) H) : rLenQ K [.ref p] H Q := ⟨p, xs, rfl, .inr (st.sqT m), h⟩
def rIntQ : List V → Hp → VK → Prop := fun xs H Q => (∃ i, xs = [.int i] ∧ Q (.int i) H) ∨ ∃ k, xs = [.bl k] ∧ Q (.int (if k then 1 else 0)) H
theorem intI {z : Int} (h : Q (.int z) H) : rIntQ [.int z] H Q := .inl ⟨z, rfl, h⟩
def rAbsQ : List V → Hp → VK → Prop := fun xs H Q => ∃ i, xs = [.int i] ∧ Q (.int (if i < 0 then -i else i)) H
theorem absI {z : Int} (h : Q (.int (if z < 0 then -z else z)) H) : rAbsQ [.int z] H Q := ⟨z, rfl, h⟩
def Aug (i : Nat) (ti : TIp) (x y : V) (H1 : Hp) (Qz : V → Hp → Prop) : Prop := ti x y H1 Qz
theorem aug {ti : TIp} {x : V} (e : σ[i]? = some (some x)) (h : te σ H fun y H1 => ti x y H1 fun z H2 => D.nx (σ.set i (some z)) H2) : tAug i te ti D σ H := ⟨x, e, h⟩
theorem ipI {f : Int → Int → Int} {a b : Int} (h : Q (.int (f a b)) H) : L2.ipI f (.int a) (.int b) H Q := ⟨a, b, rfl, rfl, h⟩
/-- tests -/
def Bl (x : V) (H1 : Hp) (Q : Bool → Hp → Prop) : Prop := ∃ k, x = .bl k ∧ Q k H1
theorem test {Q : Bool → Hp → Prop} (h : te σ H fun x H1 => Bl x H1 Q) : tTest te σ H Q := h
theorem tbl {Q : Bool → Hp → Prop} (h : te σ H fun x H1 => Bl x H1 Q) : tB te σ H Q := h
theorem bl {Q : Bool → Hp → Prop} {k : Bool} (h : Q k H) : Bl (.bl k) H Q := ⟨k, rfl, h⟩
def Br (c : Bool) (A B : Prop) : Prop := if c = true then A else B
theorem ifS {c : TT} (h : c σ H fun b H1 => Br b (t D σ H1) (u D σ H1)) : tIfS c t u D σ H := h
theorem ifE {c : TT} (h : c σ H fun b H1 => Br b (ta σ H1 Q) (tb σ H1 Q)) : tIf c ta tb σ H Q := h
theorem andT {c d : TT} {Q : Bool → Hp → Prop} (h : c σ H fun b H1 => Br b (d σ H1 Q) (Q false H1)) : tAnd c d σ H Q := h
theorem orT {c d : TT} {Q : Bool → Hp → Prop} (h : c σ H fun b H1 => Br b (Q true H1) (d σ H1 Q)) : tOr c d σ H Q := h
theorem notT {c : TT} {Q : Bool → Hp → Prop} (h : c σ H fun b H1 => Q (!b) H1) : tNot c σ H Q := h
def BlV (x : V) (A B : Prop) : Prop := ∃ c, x = .bl c ∧ if c = true then A else B
theorem andV (h : ta σ H fun x H1 => BlV x (tb σ H1 Q) (Q (.bl false) H1)) : tAndV ta tb σ H Q := h
theorem orV (h : ta σ H fun x H1 => BlV x (Q (.bl true) H1) (tb σ H1 Q)) : tOrV ta tb σ H Q := h
theorem blV {c : Bool} {A B : Prop} (h : Br c A B) : BlV (.bl c) A B := ⟨c, rfl, h⟩
def NotV (x : V) (H1 : Hp) (Q : VK) : Prop := ∃ c, x = .bl c ∧ Q (.bl (!c)) H1
theorem notV (h : ta σ H fun x H1 => NotV x H1 Q) : tNotV ta σ H Q := h
theorem notVL {c : Bool} (h : Q (.bl (!c)) H) : NotV (.bl c) H Q := ⟨c, rfl, h⟩
theorem brT {A B : Prop} {c : Bool} (e : c = true) (h : A) : Br c A B := by rw [e]; exact h
theorem brF {A B : Prop} {c : Bool} (e : c = false) (h : B) : Br c A B := by rw [e]; exact h
theorem br {A B : Prop} {c : Bool} (h1 : c = true → A) (h2 : c = false → B) : Br c A B := by
  cases c with
  | true => exact h1 rfl
  | false => exact h2 rfl
theorem brD {A B p : Prop} [Decidable p] (h1 : p → A) (h2 : ¬ p → B) : Br (decide p) A B := br (fun e => h1 (of_decide_eq_true e)) fun e => h2 (of_decide_eq_false e)
theorem brTT {A B : Prop} (h : A) : Br true A B := h
theorem brFF {A B : Prop} (h : B) : Br false A B := h
theorem brN {A B : Prop} {c : Bool} (h : Br c B A) : Br (!c) A B := by
  cases c with
  | true => exact h
  | false => exact h
theorem brI {A B : Prop} {p : Prop} [Decidable p] (h1 : p) (h : A) : Br (decide p) A B := brT (decide_eq_true h1) h
theorem brJ {A B : Prop} {p : Prop} [Decidable p] (h1 : ¬ p) (h : B) : Br (decide p) A B := brF (decide_eq_false h1) h
/-- stores -/
theorem sub {ts : TSet} (h : te σ H fun v H1 => ta σ H1 fun o H2 => tb σ H2 fun i H3 => ts o i v H3 fun H4 => D.nx σ H4) : tAsg te (gSub ta tb ts) D σ H := h
theorem setL {p : Addr} {xs : List V} {z : Int} {Qs : Hp → Prop} (st : Stt H0 S l H) (m : (p, Is (.lst xs)) ∈ l) (e : ixN xs.length z = some j) (u : Put l p (Is (.lst (xs.set j v))) l') (ha : p ∈ S ∨ H0 p = none)
    (k : ∀ H1, Stt H0 S l' H1 → Qs H1) : rSetL (.ref p) (.int z) v H Qs := ⟨p, xs, z, j, rfl, rfl, st.get m, e, k _ (st.set u ha)⟩
/-- xs.append(e) -/
def BM (K : PySem.W.Frag) (T : String) (r : V → List V → Hp → VK → Prop) (t : TA) (σ : L2.St) (x : V) (H1 : Hp) (Q : VK) : Prop := tyV K T x H1 ∧ t σ H1 fun xs H2 => r x xs H2 Q
theorem bm {T : String} {r : V → List V → Hp → VK → Prop} {t : TA} (h : ta σ H fun x H1 => BM K T r t σ x H1 Q) : tBM K T r ta t σ H Q := h
theorem bmL {p : Addr} {xs : List V} {r : V → List V → Hp → VK → Prop} {t : TA} (st : Stt H0 S l H) (m : (p, Is (.lst xs)) ∈ l) (h : t σ H fun ys H2 => r (.ref p) ys H2 Q) : BM K "list" r t σ (.ref p) H Q := ⟨.inl ⟨rfl, _, st.sqL m⟩, h⟩
theorem app {p : Addr} {xs : List V} (st : Stt H0 S l H) (m : (p, Is (.lst xs)) ∈ l) (hz : xs.length < 100000) (u : Put l p (Is (.lst (xs ++ [y]))) l') (ha : p ∈ S ∨ H0 p = none) (k : ∀ H1, Stt H0 S l' H1 → Q .non H1) : rAppend (.ref p) [y] H Q :=
  ⟨p, xs, y, rfl, rfl, st.get m, Nat.lt_of_lt_of_le hz (by decide), k _ (st.set u ha)⟩
/-- a, b = t -/
def Gt (K : PySem.W.Frag) (n : Nat) (t : TGs) (v : V) (σ : L2.St) (H : Hp) (Q : L2.St → Hp → Prop) : Prop := gTup K n t v σ H Q
theorem asgT {n : Nat} {gs : TGs} (h : te σ H fun v H1 => gTup K n gs v σ H1 D.nx) : tAsg te (gTup K n gs) D σ H := h
theorem gtup {n : Nat} {gs : TGs} {p : Addr} {xs : List V} {Q : L2.St → Hp → Prop} (st : Stt H0 S l H) (m : (p, Is (.tup xs)) ∈ l) (e : xs.length = n) (h : gs xs σ H Q) : gTup K n gs (.ref p) σ H Q := ⟨p, xs, rfl, st.sqT m, e, h⟩
theorem gcons {g : TG} {gs : TGs} {xs : List V} {Q : L2.St → Hp → Prop} (h : g v σ H fun σ' H' => gs xs σ' H' Q) : gCons g gs (v :: xs) σ H Q := ⟨v, xs, rfl, h⟩
theorem gname {Q : L2.St → Hp → Prop} (h : Q (σ.set i (some v)) H) : gName i v σ H Q := h
theorem gnil {Q : L2.St → Hp → Prop} (h : Q σ H) : gNil [] σ H Q := ⟨rfl, h⟩
/-- slices of lists -/
theorem sl {r : V → Option Int → Option Int → Hp → VK → Prop} {tl th : TO} (h : te σ H fun x H1 => tl σ H1 fun lo H2 => th σ H2 fun hi H3 => r x lo hi H3 Q) : tSl r te tl th σ H Q := h
theorem noPart {Q : Option Int → Hp → Prop} (h : Q none H) : tNoPart σ H Q := h
def Prt (x : V) (H1 : Hp) (Q : Option Int → Hp → Prop) : Prop := ∃ i, x = .int i ∧ Q (some i) H1
theorem part {Q : Option Int → Hp → Prop} (h : te σ H fun x H1 => Prt x H1 Q) : tPart te σ H Q := h
theorem prt {z : Int} {Q : Option Int → Hp → Prop} (h : Q (some z) H) : Prt (.int z) H Q := ⟨z, rfl, h⟩
/-- a call: the promise is asked -/
theorem call {sp : Sp} {dvs : List V} {E : XK} {ta : TA} (h : ta σ H fun vs H1 => sp (vs ++ dvs) H1 Q E) : tCall sp dvs E ta σ H Q := h
/-- the draws' state: what is read is some int, some flag -/
theorem ixD2 {p c : Addr} (st : Stt H0 S l H) (m : (p, DrS c) ∈ l) (h : ∀ z, Q (.int z) H) : rIxL K (.ref p) (.int 2) H Q := by
  obtain ⟨o, h1, a, b, d, rfl⟩ := st.pick m
  exact ⟨p, _, 2, _, rfl, rfl, SqL.of h1, rfl, h b⟩
theorem ixD3 {p c : Addr} (st : Stt H0 S l H) (m : (p, DrS c) ∈ l) (h : ∀ z, Q (.bl z) H) : rIxL K (.ref p) (.int 3) H Q := by
  obtain ⟨o, h1, a, b, d, rfl⟩ := st.pick m
  exact ⟨p, _, 3, _, rfl, rfl, SqL.of h1, rfl, h d⟩
theorem setD2 {p c : Addr} {z : Int} {Qs : Hp → Prop} (st : Stt H0 S l H) (m : (p, DrS c) ∈ l) (u : Put l p (DrS c) l) (ha : p ∈ S ∨ H0 p = none) (k : ∀ H1, Stt H0 S l H1 → Qs H1) : rSetL (.ref p) (.int 2) (.int z) H Qs := by
  obtain ⟨o, h1, a, b, d, rfl⟩ := st.pick m
  refine ⟨p, _, 2, 2, rfl, rfl, h1, rfl, k _ ?_⟩
  exact { keep := fun x v e => by
            by_cases hx : x = p
            · subst hx
              rcases ha with q | q
              · exact .inr ⟨q, _, upd_same⟩
              · rw [e] at q; cases q
            · rw [upd_ne hx]; exact st.keep x v e
          nd := st.nd
          at_ := fun e me => by
            rcases u.new st.nd e me with q | ⟨q1, q2⟩
            · subst q
              exact ⟨_, upd_same, a, z, d, rfl⟩
            · obtain ⟨v, e1, e2⟩ := st.at_ e q1
              exact ⟨v, by rw [upd_ne q2]; exact e1, e2⟩ }
/-- loops -/
def For (J : It) (g : TG) (tb : TS) (D : Ends) (σ : L2.St) (H : Hp) : Prop := ∃ W : Nat → Nat → L2.St → Hp → Prop, (∃ m, W 0 m σ H) ∧ ∀ i m σ H, W i m σ H →
  (J.stop i H ∧ D.nx σ H) ∨ (J.go i H ∧ ∃ N : L2.St → Hp → Prop, (∀ σ' H', N σ' H' → ∃ m', m' < m ∧ W (i + 1) m' σ' H') ∧ ∀ x H', J.yld i H x H' → g x σ H' fun σ2 H2 => tb { D with nx := N, ct := N, bk := D.nx } σ2 H2)
theorem forS {wi : TI} {g : TG} {tb : TS} (h : wi σ H fun J H1 => For J g tb D σ H1) : tFor wi g tb D σ H := h
theorem loop {J : It} {n : Nat} {G : Hp → Prop} {Y : Nat → Hp → V → Hp → Prop} (w : Walk J n G Y) {g : TG} {tb : TS} (Pv : Nat → L2.St → Hp → Prop) (h0 : Pv 0 σ H) (hG : ∀ i σ H, i ≤ n → Pv i σ H → G H)
    (hs : ∀ i x σ H H', i < n → Pv i σ H → Y i H x H' → g x σ H' fun σ2 H2 => tb { D with nx := Pv (i + 1), ct := Pv (i + 1), bk := D.nx } σ2 H2) (hd : ∀ σ H, Pv n σ H → D.nx σ H) : For J g tb D σ H := for_it w Pv h0 hG hs hd
def WEnT (K : PySem.W.Frag) (vs : List V) (H1 : Hp) (R : It → Hp → Prop) : Prop := ∃ a xs, vs = [.ref a] ∧ SqT K H1 a xs ∧ R (IteT K a) H1
theorem wEnT {ta : TA} {R : It → Hp → Prop} (h : ta σ H fun vs H1 => WEnT K vs H1 R) : iEnumT K ta σ H R := h
theorem wEnTL {p : Addr} {xs : List V} {R : It → Hp → Prop} (st : Stt H0 S l H) (m : (p, Is (.tup xs)) ∈ l) (h : R (IteT K p) H) : WEnT K [.ref p] H R := ⟨p, xs, rfl, st.sqT m, h⟩
def WL (K : PySem.W.Frag) (x : V) (H1 : Hp) (R : It → Hp → Prop) : Prop := ∃ a, x = .ref a ∧ (∃ xs, SqL K H1 a xs) ∧ R (Itl K a) H1
theorem wL {R : It → Hp → Prop} (h : te σ H fun x H1 => WL K x H1 R) : iList K te σ H R := h
theorem wLL {p : Addr} {xs : List V} {R : It → Hp → Prop} (st : Stt H0 S l H) (m : (p, Is (.lst xs)) ∈ l) (h : R (Itl K p) H) : WL K (.ref p) H R := ⟨p, rfl, ⟨xs, st.sqL m⟩, h⟩
def WT (K : PySem.W.Frag) (x : V) (H1 : Hp) (R : It → Hp → Prop) : Prop := ∃ a, x = .ref a ∧ (∃ xs, SqT K H1 a xs) ∧ R (Itt K a) H1
theorem wT {R : It → Hp → Prop} (h : te σ H fun x H1 => WT K x H1 R) : iTup K te σ H R := h
theorem wTL {p : Addr} {xs : List V} {R : It → Hp → Prop} (st : Stt H0 S l H) (m : (p, Is (.tup xs)) ∈ l) (h : R (Itt K p) H) : WT K (.ref p) H R := ⟨p, rfl, ⟨xs, st.sqT m⟩, h⟩
def WR1 (vs : List V) (H1 : Hp) (R : It → Hp → Prop) : Prop := ∃ j : Int, vs = [.int j] ∧ -(2 ^ 62) ≤ j ∧ j < 2 ^ 62 ∧ R (Itr 0 j.toNat) H1
theorem wR1 {ta : TA} {R : It → Hp → Prop} (h : ta σ H fun vs H1 => WR1 vs H1 R) : iRng1 ta σ H R := h
theorem wR1L {z : Int} {R : It → Hp → Prop} (h1 : -(2 ^ 62) ≤ z) (h2 : z < 2 ^ 62) (h : R (Itr 0 z.toNat) H) : WR1 [.int z] H R := ⟨z, rfl, h1, h2, h⟩
def WR2 (vs : List V) (H1 : Hp) (R : It → Hp → Prop) : Prop := ∃ i j : Int, vs = [.int i, .int j] ∧ (-(2 ^ 62) ≤ i ∧ i < 2 ^ 62 ∧ -(2 ^ 62) ≤ j ∧ j < 2 ^ 62) ∧ R (Itr i (j - i).toNat) H1
theorem wR2 {ta : TA} {R : It → Hp → Prop} (h : ta σ H fun vs H1 => WR2 vs H1 R) : iRng2 ta σ H R := h
theorem wR2L {a z : Int} {R : It → Hp → Prop} (h1 : -(2 ^ 62) ≤ a ∧ a < 2 ^ 62 ∧ -(2 ^ 62) ≤ z ∧ z < 2 ^ 62) (h : R (Itr a (z - a).toNat) H) : WR2 [.int a, .int z] H R := ⟨a, z, rfl, h1, h⟩
/-- while, by a measure -/
theorem whileS {c : TT} {tb : TS} (W : Nat → L2.St → Hp → Prop) (m : Nat) (w0 : W m σ H)
    (hs : ∀ m σ H, W m σ H → c σ H fun b H1 => Br b (∃ N : L2.St → Hp → Prop, (∀ σ' H', N σ' H' → ∃ m', m' < m ∧ W m' σ' H') ∧ tb { D with nx := N, ct := N, bk := D.nx } σ H1) (D.nx σ H1)) : tWhile c tb D σ H := ⟨W, ⟨m, w0⟩, hs⟩
end Rd
theorem call_lenQ {X : Cx} : CallR X (.builtin "len") (Rd.rLenQ X.K) := call_len_seq
theorem call_intQ {X : Cx} : CallR X (.type "int") Rd.rIntQ := call_int1
theorem call_absQ {X : Cx} : CallR X (.builtin "abs") Rd.rAbsQ := call_abs
/-! ### the draws' state -/
theorem Stt.drawn {H0 H : Hp} {S : List Addr} {l : Led} {st c : Addr} {ns : List Int} (h : Stt H0 S l H) (m1 : (st, DrS c) ∈ l) (m2 : (c, Is (.lst (ns.map V.int))) ∈ l) : Stt H [st] [(st, DrS c), (c, Is (.lst (ns.map V.int)))] H where
  keep := .refl H
  nd := by
    have n : st ≠ c := h.ne m1 m2 fun o => by
      rintro ⟨nth, val, fl, rfl⟩ q
      have q2 : HO.lst [V.ref c, .int nth, .int val, .bl fl] = HO.lst (ns.map V.int) := q
      injection q2 with q2
      cases ns with
      | nil => cases q2
      | cons a r =>
        injection q2 with q1 q2
        cases q1
    simp [n]
  at_ := fun e m => by
    rcases List.mem_cons.mp m with z | z
    · subst z; exact h.at_ _ m1
    · rw [List.mem_singleton.mp z]; exact h.at_ _ m2
abbrev dled (st c : Addr) (ns : List Int) : Led := [(st, DrS c), (c, Is (.lst (ns.map V.int)))]
end Lt

set_option Elab.async false
set_option linter.all false
set_option maxRecDepth 100000
set_option maxHeartbeats 2000000
namespace Lt
open PySem PySem.Spec PyProof.Rows L2
/-! ### isinstance, instances' fields, numbers of any size -/
section
variable {K : PySem.W.Frag}
theorem kit_int_int : PySem.W.kitOne K (.type "int") (.type "int") = some true := kit_ty (by decide +kernel)
theorem kit_int_bool : PySem.W.kitOne K (.type "int") (.type "bool") = some false := kit_ty (by decide +kernel)
theorem kit_int_str : PySem.W.kitOne K (.type "int") (.type "str") = some false := kit_ty (by decide +kernel)
theorem kit_int_list : PySem.W.kitOne K (.type "int") (.type "list") = some false := kit_ty (by decide +kernel)
theorem kit_int_tuple : PySem.W.kitOne K (.type "int") (.type "tuple") = some false := kit_ty (by decide +kernel)
theorem kit_int_dict : PySem.W.kitOne K (.type "int") (.type "dict") = some false := kit_ty (by decide +kernel)
theorem kit_bool_int : PySem.W.kitOne K (.type "bool") (.type "int") = some true := kit_ty (by decide +kernel)
theorem kit_bool_bool : PySem.W.kitOne K (.type "bool") (.type "bool") = some true := kit_ty (by decide +kernel)
theorem kit_bool_str : PySem.W.kitOne K (.type "bool") (.type "str") = some false := kit_ty (by decide +kernel)
theorem kit_bool_list : PySem.W.kitOne K (.type "bool") (.type "list") = some false := kit_ty (by decide +kernel)
theorem kit_bool_tuple : PySem.W.kitOne K (.type "bool") (.type "tuple") = some false := kit_ty (by decide +kernel)
theorem kit_bool_dict : PySem.W.kitOne K (.type "bool") (.type "dict") = some false := kit_ty (by decide +kernel)
theorem kit_str_int : PySem.W.kitOne K (.type "str") (.type "int") = some false := kit_ty (by decide +kernel)
theorem kit_str_bool : PySem.W.kitOne K (.type "str") (.type "bool") = some false := kit_ty (by decide +kernel)
theorem kit_str_str : PySem.W.kitOne K (.type "str") (.type "str") = some true := kit_ty (by decide +kernel)
theorem kit_str_list : PySem.W.kitOne K (.type "str") (.type "list") = some false := kit_ty (by decide +kernel)
theorem kit_str_tuple : PySem.W.kitOne K (.type "str") (.type "tuple") = some false := kit_ty (by decide +kernel)
theorem kit_str_dict : PySem.W.kitOne K (.type "str") (.type "dict") = some false := kit_ty (by decide +kernel)
theorem kit_list_int : PySem.W.kitOne K (.type "list") (.type "int") = some false := kit_ty (by decide +kernel)
theorem kit_list_bool : PySem.W.kitOne K (.type "list") (.type "bool") = some false := kit_ty (by decide +kernel)
theorem kit_list_str : PySem.W.kitOne K (.type "list") (.type "str") = some false := kit_ty (by decide +kernel)
theorem kit_list_list : PySem.W.kitOne K (.type "list") (.type "list") = some true := kit_ty (by decide +kernel)
theorem kit_list_tuple : PySem.W.kitOne K (.type "list") (.type "tuple") = some false := kit_ty (by decide +kernel)
theorem kit_list_dict : PySem.W.kitOne K (.type "list") (.type "dict") = some false := kit_ty (by decide +kernel)
theorem kit_tuple_int : PySem.W.kitOne K (.type "tuple") (.type "int") = some false := kit_ty (by decide +kernel)
theorem kit_tuple_bool : PySem.W.kitOne K (.type "tuple") (.type "bool") = some false := kit_ty (by decide +kernel)
theorem kit_tuple_str : PySem.W.kitOne K (.type "tuple") (.type "str") = some false := kit_ty (by decide +kernel)
theorem kit_tuple_list : PySem.W.kitOne K (.type "tuple") (.type "list") = some false := kit_ty (by decide +kernel)
theorem kit_tuple_tuple : PySem.W.kitOne K (.type "tuple") (.type "tuple") = some true := kit_ty (by decide +kernel)
theorem kit_tuple_dict : PySem.W.kitOne K (.type "tuple") (.type "dict") = some false := kit_ty (by decide +kernel)
theorem kit_dict_int : PySem.W.kitOne K (.type "dict") (.type "int") = some false := kit_ty (by decide +kernel)
theorem kit_dict_bool : PySem.W.kitOne K (.type "dict") (.type "bool") = some false := kit_ty (by decide +kernel)
theorem kit_dict_str : PySem.W.kitOne K (.type "dict") (.type "str") = some false := kit_ty (by decide +kernel)
theorem kit_dict_list : PySem.W.kitOne K (.type "dict") (.type "list") = some false := kit_ty (by decide +kernel)
theorem kit_dict_tuple : PySem.W.kitOne K (.type "dict") (.type "tuple") = some false := kit_ty (by decide +kernel)
theorem kit_dict_dict : PySem.W.kitOne K (.type "dict") (.type "dict") = some true := kit_ty (by decide +kernel)
theorem kit_NoneType_int : PySem.W.kitOne K (.type "NoneType") (.type "int") = some false := kit_ty (by decide +kernel)
theorem kit_NoneType_bool : PySem.W.kitOne K (.type "NoneType") (.type "bool") = some false := kit_ty (by decide +kernel)
theorem kit_NoneType_str : PySem.W.kitOne K (.type "NoneType") (.type "str") = some false := kit_ty (by decide +kernel)
theorem kit_NoneType_list : PySem.W.kitOne K (.type "NoneType") (.type "list") = some false := kit_ty (by decide +kernel)
theorem kit_NoneType_tuple : PySem.W.kitOne K (.type "NoneType") (.type "tuple") = some false := kit_ty (by decide +kernel)
theorem kit_NoneType_dict : PySem.W.kitOne K (.type "NoneType") (.type "dict") = some false := kit_ty (by decide +kernel)
end
/-- what isinstance asks of an own class -/
structure InsT (K : PySem.W.Frag) (C : Addr) : Prop where
  cl : Cls K C
  ca : PySem.W.findIn K (.ref C) "__class__" = some (some (.builtin "object.__class__"))
  cn : PySem.W.specialIn K (.builtin "object.__class__") "__get__" = some (some (.builtin "getset_descriptor.__get__"))
  ct : PySem.W.takesIn K (.builtin "object.__class__") = some true
  cm : PySem.W.mroIn K C (.type "object") = some true
def insTB (K : PySem.W.Frag) (C : Addr) : Bool := decide (PySem.W.findIn K (.ref C) "__class__" = some (some (.builtin "object.__class__"))) && (decide (PySem.W.specialIn K (.builtin "object.__class__") "__get__" = some (some (.builtin "getset_descriptor.__get__"))) &&
  (decide (PySem.W.takesIn K (.builtin "object.__class__") = some true) && decide (PySem.W.mroIn K C (.type "object") = some true)))
theorem insT_of {K : PySem.W.Frag} {C : Addr} (c : Cls K C) (h : insTB K C = true) : InsT K C := by
  obtain ⟨h1, h⟩ := He.ba h
  obtain ⟨h2, h⟩ := He.ba h
  obtain ⟨h3, h4⟩ := He.ba h
  exact ⟨c, of_decide_eq_true h1, of_decide_eq_true h2, of_decide_eq_true h3, of_decide_eq_true h4⟩
theorem InsT.ty {K : PySem.W.Frag} {C a dx : Addr} {fs : List (Str × V)} {H : Hp} (T : InsT K C) (e : H a = some (.ins C dx fs)) : TyX K H (.ref a) (.ref C) := .base (.ins e T.cl T.ca T.cn T.ct T.cm)
namespace Rd
variable {K : PySem.W.Frag} {D : Ends} {σ : L2.St} {H H0 : Hp} {Q : VK} {S : List Addr} {l l' : Led} {te ta : TE} {x y v c : V} {t u : Value} {b : Bool}
theorem isi (ty : TyX K H x t) (cv : ClsV c u) (e : PySem.W.kitOne K t u = some b) (h : Q (.bl b) H) : rIsi K [x, c] H Q := ⟨x, c, t, u, b, rfl, cv, ty, e, h⟩
theorem isiT {p : Addr} {cs : List V} {us : List Value} (st : Stt H0 S l H) (m : (p, Is (.tup cs)) ∈ l) (ty : TyX K H x t) (cv : Paired ClsV cs us) (e : PySem.W.kitAny K t us = some b) (h : Q (.bl b) H) : rIsiT K [x, .ref p] H Q := ⟨x, p, cs, t, us, b, rfl, st.get m, cv, ty, e, h⟩
def Fld (K : PySem.W.Frag) (f : Str) (x : V) (H1 : Hp) (Q : VK) : Prop := ∃ a C dx fs v, x = .ref a ∧ H1 a = some (.ins C dx fs) ∧ Cls K C ∧ NoAttr K C f ∧ fs.lookup f = some v ∧ Q v H1
theorem fld {f : Str} (h : ta σ H fun x H1 => Fld K f x H1 Q) : tFld K ta f σ H Q := h
theorem fldI {f : Str} {p C dx : Addr} {fs : List (Str × V)} (st : Stt H0 S l H) (m : (p, Is (.ins C dx fs)) ∈ l) (c : Cls K C) (n : NoAttr K C f) (e : fs.lookup f = some v) (h : Q v H) : Fld K f (.ref p) H Q := ⟨p, C, dx, fs, v, rfl, st.get m, c, n, e, h⟩
def SFld (K : PySem.W.Frag) (f : Str) (x y : V) (H2 : Hp) (Qs : Hp → Prop) : Prop := ∃ a C dx fs, x = .ref a ∧ H2 a = some (.ins C dx fs) ∧ Cls K C ∧ NoAttr K C f ∧ fs.length < 1000 ∧ Qs (upd H2 a (.ins C dx (putF f y fs)))
theorem sfld {f : Str} {tv : TE} (h : tv σ H fun y H1 => ta σ H1 fun x H2 => SFld K f x y H2 fun H3 => D.nx σ H3) : sFld K ta tv f D σ H := h
theorem sfldI {f : Str} {p C dx : Addr} {fs : List (Str × V)} {Qs : Hp → Prop} (st : Stt H0 S l H) (m : (p, Is (.ins C dx fs)) ∈ l) (c : Cls K C) (n : NoAttr K C f) (hz : fs.length < 1000) (u : Put l p (Is (.ins C dx (putF f y fs))) l') (ha : p ∈ S ∨ H0 p = none)
    (k : ∀ H1, Stt H0 S l' H1 → Qs H1) : SFld K f (.ref p) y H Qs := ⟨p, C, dx, fs, rfl, st.get m, c, n, hz, k _ (st.set u ha)⟩
/-- C(..) -/
def Make (C : Addr) (sp : Sp) (dvs : List V) (E : XK) (vs : List V) (H1 : Hp) (Q : VK) : Prop := ∀ x dx, H1 x = none → H1 dx = none → dx ≠ x → sp (.ref x :: (vs ++ dvs)) (upd (upd H1 dx (.own x)) x (.ins C dx [])) (fun v H2 => v = .non ∧ Q (.ref x) H2) E
theorem make {C : Addr} {sp : Sp} {dvs : List V} {E : XK} {ta : TA} (h : ta σ H fun vs H1 => Make C sp dvs E vs H1 Q) : tMake C sp dvs E ta σ H Q := h
def MakeN (C : Addr) (n m : Nat) (sp : Sp) (gV : List V → List V → List V) (E : XK) (vs zs : List V) (H2 : Hp) (Q : VK) : Prop := vs.length = n ∧ zs.length = m ∧
  ∀ x dx, H2 x = none → H2 dx = none → dx ≠ x → sp (gV (.ref x :: vs) zs) (upd (upd H2 dx (.own x)) x (.ins C dx [])) (fun v H3 => v = .non ∧ Q (.ref x) H3) E
theorem gcd {a b : Int} (h : Q (.int (Int.gcd a b : Int)) H) : rGcd [.int a, .int b] H Q := ⟨a, b, rfl, h⟩
end Rd
/-- // by a divisor of either sign and many bits -/
def CDivZ (_ j : Int) : Prop := j ≠ 0 ∧ j.natAbs.log2 < 9000
theorem op_fdivZ {X : Cx} : OpR X (binaryOp .FloorDiv) (rI CDivZ fun i j => .int (i.fdiv j)) := opI fun i j _ _ _ _ _ hc q => floordiv_int hc.1 q (.inl (PyProof.noPylong_of_log2 hc.2))
theorem wide_divZ {i j : Int} {b : Nat} (h : j ≠ 0) (hb : j.natAbs < 2 ^ b) (h0 : 0 < b) (h9 : b ≤ 9000) : CDivZ i j := ⟨h, Nat.lt_of_lt_of_le (PySem.Flt.log2_lt_of h0 hb) h9⟩
theorem RelT.ref {a : Addr} : RelV (.ref a) (.ref a) := rfl
section
variable {X : Cx} {CX : CXT} {k : Nat} {f C : Addr} {fd : FuncData} {ps : List Str} {sp : Sp} {E : XK} {x : Str} {p pos : Pos} {e : Expr} {es : List Expr} {t : TA} {dvs : List V}
theorem pe_makeX (M : Mk X.K C f) (F : FnOk X.prog X.w X.K X.mg X.base CX k f fd ps sp) (hr : Room (k + 1) X.A) (hg : Gl X x) (hm : X.mg x = some (.ref C)) (hb : ∃ ds, Vals dvs ds ∧ Binds X.K fd ps ds) (hx : Passes CX X E) (ha : PA X (e :: es) t)
    (hdb : (x == ("__debug__" : Str)) = false := by decide) (he : starEach (e :: es) X.env = (false, eval e X.env) :: starEach es X.env := by rfl) (hpl : (backTo pos (starEach es X.env)).any (·.1) = false := by rfl) :
    PE X (.Call (.Name x p) (e :: es) [] pos) (tMake C sp dvs E t) := by
  obtain ⟨ds, h1, h2⟩ := hb
  exact pe_make M F hr hg hm h2 h1 hx ha hdb he hpl
theorem pe_callX (F : FnOk X.prog X.w X.K X.mg X.base CX k f fd ps sp) (hr : Room k X.A) (hg : Gl X x) (hm : X.mg x = some (.ref f)) (hk : PySem.W.keepIn X.K (.ref f) = true) (hb : ∃ ds, Vals dvs ds ∧ Binds X.K fd ps ds) (hx : Passes CX X E) (ha : PA X (e :: es) t)
    (hdb : (x == ("__debug__" : Str)) = false := by decide) (he : starEach (e :: es) X.env = (false, eval e X.env) :: starEach es X.env := by rfl) (hpl : (backTo pos (starEach es X.env)).any (·.1) = false := by rfl) :
    PE X (.Call (.Name x p) (e :: es) [] pos) (tCall sp dvs E t) := by
  obtain ⟨ds, h1, h2⟩ := hb
  exact pe_call F hr hg hm hk h2 h1 hx ha hdb he hpl
end
theorem putF_len (f : Str) (v : V) : ∀ fs : List (Str × V), (putF f v fs).length ≤ fs.length + 1
  | [] => Nat.le_refl _
  | q :: r => by
    unfold putF
    split
    · simp
    · have := putF_len f v r
      simp only [List.length_cons]
      omega
/-! ### numbers in lowest terms -/
def nO (a b : Int) : Int := (if b < 0 then -a else a) / (Int.gcd a b : Int)
def nU (a b : Int) : Int := (if b < 0 then -b else b) / (Int.gcd a b : Int)
theorem nO_neg {a b : Int} (h : b < 0) : a.fdiv (-(Int.gcd a b : Int)) = nO a b := by
  unfold nO
  rw [if_pos h, ← Int.neg_fdiv_neg, Int.neg_neg, Int.fdiv_eq_ediv_of_nonneg _ (by omega)]
theorem nU_neg {a b : Int} (h : b < 0) : b.fdiv (-(Int.gcd a b : Int)) = nU a b := by
  unfold nU
  rw [if_pos h, ← Int.neg_fdiv_neg, Int.neg_neg, Int.fdiv_eq_ediv_of_nonneg _ (by omega)]
theorem nO_pos {a b : Int} (h : ¬ b < 0) : a.fdiv (Int.gcd a b : Int) = nO a b := by
  unfold nO
  rw [if_neg h, Int.fdiv_eq_ediv_of_nonneg _ (by omega)]
theorem nU_pos {a b : Int} (h : ¬ b < 0) : b.fdiv (Int.gcd a b : Int) = nU a b := by
  unfold nU
  rw [if_neg h, Int.fdiv_eq_ediv_of_nonneg _ (by omega)]
end Lt

set_option Elab.async false
set_option linter.all false
set_option maxRecDepth 100000
set_option maxHeartbeats 2000000
namespace Lt
open PySem PySem.Spec PyProof.Rows L2
section
variable {X : Cx} {CX : CXT} {pins : List (Addr × Obj)} {σ : L2.St} {H : Hp} {s : Shared} {a C dx p g : Addr} {fs : List (Str × V)} {f : Str} {n : Nat} {sp : Sp} {E : XK} {v : V} {u : Value} {fd : FuncData} {ps : List Str} {f1 f2 : Addr} {sp1 sp2 : Sp} {fd1 : FuncData} {ps1 : List Str}
/-- x op y, x an instance of the class at C whose def for op is at g -/
def rCmpI (K : PySem.W.Frag) (C : Addr) (sp : Sp) (E : XK) : R2 := fun x y H Q => ∃ a dx fs t, x = .ref a ∧ H a = some (.ins C dx fs) ∧ TyX K H y t ∧ PySem.W.notFirst K C t = true ∧ sp [x, y] H Q E
theorem op_cmpI {op : CmpOp} (hop : ∀ a b, compareOp op a b = richCompare op a b) (hs : PySem.W.findIn X.K (.ref C) (cmpInfo op).2.1 = some (some (.ref g))) (hf : PySem.W.isFn X.K (.ref g) = true) (F : FnOk X.prog X.w X.K X.mg X.base CX n g fd ps sp)
    (hb : Binds X.K fd ps []) (hr : Room n X.A) (hx : Passes CX X E) : OpR X (compareOp op) (rCmpI X.K C sp E) := by
  intro pins s σ H x y v u Q I rx ry h
  obtain ⟨a, dx, fs, t, rfl, ha, ty, hn, q⟩ := h
  cases (show v = Value.ref a from rx)
  obtain ⟨mA, J, _⟩ := ins_get I.hok ha
  obtain ⟨od, J, _⟩ := J.look
  obtain ⟨P, kx, hp, _⟩ := kit_of I ry ty
  obtain ⟨m, hF⟩ := I.fr
  rw [hop]
  refine PySem.W.cmp_K (op := op) (tb := t) hr.units0 hF I.ok.mod.kin J (kx.ty _ _ I.kIn hp) hn hs hf ?_
  refine wpAny_mono (run_fn (vs := [.ref a, y]) (us := [.ref a, u]) F hr hb .nil hx I (.cons rfl (.cons ry .nil)) q) (fun w s' z => ?_) fun _ _ x => x
  obtain ⟨z', H', I', rz, qz⟩ := z
  exact SlX.cmpback rz ⟨z', H', I', rz, qz⟩
end
/-! ### != of a class with an own == alone -/
section
open PySem.W
variable {prog : Program} {w : World} {A : Around} {E : Value → Shared → Prop} {s : Shared} {K : Frag} {x C f : Addr} {ox : Obj} {od : Option Obj} {b tb : Value}
theorem ne_entry (X : K.In s.heap) (I : InstAt s.heap x ox C od) (hs : findIn K (.ref C) "__eq__" = some (some (.ref f))) (hf : isFn K (.ref f) = true) (hu : A.units < cLine) {Q : Fin → Shared → Prop}
    (hcall : wpAny (model prog w) A (call (.ref f) [.ref x, b]) (fun v s' => ∃ k, v = .bool k ∧ Q (.done (.ret (.bool (!k)))) s') E s) : wpAny (model prog w) A (Builtin.«object.__ne__» ⟨[.ref x, b], []⟩) Q E s := by
  obtain ⟨h, g, d, t, os⟩ := s
  unfold Builtin.«object.__ne__»
  repeat (first
    | with_reducible refine wpAny_cRoomFor hu ?_
    | (refine wpAny_bind (m := callSpecialIfBound? (.ref x) (Str.ofString "__eq__") [b])
        (ifBound_K X I hs hf (wpAny_mono hcall (fun v s' hr => by
          obtain ⟨k, rfl, hq⟩ := hr
          repeat (first | exact hq | exact wpAny_pure hq | exact wpAny_truthy_bool hq | (refine wpAny_bind (m := truthy (.bool _)) (wpAny_truthy_bool ?_)) | wp_step)) fun _ _ e => e)))
    | wp_step)
theorem check_ne (X : K.In s.heap) (I : InstAt s.heap x ox C od) (hob : subIn K (.ref C) (.type "object") = some true) {Q : Unit → Shared → Prop} (hq : Q () s) : wpAny (model prog w) A (checkBuiltinCall "object.__ne__" ⟨[.ref x, b], []⟩) Q E s := by
  obtain ⟨h, g, d, t, os⟩ := s
  simp only [checkBuiltinCall, F.cmpKind_ne, F.cmpSplit_ne]
  have ha := F.cmpArgs_ne (.ref x) b
  refine wpAny_bind ?_
  · unfold isInstance
    have L1 : Looks (model prog w) h (typeOf (.ref x)) (.ref C) := I.type
    have L2 : Looks (model prog w) h (isSubtype (.ref C) (.type "object")) true := looks_subIn X hob
    repeat lk
    exact hq
theorem bind_ne {M : Model} {h : Heap} (self : Value) : Looks M h (bindSpecial (.builtin "object.__ne__") self) (.builtin "object.__ne__", [self]) := Looks.of_pure (F.cmp_object.ne.bind self)
theorem ifBound_ne {args : List Value} {Q : Option Value → Shared → Prop} (X : K.In s.heap) (I : InstAt s.heap x ox C od) (hs : findIn K (.ref C) "__ne__" = some (some (.builtin "object.__ne__")))
    (h : wpAny (model prog w) A (call (.builtin "object.__ne__") (.ref x :: args)) (fun v => Q (some v)) E s) : wpAny (model prog w) A (callSpecialIfBound? (.ref x) "__ne__" args) Q E s := by
  simp only [callSpecialIfBound?, bindSpecialIfBound?]
  refine wpAny_holding (wpAny_bind (wpAny_bind (wpAny_bind (I.type.here ((looks_findIn X hs).here ?_)))))
  refine wpAny_bind (wpAny_askSetting (wpAny_ite ?_))
  have fin : wpAny (model prog w) A (call (.builtin "object.__ne__") ([.ref x] ++ args) >>= fun v => pure (some v)) Q E s := wpAny_bind (wpAny_mono h (fun v s' h' => wpAny_pure h') fun _ _ h' => h')
  split
  · exact wpAny_bind ((bind_ne _).here (wpAny_pure (by exact fin)))
  · exact wpAny_tryCatch (wpAny_bind ((bind_ne _).here (wpAny_pure (by exact fin))))
theorem ne_K {Q : Value → Shared → Prop} (hu : A.units + 1 < cLine) (X : K.In s.heap) (I : InstAt s.heap x ox C od) (hb : Looks (model prog w) s.heap (typeOf b) tb) (hn : notFirst K C tb = true)
    (hne : findIn K (.ref C) "__ne__" = some (some (.builtin "object.__ne__"))) (hob : subIn K (.ref C) (.type "object") = some true) (hs : findIn K (.ref C) "__eq__" = some (some (.ref f))) (hf : isFn K (.ref f) = true)
    (h : wpAny (model prog w) A.in1 (call (.ref f) [.ref x, b]) (fun v s' => ∃ k, v = .bool k ∧ Q (.bool (!k)) s') E s) : wpAny (model prog w) A (richCompare .NotEq (.ref x) b) Q E s := by
  have one : wpAny (model prog w) A (tryCompare (.ref x) "__ne__" b) (fun r s' => ∃ v, r = some v ∧ Q v s') E s := by
    unfold tryCompare
    refine wpAny_bind (ifBound_ne X I hne (wpAny_call (codeAny_call_builtin F.cmp_object.ne.plain F.cmpEntry_ne (check_ne X I hob (ne_entry (A := A.in1) X I hs hf hu (wpAny_mono h (fun v s' hv => ?_) fun _ _ e => e))))))
    obtain ⟨k, rfl, hq⟩ := hv
    exact ⟨k, rfl, wpAny_pure ⟨_, rfl, hq⟩⟩
  unfold richCompare
  simp only [oneThing_ref, cmpInfo_NotEq]
  refine wpAny_holding (wpAny_bind (wpAny_cRoomFor (Nat.lt_of_succ_lt hu) ?_))
  refine wpAny_bind (I.type.here (wpAny_bind (hb.here ?_)))
  split
  · rename_i q
    have e : subIn K tb (.ref C) = some false := by
      rcases Bool.or_eq_true_iff.mp hn with e | e
      · rw [beq_iff_eq.mp e] at q; simp at q
      · exact beq_iff_eq.mp e
    refine wpAny_bind ((looks_subIn X e).here ?_)
    simp only [Bool.false_eq_true, if_false]
    refine wpAny_bind (wpAny_mono one (fun r s' z => ?_) fun _ _ e => e)
    obtain ⟨v, rfl, hq⟩ := z
    exact wpAny_pure hq
  · refine wpAny_bind (wpAny_pure ?_)
    simp only [Bool.false_eq_true, if_false]
    refine wpAny_bind (wpAny_mono one (fun r s' z => ?_) fun _ _ e => e)
    obtain ⟨v, rfl, hq⟩ := z
    exact wpAny_pure hq
end
section
variable {X : Cx} {CX : CXT} {g C : Addr} {n : Nat} {sp : Sp} {E : XK} {fd : FuncData} {ps : List Str}
/-- a def called somewhere below the running body -/
theorem run_below {A : Around} {pins : List (Addr × Obj)} {σ : L2.St} {H : Hp} {s : Shared} {Q : VK} {us : List Value} {vs : List V} (F : FnOk X.prog X.w X.K X.mg X.base CX n g fd ps sp) (hA : L2.Sub X n A) (hb : Binds X.K fd ps []) (hx : Passes CX X E)
    (I : Inv X pins σ H s) (r : Vals vs us) (h : sp vs H Q E) : wpAny (model X.prog X.w) A (call (.ref g) us) (EP X pins σ Q) X.xe s := by
  have hl : us.length = ps.length := by rw [← r.length]; exact F.len _ _ _ _ h
  have e0 : Env0 X.prog X.w X.K X.mg X.base A X.stack s H := by
    have e := I.env0
    exact ⟨by rw [hA.fr]; exact e.frames, e.mod, e.bs, e.bsz, e.funs, e.frf, e.hok, e.bare⟩
  refine wpAny_call (codeAny_mono (F.run A X.stack s H ⟨us, []⟩ us vs Q E hA.room e0 (by
    have := hb s us I.kIn (by simpa using hl)
    simpa using this) r h) fun r s' hq => ?_)
  cases r with
  | error e => exact hx pins σ H s e s' I hq
  | ok fl =>
    cases fl with
    | ret u => exact I.after hq
    | next => exact False.elim hq
    | brk => exact False.elim hq
    | cont => exact False.elim hq
/-- x != y by x's own == -/
def rNeI (K : PySem.W.Frag) (C : Addr) (sp : Sp) (E : XK) : R2 := fun x y H Q => ∃ a dx fs t, x = .ref a ∧ H a = some (.ins C dx fs) ∧ TyX K H y t ∧ PySem.W.notFirst K C t = true ∧ sp [x, y] H (fun v H' => ∃ k, v = .bl k ∧ Q (.bl (!k)) H') E
theorem op_neI (hne : PySem.W.findIn X.K (.ref C) "__ne__" = some (some (.builtin "object.__ne__"))) (hob : PySem.W.subIn X.K (.ref C) (.type "object") = some true) (hs : PySem.W.findIn X.K (.ref C) "__eq__" = some (some (.ref g))) (hf : PySem.W.isFn X.K (.ref g) = true)
    (F : FnOk X.prog X.w X.K X.mg X.base CX n g fd ps sp) (hb : Binds X.K fd ps []) (hr : Room (n + 1) X.A) (hx : Passes CX X E) : OpR X (compareOp .NotEq) (rNeI X.K C sp E) := by
  intro pins s σ H x y v u Q I rx ry h
  obtain ⟨a, dx, fs, t, rfl, ha, ty, hn, q⟩ := h
  cases (show v = Value.ref a from rx)
  obtain ⟨mA, J, _⟩ := ins_get I.hok ha
  obtain ⟨od, J, _⟩ := J.look
  obtain ⟨P, kx, hp, _⟩ := kit_of I ry ty
  refine ne_K (tb := t) (hu_of hr) I.kIn J (kx.ty _ _ I.kIn hp) hn hne hob hs hf ?_
  refine wpAny_mono (run_below (A := X.A.in1) (vs := [.ref a, y]) (us := [.ref a, u]) F (L2.Sub.in1 ⟨hr, rfl⟩) hb hx I (.cons rfl (.cons ry .nil)) q) (fun w s' z => ?_) fun _ _ x => x
  obtain ⟨z', H', I', rz, k, rfl, qz⟩ := z
  cases (show w = Value.bool k from rz)
  exact ⟨k, rfl, .bl (!k), H', I', rfl, qz⟩
end
open PySem.W AutoSeq1 in
theorem refl_K {prog : Program} {w : World} {A : Around} {E : Value → Shared → Prop} {s : Shared} {K : Frag} {y C f : Addr} {oy : Obj} {od : Option Obj} {a : Value} {T : String} {op : CmpOp} {Q : Value → Shared → Prop} (hu : A.units < cLine) (ha : s.TypeIs a T) (X : K.In s.heap) (I : InstAt s.heap y oy C od)
    (hsub : subIn K (.ref C) (.type T) = some false) (hd : ∀ Q' : Option Value → Shared → Prop, Q' none s → wpAny (model prog w) A (tryCompare a (cmpInfo op).2.1 (.ref y)) Q' E s)
    (hs : findIn K (.ref C) (cmpInfo op).2.2 = some (some (.ref f))) (hf : isFn K (.ref f) = true)
    (h : wpAny (model prog w) A (call (.ref f) [.ref y, a]) (PySem.W.CmpBack Q) E s) : wpAny (model prog w) A (richCompare op a (.ref y)) Q E s := by
  have one : wpAny (model prog w) A (tryCompare (.ref y) (cmpInfo op).2.2 a) (fun r s' => ∃ v, r = some v ∧ Q v s') E s := by
    unfold tryCompare
    refine wpAny_bind (ifBound_K X I hs hf (wpAny_mono h (fun v s' hv => ?_) fun _ _ e => e))
    cases v <;> first | exact hv.elim | exact wpAny_pure ⟨_, rfl, hv⟩
  rcases hi : cmpInfo op with ⟨sym, fn, rn⟩
  rw [hi] at hd one
  unfold richCompare
  simp only [hi, ha.oneThing_none]
  refine wpAny_holding (wpAny_bind (wpAny_cRoomFor hu ?_))
  refine wpAny_bind (wpAny_typeOf ha (wpAny_bind (I.type.here ?_)))
  have hne : (Value.type T != Value.ref C) = true := rfl
  simp only [hne, if_true]
  refine wpAny_bind ((looks_subIn X hsub).here ?_)
  simp only [Bool.false_eq_true, if_false, Bool.not_false, if_true]
  refine wpAny_bind (hd _ ?_)
  dsimp only
  refine wpAny_bind (wpAny_mono one (fun r s' z => ?_) fun _ _ e => e)
  obtain ⟨v, rfl, hq⟩ := z
  exact wpAny_pure hq
/-! ### built-in values that decline an instance of an own class -/
section
open PySem.W
theorem dec_int_eq (a : Int) (t : Tok) (y C dy : Addr) :
    Meets (Builtin.«int.__eq__» ⟨[.int a t, .ref y], []⟩) (fun _ R s => s.heap.get? y = some (instObj C dy) ∧ R (.ok (.ret .notImplemented)) s) :=
  .of_wp fun prog w A R s h => by obtain ⟨hp, g, d, tk, os⟩ := s; obtain ⟨hl, h⟩ := h; wp_walk using wpAny_loadPart' hl, wpAny_load hl; exact ⟨_, rfl, h⟩
theorem dec_int_ne (a : Int) (t : Tok) (y C dy : Addr) :
    Meets (Builtin.«int.__ne__» ⟨[.int a t, .ref y], []⟩) (fun _ R s => s.heap.get? y = some (instObj C dy) ∧ R (.ok (.ret .notImplemented)) s) :=
  .of_wp fun prog w A R s h => by obtain ⟨hp, g, d, tk, os⟩ := s; obtain ⟨hl, h⟩ := h; wp_walk using wpAny_loadPart' hl, wpAny_load hl; exact ⟨_, rfl, h⟩
theorem dec_int_lt (a : Int) (t : Tok) (y C dy : Addr) :
    Meets (Builtin.«int.__lt__» ⟨[.int a t, .ref y], []⟩) (fun _ R s => s.heap.get? y = some (instObj C dy) ∧ R (.ok (.ret .notImplemented)) s) :=
  .of_wp fun prog w A R s h => by obtain ⟨hp, g, d, tk, os⟩ := s; obtain ⟨hl, h⟩ := h; wp_walk using wpAny_loadPart' hl, wpAny_load hl; exact ⟨_, rfl, h⟩
theorem dec_int_le (a : Int) (t : Tok) (y C dy : Addr) :
    Meets (Builtin.«int.__le__» ⟨[.int a t, .ref y], []⟩) (fun _ R s => s.heap.get? y = some (instObj C dy) ∧ R (.ok (.ret .notImplemented)) s) :=
  .of_wp fun prog w A R s h => by obtain ⟨hp, g, d, tk, os⟩ := s; obtain ⟨hl, h⟩ := h; wp_walk using wpAny_loadPart' hl, wpAny_load hl; exact ⟨_, rfl, h⟩
theorem dec_int_gt (a : Int) (t : Tok) (y C dy : Addr) :
    Meets (Builtin.«int.__gt__» ⟨[.int a t, .ref y], []⟩) (fun _ R s => s.heap.get? y = some (instObj C dy) ∧ R (.ok (.ret .notImplemented)) s) :=
  .of_wp fun prog w A R s h => by obtain ⟨hp, g, d, tk, os⟩ := s; obtain ⟨hl, h⟩ := h; wp_walk using wpAny_loadPart' hl, wpAny_load hl; exact ⟨_, rfl, h⟩
theorem dec_int_ge (a : Int) (t : Tok) (y C dy : Addr) :
    Meets (Builtin.«int.__ge__» ⟨[.int a t, .ref y], []⟩) (fun _ R s => s.heap.get? y = some (instObj C dy) ∧ R (.ok (.ret .notImplemented)) s) :=
  .of_wp fun prog w A R s h => by obtain ⟨hp, g, d, tk, os⟩ := s; obtain ⟨hl, h⟩ := h; wp_walk using wpAny_loadPart' hl, wpAny_load hl; exact ⟨_, rfl, h⟩
theorem dec_int_add (a : Int) (t : Tok) (y C dy : Addr) :
    Meets (Builtin.«int.__add__» ⟨[.int a t, .ref y], []⟩) (fun _ R s => s.heap.get? y = some (instObj C dy) ∧ R (.ok (.ret .notImplemented)) s) :=
  .of_wp fun prog w A R s h => by obtain ⟨hp, g, d, tk, os⟩ := s; obtain ⟨hl, h⟩ := h; wp_walk using wpAny_loadPart' hl, wpAny_load hl; exact ⟨_, rfl, h⟩
theorem dec_int_sub (a : Int) (t : Tok) (y C dy : Addr) :
    Meets (Builtin.«int.__sub__» ⟨[.int a t, .ref y], []⟩) (fun _ R s => s.heap.get? y = some (instObj C dy) ∧ R (.ok (.ret .notImplemented)) s) :=
  .of_wp fun prog w A R s h => by obtain ⟨hp, g, d, tk, os⟩ := s; obtain ⟨hl, h⟩ := h; wp_walk using wpAny_loadPart' hl, wpAny_load hl; exact ⟨_, rfl, h⟩
theorem dec_int_mul (a : Int) (t : Tok) (y C dy : Addr) :
    Meets (Builtin.«int.__mul__» ⟨[.int a t, .ref y], []⟩) (fun _ R s => s.heap.get? y = some (instObj C dy) ∧ R (.ok (.ret .notImplemented)) s) :=
  .of_wp fun prog w A R s h => by obtain ⟨hp, g, d, tk, os⟩ := s; obtain ⟨hl, h⟩ := h; wp_walk using wpAny_loadPart' hl, wpAny_load hl; exact ⟨_, rfl, h⟩
theorem dec_int_floordiv (a : Int) (t : Tok) (y C dy : Addr) :
    Meets (Builtin.«int.__floordiv__» ⟨[.int a t, .ref y], []⟩) (fun _ R s => s.heap.get? y = some (instObj C dy) ∧ R (.ok (.ret .notImplemented)) s) :=
  .of_wp fun prog w A R s h => by obtain ⟨hp, g, d, tk, os⟩ := s; obtain ⟨hl, h⟩ := h; wp_walk using wpAny_loadPart' hl, wpAny_load hl; exact ⟨_, rfl, h⟩
theorem dec_int_mod (a : Int) (t : Tok) (y C dy : Addr) :
    Meets (Builtin.«int.__mod__» ⟨[.int a t, .ref y], []⟩) (fun _ R s => s.heap.get? y = some (instObj C dy) ∧ R (.ok (.ret .notImplemented)) s) :=
  .of_wp fun prog w A R s h => by obtain ⟨hp, g, d, tk, os⟩ := s; obtain ⟨hl, h⟩ := h; wp_walk using wpAny_loadPart' hl, wpAny_load hl; exact ⟨_, rfl, h⟩
theorem dec_bool_eq (a : Bool) (y C dy : Addr) :
    Meets (Builtin.«int.__eq__» ⟨[.bool a, .ref y], []⟩) (fun _ R s => s.heap.get? y = some (instObj C dy) ∧ R (.ok (.ret .notImplemented)) s) :=
  .of_wp fun prog w A R s h => by obtain ⟨hp, g, d, tk, os⟩ := s; obtain ⟨hl, h⟩ := h; wp_walk using wpAny_loadPart' hl, wpAny_load hl; exact ⟨_, rfl, h⟩
theorem dec_bool_ne (a : Bool) (y C dy : Addr) :
    Meets (Builtin.«int.__ne__» ⟨[.bool a, .ref y], []⟩) (fun _ R s => s.heap.get? y = some (instObj C dy) ∧ R (.ok (.ret .notImplemented)) s) :=
  .of_wp fun prog w A R s h => by obtain ⟨hp, g, d, tk, os⟩ := s; obtain ⟨hl, h⟩ := h; wp_walk using wpAny_loadPart' hl, wpAny_load hl; exact ⟨_, rfl, h⟩
theorem dec_bool_lt (a : Bool) (y C dy : Addr) :
    Meets (Builtin.«int.__lt__» ⟨[.bool a, .ref y], []⟩) (fun _ R s => s.heap.get? y = some (instObj C dy) ∧ R (.ok (.ret .notImplemented)) s) :=
  .of_wp fun prog w A R s h => by obtain ⟨hp, g, d, tk, os⟩ := s; obtain ⟨hl, h⟩ := h; wp_walk using wpAny_loadPart' hl, wpAny_load hl; exact ⟨_, rfl, h⟩
theorem dec_bool_le (a : Bool) (y C dy : Addr) :
    Meets (Builtin.«int.__le__» ⟨[.bool a, .ref y], []⟩) (fun _ R s => s.heap.get? y = some (instObj C dy) ∧ R (.ok (.ret .notImplemented)) s) :=
  .of_wp fun prog w A R s h => by obtain ⟨hp, g, d, tk, os⟩ := s; obtain ⟨hl, h⟩ := h; wp_walk using wpAny_loadPart' hl, wpAny_load hl; exact ⟨_, rfl, h⟩
theorem dec_bool_gt (a : Bool) (y C dy : Addr) :
    Meets (Builtin.«int.__gt__» ⟨[.bool a, .ref y], []⟩) (fun _ R s => s.heap.get? y = some (instObj C dy) ∧ R (.ok (.ret .notImplemented)) s) :=
  .of_wp fun prog w A R s h => by obtain ⟨hp, g, d, tk, os⟩ := s; obtain ⟨hl, h⟩ := h; wp_walk using wpAny_loadPart' hl, wpAny_load hl; exact ⟨_, rfl, h⟩
theorem dec_bool_ge (a : Bool) (y C dy : Addr) :
    Meets (Builtin.«int.__ge__» ⟨[.bool a, .ref y], []⟩) (fun _ R s => s.heap.get? y = some (instObj C dy) ∧ R (.ok (.ret .notImplemented)) s) :=
  .of_wp fun prog w A R s h => by obtain ⟨hp, g, d, tk, os⟩ := s; obtain ⟨hl, h⟩ := h; wp_walk using wpAny_loadPart' hl, wpAny_load hl; exact ⟨_, rfl, h⟩
theorem dec_bool_add (a : Bool) (y C dy : Addr) :
    Meets (Builtin.«int.__add__» ⟨[.bool a, .ref y], []⟩) (fun _ R s => s.heap.get? y = some (instObj C dy) ∧ R (.ok (.ret .notImplemented)) s) :=
  .of_wp fun prog w A R s h => by obtain ⟨hp, g, d, tk, os⟩ := s; obtain ⟨hl, h⟩ := h; wp_walk using wpAny_loadPart' hl, wpAny_load hl; exact ⟨_, rfl, h⟩
theorem dec_bool_sub (a : Bool) (y C dy : Addr) :
    Meets (Builtin.«int.__sub__» ⟨[.bool a, .ref y], []⟩) (fun _ R s => s.heap.get? y = some (instObj C dy) ∧ R (.ok (.ret .notImplemented)) s) :=
  .of_wp fun prog w A R s h => by obtain ⟨hp, g, d, tk, os⟩ := s; obtain ⟨hl, h⟩ := h; wp_walk using wpAny_loadPart' hl, wpAny_load hl; exact ⟨_, rfl, h⟩
theorem dec_bool_mul (a : Bool) (y C dy : Addr) :
    Meets (Builtin.«int.__mul__» ⟨[.bool a, .ref y], []⟩) (fun _ R s => s.heap.get? y = some (instObj C dy) ∧ R (.ok (.ret .notImplemented)) s) :=
  .of_wp fun prog w A R s h => by obtain ⟨hp, g, d, tk, os⟩ := s; obtain ⟨hl, h⟩ := h; wp_walk using wpAny_loadPart' hl, wpAny_load hl; exact ⟨_, rfl, h⟩
theorem dec_bool_floordiv (a : Bool) (y C dy : Addr) :
    Meets (Builtin.«int.__floordiv__» ⟨[.bool a, .ref y], []⟩) (fun _ R s => s.heap.get? y = some (instObj C dy) ∧ R (.ok (.ret .notImplemented)) s) :=
  .of_wp fun prog w A R s h => by obtain ⟨hp, g, d, tk, os⟩ := s; obtain ⟨hl, h⟩ := h; wp_walk using wpAny_loadPart' hl, wpAny_load hl; exact ⟨_, rfl, h⟩
theorem dec_bool_mod (a : Bool) (y C dy : Addr) :
    Meets (Builtin.«int.__mod__» ⟨[.bool a, .ref y], []⟩) (fun _ R s => s.heap.get? y = some (instObj C dy) ∧ R (.ok (.ret .notImplemented)) s) :=
  .of_wp fun prog w A R s h => by obtain ⟨hp, g, d, tk, os⟩ := s; obtain ⟨hl, h⟩ := h; wp_walk using wpAny_loadPart' hl, wpAny_load hl; exact ⟨_, rfl, h⟩
theorem dec_str_eq (a : Str) (t : Tok) (y C dy : Addr) :
    Meets (Builtin.«str.__eq__» ⟨[.str a t, .ref y], []⟩) (fun _ R s => s.heap.get? y = some (instObj C dy) ∧ R (.ok (.ret .notImplemented)) s) :=
  .of_wp fun prog w A R s h => by obtain ⟨hp, g, d, tk, os⟩ := s; obtain ⟨hl, h⟩ := h; wp_walk using wpAny_loadPart' hl, wpAny_load hl; exact ⟨_, rfl, h⟩
theorem dec_none_eq  (y C dy : Addr) :
    Meets (Builtin.«NoneType.__eq__» ⟨[.none, .ref y], []⟩) (fun _ R s => s.heap.get? y = some (instObj C dy) ∧ R (.ok (.ret .notImplemented)) s) :=
  .of_wp fun prog w A R s h => by obtain ⟨hp, g, d, tk, os⟩ := s; obtain ⟨hl, h⟩ := h; wp_walk using wpAny_loadPart' hl, wpAny_load hl; exact ⟨_, rfl, h⟩
end
/-! ### x op y, y an instance, x a built-in value that declines -/
section
variable {X : Cx} {CX : CXT} {g C : Addr} {n : Nat} {sp : Sp} {E : XK} {fd : FuncData} {ps : List Str}
/-- P tells which values x are such -/
def rCmpR (C : Addr) (P : V → Hp → Prop) (sp : Sp) (E : XK) : R2 := fun x y H Q => ∃ b dy fs, y = .ref b ∧ H b = some (.ins C dy fs) ∧ P x H ∧ sp [y, x] H Q E
/-- what is to be known of such values -/
def Declines (X : Cx) (C : Addr) (op : CmpOp) (P : V → Hp → Prop) : Prop := ∀ (pins : List (Addr × Obj)) (s : Shared) (σ : L2.St) (H : Hp) (x : V) (u : Value) (b dy : Addr), Inv X pins σ H s → RelV x u → P x H → s.heap.get? b = some (PySem.W.instObj C dy) →
  ∃ T, s.TypeIs u T ∧ PySem.W.subIn X.K (.ref C) (.type T) = some false ∧ ∀ (E : Value → Shared → Prop) (Q' : Option Value → Shared → Prop), Q' none s → wpAny (model X.prog X.w) X.A (tryCompare u (cmpInfo op).2.1 (.ref b)) Q' E s
theorem op_refl {op : CmpOp} {P : V → Hp → Prop} (hop : ∀ a b, compareOp op a b = richCompare op a b) (hd : Declines X C op P) (hs : PySem.W.findIn X.K (.ref C) (cmpInfo op).2.2 = some (some (.ref g))) (hf : PySem.W.isFn X.K (.ref g) = true)
    (F : FnOk X.prog X.w X.K X.mg X.base CX n g fd ps sp) (hb : Binds X.K fd ps []) (hr : Room n X.A) (hx : Passes CX X E) : OpR X (compareOp op) (rCmpR C P sp E) := by
  intro pins s σ H x y v u Q I rx ry h
  obtain ⟨b, dy, fs, rfl, hb', hp, q⟩ := h
  cases (show u = Value.ref b from ry)
  obtain ⟨mA, J, _⟩ := ins_get I.hok hb'
  have hobj := J.obj
  obtain ⟨od, J, _⟩ := J.look
  obtain ⟨T, ht, hsub, hdec⟩ := hd pins s σ H x v b dy I rx hp hobj
  rw [hop]
  refine refl_K (op := op) hr.units0 ht I.kIn J hsub (hdec _) hs hf ?_
  refine wpAny_mono (run_fn (vs := [.ref b, x]) (us := [.ref b, v]) F hr hb .nil hx I (.cons rfl (.cons rx .nil)) q) (fun w s' z => ?_) fun _ _ x => x
  obtain ⟨z', H', I', rz, qz⟩ := z
  exact SlX.cmpback rz ⟨z', H', I', rz, qz⟩
def IsI (x : V) (_ : Hp) : Prop := ∃ i, x = .int i
theorem declines_int_eq (h : PySem.W.subIn X.K (.ref C) (.type "int") = some false) : Declines X C .Eq IsI := by
  rintro pins s σ H x u b dy I rx ⟨i, rfl⟩ hb
  obtain ⟨t, e⟩ := (show ∃ t, u = Value.int i t from rx)
  subst e
  exact ⟨"int", typeIs_int s i t, h, fun E Q' hq => wpAny_tryCompare_declines (typeIs_int s i t) F.slot_int_eq (call_meets F.slot_int_eq (typeIs_int s i t) F.entry_int_eq (F.args_int_eq_2 _ _) (dec_int_eq i t b C dy) ⟨hb, ⟨rfl, hq⟩⟩)⟩
theorem declines_int_ne (h : PySem.W.subIn X.K (.ref C) (.type "int") = some false) : Declines X C .NotEq IsI := by
  rintro pins s σ H x u b dy I rx ⟨i, rfl⟩ hb
  obtain ⟨t, e⟩ := (show ∃ t, u = Value.int i t from rx)
  subst e
  exact ⟨"int", typeIs_int s i t, h, fun E Q' hq => wpAny_tryCompare_declines (typeIs_int s i t) F.slot_int_ne (call_meets F.slot_int_ne (typeIs_int s i t) F.entry_int_ne (F.args_int_ne_2 _ _) (dec_int_ne i t b C dy) ⟨hb, ⟨rfl, hq⟩⟩)⟩
theorem declines_int_lt (h : PySem.W.subIn X.K (.ref C) (.type "int") = some false) : Declines X C .Lt IsI := by
  rintro pins s σ H x u b dy I rx ⟨i, rfl⟩ hb
  obtain ⟨t, e⟩ := (show ∃ t, u = Value.int i t from rx)
  subst e
  exact ⟨"int", typeIs_int s i t, h, fun E Q' hq => wpAny_tryCompare_declines (typeIs_int s i t) F.slot_int_lt (call_meets F.slot_int_lt (typeIs_int s i t) F.entry_int_lt (F.args_int_lt_2 _ _) (dec_int_lt i t b C dy) ⟨hb, ⟨rfl, hq⟩⟩)⟩
theorem declines_int_le (h : PySem.W.subIn X.K (.ref C) (.type "int") = some false) : Declines X C .LtE IsI := by
  rintro pins s σ H x u b dy I rx ⟨i, rfl⟩ hb
  obtain ⟨t, e⟩ := (show ∃ t, u = Value.int i t from rx)
  subst e
  exact ⟨"int", typeIs_int s i t, h, fun E Q' hq => wpAny_tryCompare_declines (typeIs_int s i t) F.slot_int_le (call_meets F.slot_int_le (typeIs_int s i t) F.entry_int_le (F.args_int_le_2 _ _) (dec_int_le i t b C dy) ⟨hb, ⟨rfl, hq⟩⟩)⟩
theorem declines_int_gt (h : PySem.W.subIn X.K (.ref C) (.type "int") = some false) : Declines X C .Gt IsI := by
  rintro pins s σ H x u b dy I rx ⟨i, rfl⟩ hb
  obtain ⟨t, e⟩ := (show ∃ t, u = Value.int i t from rx)
  subst e
  exact ⟨"int", typeIs_int s i t, h, fun E Q' hq => wpAny_tryCompare_declines (typeIs_int s i t) F.slot_int_gt (call_meets F.slot_int_gt (typeIs_int s i t) F.entry_int_gt (F.args_int_gt_2 _ _) (dec_int_gt i t b C dy) ⟨hb, ⟨rfl, hq⟩⟩)⟩
theorem declines_int_ge (h : PySem.W.subIn X.K (.ref C) (.type "int") = some false) : Declines X C .GtE IsI := by
  rintro pins s σ H x u b dy I rx ⟨i, rfl⟩ hb
  obtain ⟨t, e⟩ := (show ∃ t, u = Value.int i t from rx)
  subst e
  exact ⟨"int", typeIs_int s i t, h, fun E Q' hq => wpAny_tryCompare_declines (typeIs_int s i t) F.slot_int_ge (call_meets F.slot_int_ge (typeIs_int s i t) F.entry_int_ge (F.args_int_ge_2 _ _) (dec_int_ge i t b C dy) ⟨hb, ⟨rfl, hq⟩⟩)⟩
end
/-! ### binary operators -/
section
open PySem.W
variable {prog : Program} {w : World} {A : Around} {E : Value → Shared → Prop} {s : Shared} {K : Frag} {y C f g : Addr} {oy : Obj} {od : Option Obj} {a : Value} {T : String} {fo ro rc : Option Value}
theorem binR_K {op : Operator} {Q : Value → Shared → Prop} (X : K.In s.heap) (I : InstAt s.heap y oy C od) (ha : typeOf a = pure (.type T)) (hc : selfFirst K C = true)
    (hs : findIn K (.ref C) (PySem.dunder op.info.2) = some (some (.ref g))) (hs2 : findIn K (.ref C) (dunderR op.info.2) = some (some (.ref f))) (hf : isFn K (.ref f) = true)
    (h1 : findIn K (.type T) (PySem.dunder op.info.2) = some fo) (h2 : findIn K (.type T) (dunderR op.info.2) = some ro) (hsub : subIn K (.ref C) (.type T) = some false)
    (hd : ∀ Q' : Option Value → Shared → Prop, Q' none s → wpAny (model prog w) A (tryMethod a (PySem.dunder op.info.2) (.ref y)) Q' E s)
    (h : wpAny (model prog w) A (call (.ref f) [.ref y, a]) (PySem.W.CmpBack Q) E s) : wpAny (model prog w) A (binaryOp op a (.ref y)) Q E s := by
  obtain ⟨cd, rest, hcd, hm⟩ := ksp_first hc
  rcases hi : op.info with ⟨sym, nm'⟩
  rw [hi] at hs hs2 h1 h2 hd
  dsimp only at hs hs2 h1 h2 hd
  have one := ksp_try X I hs2 hf h
  obtain ⟨hh, gg, d, tt, os⟩ := s
  have L1 : Looks (model prog w) hh (typeOf (.ref y)) (.ref C) := I.type
  have L2 : Looks (model prog w) hh (typeOf a) (.type T) := Looks.of_pure ha
  have L3 : Looks (model prog w) hh (fillsNumberSlot (.ref C) nm') true := fills_K X hcd hm hs
  have L4 : Looks (model prog w) hh (fillsNumberSlot (.type T) nm') ((fo.isSome && !isSeqSlot fo) || (ro.isSome && !isSeqSlot ro)) := ksp_fillsT X h1 h2
  have L5 : Looks (model prog w) hh (isSubtype (.ref C) (.type T)) false := looks_subIn X hsub
  have L7 : Looks (model prog w) hh (numberSlotInPython (.type T) nm') false := Looks.of_pure rfl
  generalize ((fo.isSome && !isSeqSlot fo) || (ro.isSome && !isSeqSlot ro)) = left at L4
  have hne : (Value.type T == Value.ref C) = false := Bool.eq_false_iff.mpr fun q => by cases beq_iff_eq.mp q
  simp only [binaryOp, hi]
  refine wpAny_holding (wpAny_bind ?_)
  unfold binaryOp1
  refine wpAny_bind (L2.at (wpAny_bind (L1.at (wpAny_bind (L4.at ?_)))))
  simp only [hne, Bool.false_eq_true, if_false]
  cases left with
  | false =>
    ksp_lk
    refine wpAny_mono one (fun r s' hr' => ?_) fun _ _ e => e
    obtain ⟨v, rfl, hq⟩ := hr'
    ksp_lk
    exact hq
  | true =>
    ksp_lk
    refine hd _ ?_
    ksp_lk
    refine wpAny_mono one (fun r s' hr' => ?_) fun _ _ e => e
    obtain ⟨v, rfl, hq⟩ := hr'
    ksp_lk
    exact hq
end
end Lt

set_option Elab.async false
set_option linter.all false
set_option maxRecDepth 100000
set_option maxHeartbeats 2000000
namespace Lt
open PySem PySem.Spec PyProof.Rows L2
/-- a def that is never called -/
theorem fnok_false {P : Program} {w : World} {K : PySem.W.Frag} {mg : Str → Option Value} {base : Heap} {CX : CXT} {k : Nat} {f : Addr} {fd : FuncData} {ps : List Str} : FnOk P w K mg base CX k f fd ps (fun _ _ _ _ => False) :=
  ⟨fun _ _ _ _ h => h.elim, fun _ _ _ _ _ _ _ _ _ _ _ _ _ h => h.elim⟩
namespace Rd
variable {K : PySem.W.Frag} {D : Ends} {σ : L2.St} {H H0 : Hp} {Q : VK} {S : List Addr} {l l' : Led} {te ta : TE} {x y v c : V} {t u : Value} {b : Bool}
/-! ### comprehensions -/
def Lc (J : It) (g : TG) (tt : TT) (te : TE) (vs : List Nat) (σ : L2.St) (H1 : Hp) (Q : VK) : Prop := ∀ D, H1 D = none → ∃ W : Nat → Nat → Hp → Prop, (∃ m, W 0 m (upd H1 D (.lst []))) ∧ ∀ i m H, W i m H →
  (J.stop i H ∧ Q (.ref D) H) ∨ (J.go i H ∧ ∃ Nx : Hp → Prop, (∀ H', Nx H' → ∃ m', m' < m ∧ W (i + 1) m' H') ∧ ∀ x H', J.yld i H x H' → g x (wipe σ vs) H' fun σ2 H2 => wipe σ2 vs = wipe σ vs ∧ tt σ2 H2 fun b H3 =>
    if b = true then te σ2 H3 fun y H4 => ∃ acc, H4 D = some (.lst acc) ∧ acc.length < sizeLine ∧ Nx (upd H4 D (.lst (acc ++ [y]))) else Nx H3)
theorem lc {wi : TI} {g : TG} {tt : TT} {te : TE} {vs : List Nat} (h : wi σ H fun J H1 => Lc J g tt te vs σ H1 Q) : tLc wi g tt te vs σ H Q := h
/-- between two turns: the list at D holds acc; further objects ex -/
def PvG (H0 : Hp) (S : List Addr) (l : Led) (Good : Nat → List V → Led → Prop) (D : Addr) (i : Nat) (H : Hp) : Prop := ∃ acc ex, Good i acc ex ∧ acc.length ≤ i ∧ Stt H0 S ((D, Is (.lst acc)) :: (ex ++ l)) H
def LcP (H0 : Hp) (S : List Addr) (l : Led) (Good : Nat → List V → Led → Prop) (D : Addr) (i : Nat) (y : V) (H4 : Hp) : Prop := ∃ acc, H4 D = some (.lst acc) ∧ acc.length < sizeLine ∧ PvG H0 S l Good D (i + 1) (upd H4 D (.lst (acc ++ [y])))
theorem lcE {Good : Nat → List V → Led → Prop} {D : Addr} {i : Nat} {acc : List V} {ex : Led} (st : Stt H0 S ((D, Is (.lst acc)) :: (ex ++ l)) H) (hD : H0 D = none) (hi : i < 100000) (ha : acc.length ≤ i) (g : Good (i + 1) (acc ++ [y]) ex) : LcP H0 S l Good D i y H :=
  ⟨acc, st.get List.mem_cons_self, Nat.lt_of_le_of_lt ha (Nat.lt_trans hi (by decide)), acc ++ [y], ex, g, by simp; omega, st.set .head (.inr hD)⟩
theorem lcG {J : It} {n : Nat} {G : Hp → Prop} {Y : Nat → Hp → V → Hp → Prop} (w : Walk J n G Y) {g : TG} {tt : TT} {te : TE} {vs : List Nat} (st : Stt H0 S l H) (Good : Nat → List V → Led → Prop) (g0 : Good 0 [] [])
    (hG : ∀ H' D acc ex, H0 D = none → Stt H0 S ((D, Is (.lst acc)) :: (ex ++ l)) H' → G H')
    (hs : ∀ D, H0 D = none → ∀ i x H1 H2 acc ex, i < n → Good i acc ex → acc.length ≤ i → Stt H0 S ((D, Is (.lst acc)) :: (ex ++ l)) H1 → Y i H1 x H2 → g x (wipe σ vs) H2 fun σ2 H2 => wipe σ2 vs = wipe σ vs ∧ tt σ2 H2 fun b H3 =>
      Br b (te σ2 H3 fun y H4 => LcP H0 S l Good D i y H4) (PvG H0 S l Good D (i + 1) H3))
    (hd : ∀ D H1 acc ex, H0 D = none → Good n acc ex → Stt H0 S ((D, Is (.lst acc)) :: (ex ++ l)) H1 → Q (.ref D) H1) : Lc J g tt te vs σ H Q := by
  intro D hD
  have hD0 := st.none hD
  refine lc_it w (PvG H0 S l Good D) ⟨[], [], g0, Nat.le_refl _, st.new hD _⟩ (fun i H' _ p => ?_) ?_ ?_
  · obtain ⟨acc, ex, _, _, q⟩ := p
    exact hG H' D acc ex hD0 q
  · rintro i x H1 H2 hi ⟨acc, ex, gd, ha, q⟩ y
    exact hs D hD0 i x H1 H2 acc ex hi gd ha q y
  · rintro H1 ⟨acc, ex, gd, _, q⟩
    exact hd D H1 acc ex hD0 gd q
def WZ (K : PySem.W.Frag) (vs : List V) (H1 : Hp) (R : It → Hp → Prop) : Prop := ∃ a b xs ys, vs = [.ref a, .ref b] ∧ ((SqL K H1 a xs ∧ SqL K H1 b ys ∧ R (Itz K a b) H1) ∨ (SqT K H1 a xs ∧ SqT K H1 b ys ∧ R (RZ.ItzT K a b) H1))
theorem wZ {ta : TA} {R : It → Hp → Prop} (h : ta σ H fun vs H1 => WZ K vs H1 R) : RZ.iZipA K ta σ H R := h
def tYesH {Q : Bool → Hp → Prop} (h : Q true H) : tYes σ H Q := h
def rAllQ (K : PySem.W.Frag) : List V → Hp → VK → Prop := fun vs H Q => ∃ (a : Addr) (bs : List Bool), vs = [V.ref a] ∧ SqL K H a (bs.map V.bl) ∧ Q (.bl (bs.all id)) H
theorem allL {p : Addr} {bs : List Bool} (st : Stt H0 S l H) (m : (p, Is (.lst (bs.map V.bl))) ∈ l) (h : Q (.bl (bs.all id)) H) : rAll K [.ref p] H Q := ⟨p, bs, rfl, st.sqL m, h⟩
theorem anyL {p : Addr} {bs : List Bool} (st : Stt H0 S l H) (m : (p, Is (.lst (bs.map V.bl))) ∈ l) (h : Q (.bl (bs.any id)) H) : rAny K [.ref p] H Q := ⟨p, bs, rfl, st.sqL m, h⟩
/-! ### texts -/
def rStrQ : List V → Hp → VK → Prop := fun xs H Q => ∃ i, xs = [.int i] ∧ i.natAbs.log2 < 1920 ∧ Q (.str (toString i)) H
theorem strI {i : Int} (hz : i.natAbs.log2 < 1920) (h : Q (.str (toString i)) H) : rStrQ [.int i] H Q := ⟨i, rfl, hz, h⟩
def Js (ts : List TE) (acc : Str) (σ : L2.St) (H : Hp) (Q : VK) : Prop := tJs ts acc σ H fun out H1 => Q (.str out) H1
def JsL (ts : List TE) (acc : Str) (σ : L2.St) (x : V) (H1 : Hp) (Q : VK) : Prop := ∃ y : Str, x = .str y ∧ (acc ++ y).length ≤ sizeLine ∧ tJs ts (acc ++ y) σ H1 fun out H1 => Q (.str out) H1
theorem joined {ts : List TE} (h : Js ts Str.empty σ H Q) : (fun (σ : L2.St) (H : Hp) (Q : VK) => tJs ts Str.empty σ H fun out H1 => Q (.str out) H1) σ H Q := h
theorem jsNil {acc : Str} (h : Q (.str acc) H) : Js [] acc σ H Q := h
theorem jsCons {t : TE} {ts : List TE} {acc : Str} (h : t σ H fun x H1 => JsL ts acc σ x H1 Q) : Js (t :: ts) acc σ H Q := h
theorem jsL {ts : List TE} {acc y : Str} (hz : (acc ++ y).length ≤ sizeLine) (h : Js ts (acc ++ y) σ H Q) : JsL ts acc σ (.str y) H Q := ⟨y, rfl, hz, h⟩
def FmtL (x : V) (H1 : Hp) (Q : VK) : Prop := (∃ y : Str, x = .str y ∧ y.length ≤ sizeLine ∧ Q (.str y) H1) ∨ ∃ i : Int, x = .int i ∧ i.natAbs.log2 < 1920 ∧ Q (.str (toString i)) H1
theorem fmt (h : te σ H fun x H1 => FmtL x H1 Q) : tFmt te σ H Q := h
theorem fmtI {i : Int} (hz : i.natAbs.log2 < 1920) (h : Q (.str (toString i)) H) : FmtL (.int i) H Q := .inr ⟨i, rfl, hz, h⟩
theorem fmtS {y : Str} (hz : y.length ≤ sizeLine) (h : Q (.str y) H) : FmtL (.str y) H Q := .inl ⟨y, rfl, hz, h⟩
/-- == of two written data -/
theorem eqD {d e : PyData} (h1 : Dp K H x d) (h2 : Dp K H y e) (s1 : SeqAt.shaped d = true) (s2 : SeqAt.shaped e = true) (h : Q (.bl (PyData.eqv d e)) H) : rEqD K x y H Q := ⟨d, e, h1, h2, s1, s2, h⟩
end Rd
theorem call_strQ {X : Cx} : CallR X (.type "str") Rd.rStrQ := call_str_int
theorem walk_zipT {K : PySem.W.Frag} {a b : Addr} {xs ys : List V} {n : Nat} (hn : n = min xs.length ys.length) : Walk (RZ.ItzT K a b) n (fun H => SqT K H a xs ∧ SqT K H b ys) (YPair (fun i => xs[i]?) (fun i => ys[i]?)) := by
  subst hn
  refine ⟨fun i _ hi q => ?_, fun _ q => ⟨xs, ys, q.1, q.2, by omega⟩, fun i H v H' _ q y => ?_⟩
  · have h1 : i < xs.length := by omega
    have h2 : i < ys.length := by omega
    exact ⟨xs, ys, xs[i], ys[i], q.1, q.2, by simp [h1], by simp [h2]⟩
  · obtain ⟨T, x, z, h1, h2, h3, h4, h5⟩ := y
    exact ⟨T, x, z, h1, h2, h3, h4 xs q.1, h5 ys q.2⟩
theorem Kp.seqT {S : List Addr} {K : PySem.W.Frag} {H H' : Hp} {l : Addr} {xs : List V} (a : Kp S H H') (hl : l ∉ S) (h : SqT K H l xs) : SqT K H' l xs := by
  rcases h with (h | ⟨o, h⟩) | h
  · exact .inl (.inl (a.get hl h))
  · exact .inl (.inr ⟨o, a.get hl h⟩)
  · exact .inr h
mutual
theorem dp_kp {K : PySem.W.Frag} {H H' : Hp} (k : Kp [] H H') : ∀ {v : V} {d : PyData}, Dp K H v d → Dp K H' v d
  | _, _, .non => .non
  | _, _, .bl b => .bl b
  | _, _, .int i => .int i
  | _, _, .str x => .str x
  | _, _, .lst h r => .lst (k.seqL (by simp) h) (dpAll_kp k r)
  | _, _, .tup h r => .tup (k.seqT (by simp) h) (dpAll_kp k r)
theorem dpAll_kp {K : PySem.W.Frag} {H H' : Hp} (k : Kp [] H H') : ∀ {vs : List V} {ds : List PyData}, DpAll K H vs ds → DpAll K H' vs ds
  | _, _, .nil => .nil
  | _, _, .cons a r => .cons (dp_kp k a) (dpAll_kp k r)
end
theorem depth_mem {d : PyData} : ∀ {ds : List PyData} {i : Nat}, ds[i]? = some d → d.depth ≤ PyData.depthAll ds
  | e :: r, 0, h => by
    simp at h
    subst h
    exact Nat.le_max_left _ _
  | e :: r, i + 1, h => by
    simp at h
    exact Nat.le_trans (depth_mem h) (Nat.le_max_right _ _)
theorem weight_mem {d : PyData} : ∀ {ds : List PyData} {i : Nat}, ds[i]? = some d → d.weight ≤ PyData.weightAll ds
  | e :: r, 0, h => by
    simp at h
    subst h
    show e.weight ≤ e.weight + 1 + PyData.weightAll r
    omega
  | e :: r, i + 1, h => by
    simp at h
    have := weight_mem h
    show d.weight ≤ e.weight + 1 + PyData.weightAll r
    omega
theorem weight_len : ∀ (ds : List PyData), ds.length ≤ PyData.weightAll ds
  | [] => Nat.le_refl _
  | e :: r => by
    have := weight_len r
    show r.length + 1 ≤ e.weight + 1 + PyData.weightAll r
    omega
theorem DpAll.len {K : PySem.W.Frag} {H : Hp} : ∀ {vs : List V} {ds : List PyData}, DpAll K H vs ds → vs.length = ds.length
  | _, _, .nil => rfl
  | _, _, .cons _ r => congrArg Nat.succ (DpAll.len r)
theorem DpAll.at {K : PySem.W.Frag} {H : Hp} : ∀ {vs : List V} {ds : List PyData} {i : Nat} {v : V}, DpAll K H vs ds → vs[i]? = some v → ∃ d, ds[i]? = some d ∧ Dp K H v d
  | _, _, 0, _, .cons a r, h => by
    simp at h
    subst h
    exact ⟨_, rfl, a⟩
  | _, _, i + 1, _, .cons a r, h => by
    simp at h
    obtain ⟨d, h1, h2⟩ := DpAll.at r h
    exact ⟨d, by simpa using h1, h2⟩
section
variable {K : PySem.W.Frag}
theorem kitA_lt_int : PySem.W.kitAny K (.type "int") [.type "list", .type "tuple"] = some false := kitAny_cons kit_int_list (fun _ => kitAny_cons kit_int_tuple (fun _ => kitAny_nil) (fun h => by cases h)) (fun h => by cases h)
theorem kitA_bilt_int : PySem.W.kitAny K (.type "int") [.type "bool", .type "int", .type "list", .type "tuple"] = some true := by
  refine kitAny_cons kit_int_bool ?_ ?_ <;> intro h <;> first | (cases h; done) | rfl | (refine kitAny_cons kit_int_int ?_ ?_ <;> intro h <;> first | (cases h; done) | rfl | exact kitA_lt_int)
theorem kitA_lt_bool : PySem.W.kitAny K (.type "bool") [.type "list", .type "tuple"] = some false := kitAny_cons kit_bool_list (fun _ => kitAny_cons kit_bool_tuple (fun _ => kitAny_nil) (fun h => by cases h)) (fun h => by cases h)
theorem kitA_bilt_bool : PySem.W.kitAny K (.type "bool") [.type "bool", .type "int", .type "list", .type "tuple"] = some true := by
  refine kitAny_cons kit_bool_bool ?_ ?_ <;> intro h <;> first | (cases h; done) | rfl | (refine kitAny_cons kit_bool_int ?_ ?_ <;> intro h <;> first | (cases h; done) | rfl | exact kitA_lt_bool)
theorem kitA_lt_str : PySem.W.kitAny K (.type "str") [.type "list", .type "tuple"] = some false := kitAny_cons kit_str_list (fun _ => kitAny_cons kit_str_tuple (fun _ => kitAny_nil) (fun h => by cases h)) (fun h => by cases h)
theorem kitA_bilt_str : PySem.W.kitAny K (.type "str") [.type "bool", .type "int", .type "list", .type "tuple"] = some false := by
  refine kitAny_cons kit_str_bool ?_ ?_ <;> intro h <;> first | (cases h; done) | rfl | (refine kitAny_cons kit_str_int ?_ ?_ <;> intro h <;> first | (cases h; done) | rfl | exact kitA_lt_str)
theorem kitA_lt_list : PySem.W.kitAny K (.type "list") [.type "list", .type "tuple"] = some true := kitAny_cons kit_list_list (fun h => by cases h) (fun _ => rfl)
theorem kitA_bilt_list : PySem.W.kitAny K (.type "list") [.type "bool", .type "int", .type "list", .type "tuple"] = some true := by
  refine kitAny_cons kit_list_bool ?_ ?_ <;> intro h <;> first | (cases h; done) | rfl | (refine kitAny_cons kit_list_int ?_ ?_ <;> intro h <;> first | (cases h; done) | rfl | exact kitA_lt_list)
theorem kitA_lt_tuple : PySem.W.kitAny K (.type "tuple") [.type "list", .type "tuple"] = some true := kitAny_cons kit_tuple_list (fun _ => kitAny_cons kit_tuple_tuple (fun h => by cases h) (fun _ => rfl)) (fun h => by cases h)
theorem kitA_bilt_tuple : PySem.W.kitAny K (.type "tuple") [.type "bool", .type "int", .type "list", .type "tuple"] = some true := by
  refine kitAny_cons kit_tuple_bool ?_ ?_ <;> intro h <;> first | (cases h; done) | rfl | (refine kitAny_cons kit_tuple_int ?_ ?_ <;> intro h <;> first | (cases h; done) | rfl | exact kitA_lt_tuple)
theorem kitA_lt_dict : PySem.W.kitAny K (.type "dict") [.type "list", .type "tuple"] = some false := kitAny_cons kit_dict_list (fun _ => kitAny_cons kit_dict_tuple (fun _ => kitAny_nil) (fun h => by cases h)) (fun h => by cases h)
theorem kitA_bilt_dict : PySem.W.kitAny K (.type "dict") [.type "bool", .type "int", .type "list", .type "tuple"] = some false := by
  refine kitAny_cons kit_dict_bool ?_ ?_ <;> intro h <;> first | (cases h; done) | rfl | (refine kitAny_cons kit_dict_int ?_ ?_ <;> intro h <;> first | (cases h; done) | rfl | exact kitA_lt_dict)
theorem kitA_lt_NoneType : PySem.W.kitAny K (.type "NoneType") [.type "list", .type "tuple"] = some false := kitAny_cons kit_NoneType_list (fun _ => kitAny_cons kit_NoneType_tuple (fun _ => kitAny_nil) (fun h => by cases h)) (fun h => by cases h)
theorem kitA_bilt_NoneType : PySem.W.kitAny K (.type "NoneType") [.type "bool", .type "int", .type "list", .type "tuple"] = some false := by
  refine kitAny_cons kit_NoneType_bool ?_ ?_ <;> intro h <;> first | (cases h; done) | rfl | (refine kitAny_cons kit_NoneType_int ?_ ?_ <;> intro h <;> first | (cases h; done) | rfl | exact kitA_lt_NoneType)
end
theorem sqL_ty {K : PySem.W.Frag} {H : Hp} {a : Addr} {xs : List V} (h : SqL K H a xs) : TyX K H (.ref a) (.type "list") := by
  rcases h with (h | ⟨o, h⟩) | ⟨o, its, n, h1, h2, _⟩
  · exact .base (.lst h)
  · exact .base (.frz h)
  · exact .kList h1 h2
theorem sqT_ty {K : PySem.W.Frag} {H : Hp} {a : Addr} {xs : List V} (h : SqT K H a xs) : TyX K H (.ref a) (.type "tuple") := by
  rcases h with (h | ⟨o, h⟩) | ⟨o, its, n, h1, h2, _⟩
  · exact .base (.tup h)
  · exact .fTuple h
  · exact .kTuple h1 h2
theorem Stt.upL {K : PySem.W.Frag} {H0 H : Hp} {S : List Addr} {l : Led} {a : Addr} {xs : List V} (s : Stt H0 S l H) (h : SqL K H0 a xs) (n : a ∉ S := by exact List.not_mem_nil) : SqL K H a xs := s.keep.seqL n h
theorem Stt.upT {K : PySem.W.Frag} {H0 H : Hp} {S : List Addr} {l : Led} {a : Addr} {xs : List V} (s : Stt H0 S l H) (h : SqT K H0 a xs) (n : a ∉ S := by exact List.not_mem_nil) : SqT K H a xs := s.keep.seqT n h
namespace Rd
variable {K : PySem.W.Frag} {H H0 : Hp} {Q : VK} {l : Led}
theorem wp {a c : L2.St} {b d : List Nat} {G : Prop} (e : wipe a b = wipe c d) (h : G) : wipe a b = wipe c d ∧ G := ⟨e, h⟩
theorem makeK {σ : L2.St} {C : Addr} {n m : Nat} {sp : Sp} {gV : List V → List V → List V} {E : XK} {t tk : TA} (h : t σ H fun vs H1 => tk σ H1 fun zs H2 => MakeN C n m sp gV E vs zs H2 Q) : tMakeK C n m sp gV E t tk σ H Q := h
def DNew (H : Hp) (Q : VK) : Prop := ∀ d, H d = none → Q (.ref d) (upd H d (.dK []))
theorem dnew {σ : L2.St} (h : DNew H Q) : tDNewK σ H Q := h
theorem dnewL {S : List Addr} (st : Stt H0 S l H) (k : ∀ p H1, H0 p = none → Stt H0 S ((p, Is (.dK [])) :: l) H1 → Q (.ref p) H1) : DNew H Q := fun p hp => k p _ (st.none hp) (st.new hp _)
def MethL (C : Addr) (m : Str) (sp : Sp) (dvs : List V) (E : XK) (t : TA) (σ : L2.St) (x : V) (H1 : Hp) (Q : VK) : Prop := ∃ a dx fs, x = .ref a ∧ H1 a = some (.ins C dx fs) ∧ fs.lookup m = none ∧
  t σ H1 fun vs H2 => sp (x :: (vs ++ dvs)) H2 Q E
theorem meth {σ : L2.St} {C : Addr} {m : Str} {sp : Sp} {dvs : List V} {E : XK} {ta : TE} {t : TA} (h : ta σ H fun x H1 => MethL C m sp dvs E t σ x H1 Q) : tMeth C m sp dvs E ta t σ H Q := h
def Cat (x y : V) (H1 : Hp) (Q : VK) : Prop := rCat x y H1 Q
theorem catL {S : List Addr} {p q : Addr} {xs zs : List V} (st : Stt H0 S l H) (m1 : (p, Is (.lst xs)) ∈ l) (m2 : (q, Is (.lst zs)) ∈ l) (hz : xs.length + zs.length ≤ 100000) (k : ∀ r H1, H0 r = none → Stt H0 S ((r, Is (.lst (xs ++ zs))) :: l) H1 → Q (.ref r) H1) : rCat (.ref p) (.ref q) H Q :=
  ⟨p, q, xs, zs, rfl, rfl, st.get m1, st.get m2, Nat.le_trans hz (by decide), fun r hr => k r _ (st.none hr) (st.new hr _)⟩
theorem isB {a b : Bool} (h : Q (.bl (decide (a = b))) H) : rIsB (.bl a) (.bl b) H Q := ⟨a, b, rfl, rfl, h⟩
theorem zL {a b : Addr} {xs ys : List V} {R : It → Hp → Prop} (h1 : SqL K H a xs) (h2 : SqL K H b ys) (h : R (Itz K a b) H) : WZ K [.ref a, .ref b] H R := ⟨a, b, xs, ys, rfl, .inl ⟨h1, h2, h⟩⟩
theorem zT {a b : Addr} {xs ys : List V} {R : It → Hp → Prop} (h1 : SqT K H a xs) (h2 : SqT K H b ys) (h : R (RZ.ItzT K a b) H) : WZ K [.ref a, .ref b] H R := ⟨a, b, xs, ys, rfl, .inr ⟨h1, h2, h⟩⟩
theorem lenBL {S : List Addr} {p : Addr} {xs : List V} (st : Stt H0 S l H) (s : SqL K H0 p xs) (n : p ∉ S) (h : Q (.int (xs.length : Int)) H) : rLenQ K [.ref p] H Q := ⟨p, xs, rfl, .inl (st.upL s n), h⟩
theorem lenBT {S : List Addr} {p : Addr} {xs : List V} (st : Stt H0 S l H) (s : SqT K H0 p xs) (n : p ∉ S) (h : Q (.int (xs.length : Int)) H) : rLenQ K [.ref p] H Q := ⟨p, xs, rfl, .inr (st.upT s n), h⟩
theorem ixBL {S : List Addr} {p : Addr} {xs : List V} {z : Int} {v : V} (st : Stt H0 S l H) (s : SqL K H0 p xs) (n : p ∉ S) (e : atI xs z = some v) (h : Q v H) : rIxL K (.ref p) (.int z) H Q := ⟨p, xs, z, v, rfl, rfl, st.upL s n, e, h⟩
theorem ixBT {S : List Addr} {p : Addr} {xs : List V} {z : Int} {v : V} (st : Stt H0 S l H) (s : SqT K H0 p xs) (n : p ∉ S) (e : atI xs z = some v) (h : Q v H) : rIxT K (.ref p) (.int z) H Q := ⟨p, xs, z, v, rfl, rfl, st.upT s n, e, h⟩
end Rd
section
variable {X : Cx} {CX : CXT} {k : Nat} {f C : Addr} {fd : FuncData} {ps ks : List Str} {sp : Sp} {E : XK} {x : Str} {p pos : Pos} {kws : List Keyword} {tk : TA} {gV : List V → List V → List V}
theorem pe_makeK0X (M : Mk X.K C f) (F : FnOk X.prog X.w X.K X.mg X.base CX k f fd ps sp) (hr : Room (k + 1) X.A) (hg : Gl X x) (hm : X.mg x = some (.ref C)) (hb : ∃ g, KBn X.K fd ps 1 ks g gV) (hx : Passes CX X E)
    (hkw : PK X kws tk) (hall : (backToKw pos (keywordEach kws X.env)).all (·.1.isSome) = true := by rfl) (hks : (backToKw pos (keywordEach kws X.env)).filterMap (·.1) = ks := by rfl)
    (hdb : (x == ("__debug__" : Str)) = false := by decide) (hpl : ((backTo pos (starEach [] X.env)).any (·.1) || (backToKw pos (keywordEach kws X.env)).any (·.1.isNone)) = false := by rfl) :
    PE X (.Call (.Name x p) [] kws pos) (tMakeK C 0 ks.length sp gV E tNil tk) := by
  obtain ⟨g, hb⟩ := hb
  exact pe_makeK0 M F hr hg hm hb hx hkw hall hks hdb hpl
end
end Lt

set_option Elab.async false
set_option linter.all false
set_option maxRecDepth 100000
set_option maxHeartbeats 2000000
namespace Lt
open PySem PySem.Spec PyProof.Rows L2
/-! ### static methods -/
/-- where the function of a static method stands -/
def sAd (K : PySem.W.Frag) (p : Str × Option Str) : Addr := match PySem.W.recIn K (He.fAd K p) "staticmethod" with
  | some (.ref f :: _) => f
  | _ => 0
def sW (K : PySem.W.Frag) (p : Str × Option Str) : He.FnW := match K.lookup (sAd K p) with
  | some ⟨_, _, .func fd, _⟩ => some (fd.name, fd.qualname, fd.params, fd.body, fd.scope, fd.globals, fd.closure, fd.builtins)
  | _ => none
def sOk (K : PySem.W.Frag) (d : He.DefD) : Bool := PySem.W.keepIn K (.ref (sAd K d.at_)) && (match K.lookup (sAd K d.at_) with
  | some ⟨_, _, .func fd, _⟩ => PySem.W.codeIn K fd.code d.qual && (He.dflB K fd.defaults (d.dvs K) && He.kwdB K fd.kwdefaults (d.kws K))
  | _ => false)
theorem sFunD {K : PySem.W.Frag} {d : He.DefD} (e : sW K d.at_ = d.val) (c : sOk K d = true) : ∃ fd, FunD K d.name d.qual d.params d.body d.scope (d.dvs K) (d.kws K) (sAd K d.at_) fd := by
  obtain ⟨kp, c2⟩ := He.ba c
  unfold sW at e
  cases q : K.lookup (sAd K d.at_) with
  | none =>
    rw [q] at c2
    cases c2
  | some o =>
    obtain ⟨oc, od, dt, osl⟩ := o
    rw [q] at c2 e
    cases dt with
    | func fd =>
      obtain ⟨n1, n2, n3, n4, n5, n6, n7, n8, n9, n10, n11, n12, n13, n14, n15⟩ := fd
      have e2 : (some (n1, n2, n3, n4, n5, n6, n7, n15) : He.FnW) = some (d.name, d.qual, d.params, .stmts d.body, d.scope, mainGlobals, [], builtinsNs) := e
      simp only [Option.some.injEq, Prod.mk.injEq] at e2
      obtain ⟨h1, h2, h3, h4, h5, h6, h7, h8⟩ := e2
      subst h1 h2 h3 h4 h5 h6 h7 h8
      have c3 : (PySem.W.codeIn K n13 d.qual && (He.dflB K n8 (d.dvs K) && He.kwdB K n9 (d.kws K))) = true := c2
      obtain ⟨k1, k2⟩ := He.ba c3
      obtain ⟨k3, k4⟩ := He.ba k2
      exact ⟨_, ⟨oc, od, n8, n9, n10, n11, n12, n13, n14, osl, rfl, q, k1, He.dflB_ok k3, He.kwdB_ok k4⟩, kp⟩
    | _ => cases c2
/-- C.m is a static method, its function at g -/
structure SMet (K : PySem.W.Frag) (C g : Addr) (m : Str) : Prop where
  rd : PySem.W.readsIn K C (.type "type") = true
  ga : PySem.W.specialIn K (.ref C) "__getattribute__" = some (some (.builtin "type.__getattribute__"))
  at_ : ∃ p rest, PySem.W.findCls K (.ref C) (.type "type") m = some (.get (.builtin "staticmethod.__get__") (.ref p) .none (.ref C)) ∧ PySem.W.recIn K p "staticmethod" = some (.ref g :: rest)
def sMetB (K : PySem.W.Frag) (x m : Str) : Bool := PySem.W.readsIn K (He.ga K x) (.type "type") && (decide (PySem.W.specialIn K (.ref (He.ga K x)) "__getattribute__" = some (some (.builtin "type.__getattribute__"))) &&
  ((match PySem.W.findCls K (.ref (He.ga K x)) (.type "type") m with
      | some (.get g a o t) => decide (g = .builtin "staticmethod.__get__") && (decide (a = .ref (He.fAd K (x, some m))) && (decide (o = .none) && decide (t = .ref (He.ga K x))))
      | _ => false) &&
    (match PySem.W.recIn K (He.fAd K (x, some m)) "staticmethod" with
      | some (.ref _ :: _) => true
      | _ => false)))
theorem sMet_of {K : PySem.W.Frag} {x m : Str} (h : sMetB K x m = true) : SMet K (He.ga K x) (sAd K (x, some m)) m := by
  obtain ⟨h1, h⟩ := He.ba h
  obtain ⟨h2, h⟩ := He.ba h
  obtain ⟨h3, h4⟩ := He.ba h
  have h3' : PySem.W.findCls K (.ref (He.ga K x)) (.type "type") m = some (.get (.builtin "staticmethod.__get__") (.ref (He.fAd K (x, some m))) .none (.ref (He.ga K x))) := by
    cases q : PySem.W.findCls K (.ref (He.ga K x)) (.type "type") m with
    | none => rw [q] at h3; cases h3
    | some z =>
      rw [q] at h3
      cases z with
      | val v => cases h3
      | get g a o t =>
        obtain ⟨e1, h3⟩ := He.ba h3
        obtain ⟨e2, h3⟩ := He.ba h3
        obtain ⟨e3, e4⟩ := He.ba h3
        rw [of_decide_eq_true e1, of_decide_eq_true e2, of_decide_eq_true e3, of_decide_eq_true e4]
  refine ⟨h1, of_decide_eq_true h2, He.fAd K (x, some m), ?_⟩
  unfold sAd
  cases q : PySem.W.recIn K (He.fAd K (x, some m)) "staticmethod" with
  | none => rw [q] at h4; cases h4
  | some l =>
    rw [q] at h4
    cases l with
    | nil => cases h4
    | cons v r =>
      cases v with
      | ref f => exact ⟨r, h3', rfl⟩
      | _ => cases h4
section
variable {X : Cx} {CX : CXT} {k : Nat} {C g : Addr} {fd : FuncData} {ps : List Str} {sp : Sp} {E : L2.St → XK} {o e : Expr} {es : List Expr} {m : Str} {pos apos : Pos} {ta : TE} {t : TA} {pl : Sem Bool}
/-- C.m(e, ..), m a static method of the class at C -/
def tSMeth (C : Addr) (sp : Sp) (E : L2.St → XK) (ta : TE) (t : TA) : TE := fun σ H Q => ta σ H fun x H1 => x = .ref C ∧ t σ H1 fun vs H2 => sp vs H2 Q (E σ)
theorem pe_smeth (he : PE X o ta) (r : SMet X.K C g m) (F : FnOk X.prog X.w X.K X.mg X.base CX k g fd ps sp) (hk : PySem.W.keepIn X.K (.ref g) = true) (hr : Room k X.A) (hb : Binds X.K fd ps []) (hx : ∀ σ, PassesAt CX X σ (E σ)) (ha : PA X (e :: es) t)
    (hst : starEach (e :: es) X.env = (false, eval e X.env) :: starEach es X.env := by rfl) (hpl : (backTo pos (starEach es X.env)).any (·.1) = false := by rfl)
    (ht : eval (.Call (.Attribute o m apos) (e :: es) [] pos) X.env = (do
      let ov ← eval o X.env
      standAt apos.atName
      let (f, first) ← holding [ov] (getMethod ov m pl)
      callWith pos f first (backTo pos (starEach (e :: es) X.env)) (backToKw pos (keywordEach [] X.env))) := by rfl) :
    PE X (.Call (.Attribute o m apos) (e :: es) [] pos) (tSMeth C sp E ta t) := by
  refine ⟨fun pins s σ H Q I h => ?_⟩
  refine PySem.W.methodCall_KW (pl := pl) (thn (he.run pins s σ H _ I h) fun u s1 ⟨x, H1, I1, rx, ex, q⟩ => ?_) ht
  subst ex
  obtain rfl : u = Value.ref C := rx
  obtain ⟨p, rest, e1, e2⟩ := r.at_
  refine PySem.W.method_cls I1.kIn r.ga (PySem.W.cls_bind I1.kIn r.rd e1 ?_)
  refine wpAny_call (PySem.W.sm_get (s := { s1 with toks := s1.toks + 1 }) I1.kIn e2 (PySem.W.handed_on rfl ?_))
  have I2 := I1.tok (s1.toks + 1)
  refine PySem.W.callWith_K (h₀ := X.base) I1.ok.mod.kin hk (thn (ha.run pos _ _ σ H1 _ I2 q) fun us s3 ⟨vs, H2, I3, rv, q2⟩ => ⟨I3.kIn, ?_⟩) hst hpl
  exact run_fnS F hr hb (hx σ) I3 rv q2
end
theorem Rd.smeth {C : Addr} {sp : Sp} {E : L2.St → XK} {ta : TE} {t : TA} {σ : L2.St} {H : Hp} {Q : VK} (h : ta σ H fun x H1 => x = .ref C ∧ t σ H1 fun vs H2 => sp vs H2 Q (E σ)) : tSMeth C sp E ta t σ H Q := h
/-- a written text by its signs; a text of the module -/
theorem pe_strL {X : Cx} {z : Str} {l : List Nat} {k : Nat} {p : Pos} (h : z = SX.S l) : PE X (.Constant (.str z) k p) (tC (.str (SX.S l))) := by
  rw [← h]
  exact pe_str
theorem pe_globS {X : Cx} {x z : Str} {p : Pos} (hg : Gl X x) (hm : ∃ t, X.mg x = some (.str z t)) (hdb : (x == ("__debug__" : Str)) = false := by decide) : PE X (.Name x p) (tC (.str z)) := by
  obtain ⟨t, hm⟩ := hm
  exact pe_glob hg hm ⟨_, rfl⟩ hdb
/-! ### a Hook with static methods -/
def obsS (fa : List He.Fa) (fs : List (PySem.W.Frag → Bool)) (fn sn : List He.DefD) (K : PySem.W.Frag) : He.AlD :=
  ((fa.all fun f => f.ok K) && ((fs.all fun f => f K) && ((fn.all fun d => d.ok K) && sn.all fun d => sOk K d)), (fn.map fun d => He.fnW K d.at_) ++ sn.map fun d => sW K d.at_)
def SaysS (fa : List He.Fa) (fs : List (PySem.W.Frag → Bool)) (fn sn : List He.DefD) (K : PySem.W.Frag) : Prop := obsS fa fs fn sn K = He.valD (fn ++ sn)
def obsSG (n : Nat) (fa : List He.Fa) (fs : List (PySem.W.Frag → Bool)) (fn sn : List He.DefD) (g : Addr → Option Obj) : He.AlD := obsS fa fs fn sn (He.frG g (cStatics :: He.asD g n))
def hookS (n : Nat) (fa : List He.Fa) (fs : List (PySem.W.Frag → Bool)) (fn sn : List He.DefD) : PySem.W.Hook where
  α := He.AlD
  obs := fun s => obsSG n fa fs fn sn s.heap.get?
  val := fun _ => He.valD (fn ++ sn)
  says := fun _ h => ∃ K : PySem.W.Frag, K.In h ∧ SaysS fa fs fn sn K
  of := fun _ _ e => ⟨_, He.frG_in, e⟩
  keeps := fun _ _ _ ⟨K, hK, c⟩ k => ⟨K, PySem.W.Frag.In.keeps hK k, c⟩
theorem obsSG_eq {n : Nat} {fa : List He.Fa} {fs : List (PySem.W.Frag → Bool)} {fn sn : List He.DefD} {g : Addr → Option Obj} {s : Shared} (h : ∀ a, g a = s.heap.get? a) : obsSG n fa fs fn sn g = (hookS n fa fs fn sn).obs s := by
  have e : g = s.heap.get? := funext h
  rw [e] <;> rfl
section
variable {fa : List He.Fa} {fs : List (PySem.W.Frag → Bool)} {fn sn : List He.DefD} {K : PySem.W.Frag}
theorem SaysS.fst (c : SaysS fa fs fn sn K) : ((fa.all fun f => f.ok K) && ((fs.all fun f => f K) && ((fn.all fun d => d.ok K) && sn.all fun d => sOk K d))) = true := congrArg (fun z : He.AlD => z.1) c
theorem SaysS.snd (c : SaysS fa fs fn sn K) : (fn.map fun d => He.fnW K d.at_) ++ (sn.map fun d => sW K d.at_) = (fn ++ sn).map He.DefD.val := congrArg (fun z : He.AlD => z.2) c
theorem SaysS.fact (c : SaysS fa fs fn sn K) (i : Nat) {f : He.Fa} (h : fa[i]? = some f) : f.ok K = true :=
  List.all_eq_true.mp (He.ba c.fst).1 f (List.mem_of_getElem? h)
theorem SaysS.chk (c : SaysS fa fs fn sn K) (i : Nat) {f : PySem.W.Frag → Bool} (h : fs[i]? = some f) : f K = true :=
  List.all_eq_true.mp (He.ba (He.ba c.fst).2).1 f (List.mem_of_getElem? h)
theorem SaysS.def_ (c : SaysS fa fs fn sn K) (i : Nat) {d : He.DefD} (h : fn[i]? = some d) : ∃ fd, FunD K d.name d.qual d.params d.body d.scope (d.dvs K) (d.kws K) (He.fAd K d.at_) fd := by
  have c2 := (He.ba (He.ba (He.ba c.fst).2).2).1
  have e := c.snd
  rw [List.map_append] at e
  have e1 : fn.map (fun d => He.fnW K d.at_) = fn.map He.DefD.val := (List.append_inj e (by simp)).1
  have e2 : (fn.map fun d => He.fnW K d.at_)[i]? = (fn.map He.DefD.val)[i]? := by rw [e1]
  rw [List.getElem?_map, List.getElem?_map, h] at e2
  exact He.DefD.funD (Option.some.inj e2) (List.all_eq_true.mp c2 d (List.mem_of_getElem? h))
theorem SaysS.stat (c : SaysS fa fs fn sn K) (i : Nat) {d : He.DefD} (h : sn[i]? = some d) : ∃ fd, FunD K d.name d.qual d.params d.body d.scope (d.dvs K) (d.kws K) (sAd K d.at_) fd := by
  have c2 := (He.ba (He.ba (He.ba c.fst).2).2).2
  have e := c.snd
  rw [List.map_append] at e
  have e1 : sn.map (fun d => sW K d.at_) = sn.map He.DefD.val := (List.append_inj e (by simp)).2
  have e2 : (sn.map fun d => sW K d.at_)[i]? = (sn.map He.DefD.val)[i]? := by rw [e1]
  rw [List.getElem?_map, List.getElem?_map, h] at e2
  exact sFunD (Option.some.inj e2) (List.all_eq_true.mp c2 d (List.mem_of_getElem? h))
end
/-! ### own exception classes with an own __init__ -/
/-- what a class must have: made, its field read -/
structure ExK (K : PySem.W.Frag) (C fI : Addr) : Prop where
  oex : OexC K C
  xf : XfC K C
  iC : PySem.W.findIn K (.ref C) "__init__" = some (some (.ref fI))
  tI : PySem.W.typeIn K (.ref fI) = some (.type "function")
  te : PySem.W.exmOne K (.ref C) (.ref C) = some true
def exClsB (K : PySem.W.Frag) (C : Addr) : Bool := match K.lookup C with
  | some ⟨.type "type", _, .cls cd, sl⟩ => (match cd.mro, sl.toList with
    | .ref C' :: bm, [_, _, _, _, some (.builtin n), _] => C' == C && (n == "ValueError.__new__" && (!cd.hasDel && (cd.hasDict && PySem.HandSPX.refsVE bm)))
    | _, _ => false)
  | _ => false
theorem exCls_of {K : PySem.W.Frag} {C : Addr} (q : exClsB K C = true) : ∃ nm q N bs bm sn sub ab col dd k0 k1 k2 k3 k5, K.lookup C = some (excClassObj nm q C N bs bm true sn sub ab col dd k0 k1 k2 k3 k5 "ValueError.__new__") ∧ PySem.HandSPX.refsVE bm = true := by
  unfold exClsB at q
  split at q
  · rename_i dd cd sl ho
    split at q
    · rename_i C' bm k0 k1 k2 k3 n k5 hm hs
      simp only [Bool.and_eq_true, beq_iff_eq, Bool.not_eq_true'] at q
      obtain ⟨rfl, rfl, hdel, hdi, ht⟩ := q
      obtain ⟨nm, bs, mro, ns, qn, hd, sn, sub, ab, col, del⟩ := cd
      dsimp only at hm hdel hdi
      subst hm hdel hdi
      have hsl : sl = #[k0, k1, k2, k3, some (.builtin "ValueError.__new__"), k5] := by
        obtain ⟨l⟩ := sl
        simp only at hs
        rw [hs]
      subst hsl
      exact ⟨nm, qn, ns, bs, bm, sn, sub, ab, col, dd, k0, k1, k2, k3, k5, ho, ht⟩
    · cases q
  · cases q
/-- decided of the name x of the module -/
def exKB (K : PySem.W.Frag) (x : Str) : Bool := exClsB K (He.ga K x) && (decide (PySem.W.findIn K (.ref (He.ga K x)) "__setattr__" = some (some (.builtin "object.__setattr__"))) && (decide (PySem.W.subIn K (.ref (He.ga K x)) (.type "BaseException") = some true) &&
  (decide (PySem.W.typeIn K (.ref (He.ga K x)) = some (.type "type")) && (PySem.W.keepIn K (.ref (He.ga K x)) && (xfB K (He.ga K x) && (decide (PySem.W.findIn K (.ref (He.ga K x)) "__init__" = some (some (.ref (He.ma K (He.ga K x) "__init__")))) &&
    (decide (PySem.W.typeIn K (.ref (He.ma K (He.ga K x) "__init__")) = some (.type "function")) && decide (PySem.W.exmOne K (.ref (He.ga K x)) (.ref (He.ga K x)) = some true))))))))
theorem exK_of {K : PySem.W.Frag} {x : Str} (h : exKB K x = true) : ExK K (He.ga K x) (He.ma K (He.ga K x) "__init__") := by
  obtain ⟨h1, h⟩ := He.ba h
  obtain ⟨h2, h⟩ := He.ba h
  obtain ⟨h3, h⟩ := He.ba h
  obtain ⟨h4, h⟩ := He.ba h
  obtain ⟨h5, h⟩ := He.ba h
  obtain ⟨h6, h⟩ := He.ba h
  obtain ⟨h7, h⟩ := He.ba h
  obtain ⟨h8, h9⟩ := He.ba h
  exact ⟨⟨exCls_of h1, of_decide_eq_true h2, of_decide_eq_true h3, of_decide_eq_true h4, h5⟩, xfB_ok h6, of_decide_eq_true h7, of_decide_eq_true h8, of_decide_eq_true h9⟩
/-- the promise of an __init__ that says self.f = x, no more -/
def spExI (C : Addr) (f : Str) : Sp := fun vs H Q _ => ∃ (a : Addr) (v : V), vs = [.ref a, v] ∧ H a = some (exo a C none) ∧ ∀ d, H d = none → d ≠ a → Q .non (upd (upd H d (exd d [(f, v)])) a (exo a C (some d)))
/-- C(v), raised: what is left of it is its dict -/
theorem mkO_ask {C : Addr} {f : Str} {σ : L2.St} {H : Hp} {Q : XK} {ta : TA} (h : ta σ H fun vs H1 => ∃ v, vs = [v] ∧ ∀ d, H1 d = none → Q (.ref C) (some d) (upd H1 d (.xd [(f, v)]))) (mono : ∀ {K1 K2 : List V → Hp → Prop}, (∀ vs H', K1 vs H' → K2 vs H') → ta σ H K1 → ta σ H K2) :
    tMkO C (spExI C f) [] ta σ H Q := by
  refine mono (fun vs H1 hh => ?_) h
  obtain ⟨v, rfl, k⟩ := hh
  refine ⟨by simp, fun a ha => ⟨a, v, rfl, upd_same, fun d hd hda => ⟨rfl, d, [(f, v)], upd_same, ?_, ?_, ?_⟩⟩⟩
  · rw [upd_ne hda, upd_same]
  · rw [upd_ne hda] at hd
    exact hd
  · rw [upd_ne hda] at hd
    have e : upd (del (upd (upd (upd H1 a (exo a C none)) d (exd d [(f, v)])) a (exo a C (some d))) a) d (.xd [(f, v)]) = upd H1 d (.xd [(f, v)]) := by
      funext b
      by_cases h1 : b = d
      · subst h1
        rw [upd_same, upd_same]
      · rw [upd_ne h1, upd_ne h1]
        by_cases h2 : b = a
        · subst h2
          rw [del_same, ha]
        · rw [del_ne h2, upd_ne h2, upd_ne h1, upd_ne h2]
    rw [e]
    exact k d hd
end Lt

set_option Elab.async false
set_option linter.all false
set_option maxRecDepth 100000
set_option maxHeartbeats 2000000
namespace Lt
open PySem PySem.Spec PyProof.Rows L2
/-! ### a class over ValueError called with keywords -/
section
open PySem.HandSPX
variable {M : Model} {prog : Program} {w : World} {A : Around} {E : Value → Shared → Prop} {R : Result → Shared → Prop} {h : Heap} {g : Array GenState} {d : Drawn} {t : Nat} {os : OsState}
variable {nm q : Str} {C N : Addr} {bs bm bmB : List Value} {hdct : Bool} {sn : List Str} {sub : List Value} {ab : Bool} {col : Option Bool} {dd : Option Addr} {k0 k1 k2 k3 k5 : Option Value} {B newId initId : String} {kw : List (Str × Value)}
local macro_rules | `(tactic| wtm_at "kw1") => `(tactic| first
  | with_reducible refine wpAny_loadPart_at (by assumption) ?_
  | (with_reducible refine wpAny_isSubtype_exc (by assumption) ?_; first | rw [‹(Value.ref C :: bm).contains (.type B) = true›] | rw [‹(Value.ref C :: bm).contains (.type "AttributeError") = false›] | rw [‹(Value.ref C :: bm).contains (.type "NameError") = false›])
  | with_reducible refine wpAny_staticBase_exc (by assumption) ?_
  | with_reducible refine wpAny_madeBy_exc (by assumption) ?_
  | simp only [bne_self_eq_false, Bool.false_eq_true, if_false]
  | wp_step)
local macro_rules | `(tactic| wtm_at "kwn") => `(tactic| repeat (wtm_at "kw1"))
theorem check_new_kw (F : ExcBaseFacts B newId initId bmB) (hT : ∀ X : String, bm.contains (.type X) = bmB.contains (.type X)) {Q : Unit → Shared → Prop}
    (hC : h.get? C = some (excClassObj nm q C N bs bm hdct sn sub ab col dd k0 k1 k2 k3 k5 newId)) (hq : Q () ⟨h, g, d, t, os⟩) : wpAny M A (checkBuiltinCall newId ⟨[.ref C], kw⟩) Q E ⟨h, g, d, t, os⟩ := by
  have e1 : (Value.ref C :: bm).contains (.type B) = true := by rw [List.contains_cons, hT, F.hasB, Bool.or_true]
  have e2 := F.noStar
  simp only [checkBuiltinCall, F.newKind, F.newSplit, F.newRow]
  wtm_at "kwn"
  exact hq
theorem new_kw (F : ExcBaseFacts B newId initId bmB) (hT : ∀ X : String, bm.contains (.type X) = bmB.contains (.type X))
    (hC : h.get? C = some (excClassObj nm q C N bs bm hdct sn sub ab col dd k0 k1 k2 k3 k5 newId))
    (hq : R (.ok (.ret (.ref (h.objs.size + 1)))) ⟨(h.push (PySem.W.kdv_tup [])).push (excO C h.objs.size), g, d, t, os⟩) :
    codeAny (model prog w) A (.builtin newId ⟨[.ref C], kw⟩) R ⟨h, g, d, t, os⟩ := by
  have e0 := F.ends
  have e1 : (Value.ref C :: bm).contains (.type B) = true := by rw [List.contains_cons, hT, F.hasB, Bool.or_true]
  have e2 : (Value.ref C :: bm).contains (.type "AttributeError") = false := by rw [List.contains_cons, hT, F.noAttr]; rfl
  have e3 : (Value.ref C :: bm).contains (.type "NameError") = false := by rw [List.contains_cons, hT, F.noName]; rfl
  refine codeAny_builtinAt F.entry ?_
  unfold Builtin.«BaseException.__new__»
  refine PySem.wpAt_bind ?_
  show PySem.wpAt _ _ _ (stack >>= _) _ _ _
  refine PySem.wpAt_bind (PySem.wpAt_stack fun p below => PySem.wpAt_of_wpAny ?_)
  wp_walk
  refine PySem.wpAt_of_wpAny ?_
  rw [F.owner]
  repeat (first | with_reducible refine wpAny_madeHere_exc F.canon hC ?_ | wtm_at "kw1")
  show R _ _
  rw [Heap.size_push]
  exact hq
theorem type_call_kw (F : ExcBaseFacts B newId initId bmB) (hT : ∀ X : String, bm.contains (.type X) = bmB.contains (.type X)) {fI : Addr} {Q : Fin → Shared → Prop}
    (hC : h.get? C = some (excClassObj nm q C N bs bm hdct sn sub ab col dd k0 k1 k2 k3 k5 newId))
    (hi : PySem.W.Looks (model prog w) h (typeLookup (.ref C) "__init__") (some (.ref fI))) (hb : ∀ self, PySem.W.Looks (model prog w) h (bindSpecial (.ref fI) self) (.ref fI, [self]))
    (hq : codeAny (model prog w) A (.call (.ref fI) ⟨[.ref (h.objs.size + 1)], kw⟩) (fun r s' => match r with | .ok (.ret v) => v = .none ∧ Q (.done (.ret (.ref (h.objs.size + 1)))) s' | .ok _ => False | .error e => E e s')
      ⟨(h.push (PySem.W.kdv_tup [])).push (excO C h.objs.size), g, d, t, os⟩) :
    wpAny (model prog w) A (Builtin.«type.__call__» ⟨[.ref C], kw⟩) Q E ⟨h, g, d, t, os⟩ := by
  wtm_at "kwn"
  refine codeAny_call_builtin_code (Code.quiet_builtin _ F.quiet) (check_new_kw F hT hC (new_kw F hT hC ?_))
  show wpAny _ _ _ _ _ _
  have kk : ∀ b o, h.get? b = some o → ((h.push (PySem.W.kdv_tup [])).push (excO C h.objs.size)).get? b = some o := fun b o e => Heap.get?_push_of_some _ (Heap.get?_push_of_some _ e)
  have hC2 := kk _ _ hC
  have hx : ((h.push (PySem.W.kdv_tup [])).push (excO C h.objs.size)).get? (h.objs.size + 1) = some (excO C h.objs.size) := by heap_get
  have hcc : (Value.ref C :: bm).contains (.ref C) = true := by simp
  have i2 := hi.keeps kk
  have b2 := (hb (.ref (h.objs.size + 1))).keeps kk
  unfold isInstance
  repeat (first | with_reducible refine wpAny_loadPart_at hx ?_ | (with_reducible refine wpAny_isSubtype_exc hC2 ?_; rw [hcc]) | wp_step)
  show wpAny _ _ (typeLookup (.ref C) _) _ _ _
  refine i2.at (wpAny_holding (wpAny_bind (b2.at (wpAny_bind (wpAny_call (codeAny_mono hq fun r s' z => ?_))))))
  cases r with
  | error e => exact z
  | ok fl =>
    cases fl with
    | ret v =>
      obtain ⟨rfl, z⟩ := z
      exact wpAny_pure (wpAny_pure z)
    | next => exact False.elim z
    | brk => exact False.elim z
    | cont => exact False.elim z
theorem call_kw (F : ExcBaseFacts B newId initId bmB) (hT : ∀ X : String, bm.contains (.type X) = bmB.contains (.type X)) {fI : Addr}
    (hC : h.get? C = some (excClassObj nm q C N bs bm hdct sn sub ab col dd k0 k1 k2 k3 k5 newId))
    (hi : PySem.W.Looks (model prog w) h (typeLookup (.ref C) "__init__") (some (.ref fI))) (hb : ∀ self, PySem.W.Looks (model prog w) h (bindSpecial (.ref fI) self) (.ref fI, [self]))
    (hq : codeAny (model prog w) (A.under (.builtin "type.__call__" ⟨[.ref C], kw⟩)) (.call (.ref fI) ⟨[.ref (h.objs.size + 1)], kw⟩) (PySem.W.InitBack (h.objs.size + 1) R)
      ⟨(h.push (PySem.W.kdv_tup [])).push (excO C h.objs.size), g, d, t, os⟩) :
    codeAny (model prog w) A (.call (.ref C) ⟨[], kw⟩) R ⟨h, g, d, t, os⟩ := by
  have g1 := tc_lookup
  have g2 := tc_bind (.ref C)
  have hTy : (⟨h, g, d, t, os⟩ : Shared).TypeIs (.ref C) "type" := ⟨_, hC, rfl⟩
  refine codeAny_of_tree ?_
  show wpAny _ _ (callAny (.ref C) _) _ _ _
  repeat (any_goals (first | assumption | with_reducible refine wpAny_loadPart_at hC ?_ | wp_step))
  refine ⟨rfl, codeAny_call_builtin_at (Code.quiet_builtin _ (by decide +kernel)) entry_typeCall (wpAny_check_type_call_sub hC (type_call_kw F hT hC hi hb (codeAny_mono hq fun r s' z => ?_)))⟩
  cases r with
  | error e => exact z
  | ok fl => cases fl <;> exact z
end
/-! ### isinstance of a made exception -/
section
open PySem.W
variable {prog : Program} {w : World} {A : Around} {E : Value → Shared → Prop} {s : Shared} {K : Frag} {x D : Addr} {ox : Obj} {od : Option Obj}
theorem find_data {name : Str} {a g : Value} (hc : (clsIn K D).isSome = true) (ha : findIn K (.ref D) name = some (some a)) (hg : specialIn K a "__get__" = some (some g)) (ht : takesIn K a = some true) : findObj K D od name = some (.bind g a) := by
  obtain ⟨cd, hcd⟩ := Option.isSome_iff_exists.mp hc
  unfold findObj
  rw [hcd, Option.bind_some, ha, Option.bind_some] <;> simp [hg, ht]
theorem class_of_exc (C : ExcC K D) (X : K.In s.heap) (I : InstAt s.heap x ox D od) {Q : Option Value → Shared → Prop} (h : Q (some (.ref D)) { s with toks := s.toks + 1 }) : wpAny (model prog w) A (getAttr? (.ref x) "__class__") Q E s := by
  have f : findObj K D od "__class__" = some (.bind (.builtin "getset_descriptor.__get__") (.builtin "object.__class__")) := find_data (by obtain ⟨cd, hc, _⟩ := any_some C.hd; rw [hc]; rfl) C.ha C.hn C.ht
  obtain ⟨hp, g, d, t, os⟩ := s
  have K0 := I.type (M := model prog w)
  have K1 := looks_findIn (M := model prog w) X C.hg
  have K2 := looks_findIn (M := model prog w) X C.hk
  have K3 := looks_find (M := model prog w) X I f
  have K4 : Looks (model prog w) hp (isInstance (.ref x) (.type "BaseException")) true := K0.andThen (looks_subIn X C.hs)
  have n0 : (false && onTheHeap (Value.builtin "BaseException.__getattribute__")) = false := rfl
  have n1 : (onTheHeap (Value.ref D) && Value.builtin "BaseException.__getattribute__" == Value.builtin "object.__getattribute__") = false := by
    rw [show (Value.builtin "BaseException.__getattribute__" == Value.builtin "object.__getattribute__") = false by decide +kernel]
    rfl
  unfold getAttr? getAttrBy? getAttrBy
  refine wpAny_bind (wpAny_mkText (wpAny_bind (wpAny_attempt (wpAny_holding (wpAny_bind (K0.at (wpAny_bind (K1.at ?_))))))))
  show wpAny _ _ (if (onTheHeap (Value.ref D) && Value.builtin "BaseException.__getattribute__" == Value.builtin "object.__getattribute__") = true then _ else _) _ _ _
  rw [if_neg (by rw [n1]; exact Bool.false_ne_true)]
  unfold getAttrByItsOwn hookBefore
  refine wpAny_bind ?_
  rw [if_pos (show onTheHeap (Value.ref D) = true from rfl)]
  refine K2.at (wpAny_bind (wpAny_attempt (wpAny_holding ?_)))
  unfold callGetattribute
  rw [if_neg (by rw [n0]; exact Bool.false_ne_true)]
  unfold boundAndCalled
  rw [PySem.F.excAttr_ValueError.ga.bind (.ref x)]
  refine wpAny_bind (wpAny_pure ?_)
  show wpAny _ _ (call (.builtin "BaseException.__getattribute__") [.ref x, .str "__class__" t]) _ _ _
  refine wpAny_call (codeAny_call_builtin PySem.F.excAttr_ValueError.ga.plain PySem.F.entry_bexc_ga (@check_slot (model prog w) _ _ ⟨hp, g, d, t + 1, os⟩ "BaseException.__getattribute__" "BaseException" "__getattribute__" (.ref x) [.str "__class__" t] [] _ (by decide +kernel) (by decide +kernel) K4 (PySem.F.args_bexc_ga (.ref x) (.str "__class__" t)) ?_))
  unfold Builtin.«object.__getattribute__»
  refine wpAny_bind (wpAny_of_eq (a := ((Value.ref x : Value), [Value.str "__class__" t])) (by first | rfl | (simp only [slotArgs]; rfl)) (wpAny_bind (wpAny_pure (wpAny_bind (K0.at (wpAny_bind (K3.at ?_)))))))
  show wpAny _ _ (holding [Value.builtin "object.__class__"] (call (.builtin "getset_descriptor.__get__") [.builtin "object.__class__", .ref x, .ref D]) >>= ret) _ _ _
  refine wpAny_bind (wpAny_holding (wpAny_call (class_get (s := ⟨hp, g, d, t + 1, os⟩) (ox := ox) (od := od) X I C.hm (wpAny_pure ?_))))
  show wpAny _ _ (handedOut (.ref D)) _ _ _
  rw [handedOut_of (v := .ref D) rfl]
  first
    | exact wpAny_pure (wpAny_pure h)
    | exact wpAny_pure h
    | exact wpAny_pure (wpAny_bind (wpAny_pure (wpAny_pure h)))
theorem kit_exc (C : ExcC K D) : KitX K (.ref x) (.ref D) (fun h => InstAt h x ox D od) := by
  obtain ⟨cdD, hcD, _⟩ := any_some C.hd
  unfold clsIn at hcD
  split at hcD
  · rename_i c' d' cd' sl' ho
    refine ⟨fun _ _ _ I => I.type, fun _ _ X _ => ?_, fun h tp dd its n sl X htp => ?_, fun X I k => class_of_exc C X I k⟩
    · intro A' Q' E' s' k q
      unfold isType loadHead
      exact wpAny_bind (wpAny_loadPart (k _ _ (X _ _ ho)) (wpAny_pure q))
    · refine Bool.eq_false_iff.mpr fun q => ?_
      have e : D = tp := Value.ref.inj (beq_iff_eq.mp q)
      subst e
      cases (X _ _ ho).symm.trans htp
  · cases hcD
end
/-- e, an exception of the class at D that is held as a value -/
def ExAt (H : Hp) (a D : Addr) : Prop := H a = some (exo a D none) ∨ ∃ d fs, H a = some (exo a D (some d)) ∧ H d = some (exd d fs)
def rIsX (K : PySem.W.Frag) : List V → Hp → VK → Prop := fun xs H Q => ∃ (a D : Addr) (c : V) (cv : Value) (b : Bool), xs = [.ref a, c] ∧ ExcC K D ∧ ExAt H a D ∧ ClsV c cv ∧ PySem.W.kitOne K (.ref D) cv = some b ∧ Q (.bl b) H
theorem exAt_inst {X : Cx} {pins : List (Addr × Obj)} {σ : L2.St} {H : Hp} {s : Shared} {a D : Addr} (I : Inv X pins σ H s) (h : ExAt H a D) : ∃ ox od, PySem.W.InstAt s.heap a ox D od := by
  rcases h with h | ⟨d, fs, h, hd⟩
  · obtain ⟨t1, ho⟩ := exo_at I.hok h
    exact ⟨_, none, ho, rfl, rfl, trivial⟩
  · obtain ⟨t1, ho⟩ := exo_at I.hok h
    obtain ⟨mA, hns, _⟩ := exd_at I.hok hd
    obtain ⟨od, hod, _⟩ := lookIn_ns hns
    exact ⟨_, some od, ho, rfl, rfl, hod⟩
theorem call_isX {X : Cx} : CallR X (.builtin "isinstance") (rIsX X.K) := by
  intro pins s σ H xs us Q I r h
  obtain ⟨a, D, c, cv, b, rfl, hC, hA, k, e, q⟩ := h
  obtain ⟨u1, u2, rfl, r1, r2⟩ := vals2 r
  cases (show u1 = Value.ref a from r1)
  have e2 := k.eq r2
  subst e2
  obtain ⟨ox, od, J⟩ := exAt_inst I hA
  exact PySem.W.kia_one (kit_exc (ox := ox) (od := od) hC) I.kIn J e (fun z => nomatch z) fun tk => ⟨.bl b, H, I.tok tk, rfl, q⟩
/-! ### made, kept as a value -/
section
variable {X : Cx} {CX : CXT} {k : Nat} {C fI : Addr} {fd : FuncData} {ps ks : List Str} {sp : Sp} {x : Str} {p pos : Pos} {e : Expr} {es : List Expr} {kws : List Keyword} {ta tk : TA} {gV : List V → List V → List V}
theorem laid_exc {pins : List (Addr × Obj)} {σ : L2.St} {H : Hp} {hp : Heap} {g : Array GenState} {d : Drawn} {t : Nat} {os : OsState} (I : Inv X pins σ H ⟨hp, g, d, t, os⟩) (us : List Value) :
    Inv X pins σ (upd H (hp.objs.size + 1) (exo (hp.objs.size + 1) C none)) ⟨(hp.push (PySem.W.kdv_tup us)).push (PySem.HandSPX.excO C hp.objs.size), g, d, t, os⟩ :=
  I.laid (t' := t) (a := hp.objs.size + 1) (o := exo (hp.objs.size + 1) C none) (h' := (hp.push (PySem.W.kdv_tup us)).push (PySem.HandSPX.excO C hp.objs.size))
    (fun _ _ q => Heap.get?_push_of_some _ (Heap.get?_push_of_some _ q)) (Nat.le_succ _) (exo_ok (t1 := hp.objs.size) (by heap_get))
abbrev noX : XK := fun _ _ _ => False
/-- C(v, ..) as a value, C's own __init__ keeping sp -/
def tExMk (C : Addr) (sp : Sp) (ta : TA) : TE := fun σ H Q => ta σ H fun vs H1 => vs.length ≤ 1000 ∧ ∀ a, H1 a = none → sp (.ref a :: vs) (upd H1 a (exo a C none)) (fun v H2 => v = .non ∧ Q (.ref a) H2) noX
theorem pe_exMk (T : ExK X.K C fI) (F1 : FnOk X.prog X.w X.K X.mg X.base CX k fI fd ps sp) (hr : Room (k + 1) X.A) (hb : Binds X.K fd ps []) (hx : Passes CX X noX) (hg : Gl X x) (hm : X.mg x = some (.ref C)) (ha : PA X (e :: es) ta)
    (hdb : (x == ("__debug__" : Str)) = false := by decide) (he : starEach (e :: es) X.env = (false, eval e X.env) :: starEach es X.env := by rfl) (hpl : (backTo pos (starEach es X.env)).any (·.1) = false := by rfl) :
    PE X (.Call (.Name x p) (e :: es) [] pos) (tExMk C sp ta) := by
  refine ⟨fun pins s σ H Q I h => ?_⟩
  obtain ⟨nm, q, N, bs, bm, sn, sub, ab, col, dd, k0, k1, k2, k3, k5, hC, hbm⟩ := T.oex.cls
  refine wpAny_Call_Name_kw (ld_glob I hg hm (PySem.W.callWith_K (h₀ := X.base) I.ok.mod.kin T.oex.kC (thn (ha.run pos pins s σ H _ I h) fun us s1 ⟨vs, H1, I1, r1, hz, q1⟩ => ⟨I1.kIn, ?_⟩) he hpl) hdb)
  obtain ⟨hp, g, dr, tk, os⟩ := s1
  have hq := q1 (hp.objs.size + 1) (I1.hok.fresh (Nat.le_succ _))
  have I2 := laid_exc (C := C) I1 us
  have r2 : Vals (V.ref (hp.objs.size + 1) :: vs) (Value.ref (hp.objs.size + 1) :: us) := .cons rfl r1
  have hl : (Value.ref (hp.objs.size + 1) :: us).length = ps.length := r2.length.symm.trans (F1.len _ _ _ _ hq)
  have hus : us.length ≤ sizeLine := by rw [← Paired.length r1, sizeLine_eq]; omega
  show wpAny _ _ (call (.ref C) us) _ _ _
  refine wpAny_call (PySem.HandSPX.call_own F.excBase_ValueError (fun Y => PySem.HandSPX.refsVE_contains Y bm hbm) (I1.kIn _ _ hC) (PySem.W.looks_findIn I1.kIn T.iC) (fun self => PySem.W.bind_fn I1.kIn self T.tI) hus
    (codeAny_mono (F1.run _ X.stack _ _ ⟨Value.ref (hp.objs.size + 1) :: us, []⟩ (Value.ref (hp.objs.size + 1) :: us) _ _ noX (hr.make C us []) (I2.env0.make C us []) (by have z := hb _ (Value.ref (hp.objs.size + 1) :: us) I2.kIn (by simpa using hl); simpa using z) r2 hq) fun r s' hq' => ?_))
  cases r with
  | error er => exact hx pins σ _ _ er s' I2 hq'
  | ok fl =>
    cases fl with
    | ret u =>
      obtain ⟨v, H3, I3, rv, rfl, q2⟩ := I2.after hq'
      exact ⟨rv, .ref (hp.objs.size + 1), H3, I3, rfl, q2⟩
    | next => exact False.elim hq'
    | brk => exact False.elim hq'
    | cont => exact False.elim hq'
/-- C() -/
def tExMk0 (C : Addr) (sp : Sp) : TE := fun _ H Q => ∀ a, H a = none → sp [.ref a] (upd H a (exo a C none)) (fun v H2 => v = .non ∧ Q (.ref a) H2) noX
theorem pe_exMk0 (T : ExK X.K C fI) (F1 : FnOk X.prog X.w X.K X.mg X.base CX k fI fd ps sp) (hr : Room (k + 1) X.A) (hb : Binds X.K fd ps []) (hx : Passes CX X noX) (hg : Gl X x) (hm : X.mg x = some (.ref C))
    (hdb : (x == ("__debug__" : Str)) = false := by decide) : PE X (.Call (.Name x p) [] [] pos) (tExMk0 C sp) := by
  refine ⟨fun pins s σ H Q I h => ?_⟩
  obtain ⟨nm, q, N, bs, bm, sn, sub, ab, col, dd, k0, k1, k2, k3, k5, hC, hbm⟩ := T.oex.cls
  refine wpAny_Call_Name_kw (ld_glob I hg hm (PySem.W.callWith_K0 I.kIn T.oex.kC ?_) hdb)
  obtain ⟨hp, g, dr, tk, os⟩ := s
  have hq := h (hp.objs.size + 1) (I.hok.fresh (Nat.le_succ _))
  have I2 := laid_exc (C := C) I []
  have r2 : Vals [V.ref (hp.objs.size + 1)] [Value.ref (hp.objs.size + 1)] := .cons rfl .nil
  have hl : [Value.ref (hp.objs.size + 1)].length = ps.length := r2.length.symm.trans (F1.len _ _ _ _ hq)
  show wpAny _ _ (call (.ref C) []) _ _ _
  refine wpAny_call (PySem.HandSPX.call_own F.excBase_ValueError (fun Y => PySem.HandSPX.refsVE_contains Y bm hbm) (I.kIn _ _ hC) (PySem.W.looks_findIn I.kIn T.iC) (fun self => PySem.W.bind_fn I.kIn self T.tI) (by decide)
    (codeAny_mono (F1.run _ X.stack _ _ ⟨[Value.ref (hp.objs.size + 1)], []⟩ [Value.ref (hp.objs.size + 1)] _ _ noX (hr.make C [] []) (I2.env0.make C [] []) (by have z := hb _ [Value.ref (hp.objs.size + 1)] I2.kIn (by simpa using hl); simpa using z) r2 hq) fun r s' hq' => ?_))
  cases r with
  | error er => exact hx pins σ _ _ er s' I2 hq'
  | ok fl =>
    cases fl with
    | ret u =>
      obtain ⟨v, H3, I3, rv, rfl, q2⟩ := I2.after hq'
      exact ⟨rv, .ref (hp.objs.size + 1), H3, I3, rfl, q2⟩
    | next => exact False.elim hq'
    | brk => exact False.elim hq'
    | cont => exact False.elim hq'
/-- C(k = v, ..) -/
def tExMkK (n : Nat) (C : Addr) (sp : Sp) (gV : List V → List V → List V) (tk : TA) : TE := fun σ H Q => tk σ H fun zs H1 => zs.length = n ∧ ∀ a, H1 a = none → sp (gV [.ref a] zs) (upd H1 a (exo a C none)) (fun v H2 => v = .non ∧ Q (.ref a) H2) noX
theorem pe_exMkK (T : ExK X.K C fI) (F1 : FnOk X.prog X.w X.K X.mg X.base CX k fI fd ps sp) (hr : Room (k + 1) X.A) (hb : ∃ g, KBn X.K fd ps 1 ks g gV) (hx : Passes CX X noX) (hg : Gl X x) (hm : X.mg x = some (.ref C)) (hkw : PK X kws tk)
    (hall : (backToKw pos (keywordEach kws X.env)).all (·.1.isSome) = true := by rfl) (hks : (backToKw pos (keywordEach kws X.env)).filterMap (·.1) = ks := by rfl)
    (hdb : (x == ("__debug__" : Str)) = false := by decide) (hpl : ((backTo pos (starEach [] X.env)).any (·.1) || (backToKw pos (keywordEach kws X.env)).any (·.1.isNone)) = false := by rfl) :
    PE X (.Call (.Name x p) [] kws pos) (tExMkK ks.length C sp gV tk) := by
  obtain ⟨g', hb⟩ := hb
  refine ⟨fun pins s σ H Q I h => ?_⟩
  obtain ⟨nm, q, N, bs, bm, sn, sub, ab, col, dd, k0, k1, k2, k3, k5, hC, hbm⟩ := T.oex.cls
  refine wpAny_Call_Name_kw (ld_glob I hg hm (PySem.W.callWith_KW0 (h₀ := X.base) I.ok.mod.kin T.oex.kC hall (thn (hkw.run pos pins s σ H _ I h) fun ws s1 ⟨zs, H1, I1, rz, l2, q1⟩ => ⟨I1.kIn, ?_⟩) hpl) hdb)
  rw [hks]
  obtain ⟨hp, g, dr, tk, os⟩ := s1
  have hq := q1 (hp.objs.size + 1) (I1.hok.fresh (Nat.le_succ _))
  have I2 := laid_exc (C := C) I1 []
  have r2 : Vals [V.ref (hp.objs.size + 1)] [Value.ref (hp.objs.size + 1)] := .cons rfl .nil
  show wpAny _ _ (call (.ref C) [] (ks.zip ws)) _ _ _
  refine wpAny_call (call_kw F.excBase_ValueError (fun Y => PySem.HandSPX.refsVE_contains Y bm hbm) (I1.kIn _ _ hC) (PySem.W.looks_findIn I1.kIn T.iC) (fun self => PySem.W.bind_fn I1.kIn self T.tI)
    (codeAny_mono (F1.run _ X.stack _ _ ⟨[Value.ref (hp.objs.size + 1)], ks.zip ws⟩ (g' [Value.ref (hp.objs.size + 1)] ws) _ _ noX (hr.make C [] (ks.zip ws)) (I2.env0.make C [] (ks.zip ws)) (hb.to _ [Value.ref (hp.objs.size + 1)] ws I2.kIn rfl (rz.length.symm.trans l2)) (hb.rel r2 rz) hq) fun r s' hq' => ?_))
  cases r with
  | error er => exact hx pins σ _ _ er s' I2 hq'
  | ok fl =>
    cases fl with
    | ret u =>
      obtain ⟨v, H3, I3, rv, rfl, q2⟩ := I2.after hq'
      exact ⟨rv, .ref (hp.objs.size + 1), H3, I3, rfl, q2⟩
    | next => exact False.elim hq'
    | brk => exact False.elim hq'
    | cont => exact False.elim hq'
/-- .. its keywords, the parameters' order by gV -/
theorem kbE {K : PySem.W.Frag} {x qual : Str} {params : Arguments} {body : List Stmt} {scope : Scope} {kws : List (Str × V)} {f : Addr} {fd : FuncData} (F : FunD K x qual params body scope [] kws f fd) (g : {α : Type} → List α → List α → List α)
    (h : ∀ (kV doc pm : Value) (an : Option Addr) (cdv ct : Value) (us ws : List Value), us.length = 1 → ws.length = ks.length → bindArgs (PySem.W.fnOf x qual params body scope .none kV doc pm an cdv ct) ⟨us, ks.zip ws⟩ = pure (ps.zip (g us ws)))
    (hrel : ∀ {vs : List V} {us : List Value} {zs : List V} {ws : List Value}, Vals vs us → Vals zs ws → Vals (g vs zs) (g us ws)) :
    ∃ g', KBn K fd ps 1 ks g' (fun vs zs => g vs zs) := by
  obtain ⟨oc, od, dV, kV, doc, pm, an, cdv, ct, osl, rfl, lk, hcd, hD, hK⟩ := F.ex
  rcases hD with ⟨_, rfl⟩ | ⟨e, _⟩
  · exact ⟨fun us ws => g us ws, ⟨fun s us ws X l1 l2 => .of_eq (h kV doc pm an cdv ct us ws l1 l2), hrel⟩⟩
  · exact absurd rfl e
/-- e.f, e an exception kept as a value -/
def tExF (K : PySem.W.Frag) (f : Str) (te : TE) : TE := fun σ H Q => te σ H fun x H1 => ∃ (a C d : Addr) (fs : List (Str × V)) (v : V), x = .ref a ∧ XfC K C ∧ PySem.W.findIn K (.ref C) f = some none ∧ H1 a = some (exo a C (some d)) ∧ H1 d = some (exd d fs) ∧ fs.lookup f = some v ∧ Q v H1
theorem pe_exF {o : Expr} {te : TE} {n : Str} (ho : PE X o te) (hb : attributeBase o n X.env (eval o X.env) = eval o X.env := by rfl) : PE X (.Attribute o n pos) (tExF X.K n te) := by
  refine ⟨fun pins s σ H Q I h => attr_of hb (thn (ho.run pins s σ H _ I h) fun u s1 hh => ?_)⟩
  obtain ⟨x, H1, I1, rx, a, C, d, fs, v, ex, T, hno, ha, hd, l, q⟩ := hh
  subst ex
  obtain rfl : u = Value.ref a := rx
  obtain ⟨t1, hoe⟩ := exo_at I1.hok ha
  obtain ⟨mA, hns, rel⟩ := exd_at I1.hok hd
  obtain ⟨od, hod, hl⟩ := lookIn_ns hns
  obtain ⟨u, hu, ru⟩ := RelO.some_of (v := v) (o := mA n) (by rw [← l]; exact rel n)
  have J : PySem.W.InstAt s1.heap a _ C (some od) := ⟨hoe, rfl, rfl, hod⟩
  exact HandSPX.exc_get I1.kIn J T.ga T.gg T.exC (PySem.W.findObj_own T.hdC hno rfl (by rw [hl, hu])) (handed_of ru) ⟨v, H1, I1.tok _, ru, q⟩
end
/-! ### a dict beside itself -/
def flatR (v : V) : Prop := flatB v = true ∨ ∃ a, v = .ref a
theorem eqAt_self {A : Around} {s : Shared} {v : V} {u u' : Value} (r : RelV v u) (r' : RelV v u') (f : flatR v) : SeqAt.EqAt A s u u' true := by
  rcases f with f | ⟨a, rfl⟩
  · exact eqAt_same r r' f
  · cases (show u = Value.ref a from r)
    cases (show u' = Value.ref a from r')
    exact SeqAt.EqAt.same _
theorem hits_self {κ : Type} [DecidableEq κ] {A : Around} {s : Shared} {kvs : List (κ × V)} {vb : List (κ × Value)} (rb : KV kvs vb) {js : List (κ × V)} {va : List (κ × Value)} (ra : KV js va) (hp : ∀ p ∈ js, valV kvs p.1 = some p.2 ∧ flatR p.2) : PySem.W.KeqHits A s vb va true := by
  unfold KV at ra
  induction ra with
  | nil => exact .nil
  | @cons p q ps qs h1 h2 ih =>
    obtain ⟨e, f⟩ := hp p List.mem_cons_self
    obtain ⟨z1, z2⟩ := h1
    obtain ⟨k, v⟩ := q
    obtain ⟨y, hy, ry⟩ := (show RelO (some p.2) (valueAt vb p.1) by rw [← e]; exact rb.val p.1).some_of
    rw [show p.1 = k from z1] at hy
    show PySem.W.KeqHits A s vb ((k, v) :: qs) (true && true)
    exact .hit hy (eqAt_self z2 ry f) (ih fun p' hm => hp p' (List.mem_cons_of_mem _ hm))
def rEqSelf : R2 := fun x y H Q => ∃ (a : Addr) (kvs : List (Key × V)), x = .ref a ∧ y = .ref a ∧ H a = some (.dK kvs) ∧ (kvs.map (·.1)).Nodup ∧ (∀ p ∈ kvs, flatR p.2) ∧ Q (.bl true) H
theorem op_eqSelf {X : Cx} (hu : X.A.units < cLine) : OpR X (compareOp .Eq) rEqSelf := by
  intro pins s σ H x y v u Q I rx ry h
  obtain ⟨a, kvs, rfl, rfl, ea, nd, fl, q⟩ := h
  obtain rfl : v = Value.ref a := rx
  obtain rfl : u = Value.ref a := ry
  obtain ⟨_, ya, va, ra, da⟩ := (show ObjOk X.prog X.w H s.heap a (.dK kvs) from I.hok a _ ea)
  exact PySem.W.keq_eq (knd := mixKind X.prog X.w) (r := true) ya ya da da hu (fun _ => hits_self ra ra fun p hp => ⟨val_nodup nd p hp, fl p hp⟩) (fin_bl I q (by simp))
/-! ### facts of several classes at once -/
def clsValB (K : PySem.W.Frag) (c : Value) (m : Str) (v : Value) : Bool := match PySem.W.findCls K c (.type "type") m with
  | some (.val u) => decide (u = v)
  | _ => false
theorem clsVal_of {K : PySem.W.Frag} {c : Value} {m : Str} {v : Value} (h : clsValB K c m v = true) : PySem.W.findCls K c (.type "type") m = some (.val v) := by
  unfold clsValB at h
  split at h
  · rename_i u e
    rw [e, of_decide_eq_true h]
  · cases h
/-- a class whose __init__ is that of another one -/
def exKB2 (K : PySem.W.Frag) (x y : Str) : Bool := exKB K x && decide (He.ma K (He.ga K x) "__init__" = He.ma K (He.ga K y) "__init__")
theorem exK2_of {K : PySem.W.Frag} {x y : Str} (h : exKB2 K x y = true) : ExK K (He.ga K x) (He.fAd K (y, some "__init__")) := by
  obtain ⟨h1, h2⟩ := He.ba h
  have z := exK_of h1
  rw [of_decide_eq_true h2] at z
  exact z
theorem all1_of {α : Type} {l : List α} {p : α → Prop} [DecidablePred p] (h : (l.all fun x => decide (p x)) = true) : ∀ x ∈ l, p x := fun x m => of_decide_eq_true (List.all_eq_true.mp h x m)
theorem all2_of {α : Type} {l : List α} {p : α → α → Prop} [∀ x y, Decidable (p x y)] (h : (l.all fun x => l.all fun y => decide (p x y)) = true) : ∀ x ∈ l, ∀ y ∈ l, p x y := fun x m y n => of_decide_eq_true (List.all_eq_true.mp (List.all_eq_true.mp h x m) y n)
def excCB (K : PySem.W.Frag) (D : Addr) : Bool := xfB K D && (decide (PySem.W.findIn K (.ref D) "__class__" = some (some (.builtin "object.__class__"))) && (decide (PySem.W.specialIn K (.builtin "object.__class__") "__get__" = some (some (.builtin "getset_descriptor.__get__"))) &&
  (decide (PySem.W.takesIn K (.builtin "object.__class__") = some true) && decide (PySem.W.mroIn K D (.type "object") = some true))))
theorem excC_of {K : PySem.W.Frag} {D : Addr} (h : excCB K D = true) : ExcC K D := by
  obtain ⟨h1, h⟩ := He.ba h
  obtain ⟨h2, h⟩ := He.ba h
  obtain ⟨h3, h⟩ := He.ba h
  obtain ⟨h4, h5⟩ := He.ba h
  have x := xfB_ok h1
  exact ⟨x.ga, x.gg, x.exC, x.hdC, of_decide_eq_true h2, of_decide_eq_true h3, of_decide_eq_true h4, of_decide_eq_true h5⟩
theorem allC_of {K : PySem.W.Frag} {l : List Str} (h : (l.all fun x => excCB K (He.ga K x)) = true) : ∀ x ∈ l, ExcC K (He.ga K x) := fun x m => excC_of (List.all_eq_true.mp h x m)
end Lt

set_option Elab.async false
set_option linter.all false
set_option maxRecDepth 100000
set_option maxHeartbeats 2000000
namespace Lt
open PySem PySem.Spec PyProof.Rows L2
/-! ### defs with lambdas: the code object and its table are known -/
theorem okC {P : Program} {w : World} {K : PySem.W.Frag} {mg : Str → Option Value} {base : Heap} {CX : CXT} {k : Nat} {x qual : Str} {params : Arguments} {body : List Stmt} {scope : Scope} {dvs : List V} {kws : List (Str × V)} {p : He.Defn} {fd : FuncData} {N ps : List Str} {sp : Sp}
    (F : FunD K x qual params body scope dvs kws (He.fAd K p) fd) (S : FnScope N ps scope) (hl : ∀ vs H Q E, sp vs H Q E → vs.length = ps.length)
    (hb : ∀ (A : Around) (outer : List Env) (s : Shared) (H : Hp) (vs : List V) (Q : VK) (E : XK), Room k (A.deeper (envOfC qual scope s.heap.objs.size (He.fAd K p) (.ref (He.codeOf K p)))) → sp vs H Q E →
      ∃ t, PSs (cxOf CX P w K mg base N qual scope (He.fAd K p) (.ref (He.codeOf K p)) A outer s H E) body t ∧ t { nx := fun _ H' => Q .non H', rt := Q } (L2.start N vs) H) :
    FnOk P w K mg base CX (k + 1) (He.fAd K p) fd ps sp := by
  obtain ⟨oc, od, dV, kV, doc, pm, an, cdv, ct, osl, rfl, lk, hcd, hD, hK⟩ := F.ex
  obtain ⟨c, rfl⟩ := He.codeIn_ref hcd
  have e : He.codeOf K p = c := He.codeOf_eq lk rfl
  rw [e] at hb
  exact ⟨hl, fun A outer s H args us vs Q E hr e0 hbt r q => LamX.run_ofS lk hcd S hr e0 hbt r (hl _ _ _ _ q) fun hr' => hb A outer s H vs Q E hr' q⟩
/-! ### the Hook with tables -/
section
variable {fa : List He.Fa} {fs : List (PySem.W.Frag → Bool)} {fn : List He.DefD} {ts : List He.Tab} {tf : List He.Defn} {K : PySem.W.Frag} {w : World} {h : Heap}
def allF (fs : List (PySem.W.Frag → Bool)) (K : PySem.W.Frag) : Bool := fs.all fun f => f K
theorem saysM_of (c : He.SaysX fa fn ts tf (allF fs) w h K) : SaysM fa fs fn K := by
  have e : He.obsD fa fn K = He.valD fn := congrArg (fun z : He.AlT => z.1) c.t
  have e1 : ((fa.all fun f => f.ok K) && fn.all fun d => d.ok K) = true := congrArg (fun z : He.AlD => z.1) e
  have e2 : (fn.map fun d => He.fnW K d.at_) = fn.map He.DefD.val := congrArg (fun z : He.AlD => z.2) e
  obtain ⟨h1, h2⟩ := He.ba e1
  have h3 : (fs.all fun f => f K) = true := c.more
  show (((fa.all fun f => f.ok K) && ((fs.all fun f => f K) && fn.all fun d => d.ok K), fn.map fun d => He.fnW K d.at_) : He.AlD) = (true, fn.map He.DefD.val)
  rw [h1, h2, h3, e2]
  rfl
/-- the code objects and their tables -/
def cts (tf : List He.Defn) (K : PySem.W.Frag) : List (Addr × Addr) := tf.map (He.cT K)
theorem cts_mem {p : Addr × Addr} (m : p ∈ cts tf K) : ∃ d ∈ tf, p = He.cT K d := by
  obtain ⟨d, hd, e⟩ := List.mem_map.mp m
  exact ⟨d, hd, e.symm⟩
theorem cts_empty (c : He.SaysX fa fn ts tf (allF fs) w h K) : ∀ p ∈ cts tf K, h.get? p.2 = some { cls := .none, data := .fields #[] } := fun p m => by
  obtain ⟨d, hd, rfl⟩ := cts_mem m
  exact c.empty d hd
theorem cts_out (c : He.SaysX fa fn ts tf (allF fs) w h K) : ∀ p ∈ cts tf K, K.lookup p.2 = none := fun p m => by
  obtain ⟨d, hd, rfl⟩ := cts_mem m
  exact c.out d hd
theorem cts_hd (X : K.In h) (c : He.SaysX fa fn ts tf (allF fs) w h K) : ∀ p ∈ cts tf K, PySem.W.CodeHd h p.1 p.2 := fun p m => by
  obtain ⟨d, hd, rfl⟩ := cts_mem m
  exact PySem.W.codeHd_of_K X (c.hd d hd)
end
end Lt

set_option Elab.async false
set_option linter.all false
set_option maxRecDepth 100000
set_option maxHeartbeats 2000000
namespace Lt
open PySem PySem.Spec PyProof.Rows L2
/-! ### a list or a tuple -/
def SqX (K : PySem.W.Frag) (H : Hp) (a : Addr) (xs : List V) : Prop := SqL K H a xs ∨ SqT K H a xs
theorem SqX.l {K : PySem.W.Frag} {H : Hp} {a : Addr} {xs : List V} (h : SqL K H a xs) : SqX K H a xs := .inl h
theorem SqX.t {K : PySem.W.Frag} {H : Hp} {a : Addr} {xs : List V} (h : SqT K H a xs) : SqX K H a xs := .inr h
theorem SqX.kp {K : PySem.W.Frag} {S : List Addr} {H H' : Hp} {a : Addr} {xs : List V} (k : Kp S H H') (ha : a ∉ S) (h : SqX K H a xs) : SqX K H' a xs := h.imp (k.seqL ha) (k.seqT ha)
theorem SqX.kp0 {K : PySem.W.Frag} {H H' : Hp} {a : Addr} {xs : List V} (k : Kp [] H H') (h : SqX K H a xs) : SqX K H' a xs := h.kp k List.not_mem_nil
def rIxX (K : PySem.W.Frag) : R2 := fun x y H Q => ∃ (p : Addr) (xs : List V) (i : Int) (v : V), x = .ref p ∧ y = .int i ∧ SqX K H p xs ∧ atI xs i = some v ∧ Q v H
section
variable {X : Cx}
theorem ix_sqX : IxR X (rIxX X.K) := by
  intro value slice pins s σ H x y v u Q I rx ry h hs
  obtain ⟨p, xs, i, w, hx, hy, q1 | q1, e, q⟩ := h
  · exact ix_list value slice pins s σ H x y v u Q I rx ry ⟨p, xs, i, w, hx, hy, q1, e, q⟩ hs
  · exact ix_tup value slice pins s σ H x y v u Q I rx ry ⟨p, xs, i, w, hx, hy, q1, e, q⟩ hs
def iSeq (K : PySem.W.Frag) (tl : TE) : TI := fun σ H R => tl σ H fun x H1 => ∃ a, x = .ref a ∧ (((∃ xs, SqL K H1 a xs) ∧ R (Itl K a) H1) ∨ ((∃ xs, SqT K H1 a xs) ∧ R (Itt K a) H1))
theorem pi_seq {tg l : Expr} {tl : TE} (hl : PE X l tl) : PI X tg l (iSeq X.K tl) := by
  refine ⟨fun pins s σ H R I h => ?_⟩
  refine thn (hl.run pins s σ H _ I h) fun v s1 ⟨x, H1, I1, r1, q1⟩ => ?_
  obtain ⟨a, e, ⟨⟨xs, hq⟩, q⟩ | ⟨⟨xs, hq⟩, q⟩⟩ := q1
  · subst e
    cases r1
    obtain ⟨its, rv, p, hz⟩ := I1.list hq
    refine wpAny_pyIter_list p.isList ?_
    refine ⟨s1.heap.objs.size, [s1.heap.objs.size], _, _, H1, rfl, I1.kept (t' := s1.toks) fun b o e => Heap.get?_push_of_some _ e, turn_list a _, ⟨_, Heap.get?_push_size _ rfl, rfl, rfl⟩, fun b hb => ?_, q⟩
    have e : b = s1.heap.objs.size := by simpa using hb
    subst e
    exact I1.fpOk (Nat.le_refl _) (I1.hok.fresh (Nat.le_refl _))
  · subst e
    cases r1
    obtain ⟨its, rv, p, hz⟩ := I1.tuple hq
    refine wpAny_pyIter_tuple (show s1.heap.IsTuple a its.toArray from p) ?_
    refine ⟨s1.heap.objs.size, [s1.heap.objs.size], _, _, H1, rfl, I1.kept (t' := s1.toks) fun b o e => Heap.get?_push_of_some _ e, turn_tuple a _, ⟨_, Heap.get?_push_size _ rfl, rfl, rfl⟩, fun b hb => ?_, q⟩
    have e : b = s1.heap.objs.size := by simpa using hb
    subst e
    exact I1.fpOk (Nat.le_refl _) (I1.hok.fresh (Nat.le_refl _))
def gSeq (K : PySem.W.Frag) (n : Nat) (t : TGs) : TG := fun v σ H Q => ∃ a xs, v = .ref a ∧ SqX K H a xs ∧ xs.length = n ∧ t xs σ H Q
theorem pg_seq {es : List Expr} {k : Nat} {pos : Pos} {t : TGs} {n : Nat} (hc : X.calm = true) (h : PGs X es t)
    (hn : (assignEach es X.env).length = n := by rfl) (hst : (assignEach es X.env).findIdx? (·.1) = none := by rfl) : PG X (.Tuple es k pos) (gSeq X.K n t) := by
  refine ⟨fun pins s σ H v u Q I r hw => ?_⟩
  obtain ⟨a, xs, e1, hq | hq, hl, hw⟩ := hw
  · exact (pg_unl hc h hn hst).run pins s σ H v u Q I r ⟨a, xs, e1, hq, hl, hw⟩
  · exact (pg_tup hc h hn hst).run pins s σ H v u Q I r ⟨a, xs, e1, hq, hl, hw⟩
def iEnX (K : PySem.W.Frag) (ta : TA) : TI := fun σ H R => ta σ H fun vs H1 => ∃ a, vs = [.ref a] ∧ (((∃ xs, SqL K H1 a xs) ∧ R (Ite K a) H1) ∨ ((∃ xs, SqT K H1 a xs) ∧ R (IteT K a) H1))
theorem pi_enumX {e : Expr} {ta : TA} {p pos tpos : Pos} {elts : List Expr} {kk : Nat} (hg : Gl X "enumerate") (hm : X.mg "enumerate" = none) (ha : PA X [e] ta) (hs : starEach [e] X.env = [(false, eval e X.env)] := by rfl) :
    PI X (.Tuple elts kk tpos) (.Call (.Name "enumerate" p) [e] [] pos) (iEnX X.K ta) := by
  refine ⟨fun pins s σ H R I h => ?_⟩
  refine Call_ (ld_blt I hg hm boot_enumerate (PyProof.Rows.callWith_type1 (thn (ha.run pos pins s σ H _ I h) fun us s1 ⟨vs, H1, I1, r1, q1⟩ => ?_) hs rfl))
  obtain ⟨a, ex, ⟨⟨xs, hq⟩, q⟩ | ⟨⟨xs, hq⟩, q⟩⟩ := q1
  · subst ex
    cases r1 with
    | cons r rr =>
      cases rr
      cases r
      obtain ⟨its, rv, p', hz⟩ := I1.list hq
      refine call_enumerate_list p'.isList fun h' he hit hsz hk => wpAny_pyIter_enum he ?_
      have I2 : Inv X pins σ H1 { s1 with heap := h' } := I1.kept (t' := s1.toks) hk
      refine ⟨s1.heap.objs.size + 1, [s1.heap.objs.size + 1, s1.heap.objs.size], _, _, H1, rfl, I2, turn_enum a (s1.heap.objs.size + 1) s1.heap.objs.size, ⟨⟨.none, he⟩, hit, Nat.succ_ne_self _⟩, fun b hb => ?_, q⟩
      have e' : b = s1.heap.objs.size + 1 ∨ b = s1.heap.objs.size := by simpa using hb
      have hle : s1.heap.objs.size ≤ b := by
        rcases e' with z | z
        · rw [z]; exact Nat.le_add_right _ _
        · rw [z]; exact Nat.le_refl _
      exact I1.fpOk hle (I1.hok.fresh hle)
  · subst ex
    cases r1 with
    | cons r rr =>
      cases rr
      cases r
      obtain ⟨its, rv, p', hz⟩ := I1.tuple hq
      refine call_enumerate_tup (show s1.heap.IsTuple a its.toArray from p') fun h' he hit hsz hk => wpAny_pyIter_enum he ?_
      have I2 : Inv X pins σ H1 { s1 with heap := h' } := I1.kept (t' := s1.toks) hk
      refine ⟨s1.heap.objs.size + 1, [s1.heap.objs.size + 1, s1.heap.objs.size], _, _, H1, rfl, I2, turn_enumT a (s1.heap.objs.size + 1) s1.heap.objs.size, ⟨⟨.none, he⟩, hit, Nat.succ_ne_self _⟩, fun b hb => ?_, q⟩
      have e' : b = s1.heap.objs.size + 1 ∨ b = s1.heap.objs.size := by simpa using hb
      have hle : s1.heap.objs.size ≤ b := by
        rcases e' with z | z
        · rw [z]; exact Nat.le_add_right _ _
        · rw [z]; exact Nat.le_refl _
      exact I1.fpOk hle (I1.hok.fresh hle)
theorem pe_globI {x : Str} {i : Int} {p : Pos} (hg : Gl X x) (hm : ∃ t, X.mg x = some (.int i t)) (hdb : (x == ("__debug__" : Str)) = false := by decide) : PE X (.Name x p) (tC (.int i)) := by
  obtain ⟨t, hm⟩ := hm
  exact pe_glob hg hm ⟨_, rfl⟩ hdb
end
/-! ### the one word of the world that hashing a text asks for, told -/
def setF (w : World) (b : Bool) : World := { w with params := { w.params with followText := fun row => if row == "special-get-raises" then b else w.params.followText row } }
theorem setF_eq (w : World) : setF w (w.params.followText "special-get-raises") = w := by
  obtain ⟨d, p⟩ := w
  unfold setF
  congr 1
  have e : (fun row => if row == "special-get-raises" then p.followText "special-get-raises" else p.followText row) = p.followText := funext fun row => by
    by_cases h : row = "special-get-raises"
    · rw [h]; simp
    · rw [if_neg (by simpa using h)]
  show { p with followText := _ } = p
  rw [e]
theorem by_setF {P : World → Prop} (h0 : ∀ w, P (setF w false)) (h1 : ∀ w, P (setF w true)) (w : World) : P w := by
  rw [← setF_eq w]
  generalize w.params.followText "special-get-raises" = b
  cases b
  · exact h0 w
  · exact h1 w
section
variable {X : Cx}
/-! ### d.get(k, x), d a written dict with text keys -/
/-- what the written dict at d holds at z -/
def KGet (K : PySem.W.Frag) (w : World) (d : Addr) (z : Str) (o : Option V) : Prop := ∃ es n r, KDict K w d es n ∧ PySem.W.nsIn K d z = some r ∧ (match o, r with
  | none, none => True
  | some v, some u => RelV v u
  | _, _ => False)
def tKGet2 (K : PySem.W.Frag) (w : World) (td ty tx : TE) : TE := fun σ H Q => td σ H fun x H1 => ∃ a, x = .ref a ∧ (∃ es n, KDict K w a es n) ∧ ty σ H1 fun y H2 => tx σ H2 fun z H3 => ∃ (k : Str) (o : Option V), y = .str k ∧ KGet K w a k o ∧ Q (o.getD z) H3
theorem pe_kget2 {o e f : Expr} {apos cpos : Pos} {td ty tx : TE} (ho : PE X o td) (he : PE X e ty) (hf : PE X f tx) (m : M2 X o "get" apos e f cpos) : PE X (.Call (.Attribute o "get" apos) [e, f] [] cpos) (tKGet2 X.K X.w td ty tx) := by
  refine ⟨fun pins s σ H Q I h => ?_⟩
  refine wpAny_Call_method m.base m.few m.line PySem.F.plainAttrs_dict PySem.F.slot_dict_get PySem.F.type_dict_get (thn (ho.run pins s σ H _ I h) fun u s1 ⟨x, H1, I1, rx, a, ex, ⟨es, n, d⟩, q1⟩ => ?_)
  subst ex
  obtain rfl : u = Value.ref a := rx
  have hx := I1.kIn _ _ d.at_
  refine ⟨kd_type d I1, fun b q => ?_, ?_⟩
  · cases q
    exact ⟨_, hx, rfl⟩
  rw [m.trees]
  refine Calls.callWith_builtin rfl (Calls.evalArgs_plain (Calls.spliced_cons (thn (he.run pins s1 σ H1 _ I1 q1) fun iv s2 ⟨y, H2, I2, ry, q2⟩ =>
    Calls.spliced_cons (thn (hf.run pins s2 σ H2 _ I2 q2) fun fv s3 ⟨z, H3, I3, rz, k, ov, ek, ⟨es', n', r, d', er, hr⟩, q3⟩ => Calls.spliced_nil ?_))))
  subst ek
  obtain ⟨t, rfl⟩ := ry
  have hm := PySem.W.mapOf_K (prog := X.prog) (w := X.w) I3.kIn d'.at_ d'.lit
  refine call_meetsIn PySem.F.slot_dict_get hm.typeIs PySem.F.entry_dict_get (PySem.F.args_dict_get_3 _ _ _) (meets_dict_get_default (PySem.strKind X.prog X.w) a (PySem.strKind_is X.prog X.w k t) d'.low fv) ⟨_, hm, ?_⟩
  rw [PySem.W.find_K d'.at_ er]
  cases ov with
  | none =>
    cases r with
    | none => exact ⟨_, H3, I3.tok _, rz, q3⟩
    | some _ => cases hr
  | some v =>
    cases r with
    | none => cases hr
    | some u => exact ⟨_, H3, I3.tok _, hr, q3⟩
end
/-- x[k:], k above nought -/
def rSlX (K : PySem.W.Frag) : V → Option Int → Option Int → Hp → VK → Prop := fun x lo hi H Q => ∃ (a : Addr) (xs : List V) (k : Nat), x = .ref a ∧ SqX K H a xs ∧ lo = some (k : Int) ∧ hi = none ∧ 1 ≤ k ∧ k ≤ xs.length ∧ ∀ p o, H p = none → (o = HO.lst (xs.drop k) ∨ o = .tup (xs.drop k)) → Q (.ref p) (upd H p o)
theorem cutV_drop {xs : List V} {k : Nat} (h : k ≤ xs.length) : cutV xs (some (k : Int)) none = xs.drop k := by
  unfold cutV
  rw [HT.sIx_nat, HT.sIx_none, Nat.min_eq_left h, List.take_of_length_le (by rw [List.length_drop]; omega)]
theorem sl_seq {X : Cx} : SlR X (rSlX X.K) := by
  intro pins s σ H x v vl vu lo hi sl Q I rx hs pl pu h
  obtain ⟨a, xs, k, hx, sq | sq, rfl, rfl, h1, h2, q⟩ := h
  · exact sl_list pins s σ H x v vl vu _ _ sl Q I rx hs pl pu ⟨a, xs, hx, sq, fun p hp => by rw [cutV_drop h2]; exact q p _ hp (.inl rfl)⟩
  · exact sl_tup pins s σ H x v vl vu _ _ sl Q I rx hs pl pu ⟨a, xs, hx, sq, (by rw [HT.sIx_nat, Nat.min_eq_left h2]; omega), fun p hp => by rw [cutV_drop h2]; exact q p _ hp (.inr rfl)⟩
/-- list(x), tuple(x) -/
def rLstX (K : PySem.W.Frag) : List V → Hp → VK → Prop := fun vs H Q => ∃ (a : Addr) (xs : List V), vs = [.ref a] ∧ SqX K H a xs ∧ ∀ p, H p = none → Q (.ref p) (upd H p (.lst xs))
theorem call_listX {X : Cx} (hc : X.calm = true := by rfl) : CallR X (.type "list") (rLstX X.K) := by
  intro pins s σ H xs us Q I r h
  obtain ⟨a, ys, rfl, sq, q⟩ := h
  exact call_list_of pins s σ H _ us Q I r ⟨a, ys, rfl, sq, q⟩
/-! ### readings, one step each -/
namespace Rd
variable {K : PySem.W.Frag} {D : Ends} {σ : L2.St} {H H0 : Hp} {Q : VK} {S : List Addr} {l l' : Led} {te ta tb tc : TE} {x y v : V} {i j : Nat}
theorem chain {r r' : R2} (h : ta σ H fun x H1 => tb σ H1 fun y H2 => r x y H2 fun z H3 => BlV z (tc σ H3 fun w' H4 => r' y w' H4 Q) (Q (.bl false) H3)) : tChain r r' ta tb tc σ H Q := h
theorem ixXL {p : Addr} {xs : List V} {z : Int} (st : Stt H0 S l H) (m : (p, Is (.lst xs)) ∈ l) (e : atI xs z = some v) (h : Q v H) : rIxX K (.ref p) (.int z) H Q := ⟨p, xs, z, v, rfl, rfl, .inl (st.sqL m), e, h⟩
theorem ixXT {p : Addr} {xs : List V} {z : Int} (st : Stt H0 S l H) (m : (p, Is (.tup xs)) ∈ l) (e : atI xs z = some v) (h : Q v H) : rIxX K (.ref p) (.int z) H Q := ⟨p, xs, z, v, rfl, rfl, .inr (st.sqT m), e, h⟩
theorem ixX {p : Addr} {xs : List V} {z : Int} (s : SqX K H p xs) (e : atI xs z = some v) (h : Q v H) : rIxX K (.ref p) (.int z) H Q := ⟨p, xs, z, v, rfl, rfl, s, e, h⟩
theorem ixXB {p : Addr} {xs : List V} {z : Int} (st : Stt H0 S l H) (s : SqX K H0 p xs) (n : p ∉ S) (e : atI xs z = some v) (h : Q v H) : rIxX K (.ref p) (.int z) H Q := ⟨p, xs, z, v, rfl, rfl, s.kp st.keep n, e, h⟩
theorem gseqT {n : Nat} {gs : TGs} {p : Addr} {xs : List V} {Q : L2.St → Hp → Prop} (st : Stt H0 S l H) (m : (p, Is (.tup xs)) ∈ l) (e : xs.length = n) (h : gs xs σ H Q) : gSeq K n gs (.ref p) σ H Q := ⟨p, xs, rfl, .inr (st.sqT m), e, h⟩
theorem gseqL {n : Nat} {gs : TGs} {p : Addr} {xs : List V} {Q : L2.St → Hp → Prop} (st : Stt H0 S l H) (m : (p, Is (.lst xs)) ∈ l) (e : xs.length = n) (h : gs xs σ H Q) : gSeq K n gs (.ref p) σ H Q := ⟨p, xs, rfl, .inl (st.sqL m), e, h⟩
theorem gseqX {n : Nat} {gs : TGs} {p : Addr} {xs : List V} {Q : L2.St → Hp → Prop} (s : SqX K H p xs) (e : xs.length = n) (h : gs xs σ H Q) : gSeq K n gs (.ref p) σ H Q := ⟨p, xs, rfl, s, e, h⟩
theorem asgTX {n : Nat} {gs : TGs} (h : te σ H fun v H1 => gSeq K n gs v σ H1 D.nx) : tAsg te (gSeq K n gs) D σ H := h
def KG2 (K : PySem.W.Frag) (w : World) (ty tx : TE) (σ : L2.St) (x : V) (H1 : Hp) (Q : VK) : Prop := ∃ a, x = .ref a ∧ (∃ es n, KDict K w a es n) ∧ ty σ H1 fun y H2 => tx σ H2 fun z H3 => ∃ (k : Str) (o : Option V), y = .str k ∧ KGet K w a k o ∧ Q (o.getD z) H3
theorem kget {w : World} {td ty tx : TE} (h : td σ H fun x H1 => KG2 K w ty tx σ x H1 Q) : tKGet2 K w td ty tx σ H Q := h
def KG3 (K : PySem.W.Frag) (w : World) (a : Addr) (y z : V) (H3 : Hp) (Q : VK) : Prop := ∃ (k : Str) (o : Option V), y = .str k ∧ KGet K w a k o ∧ Q (o.getD z) H3
theorem kg2 {w : World} {a : Addr} {ty tx : TE} (D : ∃ es n, KDict K w a es n) (h : ty σ H fun y H2 => tx σ H2 fun z H3 => KG3 K w a y z H3 Q) : KG2 K w ty tx σ (.ref a) H Q := ⟨a, rfl, D, h⟩
theorem kg3 {w : World} {a : Addr} {k : Str} {o : Option V} {z : V} (ho : KGet K w a k o) (h : Q (o.getD z) H) : KG3 K w a (.str k) z H Q := ⟨k, o, rfl, ho, h⟩
theorem lenX {p : Addr} {xs : List V} (s : SqX K H p xs) (h : Q (.int (xs.length : Int)) H) : rLenQ K [.ref p] H Q := ⟨p, xs, rfl, s, h⟩
theorem lenXB {p : Addr} {xs : List V} (st : Stt H0 S l H) (s : SqX K H0 p xs) (n : p ∉ S) (h : Q (.int (xs.length : Int)) H) : rLenQ K [.ref p] H Q := ⟨p, xs, rfl, s.kp st.keep n, h⟩
theorem slX {p : Addr} {xs : List V} {k : Nat} (s : SqX K H p xs) (h1 : 1 ≤ k) (h2 : k ≤ xs.length) (h : ∀ q o, H q = none → (o = HO.lst (xs.drop k) ∨ o = .tup (xs.drop k)) → Q (.ref q) (upd H q o)) : rSlX K (.ref p) (some (k : Int)) none H Q := ⟨p, xs, k, rfl, s, rfl, rfl, h1, h2, h⟩
theorem lstX {p : Addr} {xs : List V} (st : Stt H0 S l H) (s : SqX K H p xs) (h : ∀ q H1, H0 q = none → Stt H0 S ((q, Is (.lst xs)) :: l) H1 → Q (.ref q) H1) : rLstX K [.ref p] H Q := ⟨p, xs, rfl, s, fun q hq => h q _ (st.none hq) (st.new hq _)⟩
def WX (K : PySem.W.Frag) (x : V) (H1 : Hp) (R : It → Hp → Prop) : Prop := ∃ a, x = .ref a ∧ (((∃ xs, SqL K H1 a xs) ∧ R (Itl K a) H1) ∨ ((∃ xs, SqT K H1 a xs) ∧ R (Itt K a) H1))
theorem wX {R : It → Hp → Prop} (h : te σ H fun x H1 => WX K x H1 R) : iSeq K te σ H R := h
theorem wXi {a : Addr} {xs : List V} {R : It → Hp → Prop} (s : SqX K H a xs) (hl : SqL K H a xs → R (Itl K a) H) (ht : SqT K H a xs → R (Itt K a) H) : WX K (.ref a) H R := ⟨a, rfl, s.imp (fun h => ⟨⟨xs, h⟩, hl h⟩) fun h => ⟨⟨xs, h⟩, ht h⟩⟩
/-- for x in a: by what stands still -/
theorem forX {a : Addr} {xs : List V} {g : TG} {tb : TS} (s : SqX K H0 a xs) (Pv : Nat → L2.St → Hp → Prop) (h0 : Pv 0 σ H) (hG : ∀ i σ H', i ≤ xs.length → Pv i σ H' → ∃ S, a ∉ S ∧ Kp S H0 H')
    (hs : ∀ i x σ H', i < xs.length → Pv i σ H' → xs[i]? = some x → g x σ H' fun σ2 H2 => tb { D with nx := Pv (i + 1), ct := Pv (i + 1), bk := D.nx } σ2 H2) (hd : ∀ σ H, Pv xs.length σ H → D.nx σ H) : WX K (.ref a) H fun J H1 => For J g tb D σ H1 := by
  have hL : SqL K H0 a xs → ∀ i σ H', i ≤ xs.length → Pv i σ H' → SqL K H' a xs := fun h i σ H' hi p => by obtain ⟨S, hS, k⟩ := hG i σ H' hi p; exact k.seqL hS h
  have hT : SqT K H0 a xs → ∀ i σ H', i ≤ xs.length → Pv i σ H' → SqT K H' a xs := fun h i σ H' hi p => by obtain ⟨S, hS, k⟩ := hG i σ H' hi p; exact k.seqT hS h
  rcases s with s | s
  · exact ⟨a, rfl, .inl ⟨⟨xs, hL s 0 _ _ (Nat.zero_le _) h0⟩, loop (walk_list (xs := xs)) Pv h0 (hL s) (fun i x σ H1 H2 hi p ⟨e, ex⟩ => by subst e; exact hs i x σ H2 hi p ex) hd⟩⟩
  · exact ⟨a, rfl, .inr ⟨⟨xs, hT s 0 _ _ (Nat.zero_le _) h0⟩, loop (walk_tup (xs := xs)) Pv h0 (hT s) (fun i x σ H1 H2 hi p ⟨e, ex⟩ => by subst e; exact hs i x σ H2 hi p ex) hd⟩⟩
/-- [.. for x in a] -/
theorem lcX {a : Addr} {xs : List V} {g : TG} {tt : TT} {te : TE} {vs : List Nat} (s : SqX K H0 a xs) (hS : a ∉ S) (st : Stt H0 S l H) (Good : Nat → List V → Led → Prop) (g0 : Good 0 [] [])
    (hs : ∀ D, H0 D = none → ∀ i x H1 acc ex, i < xs.length → Good i acc ex → acc.length ≤ i → Stt H0 S ((D, Is (.lst acc)) :: (ex ++ l)) H1 → xs[i]? = some x → g x (wipe σ vs) H1 fun σ2 H2 => wipe σ2 vs = wipe σ vs ∧ tt σ2 H2 fun b H3 =>
      Br b (te σ2 H3 fun y H4 => LcP H0 S l Good D i y H4) (PvG H0 S l Good D (i + 1) H3))
    (hd : ∀ D H1 acc ex, H0 D = none → Good xs.length acc ex → Stt H0 S ((D, Is (.lst acc)) :: (ex ++ l)) H1 → Q (.ref D) H1) : WX K (.ref a) H fun J H1 => Lc J g tt te vs σ H1 Q := by
  rcases s with s | s
  · exact ⟨a, rfl, .inl ⟨⟨xs, st.keep.seqL hS s⟩, lcG (walk_list (xs := xs)) st Good g0 (fun H' D acc ex _ q => q.keep.seqL hS s) (fun D hD i x H1 H2 acc ex hi gd ha q ⟨e, ex'⟩ => by subst e; exact hs D hD i x H2 acc ex hi gd ha q ex') hd⟩⟩
  · exact ⟨a, rfl, .inr ⟨⟨xs, st.keep.seqT hS s⟩, lcG (walk_tup (xs := xs)) st Good g0 (fun H' D acc ex _ q => q.keep.seqT hS s) (fun D hD i x H1 H2 acc ex hi gd ha q ⟨e, ex'⟩ => by subst e; exact hs D hD i x H2 acc ex hi gd ha q ex') hd⟩⟩
/-- .. whose promise speaks of the objects -/
def PvH (H0 : Hp) (S : List Addr) (l : Led) (Good : Addr → Nat → List V → Hp → Prop) (D : Addr) (i : Nat) (H : Hp) : Prop := ∃ acc, Good D i acc H ∧ acc.length ≤ i ∧ Stt H0 S ((D, Is (.lst acc)) :: l) H
def LcH (H0 : Hp) (S : List Addr) (l : Led) (Good : Addr → Nat → List V → Hp → Prop) (D : Addr) (i : Nat) (y : V) (H4 : Hp) : Prop := ∃ acc, H4 D = some (.lst acc) ∧ acc.length < sizeLine ∧ PvH H0 S l Good D (i + 1) (upd H4 D (.lst (acc ++ [y])))
theorem lcHE {y : V} {Good : Addr → Nat → List V → Hp → Prop} {D : Addr} {i : Nat} {acc : List V} (st : Stt H0 S ((D, Is (.lst acc)) :: l) H) (hD : H0 D = none) (hi : i < 100000) (ha : acc.length ≤ i) (g : Good D (i + 1) (acc ++ [y]) (upd H D (.lst (acc ++ [y])))) : LcH H0 S l Good D i y H :=
  ⟨acc, st.get List.mem_cons_self, Nat.lt_of_le_of_lt ha (Nat.lt_trans hi (by decide)), acc ++ [y], g, by simp; omega, st.set .head (.inr hD)⟩
theorem lcH {J : It} {n : Nat} {G : Hp → Prop} {Y : Nat → Hp → V → Hp → Prop} (w : Walk J n G Y) {g : TG} {tt : TT} {te : TE} {vs : List Nat} (st : Stt H0 S l H) (Good : Addr → Nat → List V → Hp → Prop) (g0 : ∀ D, H D = none → Good D 0 [] (upd H D (.lst [])))
    (hG : ∀ H' D acc, H0 D = none → Stt H0 S ((D, Is (.lst acc)) :: l) H' → G H')
    (hs : ∀ D, H0 D = none → ∀ i x H1 H2 acc, i < n → Good D i acc H1 → acc.length ≤ i → Stt H0 S ((D, Is (.lst acc)) :: l) H1 → Y i H1 x H2 → g x (wipe σ vs) H2 fun σ2 H2 => wipe σ2 vs = wipe σ vs ∧ tt σ2 H2 fun b H3 =>
      Br b (te σ2 H3 fun y H4 => LcH H0 S l Good D i y H4) (PvH H0 S l Good D (i + 1) H3))
    (hd : ∀ D H1 acc, H D = none → H0 D = none → acc.length ≤ n → Good D n acc H1 → Stt H0 S ((D, Is (.lst acc)) :: l) H1 → Q (.ref D) H1) : Lc J g tt te vs σ H Q := by
  intro D hD
  have hD0 := st.none hD
  refine lc_it w (PvH H0 S l Good D) ⟨[], g0 D hD, Nat.le_refl _, st.new hD _⟩ (fun i H' _ p => ?_) ?_ ?_
  · obtain ⟨acc, _, _, q⟩ := p
    exact hG H' D acc hD0 q
  · rintro i x H1 H2 hi ⟨acc, gd, ha, q⟩ y
    exact hs D hD0 i x H1 H2 acc hi gd ha q y
  · rintro H1 ⟨acc, gd, ha, q⟩
    exact hd D H1 acc hD hD0 ha gd q
theorem lcXH {a : Addr} {xs : List V} {g : TG} {tt : TT} {te : TE} {vs : List Nat} (s : SqX K H0 a xs) (hS : a ∉ S) (st : Stt H0 S l H) (Good : Addr → Nat → List V → Hp → Prop) (g0 : ∀ D, H D = none → Good D 0 [] (upd H D (.lst [])))
    (hs : ∀ D, H0 D = none → ∀ i x H1 acc, i < xs.length → Good D i acc H1 → acc.length ≤ i → Stt H0 S ((D, Is (.lst acc)) :: l) H1 → xs[i]? = some x → g x (wipe σ vs) H1 fun σ2 H2 => wipe σ2 vs = wipe σ vs ∧ tt σ2 H2 fun b H3 =>
      Br b (te σ2 H3 fun y H4 => LcH H0 S l Good D i y H4) (PvH H0 S l Good D (i + 1) H3))
    (hd : ∀ D H1 acc, H D = none → H0 D = none → acc.length ≤ xs.length → Good D xs.length acc H1 → Stt H0 S ((D, Is (.lst acc)) :: l) H1 → Q (.ref D) H1) : WX K (.ref a) H fun J H1 => Lc J g tt te vs σ H1 Q := by
  rcases s with s | s
  · exact ⟨a, rfl, .inl ⟨⟨xs, st.keep.seqL hS s⟩, lcH (walk_list (xs := xs)) st Good g0 (fun H' D acc _ q => q.keep.seqL hS s) (fun D hD i x H1 H2 acc hi gd ha q ⟨e, ex'⟩ => by subst e; exact hs D hD i x H2 acc hi gd ha q ex') hd⟩⟩
  · exact ⟨a, rfl, .inr ⟨⟨xs, st.keep.seqT hS s⟩, lcH (walk_tup (xs := xs)) st Good g0 (fun H' D acc _ q => q.keep.seqT hS s) (fun D hD i x H1 H2 acc hi gd ha q ⟨e, ex'⟩ => by subst e; exact hs D hD i x H2 acc hi gd ha q ex') hd⟩⟩
/-- xs.append(y), the heap told -/
theorem appX {p : Addr} {xs : List V} (st : Stt H0 S ((p, Is (.lst xs)) :: l) H) (hz : xs.length < 100000) (ha : p ∈ S ∨ H0 p = none) (k : Stt H0 S ((p, Is (.lst (xs ++ [y]))) :: l) (upd H p (.lst (xs ++ [y]))) → Q .non (upd H p (.lst (xs ++ [y])))) : rAppend (.ref p) [y] H Q :=
  ⟨p, xs, y, rfl, rfl, st.get List.mem_cons_self, Nat.lt_of_lt_of_le hz (by decide), k (st.set .head ha)⟩
def WEnX (K : PySem.W.Frag) (vs : List V) (H1 : Hp) (R : It → Hp → Prop) : Prop := ∃ a, vs = [.ref a] ∧ (((∃ xs, SqL K H1 a xs) ∧ R (Ite K a) H1) ∨ ((∃ xs, SqT K H1 a xs) ∧ R (IteT K a) H1))
theorem wEnX {ta : TA} {R : It → Hp → Prop} (h : ta σ H fun vs H1 => WEnX K vs H1 R) : iEnX K ta σ H R := h
/-- for i, x in enumerate(a) -/
theorem forEnX {a : Addr} {xs : List V} {g : TG} {tb : TS} (s : SqX K H0 a xs) (Pv : Nat → L2.St → Hp → Prop) (h0 : Pv 0 σ H) (hG : ∀ i σ H', i ≤ xs.length → Pv i σ H' → ∃ S, a ∉ S ∧ Kp S H0 H')
    (hs : ∀ i x σ H' T, i < xs.length → Pv i σ H' → xs[i]? = some x → H' T = none → g (.ref T) σ (upd H' T (.tup [.int (i : Nat), x])) fun σ2 H2 => tb { D with nx := Pv (i + 1), ct := Pv (i + 1), bk := D.nx } σ2 H2) (hd : ∀ σ H, Pv xs.length σ H → D.nx σ H) : WEnX K [.ref a] H fun J H1 => For J g tb D σ H1 := by
  have hL : SqL K H0 a xs → ∀ i σ H', i ≤ xs.length → Pv i σ H' → SqL K H' a xs := fun h i σ H' hi p => by obtain ⟨S, hS, k⟩ := hG i σ H' hi p; exact k.seqL hS h
  have hT : SqT K H0 a xs → ∀ i σ H', i ≤ xs.length → Pv i σ H' → SqT K H' a xs := fun h i σ H' hi p => by obtain ⟨S, hS, k⟩ := hG i σ H' hi p; exact k.seqT hS h
  rcases s with s | s
  · refine ⟨a, rfl, .inl ⟨⟨xs, hL s 0 _ _ (Nat.zero_le _) h0⟩, loop (walk_enum (xs := xs)) Pv h0 (hL s) (fun i x σ H1 H2 hi p y => ?_) hd⟩⟩
    obtain ⟨T, a1, b1, rfl, hT, rfl, e1, e2⟩ := y
    cases e1
    exact hs i b1 σ H1 T hi p e2 hT
  · refine ⟨a, rfl, .inr ⟨⟨xs, hT s 0 _ _ (Nat.zero_le _) h0⟩, loop (walk_enumT (xs := xs)) Pv h0 (hT s) (fun i x σ H1 H2 hi p y => ?_) hd⟩⟩
    obtain ⟨T, a1, b1, rfl, hT, rfl, e1, e2⟩ := y
    cases e1
    exact hs i b1 σ H1 T hi p e2 hT
end Rd
end Lt

set_option Elab.async false
set_option linter.all false
set_option maxRecDepth 100000
set_option maxHeartbeats 2000000
namespace Lt
open PySem PySem.Spec PyProof.Rows L2
/-! ### rows: a name, numbers and texts, lists of rows -/
inductive LRow where
  | mk (n : Str) (as : List V) (ps : List (List LRow))
def LRow.nm : LRow → Str
  | .mk n _ _ => n
def LRow.ats : LRow → List V
  | .mk _ as _ => as
def LRow.parts : LRow → List (List LRow)
  | .mk _ _ ps => ps
def Atm (v : V) : Prop := (∃ i, v = .int i) ∨ ∃ s, v = .str s
/-- lists or tuples; tuples alone; tuples with lists inside -/
inductive Cf where
  | any | tup | told
def Cf.r (c : Cf) (H : Hp) (a : Addr) (xs : List V) : Prop := match c with
  | .any => H a = some (.lst xs) ∨ H a = some (.tup xs)
  | _ => H a = some (.tup xs)
def Cf.s (c : Cf) (H : Hp) (a : Addr) (xs : List V) : Prop := match c with
  | .any => H a = some (.lst xs) ∨ H a = some (.tup xs)
  | .tup => H a = some (.tup xs)
  | .told => H a = some (.lst xs)
theorem Cf.rX {c : Cf} {H : Hp} {a : Addr} {xs : List V} (h : c.r H a xs) : H a = some (.lst xs) ∨ H a = some (.tup xs) := by
  cases c with
  | any => exact h
  | tup => exact .inr h
  | told => exact .inr h
theorem Cf.sX {c : Cf} {H : Hp} {a : Addr} {xs : List V} (h : c.s H a xs) : H a = some (.lst xs) ∨ H a = some (.tup xs) := by
  cases c with
  | any => exact h
  | tup => exact .inr h
  | told => exact .inl h
theorem Cf.r_kp {c : Cf} {H H' : Hp} {a : Addr} {xs : List V} (k : ∀ b o, H b = some o → H' b = some o) (h : c.r H a xs) : c.r H' a xs := by
  cases c with
  | any => exact h.imp (k _ _) (k _ _)
  | tup => exact k _ _ h
  | told => exact k _ _ h
theorem Cf.s_kp {c : Cf} {H H' : Hp} {a : Addr} {xs : List V} (k : ∀ b o, H b = some o → H' b = some o) (h : c.s H a xs) : c.s H' a xs := by
  cases c with
  | any => exact h.imp (k _ _) (k _ _)
  | tup => exact k _ _ h
  | told => exact k _ _ h
theorem sqX_of {K : PySem.W.Frag} {H : Hp} {a : Addr} {xs : List V} (h : H a = some (.lst xs) ∨ H a = some (.tup xs)) : SqX K H a xs := h.imp SqL.of SqT.of
mutual
inductive RwA (c : Cf) (H : Hp) : V → LRow → Prop where
  | mk {a : Addr} {n : Str} {as : List V} {ps : List (List LRow)} {vs : List V} (h : c.r H a (.str n :: (as ++ vs))) (ha : ∀ v ∈ as, Atm v) (hz : (as ++ vs).length ≤ 100) (r : RsAll c H vs ps) : RwA c H (.ref a) (.mk n as ps)
inductive RwAll (c : Cf) (H : Hp) : List V → List LRow → Prop where
  | nil : RwAll c H [] []
  | cons {v : V} {vs : List V} {r : LRow} {rs : List LRow} (h : RwA c H v r) (t : RwAll c H vs rs) : RwAll c H (v :: vs) (r :: rs)
inductive RsA (c : Cf) (H : Hp) : V → List LRow → Prop where
  | mk {a : Addr} {vs : List V} {rs : List LRow} (h : c.s H a vs) (hz : vs.length ≤ 100) (r : RwAll c H vs rs) : RsA c H (.ref a) rs
inductive RsAll (c : Cf) (H : Hp) : List V → List (List LRow) → Prop where
  | nil : RsAll c H [] []
  | cons {v : V} {vs : List V} {p : List LRow} {ps : List (List LRow)} (h : RsA c H v p) (t : RsAll c H vs ps) : RsAll c H (v :: vs) (p :: ps)
end
section
variable {c c' : Cf} {H H' : Hp}
mutual
theorem RwA.map (f : ∀ a xs, c.r H a xs → c'.r H' a xs) (g : ∀ a xs, c.s H a xs → c'.s H' a xs) : ∀ {v : V} {r : LRow}, RwA c H v r → RwA c' H' v r
  | _, _, .mk h ha hz r => .mk (f _ _ h) ha hz (RsAll.map f g r)
theorem RwAll.map (f : ∀ a xs, c.r H a xs → c'.r H' a xs) (g : ∀ a xs, c.s H a xs → c'.s H' a xs) : ∀ {v : List V} {r : List LRow}, RwAll c H v r → RwAll c' H' v r
  | _, _, .nil => .nil
  | _, _, .cons h t => .cons (RwA.map f g h) (RwAll.map f g t)
theorem RsA.map (f : ∀ a xs, c.r H a xs → c'.r H' a xs) (g : ∀ a xs, c.s H a xs → c'.s H' a xs) : ∀ {v : V} {r : List LRow}, RsA c H v r → RsA c' H' v r
  | _, _, .mk h hz r => .mk (g _ _ h) hz (RwAll.map f g r)
theorem RsAll.map (f : ∀ a xs, c.r H a xs → c'.r H' a xs) (g : ∀ a xs, c.s H a xs → c'.s H' a xs) : ∀ {v : List V} {r : List (List LRow)}, RsAll c H v r → RsAll c' H' v r
  | _, _, .nil => .nil
  | _, _, .cons h t => .cons (RsA.map f g h) (RsAll.map f g t)
end
theorem RwA.ext {v : V} {r : LRow} (k : ∀ b o, H b = some o → H' b = some o) (h : RwA c H v r) : RwA c H' v r := h.map (fun _ _ => Cf.r_kp k) fun _ _ => Cf.s_kp k
theorem RwAll.ext {v : List V} {r : List LRow} (k : ∀ b o, H b = some o → H' b = some o) (h : RwAll c H v r) : RwAll c H' v r := h.map (fun _ _ => Cf.r_kp k) fun _ _ => Cf.s_kp k
theorem RsA.ext {v : V} {r : List LRow} (k : ∀ b o, H b = some o → H' b = some o) (h : RsA c H v r) : RsA c H' v r := h.map (fun _ _ => Cf.r_kp k) fun _ _ => Cf.s_kp k
theorem RsAll.ext {v : List V} {r : List (List LRow)} (k : ∀ b o, H b = some o → H' b = some o) (h : RsAll c H v r) : RsAll c H' v r := h.map (fun _ _ => Cf.r_kp k) fun _ _ => Cf.s_kp k
theorem RwA.kp {v : V} {r : LRow} (k : Kp [] H H') (h : RwA c H v r) : RwA c H' v r := h.ext fun _ _ e => k.get List.not_mem_nil e
theorem RwAll.kp {v : List V} {r : List LRow} (k : Kp [] H H') (h : RwAll c H v r) : RwAll c H' v r := h.ext fun _ _ e => k.get List.not_mem_nil e
theorem RsA.kp {v : V} {r : List LRow} (k : Kp [] H H') (h : RsA c H v r) : RsA c H' v r := h.ext fun _ _ e => k.get List.not_mem_nil e
theorem RsAll.kp {v : List V} {r : List (List LRow)} (k : Kp [] H H') (h : RsAll c H v r) : RsAll c H' v r := h.ext fun _ _ e => k.get List.not_mem_nil e
theorem RsA.any {v : V} {r : List LRow} (h : RsA c H v r) : RsA .any H v r := h.map (fun _ _ => Cf.rX) fun _ _ => Cf.sX
theorem RwA.any {v : V} {r : LRow} (h : RwA c H v r) : RwA .any H v r := h.map (fun _ _ => Cf.rX) fun _ _ => Cf.sX
theorem RwAll.len : ∀ {vs : List V} {rs : List LRow}, RwAll c H vs rs → vs.length = rs.length
  | _, _, .nil => rfl
  | _, _, .cons _ t => by simp [RwAll.len t]
theorem RsAll.len : ∀ {vs : List V} {rs : List (List LRow)}, RsAll c H vs rs → vs.length = rs.length
  | _, _, .nil => rfl
  | _, _, .cons _ t => by simp [RsAll.len t]
theorem RwAll.at_ : ∀ {vs : List V} {rs : List LRow} {i : Nat} {v : V}, RwAll c H vs rs → vs[i]? = some v → ∃ r, rs[i]? = some r ∧ RwA c H v r
  | _, _, i, _, .nil, e => by simp at e
  | _, _, 0, _, .cons h t, e => by
    simp at e
    subst e
    exact ⟨_, rfl, h⟩
  | _, _, i + 1, _, .cons h t, e => by
    rw [List.getElem?_cons_succ] at e
    obtain ⟨r, e1, e2⟩ := RwAll.at_ t e
    exact ⟨r, by rw [List.getElem?_cons_succ]; exact e1, e2⟩
theorem RsAll.at_ : ∀ {vs : List V} {rs : List (List LRow)} {i : Nat} {v : V}, RsAll c H vs rs → vs[i]? = some v → ∃ r, rs[i]? = some r ∧ RsA c H v r
  | _, _, i, _, .nil, e => by simp at e
  | _, _, 0, _, .cons h t, e => by
    simp at e
    subst e
    exact ⟨_, rfl, h⟩
  | _, _, i + 1, _, .cons h t, e => by
    rw [List.getElem?_cons_succ] at e
    obtain ⟨r, e1, e2⟩ := RsAll.at_ t e
    exact ⟨r, by rw [List.getElem?_cons_succ]; exact e1, e2⟩
theorem RwAll.app : ∀ {vs vs' : List V} {rs rs' : List LRow}, RwAll c H vs rs → RwAll c H vs' rs' → RwAll c H (vs ++ vs') (rs ++ rs')
  | _, _, _, _, .nil, h => h
  | _, _, _, _, .cons h t, h2 => .cons h (RwAll.app t h2)
theorem RwAll.take : ∀ {vs : List V} {rs : List LRow} (n : Nat), RwAll c H vs rs → RwAll c H (vs.take n) (rs.take n)
  | _, _, 0, _ => by simp; exact .nil
  | _, _, n + 1, .nil => by simp; exact .nil
  | _, _, n + 1, .cons h t => by simp only [List.take_succ_cons]; exact .cons h (RwAll.take n t)
theorem RsAll.isRef : ∀ {vs : List V} {rs : List (List LRow)}, RsAll c H vs rs → ∀ v ∈ vs, ∃ a xs, v = .ref a ∧ (H a = some (.lst xs) ∨ H a = some (.tup xs))
  | _, _, .nil, v, m => nomatch m
  | _, _, .cons (.mk h hz r) t, v, m => by
    rcases List.mem_cons.mp m with e | m
    · exact ⟨_, _, e, Cf.sX h⟩
    · exact RsAll.isRef t v m
end
/-! ### sizes, depths -/
mutual
def LRow.size : LRow → Nat
  | .mk _ _ ps => 1 + sizeP ps
def sizeP : List (List LRow) → Nat
  | [] => 0
  | p :: r => sizeR p + sizeP r
def sizeR : List LRow → Nat
  | [] => 0
  | x :: r => x.size + sizeR r
end
mutual
def LRow.dep : LRow → Nat
  | .mk _ _ ps => depP ps
def depP : List (List LRow) → Nat
  | [] => 0
  | p :: r => max (depR p + 1) (depP r)
def depR : List LRow → Nat
  | [] => 0
  | x :: r => max x.dep (depR r)
end
theorem depR_mem {x : LRow} : ∀ {rs : List LRow}, x ∈ rs → x.dep ≤ depR rs
  | y :: r, m => by
    rw [depR]
    rcases List.mem_cons.mp m with e | m
    · subst e; exact Nat.le_max_left _ _
    · exact Nat.le_trans (depR_mem m) (Nat.le_max_right _ _)
theorem depP_mem {p : List LRow} : ∀ {ps : List (List LRow)}, p ∈ ps → depR p + 1 ≤ depP ps
  | y :: r, m => by
    rw [depP]
    rcases List.mem_cons.mp m with e | m
    · subst e; exact Nat.le_max_left _ _
    · exact Nat.le_trans (depP_mem m) (Nat.le_max_right _ _)
theorem sizeR_app : ∀ {a b : List LRow}, sizeR (a ++ b) = sizeR a + sizeR b
  | [], b => by rw [List.nil_append, sizeR, Nat.zero_add]
  | x :: r, b => by rw [List.cons_append, sizeR, sizeR, sizeR_app, Nat.add_assoc]
theorem depR_app : ∀ {a b : List LRow}, depR (a ++ b) = max (depR a) (depR b)
  | [], b => by rw [List.nil_append, depR, Nat.zero_max]
  | x :: r, b => by rw [List.cons_append, depR, depR, depR_app, Nat.max_assoc]
/-- where a row's lists begin -/
def start (n : Str) : Option Int := if n = "either" then some 1 else if n = "ever" then some 1 else if n = "within" then some 2 else none
/-- a name with its numbers and texts, and how many lists behind -/
inductive Shp : Str → List V → Nat → Prop where
  | work (lo hi : Int) : Shp "work" [.int lo, .int hi] 0
  | say (z : Str) : Shp "say" [.str z] 0
  | pass : Shp "pass" [] 0
  | sleep (n : Int) : Shp "sleep" [.int n] 0
  | take (c : Str) : Shp "take" [.str c] 0
  | give (c : Str) : Shp "give" [.str c] 0
  | either : Shp "either" [] 2
  | ever : Shp "ever" [] 1
  | within (n : Int) : Shp "within" [.int n] 2
mutual
def LRow.shp : LRow → Prop
  | .mk n as ps => Shp n as ps.length ∧ shpP ps
def shpP : List (List LRow) → Prop
  | [] => True
  | p :: r => shpR p ∧ shpP r
def shpR : List LRow → Prop
  | [] => True
  | x :: r => x.shp ∧ shpR r
end
theorem shpR_mem {x : LRow} : ∀ {rs : List LRow}, shpR rs → x ∈ rs → x.shp
  | y :: r, h, m => by
    rw [shpR] at h
    rcases List.mem_cons.mp m with e | m
    · subst e; exact h.1
    · exact shpR_mem h.2 m
theorem shpP_mem {p : List LRow} : ∀ {ps : List (List LRow)}, shpP ps → p ∈ ps → shpR p
  | y :: r, h, m => by
    rw [shpP] at h
    rcases List.mem_cons.mp m with e | m
    · subst e; exact h.1
    · exact shpP_mem h.2 m
theorem shpR_app : ∀ {a b : List LRow}, shpR a → shpR b → shpR (a ++ b)
  | [], b, _, h => h
  | x :: r, b, h, h2 => by
    rw [shpR] at h
    rw [List.cons_append, shpR]
    exact ⟨h.1, shpR_app h.2 h2⟩
/-! ### surely waiting -/
def sleepy (n : Str) : Bool := decide (n = "sleep") || (decide (n = "pass") || decide (n = "ever"))
mutual
def LRow.sw : LRow → Bool
  | .mk n _ ps => sleepy n || (decide (n = "either") && swAll ps || decide (n = "within") && swFst ps)
def swAll : List (List LRow) → Bool
  | [] => true
  | p :: r => swR p && swAll r
def swFst : List (List LRow) → Bool
  | [] => false
  | p :: _ => swR p
def swR : List LRow → Bool
  | [] => false
  | x :: r => x.sw || swR r
end
theorem swR_any : ∀ rs : List LRow, swR rs = rs.any LRow.sw
  | [] => by rw [swR]; rfl
  | x :: r => by rw [swR, List.any_cons, swR_any r]
mutual
/-- what is for ever waits -/
def LRow.wo : LRow → Prop
  | .mk n _ ps => (n = "ever" → swFst ps = true) ∧ woP ps
def woP : List (List LRow) → Prop
  | [] => True
  | p :: r => woR p ∧ woP r
def woR : List LRow → Prop
  | [] => True
  | x :: r => x.wo ∧ woR r
end
theorem woR_app : ∀ {a b : List LRow}, woR a → woR b → woR (a ++ b)
  | [], b, _, h => h
  | x :: r, b, h, h2 => by
    rw [woR] at h
    rw [List.cons_append, woR]
    exact ⟨h.1, woR_app h.2 h2⟩
/-! ### words, counters, nothing within, ever at the end -/
def letters : Str := "abcdefghijklmnopqrstuvwxyz"
def WordB (z : Str) : Bool := (1 ≤ z.length && z.length ≤ 8) && z.cps.toList.all fun c => decide (c ∈ letters.cps.toList)
mutual
def LRow.val (cs : List Str) (g : Bool) : LRow → Prop
  | .mk n as ps => (n = "say" → ∀ z, as = [.str z] → WordB z = true) ∧ (n = "take" ∨ n = "give" → ∀ c, as = [.str c] → c ∈ cs) ∧ (n = "within" → g = false) ∧ valP cs (g || decide (n = "within")) ps
def valP (cs : List Str) (g : Bool) : List (List LRow) → Prop
  | [] => True
  | p :: r => valR cs g p ∧ valP cs g r
def valR (cs : List Str) (g : Bool) : List LRow → Prop
  | [] => True
  | x :: r => x.val cs g ∧ (x.nm = "ever" → r = []) ∧ valR cs g r
end
/-! ### numbers -/
def numB (n : Str) (as : List V) : Bool := match as with
  | [.int lo, .int hi] => !decide (n = "work") || decide ((0 ≤ hi ∧ hi ≤ 99) ∧ 0 ≤ lo ∧ lo ≤ hi)
  | [.int k] => !(decide (n = "sleep") || decide (n = "within")) || decide (1 ≤ k ∧ k ≤ 99)
  | _ => true
mutual
/-- the first row, counted from k on, whose numbers are wrong -/
def LRow.bad (k : Nat) : LRow → Option Nat
  | .mk n as ps => if numB n as = true then badP (k + 1) ps else some k
def badP (k : Nat) : List (List LRow) → Option Nat
  | [] => none
  | p :: r => (badR k p).or (badP (k + sizeR p) r)
def badR (k : Nat) : List LRow → Option Nat
  | [] => none
  | x :: r => (x.bad k).or (badR (k + x.size) r)
end
mutual
/-- all numbers multiplied -/
def LRow.mul (k : Int) : LRow → LRow
  | .mk n as ps => .mk n (as.map fun v => match v with
    | .int i => .int (i * k)
    | v => v) (mulP k ps)
def mulP (k : Int) : List (List LRow) → List (List LRow)
  | [] => []
  | p :: r => mulR k p :: mulP k r
def mulR (k : Int) : List LRow → List LRow
  | [] => []
  | x :: r => x.mul k :: mulR k r
end
/-! ### trees, as frozen sees them -/
inductive Tr where
  | atm (v : V) | sq (ts : List Tr)
mutual
def Tr.dep : Tr → Nat
  | .atm _ => 0
  | .sq ts => depT ts + 1
def depT : List Tr → Nat
  | [] => 0
  | t :: r => max t.dep (depT r)
end
theorem depT_mem {t : Tr} : ∀ {ts : List Tr}, t ∈ ts → t.dep ≤ depT ts
  | y :: r, m => by
    rw [depT]
    rcases List.mem_cons.mp m with e | m
    · subst e; exact Nat.le_max_left _ _
    · exact Nat.le_trans (depT_mem m) (Nat.le_max_right _ _)
mutual
inductive TrX (K : PySem.W.Frag) (H : Hp) : V → Tr → Prop where
  | atm {v : V} (h : Atm v) : TrX K H v (.atm v)
  | sq {a : Addr} {xs : List V} {ts : List Tr} (h : SqX K H a xs) (hz : xs.length ≤ 1000) (r : TrXs K H xs ts) : TrX K H (.ref a) (.sq ts)
inductive TrXs (K : PySem.W.Frag) (H : Hp) : List V → List Tr → Prop where
  | nil : TrXs K H [] []
  | cons {v : V} {vs : List V} {t : Tr} {ts : List Tr} (h : TrX K H v t) (r : TrXs K H vs ts) : TrXs K H (v :: vs) (t :: ts)
end
mutual
inductive TrT (H : Hp) : V → Tr → Prop where
  | atm {v : V} (h : Atm v) : TrT H v (.atm v)
  | sq {a : Addr} {xs : List V} {ts : List Tr} (h : H a = some (.tup xs)) (hz : xs.length ≤ 1000) (r : TrTs H xs ts) : TrT H (.ref a) (.sq ts)
inductive TrTs (H : Hp) : List V → List Tr → Prop where
  | nil : TrTs H [] []
  | cons {v : V} {vs : List V} {t : Tr} {ts : List Tr} (h : TrT H v t) (r : TrTs H vs ts) : TrTs H (v :: vs) (t :: ts)
end
section
variable {K : PySem.W.Frag} {H H' : Hp}
mutual
theorem TrX.kp (k : Kp [] H H') : ∀ {v : V} {t : Tr}, TrX K H v t → TrX K H' v t
  | _, _, .atm h => .atm h
  | _, _, .sq h hz r => .sq (h.kp0 k) hz (TrXs.kp k r)
theorem TrXs.kp (k : Kp [] H H') : ∀ {v : List V} {t : List Tr}, TrXs K H v t → TrXs K H' v t
  | _, _, .nil => .nil
  | _, _, .cons h r => .cons (TrX.kp k h) (TrXs.kp k r)
end
mutual
theorem TrT.ext (k : ∀ b xs, H b = some (.tup xs) → H' b = some (.tup xs)) : ∀ {v : V} {t : Tr}, TrT H v t → TrT H' v t
  | _, _, .atm h => .atm h
  | _, _, .sq h hz r => .sq (k _ _ h) hz (TrTs.ext k r)
theorem TrTs.ext (k : ∀ b xs, H b = some (.tup xs) → H' b = some (.tup xs)) : ∀ {v : List V} {t : List Tr}, TrTs H v t → TrTs H' v t
  | _, _, .nil => .nil
  | _, _, .cons h r => .cons (TrT.ext k h) (TrTs.ext k r)
end
theorem TrT.kp {v : V} {t : Tr} (k : Kp [] H H') (h : TrT H v t) : TrT H' v t := h.ext fun _ _ e => k.get List.not_mem_nil e
theorem TrTs.kp {v : List V} {t : List Tr} (k : Kp [] H H') (h : TrTs H v t) : TrTs H' v t := h.ext fun _ _ e => k.get List.not_mem_nil e
theorem TrTs.updL {D : Addr} {xs ys : List V} {v : List V} {t : List Tr} (e : H D = some (.lst xs)) (h : TrTs H v t) : TrTs (upd H D (.lst ys)) v t := h.ext fun b zs eb => by
  rw [upd_ne (fun q => by rw [q, e] at eb; cases eb)]
  exact eb
theorem TrT.updL {D : Addr} {xs ys : List V} {v : V} {t : Tr} (e : H D = some (.lst xs)) (h : TrT H v t) : TrT (upd H D (.lst ys)) v t := h.ext fun b zs eb => by
  rw [upd_ne (fun q => by rw [q, e] at eb; cases eb)]
  exact eb
theorem TrTs.snoc : ∀ {vs : List V} {ts : List Tr} {v : V} {t : Tr}, TrTs H vs ts → TrT H v t → TrTs H (vs ++ [v]) (ts ++ [t])
  | _, _, _, _, .nil, h => .cons h .nil
  | _, _, _, _, .cons h r, h2 => .cons h (TrTs.snoc r h2)
theorem TrXs.len : ∀ {vs : List V} {rs : List Tr}, TrXs K H vs rs → vs.length = rs.length
  | _, _, .nil => rfl
  | _, _, .cons _ t => by simp [TrXs.len t]
theorem TrXs.at_ : ∀ {vs : List V} {rs : List Tr} {i : Nat} {v : V}, TrXs K H vs rs → vs[i]? = some v → ∃ r, rs[i]? = some r ∧ TrX K H v r
  | _, _, i, _, .nil, e => by simp at e
  | _, _, 0, _, .cons h t, e => by
    simp at e
    subst e
    exact ⟨_, rfl, h⟩
  | _, _, i + 1, _, .cons h t, e => by
    rw [List.getElem?_cons_succ] at e
    obtain ⟨r, e1, e2⟩ := TrXs.at_ t e
    exact ⟨r, by rw [List.getElem?_cons_succ]; exact e1, e2⟩
end
/-! ### rows as such trees -/
mutual
def LRow.tr : LRow → Tr
  | .mk n as ps => .sq (.atm (.str n) :: (as.map Tr.atm ++ trP ps))
def trP : List (List LRow) → List Tr
  | [] => []
  | p :: r => .sq (trR p) :: trP r
def trR : List LRow → List Tr
  | [] => []
  | x :: r => x.tr :: trR r
end
theorem trXs_atoms {K : PySem.W.Frag} {H : Hp} : ∀ {as : List V}, (∀ v ∈ as, Atm v) → ∀ {vs : List V} {ts : List Tr}, TrXs K H vs ts → TrXs K H (as ++ vs) (as.map Tr.atm ++ ts)
  | [], _, _, _, h => h
  | a :: r, ha, _, _, h => .cons (.atm (ha a List.mem_cons_self)) (trXs_atoms (fun v m => ha v (List.mem_cons_of_mem _ m)) h)
mutual
theorem RwA.trX {K : PySem.W.Frag} {c : Cf} {H : Hp} : ∀ {v : V} {r : LRow}, RwA c H v r → TrX K H v r.tr
  | _, _, .mk (as := as) h ha hz r => .sq (sqX_of (Cf.rX h)) (by rw [List.length_cons]; omega) (.cons (.atm (.inr ⟨_, rfl⟩)) (trXs_atoms ha (RsAll.trX r)))
theorem RwAll.trX {K : PySem.W.Frag} {c : Cf} {H : Hp} : ∀ {v : List V} {r : List LRow}, RwAll c H v r → TrXs K H v (trR r)
  | _, _, .nil => .nil
  | _, _, .cons h t => .cons (RwA.trX h) (RwAll.trX t)
theorem RsA.trX {K : PySem.W.Frag} {c : Cf} {H : Hp} : ∀ {v : V} {r : List LRow}, RsA c H v r → TrX K H v (.sq (trR r))
  | _, _, .mk h hz r => .sq (sqX_of (Cf.sX h)) (by omega) (RwAll.trX r)
theorem RsAll.trX {K : PySem.W.Frag} {c : Cf} {H : Hp} : ∀ {v : List V} {r : List (List LRow)}, RsAll c H v r → TrXs K H v (trP r)
  | _, _, .nil => .nil
  | _, _, .cons h t => .cons (RsA.trX h) (RsAll.trX t)
end
theorem trTs_atoms {H : Hp} {ts : List Tr} : ∀ {as : List V} {vs : List V}, TrTs H vs (as.map Tr.atm ++ ts) → ∃ ws, vs = as ++ ws ∧ TrTs H ws ts ∧ ∀ v ∈ as, Atm v
  | [], vs, h => ⟨vs, rfl, h, fun _ m => nomatch m⟩
  | a :: r, _, .cons (.atm h) t => by
    obtain ⟨ws, e, h1, h2⟩ := trTs_atoms t
    subst e
    exact ⟨ws, rfl, h1, fun v m => by
      rcases List.mem_cons.mp m with e | m
      · subst e; exact h
      · exact h2 v m⟩
mutual
/-- no list or row is wide -/
def LRow.nar : LRow → Prop
  | .mk _ as ps => as.length + ps.length ≤ 100 ∧ narP ps
def narP : List (List LRow) → Prop
  | [] => True
  | p :: r => (p.length ≤ 100 ∧ narR p) ∧ narP r
def narR : List LRow → Prop
  | [] => True
  | x :: r => x.nar ∧ narR r
end
mutual
theorem RwA.nar {c : Cf} {H : Hp} : ∀ {v : V} {r : LRow}, RwA c H v r → r.nar
  | _, _, .mk h ha hz r => by
    rw [LRow.nar, ← RsAll.len r]
    rw [List.length_append] at hz
    exact ⟨hz, RsAll.nar r⟩
theorem RwAll.nar {c : Cf} {H : Hp} : ∀ {v : List V} {r : List LRow}, RwAll c H v r → narR r
  | _, _, .nil => by rw [narR]; trivial
  | _, _, .cons h t => by rw [narR]; exact ⟨RwA.nar h, RwAll.nar t⟩
theorem RsA.nar {c : Cf} {H : Hp} : ∀ {v : V} {r : List LRow}, RsA c H v r → r.length ≤ 100 ∧ narR r
  | _, _, .mk h hz r => ⟨by rw [← RwAll.len r]; exact hz, RwAll.nar r⟩
theorem RsAll.nar {c : Cf} {H : Hp} : ∀ {v : List V} {r : List (List LRow)}, RsAll c H v r → narP r
  | _, _, .nil => by rw [narP]; trivial
  | _, _, .cons h t => by rw [narP]; exact ⟨RsA.nar h, RsAll.nar t⟩
end
theorem TrTs.len {H : Hp} : ∀ {vs : List V} {rs : List Tr}, TrTs H vs rs → vs.length = rs.length
  | _, _, .nil => rfl
  | _, _, .cons _ t => by simp [TrTs.len t]
theorem trR_len : ∀ rs : List LRow, (trR rs).length = rs.length
  | [] => by rw [trR] <;> rfl
  | x :: r => by rw [trR, List.length_cons, List.length_cons, trR_len r]
theorem trP_len : ∀ rs : List (List LRow), (trP rs).length = rs.length
  | [] => by rw [trP] <;> rfl
  | x :: r => by rw [trP, List.length_cons, List.length_cons, trP_len r]
mutual
theorem LRow.ofTr {H : Hp} : ∀ (r : LRow) {v : V}, r.nar → TrT H v r.tr → RwA .tup H v r
  | .mk n as ps, _, hn, h => by
    rw [LRow.tr] at h
    rw [LRow.nar] at hn
    cases h with
    | sq h hz r =>
      cases r with
      | cons h1 r =>
        cases h1
        obtain ⟨ws, e, h2, h3⟩ := trTs_atoms r
        subst e
        exact .mk h h3 (by rw [List.length_append, h2.len, trP_len]; exact hn.1) (ofTrP ps hn.2 h2)
theorem ofTrR {H : Hp} : ∀ (rs : List LRow) {vs : List V}, narR rs → TrTs H vs (trR rs) → RwAll .tup H vs rs
  | [], _, _, h => by
    rw [trR] at h
    cases h
    exact .nil
  | x :: r, _, hn, h => by
    rw [trR] at h
    rw [narR] at hn
    cases h with
    | cons h1 h2 => exact .cons (LRow.ofTr x hn.1 h1) (ofTrR r hn.2 h2)
theorem ofTrP {H : Hp} : ∀ (ps : List (List LRow)) {vs : List V}, narP ps → TrTs H vs (trP ps) → RsAll .tup H vs ps
  | [], _, _, h => by
    rw [trP] at h
    cases h
    exact .nil
  | p :: r, _, hn, h => by
    rw [trP] at h
    rw [narP] at hn
    cases h with
    | cons h1 h2 =>
      cases h1 with
      | sq h hz h3 => exact .cons (.mk h (by rw [h3.len, trR_len]; exact hn.1.1) (ofTrR p hn.1.2 h3)) (ofTrP r hn.2 h2)
end
theorem RsA.ofTr {H : Hp} {rs : List LRow} {v : V} (hn : rs.length ≤ 100 ∧ narR rs) (h : TrT H v (.sq (trR rs))) : RsA .tup H v rs := by
  cases h with
  | sq h hz h3 => exact .mk h (by rw [h3.len, trR_len]; exact hn.1) (ofTrR rs hn.2 h3)
mutual
theorem LRow.tr_dep : ∀ r : LRow, r.tr.dep ≤ 2 * r.dep + 1
  | .mk n as ps => by
    rw [LRow.tr, Tr.dep, depT, Tr.dep, LRow.dep, Nat.zero_max]
    have h : ∀ as : List V, depT (as.map Tr.atm ++ trP ps) ≤ 2 * depP ps := fun as => by
      induction as with
      | nil => rw [List.map_nil, List.nil_append]; exact trP_dep ps
      | cons a r ih => rw [List.map_cons, List.cons_append, depT, Tr.dep, Nat.zero_max]; exact ih
    have := h as
    omega
theorem trR_dep : ∀ rs : List LRow, depT (trR rs) ≤ 2 * depR rs + 1
  | [] => by rw [trR, depT]; omega
  | x :: r => by
    rw [trR, depT, depR]
    have h1 := LRow.tr_dep x
    have h2 := trR_dep r
    omega
theorem trP_dep : ∀ ps : List (List LRow), depT (trP ps) ≤ 2 * depP ps
  | [] => by rw [trP, depT]; omega
  | p :: r => by
    rw [trP, depT, depP, Tr.dep]
    have h1 := trR_dep p
    have h2 := trP_dep r
    omega
end
theorem Shp.either_ {n : Str} {as : List V} {m : Nat} (h : Shp n as m) (e : n = "either") : as = [] ∧ m = 2 := by
  cases h <;> first | exact ⟨rfl, rfl⟩ | exact absurd e (by decide +kernel)
theorem Shp.ever_ {n : Str} {as : List V} {m : Nat} (h : Shp n as m) (e : n = "ever") : as = [] ∧ m = 1 := by
  cases h <;> first | exact ⟨rfl, rfl⟩ | exact absurd e (by decide +kernel)
theorem Shp.within_ {n : Str} {as : List V} {m : Nat} (h : Shp n as m) (e : n = "within") : (∃ k, as = [.int k]) ∧ m = 2 := by
  cases h <;> first | exact ⟨⟨_, rfl⟩, rfl⟩ | exact absurd e (by decide +kernel)
theorem Shp.none_ {n : Str} {as : List V} {m : Nat} (h : Shp n as m) (e1 : n ≠ "either") (e2 : n ≠ "ever") (e3 : n ≠ "within") : m = 0 := by
  cases h <;> first | rfl | exact absurd rfl e1 | exact absurd rfl e2 | exact absurd rfl e3
theorem Shp.few {n : Str} {as : List V} {m : Nat} (h : Shp n as m) : as.length ≤ 2 ∧ m ≤ 2 := by
  cases h <;> exact ⟨by simp, by omega⟩
theorem str_inj {a b : Str} : (V.str a = V.str b) ↔ a = b := ⟨fun e => V.str.inj e, fun e => by rw [e]⟩
theorem len2 {α : Type} {l : List α} (h : l.length = 2) : ∃ x y, l = [x, y] := by
  match l, h with
  | [x, y], _ => exact ⟨x, y, rfl⟩
theorem len1 {α : Type} {l : List α} (h : l.length = 1) : ∃ x, l = [x] := by
  match l, h with
  | [x], _ => exact ⟨x, rfl⟩
theorem inV_str {x : Str} : ∀ {ys : List Str}, inV (.str x) (ys.map V.str) = decide (x ∈ ys)
  | [] => by simp [inV]
  | y :: r => by
    have ih : (r.map V.str).any (fun z => eqV z (V.str x)) = decide (x ∈ r) := inV_str (ys := r)
    unfold inV
    rw [List.map_cons, List.any_cons, ih]
    by_cases h : x = y
    · subst h
      simp [eqV]
    · have : (y == x) = false := beq_eq_false_iff_ne.mpr (Ne.symm h)
      simp [eqV, this, h]
theorem flat_strs {ys : List Str} : (ys.map V.str).all flatV = true := by
  rw [List.all_map]
  simp [flatV]
/-! ### lists and tuples stand -/
structure Ks (H H' : Hp) : Prop where
  l : ∀ b xs, H b = some (.lst xs) → H' b = some (.lst xs)
  t : ∀ b xs, H b = some (.tup xs) → H' b = some (.tup xs)
theorem Ks.of {H H' : Hp} (k : Kp [] H H') : Ks H H' := ⟨fun _ _ e => k.get List.not_mem_nil e, fun _ _ e => k.get List.not_mem_nil e⟩
theorem Ks.of1 {H H' : Hp} {o C dx : Addr} {fs : List (Str × V)} (k : Kp [o] H H') (h : H o = some (.ins C dx fs)) : Ks H H' :=
  ⟨fun b xs e => k.get (fun m => by rw [List.mem_singleton.mp m, h] at e; cases e) e, fun b xs e => k.get (fun m => by rw [List.mem_singleton.mp m, h] at e; cases e) e⟩
theorem Ks.refl {H : Hp} : Ks H H := ⟨fun _ _ e => e, fun _ _ e => e⟩
theorem Ks.trans {H H1 H2 : Hp} (a : Ks H H1) (b : Ks H1 H2) : Ks H H2 := ⟨fun x xs e => b.l x xs (a.l x xs e), fun x xs e => b.t x xs (a.t x xs e)⟩
theorem Cf.r_ks {c : Cf} {H H' : Hp} {a : Addr} {xs : List V} (k : Ks H H') (h : c.r H a xs) : c.r H' a xs := by
  cases c with
  | any => exact h.imp (k.l _ _) (k.t _ _)
  | tup => exact k.t _ _ h
  | told => exact k.t _ _ h
theorem Cf.s_ks {c : Cf} {H H' : Hp} {a : Addr} {xs : List V} (k : Ks H H') (h : c.s H a xs) : c.s H' a xs := by
  cases c with
  | any => exact h.imp (k.l _ _) (k.t _ _)
  | tup => exact k.t _ _ h
  | told => exact k.l _ _ h
section
variable {c : Cf} {H H' : Hp}
theorem RwA.ks {v : V} {r : LRow} (k : Ks H H') (h : RwA c H v r) : RwA c H' v r := h.map (fun _ _ => Cf.r_ks k) fun _ _ => Cf.s_ks k
theorem RwAll.ks {v : List V} {r : List LRow} (k : Ks H H') (h : RwAll c H v r) : RwAll c H' v r := h.map (fun _ _ => Cf.r_ks k) fun _ _ => Cf.s_ks k
theorem RsA.ks {v : V} {r : List LRow} (k : Ks H H') (h : RsA c H v r) : RsA c H' v r := h.map (fun _ _ => Cf.r_ks k) fun _ _ => Cf.s_ks k
theorem RsAll.ks {v : List V} {r : List (List LRow)} (k : Ks H H') (h : RsAll c H v r) : RsAll c H' v r := h.map (fun _ _ => Cf.r_ks k) fun _ _ => Cf.s_ks k
end
/-! ### two lists, item by item -/
inductive All2 {α β : Type} (R : α → β → Prop) : List α → List β → Prop where
  | nil : All2 R [] []
  | cons {a : α} {b : β} {as : List α} {bs : List β} (h : R a b) (t : All2 R as bs) : All2 R (a :: as) (b :: bs)
section
variable {α β : Type} {R R' : α → β → Prop}
theorem All2.len : ∀ {as : List α} {bs : List β}, All2 R as bs → as.length = bs.length
  | _, _, .nil => rfl
  | _, _, .cons _ t => by simp [All2.len t]
theorem All2.at_ : ∀ {as : List α} {bs : List β} {i : Nat} {a : α}, All2 R as bs → as[i]? = some a → ∃ b, bs[i]? = some b ∧ R a b
  | _, _, i, _, .nil, e => by simp at e
  | _, _, 0, _, .cons h t, e => by
    simp at e
    subst e
    exact ⟨_, rfl, h⟩
  | _, _, i + 1, _, .cons h t, e => by
    rw [List.getElem?_cons_succ] at e
    obtain ⟨r, e1, e2⟩ := All2.at_ t e
    exact ⟨r, by rw [List.getElem?_cons_succ]; exact e1, e2⟩
theorem All2.imp (f : ∀ a b, R a b → R' a b) : ∀ {as : List α} {bs : List β}, All2 R as bs → All2 R' as bs
  | _, _, .nil => .nil
  | _, _, .cons h t => .cons (f _ _ h) (All2.imp f t)
theorem All2.app : ∀ {as as' : List α} {bs bs' : List β}, All2 R as bs → All2 R as' bs' → All2 R (as ++ as') (bs ++ bs')
  | _, _, _, _, .nil, h => h
  | _, _, _, _, .cons h t, h2 => .cons h (All2.app t h2)
end
/-! ### numbers multiplied -/
def mulV (k : Int) : V → V
  | .int i => .int (i * k)
  | v => v
theorem LRow.mul_mk {k : Int} {n : Str} {as : List V} {ps : List (List LRow)} : (LRow.mk n as ps).mul k = .mk n (as.map (mulV k)) (mulP k ps) := by
  rw [LRow.mul]
  congr 1
mutual
/-- numbers below a bound -/
def LRow.sml : LRow → Prop
  | .mk _ as ps => (∀ i, V.int i ∈ as → i.natAbs < 2 ^ 60) ∧ smlP ps
def smlP : List (List LRow) → Prop
  | [] => True
  | p :: r => smlR p ∧ smlP r
def smlR : List LRow → Prop
  | [] => True
  | x :: r => x.sml ∧ smlR r
end
theorem smlR_mem {x : LRow} : ∀ {rs : List LRow}, smlR rs → x ∈ rs → x.sml
  | y :: r, h, m => by
    rw [smlR] at h
    rcases List.mem_cons.mp m with e | m
    · subst e; exact h.1
    · exact smlR_mem h.2 m
theorem smlP_mem {p : List LRow} : ∀ {ps : List (List LRow)}, smlP ps → p ∈ ps → smlR p
  | y :: r, h, m => by
    rw [smlP] at h
    rcases List.mem_cons.mp m with e | m
    · subst e; exact h.1
    · exact smlP_mem h.2 m
theorem mulR_map (k : Int) : ∀ rs : List LRow, mulR k rs = rs.map (LRow.mul k)
  | [] => by rw [mulR]; rfl
  | x :: r => by rw [mulR, List.map_cons, mulR_map k r]
theorem mulP_map (k : Int) : ∀ ps : List (List LRow), mulP k ps = ps.map (mulR k)
  | [] => by rw [mulP]; rfl
  | x :: r => by rw [mulP, List.map_cons, mulP_map k r]
theorem trP_map : ∀ ps : List (List LRow), trP ps = ps.map fun p => Tr.sq (trR p)
  | [] => by rw [trP]; rfl
  | x :: r => by rw [trP, List.map_cons, trP_map r]
theorem trR_map : ∀ rs : List LRow, trR rs = rs.map LRow.tr
  | [] => by rw [trR]; rfl
  | x :: r => by rw [trR, List.map_cons, trR_map r]
theorem Atm.mul {k : Int} {v : V} (h : Atm v) : Atm (mulV k v) := by
  rcases h with ⟨i, rfl⟩ | ⟨z, rfl⟩
  · exact .inl ⟨_, rfl⟩
  · exact .inr ⟨_, rfl⟩
mutual
theorem LRow.nar_mul (k : Int) : ∀ {r : LRow}, r.nar → (r.mul k).nar
  | .mk n as ps, h => by
    rw [LRow.mul_mk, LRow.nar, List.length_map]
    rw [LRow.nar] at h
    exact ⟨by rw [mulP_map, List.length_map]; exact h.1, narP_mul k h.2⟩
theorem narR_mul (k : Int) : ∀ {rs : List LRow}, narR rs → narR (mulR k rs)
  | [], _ => by rw [mulR, narR]; trivial
  | x :: r, h => by
    rw [narR] at h
    rw [mulR, narR]
    exact ⟨LRow.nar_mul k h.1, narR_mul k h.2⟩
theorem narP_mul (k : Int) : ∀ {ps : List (List LRow)}, narP ps → narP (mulP k ps)
  | [], _ => by rw [mulP, narP]; trivial
  | p :: r, h => by
    rw [narP] at h
    rw [mulP, narP]
    exact ⟨⟨by rw [mulR_map, List.length_map]; exact h.1.1, narR_mul k h.1.2⟩, narP_mul k h.2⟩
end
theorem Shp.work_ {n : Str} {as : List V} {m : Nat} (h : Shp n as m) (e : n = "work") : (∃ lo hi, as = [.int lo, .int hi]) ∧ m = 0 := by
  cases h <;> first | exact ⟨⟨_, _, rfl⟩, rfl⟩ | exact absurd e (by decide +kernel)
theorem Shp.slp_ {n : Str} {as : List V} {m : Nat} (h : Shp n as m) (e : n ∈ (["sleep", "within"] : List Str)) : ∃ k, as = [.int k] := by
  cases h <;> first | exact ⟨_, rfl⟩ | exact absurd e (by decide +kernel)
theorem Shp.say_ {n : Str} {as : List V} {m : Nat} (h : Shp n as m) (e : n = "say") : ∃ z, as = [.str z] := by
  cases h <;> first | exact ⟨_, rfl⟩ | exact absurd e (by decide +kernel)
theorem Shp.tak_ {n : Str} {as : List V} {m : Nat} (h : Shp n as m) (e : n ∈ (["take", "give"] : List Str)) : ∃ z, as = [.str z] := by
  cases h <;> first | exact ⟨_, rfl⟩ | exact absurd e (by decide +kernel)
theorem numB_work {lo hi : Int} : numB "work" [.int lo, .int hi] = (decide (0 ≤ hi ∧ hi ≤ 99) && decide (0 ≤ lo ∧ lo ≤ hi)) := by
  show (!decide (("work" : Str) = "work") || decide ((0 ≤ hi ∧ hi ≤ 99) ∧ 0 ≤ lo ∧ lo ≤ hi)) = _
  rw [decide_eq_true rfl, Bool.not_true, Bool.false_or, Bool.decide_and]
theorem numB_slp {n : Str} {k : Int} (e : n ∈ (["sleep", "within"] : List Str)) : numB n [.int k] = decide (1 ≤ k ∧ k ≤ 99) := by
  show (!(decide (n = "sleep") || decide (n = "within")) || decide (1 ≤ k ∧ k ≤ 99)) = _
  simp only [List.mem_cons, List.not_mem_nil, or_false] at e
  rcases e with rfl | rfl
  · rw [decide_eq_true rfl]; simp
  · rw [decide_eq_true (rfl : ("within" : Str) = "within")]; simp
theorem numB_else {n : Str} {as : List V} {m : Nat} (h : Shp n as m) (e1 : n ≠ "work") (e2 : n ∉ (["sleep", "within"] : List Str)) : numB n as = true := by
  cases h <;> first | rfl | exact absurd rfl e1 | exact absurd (by simp) e2 | (show (!(_ || _) || _) = true; simp; done)
theorem badR_app : ∀ {a b : List LRow} {k : Nat}, badR k (a ++ b) = (badR k a).or (badR (k + sizeR a) b)
  | [], b, k => by rw [List.nil_append, badR, sizeR, Nat.add_zero]; rfl
  | x :: r, b, k => by rw [List.cons_append, badR, badR, badR_app, sizeR, Option.or_assoc, Nat.add_assoc]
theorem badP_app : ∀ {a b : List (List LRow)} {k : Nat}, badP k (a ++ b) = (badP k a).or (badP (k + sizeP a) b)
  | [], b, k => by rw [List.nil_append, badP, sizeP, Nat.add_zero]; rfl
  | x :: r, b, k => by rw [List.cons_append, badP, badP, badP_app, sizeP, Option.or_assoc, Nat.add_assoc]
theorem sizeP_app : ∀ {a b : List (List LRow)}, sizeP (a ++ b) = sizeP a + sizeP b
  | [], b => by rw [List.nil_append, sizeP, Nat.zero_add]
  | x :: r, b => by rw [List.cons_append, sizeP, sizeP, sizeP_app, Nat.add_assoc]
theorem LRow.size_pos : ∀ r : LRow, 1 ≤ r.size
  | .mk _ _ ps => by rw [LRow.size]; omega
theorem valR_at {cs : List Str} {g : Bool} : ∀ {rs : List LRow} {i : Nat} {x : LRow}, valR cs g rs → rs[i]? = some x → x.val cs g ∧ (x.nm = "ever" → i + 1 = rs.length)
  | [], i, x, _, e => by simp at e
  | y :: r, 0, x, h, e => by
    rw [valR] at h
    simp at e
    subst e
    exact ⟨h.1, fun q => by rw [h.2.1 q]; rfl⟩
  | y :: r, i + 1, x, h, e => by
    rw [valR] at h
    rw [List.getElem?_cons_succ] at e
    obtain ⟨h1, h2⟩ := valR_at h.2.2 e
    exact ⟨h1, fun q => by rw [List.length_cons, ← h2 q]⟩
theorem valP_mem {cs : List Str} {g : Bool} {p : List LRow} : ∀ {ps : List (List LRow)}, valP cs g ps → p ∈ ps → valR cs g p
  | y :: r, h, m => by
    rw [valP] at h
    rcases List.mem_cons.mp m with e | m
    · subst e; exact h.1
    · exact valP_mem h.2 m
theorem take_split {α : Type} {xs : List α} {i : Nat} {x : α} (h : xs[i]? = some x) : xs = xs.take i ++ x :: xs.drop (i + 1) := by
  obtain ⟨hi, e⟩ := List.getElem?_eq_some_iff.mp h
  subst e
  exact (List.take_append_drop i xs).symm.trans (by rw [List.drop_eq_getElem_cons hi])
theorem take_snoc {α : Type} {xs : List α} {i : Nat} {x : α} (h : xs[i]? = some x) : xs.take (i + 1) = xs.take i ++ [x] := by
  rw [List.take_add_one, h]
  rfl
/-! ### fields by name -/
theorem putF_le {f : Str} {v : V} {fs : List (Str × V)} {n : Nat} (h : fs.length ≤ n) : (putF f v fs).length ≤ n + 1 := Nat.le_trans (putF_len f v fs) (Nat.succ_le_succ h)
theorem lk_same {f : Str} {v : V} {fs : List (Str × V)} : (putF f v fs).lookup f = some v := by rw [lookup_putF, if_pos rfl]
theorem lk_ne {f g : Str} {v : V} {fs : List (Str × V)} {r : Option V} (h : (g == f) = false) (e : fs.lookup g = r) : (putF f v fs).lookup g = r := by rw [lookup_putF, if_neg (beq_eq_false_iff_ne.mp h)]; exact e
namespace Rd
variable {K : PySem.W.Frag} {D : Ends} {σ : L2.St} {H H0 : Hp} {Q : VK} {S : List Addr} {l l' : Led} {te ta tb tc : TE} {x y v : V} {i j : Nat}
theorem fldX {f : Str} {p C dx : Addr} {fs : List (Str × V)} (h0 : H p = some (.ins C dx fs)) (c : Cls K C) (n : NoAttr K C f) (e : fs.lookup f = some v) (h : Q v H) : Fld K f (.ref p) H Q := ⟨p, C, dx, fs, v, rfl, h0, c, n, e, h⟩
theorem fldXB {f : Str} {p C dx : Addr} {fs : List (Str × V)} (st : Stt H0 S l H) (h0 : H0 p = some (.ins C dx fs)) (hn : p ∉ S) (c : Cls K C) (n : NoAttr K C f) (e : fs.lookup f = some v) (h : Q v H) : Fld K f (.ref p) H Q := ⟨p, C, dx, fs, v, rfl, st.keep.get hn h0, c, n, e, h⟩
theorem isN {x : V} (h : Q (.bl (decide (x = .non))) H) : (fun (x y : V) (H : Hp) (Q : VK) => y = .non ∧ Q (.bl (decide (x = .non))) H) x .non H Q := ⟨rfl, h⟩
end Rd
end Lt

set_option Elab.async false
set_option linter.all false
set_option maxRecDepth 100000
namespace Lt
open PySem PySem.Spec PyProof.Rows L2
/-! ### several clauses `except C as n`, all with the same n -/
abbrev Cla : Type := Value × (Addr → Value → Option Addr → TS)
/-- behind a clause's suite the name is gone -/
def goneE (i : Nat) (D : Ends) : Ends where
  nx := fun σ H => D.nx (σ.set i none) H
  rt := D.rt
  bk := fun σ H => D.bk (σ.set i none) H
  ct := fun σ H => D.ct (σ.set i none) H
/-- what the clauses ask of what flies -/
def wAll (K : PySem.W.Frag) (i : Nat) (W0 : WX) (D : Ends) : List Cla → WX
  | [] => W0
  | cl :: r => fun C d σ H => ∃ b, PySem.W.exmOne K C cl.1 = some b ∧ (b = true → ∀ a, H a = none → cl.2 a C d (goneE i D) (σ.set i (some (.ref a))) H) ∧ (b = false → wAll K i W0 D r C d σ H)
inductive AsOk (X : Cx) (n : Str) : List ExceptHandler → List Cla → Prop where
  | nil : AsOk X n [] []
  | cons {x : Str} {cl : Cla} {b : Stmt} {bs : List Stmt} {p1 p2 : Pos} {hs : List ExceptHandler} {cs : List Cla} (hc : Names X x cl.1)
      (hsu : ∀ (a : Addr) (oe : Obj) (C : Value) (d : Option Addr) (pn : List (Addr × Obj)), Zc C d oe → (∃ vs, oe.data = .fields vs) → PSs (X.suite a ((a, oe) :: pn)) (b :: bs) (cl.2 a C d))
      (r : AsOk X n hs cs) : AsOk X n (.ExceptHandler (some (.Name x p1)) (some n) (b :: bs) p2 :: hs) (cl :: cs)
section
variable {X : Cx} {body : List Stmt} {hd : ExceptHandler} {hds : List ExceptHandler} {cs : List Cla} {i : Nat} {n : Str} {pos : Pos} {tb : WX → TS} {W0 : WX}
theorem ps_try_all_as (es : X.stack = X.env :: X.outer) (ef : X.env.frame = some X.env.locals) (nd : X.N.Nodup) (ei : X.N[i]? = some n) (lo : X.env.kindOf n = some .local) (tk : Takes X W0)
    (hb : ∀ (W : WX) (pn : List (Addr × Obj)) (xe : Value → Shared → Prop), Takes (X.tr pn xe) W → PassesOwn (model X.prog X.w) X.A X.env xe → PSs (X.tr pn xe) body (tb W))
    (hk : AsOk X n (hd :: hds) cs) : PS X (.Try body (hd :: hds) [] [] pos) (fun D σ H => tb (wAll X.K i W0 D cs) D σ H) := by
  constructor
  intro pins s σ H D I hyp
  have iok := I.ok
  have frs0 : X.A.frames = some (X.env :: X.outer) := iok.frames.trans (congrArg some es)
  refine wpAny_Try_except (wpAny_mono ((hb (wAll X.K i W0 D cs) (X.pn ++ pins) (fun e t => wpAny (model X.prog X.w) X.A (noteFrame e X.env) (fun _ t2 => wpAny (model X.prog X.w) X.A (setFlight e none) (fun _ t3 =>
    wpAny (model X.prog X.w) X.A (handleBy e X.env (hd :: hds)) (SP X pins D) X.xe t3) X.xe t2) X.xe t) (fun u t xx => ?_) PassesOwn.looking).run [] s σ H D (I.toTry _) hyp) (fun fl t1 sp => ?_) fun _ _ z => z)
  case refine_1 =>
    obtain ⟨a, B, sI, pi2, τ, G, C, d, rfl, I1, nb, up, sk, na, os, ag, wsh⟩ := xx
    have I2 : Inv X pins τ G sI := I1.ofTry iok
    rw [es] at sk
    show wpAny (model X.prog X.w) X.A (noteFrame (.ref a) X.env) _ _ _
    refine Sky.land Zc.steady frs0 ef sk fun g3 fly up3 => ?_
    have I3 : Inv X pins τ G { t with heap := g3 } := I2.landed nb fly.1 (up.trans up3) os ag
    obtain ⟨oe, vs, eo, zo, dv⟩ := fly.there
    have out : a ∉ frs (X.env :: X.outer) := fun m => by
      obtain ⟨_, o2, e2, nf⟩ := fly.2.2.1.mem m
      rw [eo] at e2
      cases e2
      exact nf _ dv
    have aL : a ≠ X.env.locals := fun z => out (List.mem_filterMap.mpr ⟨X.env, .head _, by rw [ef, z]⟩)
    have aF : a ∉ X.fs := fun m => by
      obtain ⟨e, me, q⟩ := List.mem_filterMap.mp m
      exact out (List.mem_filterMap.mpr ⟨e, .tail _ me, q⟩)
    have J3 := I3.suite eo dv na aL aF
    have walk : ∀ {hs2 : List ExceptHandler} {cs2 : List Cla}, AsOk X n hs2 cs2 → wAll X.K i W0 D cs2 C d τ G → wpAny (model X.prog X.w) X.A (handleBy (.ref a) X.env hs2) (SP X pins D) X.xe { t with heap := g3 } := by
      intro hs2 cs2 k2
      induction k2 with
      | nil =>
        intro wsh
        obtain ⟨_, _, _, oe2, vs2, T, _, _, eo2, _, dv2, tr, _⟩ := id fly
        have last : wpAny (model X.prog X.w) X.A (setFlight (.ref a) X.env.frame) (fun _ t4 => wpAny (model X.prog X.w) X.A (throw (.ref a) : Sem Flow) (SP X pins D) X.xe t4) X.xe { t with heap := g3 } := by
          rw [ef]
          refine HandSPX.setFlight_upZ fly fun g4 hh4 up4 => wpAny_throw (tk _ _ ⟨a, B, sI, pins, τ, G, C, d, rfl, I2, nb, (up.trans up3).trans up4, .inr (.inr ?_), na, os, ag, wsh⟩)
          rw [es]
          exact hh4
        refine wpAny_handleBy_nil ?_
        unfold PySem.passOn
        refine wpAny_bind (wpAny_field eo2 dv2 tr ?_)
        rw [if_neg (by simp : ¬ ((Value.ref T == Value.none) = true))]
        first
          | exact wpAny_bind last
          | exact wpAny_bind (wpAny_pure (wpAny_bind last))
      | @cons x cl b bs p1 p2 hs cs hc hsu r ih =>
        intro wsh
        obtain ⟨yes, ey, hy, hn⟩ := wsh
        have lk : PySem.W.Looks (model X.prog X.w) g3 (typeOf (.ref a)) C := fun A Q E s2 k q => wpAny_typeOf_ref (k _ _ eo) (by rw [zo.1]; exact q)
        have lm := PySem.W.exm_one (M := model X.prog X.w) I3.kIn lk ey
        have named : ∀ {Q E : Value → Shared → Prop}, Q cl.1 { t with heap := g3 } → wpAny (model X.prog X.w) (X.A.mark (some (.ref a))) (eval (.Name x p1) X.env) Q E { t with heap := g3 } := fun q => by
          rcases hc with ⟨g1, g2, m | ⟨m, v, nn⟩⟩
          · exact ld_glob (X := X.suite a ((a, oe) :: (X.pn ++ pins))) J3 g1 m q g2
          · exact ld_blt (X := X.suite a ((a, oe) :: (X.pn ++ pins))) J3 g1 m v q nn g2
        refine wpAny_handleBy_cons (codeAny_handlers_test (named (lm.here ?_))) (fun q => nomatch q)
        cases yes with
        | false => exact ih (hn rfl)
        | true =>
          refine codeAny_handlers_suite_as (HandSPX.lands_againZ fly fun g4 fly4 up4 => ?_)
          have I4 : Inv X pins τ G { t with heap := g4 } := I2.landed nb fly4.1 ((up.trans up3).trans up4) os ag
          obtain ⟨oe4, _, eo4, zo4, dv4⟩ := fly4.there
          have J4 := I4.suite eo4 dv4 na aL aF
          refine store_ok (X := X.suite a ((a, oe4) :: (X.pn ++ pins))) (v := .ref a) J4 nd ei (.inl lo) rfl (fun t5 J5 => ?_) (.inr lo)
          refine wpAny_mono ((hsu a oe4 C d (X.pn ++ pins) zo4 ⟨_, dv4⟩).run [] t5 _ G _ J5 (hy rfl a na)) (fun fl t6 sp => ?_) fun _ _ z => z.elim
          have off : ∀ {τ6 : L2.St} {G6 : Hp} {Q : Shared → Prop}, Inv (X.suite a ((a, oe4) :: (X.pn ++ pins))) [] τ6 G6 t6 → (∀ t7, Inv X pins (τ6.set i none) G6 t7 → Q t7) →
              wpAny (model X.prog X.w) X.A (do bindName X.env n .none; unbindBehindTheSuite X.env n p2) (fun _ t7 => Q t7) X.xe t6 := fun J6 hq => gone_ok (J6.unsuite iok) nd ei lo hq
          cases fl with
          | ret u => exact let ⟨v, _, _, J6, rv, q6⟩ := sp; off J6 fun _ J7 => ⟨v, _, _, J7, rv, q6⟩
          | next => exact let ⟨_, _, J6, q6⟩ := sp; off J6 fun _ J7 => ⟨_, _, J7, q6⟩
          | brk => exact let ⟨_, _, J6, q6⟩ := sp; off J6 fun _ J7 => ⟨_, _, J7, q6⟩
          | cont => exact let ⟨_, _, J6, q6⟩ := sp; off J6 fun _ J7 => ⟨_, _, J7, q6⟩
    exact walk hk wsh
  case refine_2 =>
    cases fl with
    | ret u => exact let ⟨v, τ, G, J, rv, q⟩ := sp; ⟨v, τ, G, J.ofTry iok, rv, q⟩
    | next => exact let ⟨τ, G, J, q⟩ := sp; wpAny_execs_nil ⟨τ, G, J.ofTry iok, q⟩
    | brk => exact let ⟨τ, G, J, q⟩ := sp; ⟨τ, G, J.ofTry iok, q⟩
    | cont => exact let ⟨τ, G, J, q⟩ := sp; ⟨τ, G, J.ofTry iok, q⟩
end
theorem takesLen {X : Cx} {W : WX} (t : Takes X W) : Takes X (fun C d σ H => σ.length = X.N.length → W C d σ H) := fun u s2 ⟨a, B, sI, pi, τ, G, C, d, e, I, nb, up, sk, na, os, ag, q⟩ =>
  t u s2 ⟨a, B, sI, pi, τ, G, C, d, e, I, nb, up, sk, na, os, ag, q I.len⟩
theorem len4 {α : Type} {l : List α} (h : l.length = 4) : ∃ a b c d, l = [a, b, c, d] := by
  match l, h with
  | [a, b, c, d], _ => exact ⟨a, b, c, d, rfl⟩
end Lt

set_option Elab.async false
set_option linter.all false
set_option maxRecDepth 100000
set_option maxHeartbeats 2000000
namespace Lt
open PySem PySem.Spec PyProof.Rows L2
/-! ### a Hook whose addresses are written; static methods too -/
section
variable {as : List Addr} {fa : List He.Fa} {fs : List (PySem.W.Frag → Bool)} {fn sn : List He.DefD} {ts : List He.Tab} {tf : List He.Defn} {K : PySem.W.Frag} {w : World} {h : Heap}
abbrev AlL : Type := He.AlX × He.AlD
def obsL (as : List Addr) (fa : List He.Fa) (fs : List (PySem.W.Frag → Bool)) (fn sn : List He.DefD) (ts : List He.Tab) (tf : List He.Defn) (g : Addr → Option Obj) : AlL :=
  ((He.obsT fa fn ts (He.frT g as), allF fs (He.frT g as) && He.tabsB g tf (He.frT g as)), (sn.all fun d => sOk (He.frT g as) d, sn.map fun d => sW (He.frT g as) d.at_))
def valL (fn sn : List He.DefD) (ts : List He.Tab) (w : World) : AlL := (He.valX fn ts w, (true, sn.map He.DefD.val))
structure SaysL (fa : List He.Fa) (fs : List (PySem.W.Frag → Bool)) (fn sn : List He.DefD) (ts : List He.Tab) (tf : List He.Defn) (w : World) (h : Heap) (K : PySem.W.Frag) : Prop where
  x : He.SaysX fa fn ts tf (allF fs) w h K
  st1 : (sn.all fun d => sOk K d) = true
  st2 : (sn.map fun d => sW K d.at_) = sn.map He.DefD.val
theorem saysL_of (e : obsL as fa fs fn sn ts tf h.get? = valL fn sn ts w) : SaysL fa fs fn sn ts tf w h (He.frT h.get? as) := by
  have e1 : He.obsT fa fn ts (He.frT h.get? as) = He.valT fn ts w := congrArg (fun z : AlL => z.1.1) e
  have e2 := He.ba (show (allF fs (He.frT h.get? as) && He.tabsB h.get? tf (He.frT h.get? as)) = true from congrArg (fun z : AlL => z.1.2) e)
  have tab : ∀ d ∈ tf, PySem.W.codeHdIn (He.frT h.get? as) (He.cT (He.frT h.get? as) d).1 (He.cT (He.frT h.get? as) d).2 = true ∧ ∃ o, h.get? (He.cT (He.frT h.get? as) d).2 = some o ∧ He.emptyTab o = true := fun d m => by
    have z := He.ba (List.all_eq_true.mp e2.2 d m)
    refine ⟨z.1, ?_⟩
    have z2 := z.2
    cases q : h.get? (He.cT (He.frT h.get? as) d).2 with
    | some o => exact ⟨o, rfl, by rw [q] at z2; exact z2⟩
    | none => rw [q] at z2; cases z2
  exact {
    x := {
      t := e1
      more := e2.1
      hd := fun d m => (tab d m).1
      out := fun d m => let ⟨_, _, q, z⟩ := tab d m; He.frT_none q z
      empty := fun d m => let ⟨_, _, q, z⟩ := tab d m; q.trans (congrArg some (He.emptyTab_eq z)) }
    st1 := congrArg (fun z : AlL => z.2.1) e
    st2 := congrArg (fun z : AlL => z.2.2) e }
def hookL (as : List Addr) (fa : List He.Fa) (fs : List (PySem.W.Frag → Bool)) (fn sn : List He.DefD) (ts : List He.Tab) (tf : List He.Defn) : PySem.W.Hook where
  α := AlL
  obs := fun s => obsL as fa fs fn sn ts tf s.heap.get?
  val := valL fn sn ts
  says := fun w h => ∃ K : PySem.W.Frag, K.In h ∧ SaysL fa fs fn sn ts tf w h K
  of := fun _ _ e => ⟨_, He.frT_in, saysL_of e⟩
  keeps := fun _ _ _ ⟨K, X, c⟩ k => ⟨K, X.keeps k, { c with x := { c.x with empty := fun d m => k _ _ (c.x.empty d m) } }⟩
theorem obsL_eq {g : Addr → Option Obj} {s : Shared} (e : ∀ a, g a = s.heap.get? a) : obsL as fa fs fn sn ts tf g = (hookL as fa fs fn sn ts tf).obs s := by
  have e2 : g = s.heap.get? := funext e
  subst e2
  rfl
theorem saysS_of (c : SaysL fa fs fn sn ts tf w h K) : SaysS fa fs fn sn K := by
  have m : obsM fa fs fn K = He.valD fn := saysM_of c.x
  have m1 : ((fa.all fun f => f.ok K) && ((fs.all fun f => f K) && fn.all fun d => d.ok K)) = true := congrArg (fun z : He.AlD => z.1) m
  have m2 : (fn.map fun d => He.fnW K d.at_) = fn.map He.DefD.val := congrArg (fun z : He.AlD => z.2) m
  obtain ⟨h1, h2⟩ := He.ba m1
  obtain ⟨h3, h4⟩ := He.ba h2
  show obsS fa fs fn sn K = He.valD (fn ++ sn)
  unfold obsS He.valD
  rw [h1, h3, h4, c.st1, m2, c.st2, List.map_append]
  rfl
end
/-! ### the run's equation out of two -/
theorem opt_two {α β γ δ : Type} {o : Option α} {f : α → β} {f2 : α → γ} {g : α → δ} {b : β} {c : γ} {d : δ} (h1 : o.map (fun s => (f s, f2 s)) = some (b, c)) (h2 : o.map g = some d) : o.map (fun s => (f s, f2 s, g s)) = some (b, c, d) := by
  cases o with
  | none => cases h1
  | some s =>
    have e1 : (f s, f2 s) = (b, c) := Option.some.inj h1
    have e2 : g s = d := Option.some.inj h2
    show some (f s, f2 s, g s) = _
    injection e1 with e3 e4
    rw [e3, e4, e2]
section
open HandSHeadRun
variable {r : PySem.W.OpenRow} {q : Program} {H : PySem.W.Hook} {ob : PySem.W.SharedT → H.α} {M : Nat} {loose : List Str} {w : World}
def RunA (r : PySem.W.OpenRow) (q : Program) (M : Nat) (loose : List Str) (w : World) : Prop := ∀ os : OsState, (endF (stepQ (denQ tabQ) r.prog w) M r.prog w os).map (fun s => (looksF r.prog (PySem.W.boot_heap w.params) s.abs, seenQ q loose (importedModules r.prog.main.body) (fun s => PySem.W.xlAt q [] s && PySem.W.recOk r.toRowW.records s) s.abs)) = some (true, PySem.W.openGood q loose)
def RunB (r : PySem.W.OpenRow) (H : PySem.W.Hook) (ob : PySem.W.SharedT → H.α) (M : Nat) (w : World) : Prop := ∀ os : OsState, (endF (stepQ (denQ tabQ) r.prog w) M r.prog w os).map ob = some (H.val w)
theorem runEq_two (a : RunA r q M loose w) (b : RunB r H ob M w) : RunEq r q H ob M loose w := by
  intro os
  exact opt_two (a os) (b os)
def RunAI (r : PySem.W.OpenRow) (q : Program) (M : Nat) (loose : List Str) (w : World) : Prop := (wholeF (fun p => stepQ (denQ tabQ) p w) fenceQ M r.prog).map (fun x => (looksF r.prog x.1.heap x.2.abs, seenQ q loose (importedModules r.prog.main.body) (fun s => PySem.W.xlAt q [] s && PySem.W.recOk r.toRowW.records s) x.2.abs)) = some (true, PySem.W.openGood q loose)
def RunBI (r : PySem.W.OpenRow) (H : PySem.W.Hook) (ob : PySem.W.SharedT → H.α) (M : Nat) (w : World) : Prop := (wholeF (fun p => stepQ (denQ tabQ) p w) fenceQ M r.prog).map (fun x => ob x.2) = some (H.val w)
theorem runEqI_two (a : RunAI r q M loose w) (b : RunBI r H ob M w) : RunEqI r q H ob M loose w := opt_two a b
end
end Lt

set_option Elab.async false
set_option linter.all false
set_option maxRecDepth 100000
set_option maxHeartbeats 2000000
namespace PySem.W
open PySem PySem.Spec PySem.Calls PyProof.Rows Builtin
section
variable {M : Model} {A : Around} {E : Value → Shared → Prop} {s : Shared} {K : Frag} {x C f : Addr} {ox : Obj} {od : Option Obj} {v : Value}
theorem contains_I {Q : Bool → Shared → Prop} (X : K.In s.heap) (J : InstAt s.heap x ox C od) (es : findIn K (.ref C) "__contains__" = some (some (.ref f))) (ef : isFn K (.ref f) = true)
    (h : wpAny M A (call (.ref f) [.ref x, v]) (fun r t => wpAny M A (truthy r) Q E t) E s) : wpAny M A (contains (.ref x) v) Q E s := by
  unfold contains
  apply wpAny_holding
  apply wpAny_bind
  apply wpAny_bind
  apply J.type.here
  apply (looks_findIn X es).here
  rw [if_neg (fun z => by simp at z)]
  exact wpAny_bind (unlessNone_K X J es ef h)
end
section
variable {prog : Program} {w : World} {A : Around} {E : Value → Shared → Prop} {s : Shared} {K : Frag} {x C f : Addr} {ox : Obj} {od : Option Obj}
theorem sub_I {value slice : Expr} {i : Value} {Q : Value → Shared → Prop} (X : K.In s.heap) (J : InstAt s.heap x ox C od) (es : findIn K (.ref C) "__getitem__" = some (some (.ref f))) (ef : fnIn K f = true) (eg : isFn K (.ref f) = true)
    (h : wpAny (model prog w) A.in1 (call (.ref f) [.ref x, i]) Q E s)
    (hl : subscripted slice true (.ref x) i = runValue (.builtin "lifetime.subscript" ⟨[.ref x, i], []⟩) := by with_unfolding_all rfl) : wpAny (model prog w) A (subscriptTail value slice (.ref x) i) Q E s := by
  unfold fnIn at ef
  split at ef
  case h_2 => cases ef
  rename_i lk
  have deep := special_fn (name := "__getitem__") (args := [i]) X J es (beq_iff_eq.mp eg) (Q := fun r t => ∃ u, r = some u ∧ Q u t) (wpAny_mono h (fun u t z => ⟨u, rfl, z⟩) fun _ _ z => z)
  unfold subscriptTail getitemInPython
  apply wpAny_bind
  apply wpAny_bind
  apply wpAny_bind
  apply J.type.here
  apply (looks_findIn X es).here
  dsimp only
  apply wpAny_bind
  apply wpAny_load (X _ _ lk)
  apply wpAny_pure
  dsimp only
  rw [hl]
  apply wpAny_bind
  apply wpAny_runValue
  apply codeAny_builtin entry_sub
  unfold Builtin.«lifetime.subscript»
  refine wpAny_bind (wpAny_mono deep (fun r t z => ?_) fun _ _ z => z)
  obtain ⟨u, rfl, q⟩ := z
  refine wpAny_pure ?_
  show wpAny (model prog w) A (letTemporaryGo value (.ref x) u >>= fun _ => pure u) Q E t
  exact wpAny_bind (wpAny_letTemporaryGo (wpAny_pure q))
theorem len_I {Q : Value → Shared → Prop} (X : K.In s.heap) (J : InstAt s.heap x ox C od) (es : findIn K (.ref C) "__len__" = some (some (.ref f))) (ef : isFn K (.ref f) = true)
    (h : wpAny (model prog w) A.in1 (call (.ref f) [.ref x]) (LenBack Q) E s) : wpAny (model prog w) A (call (.builtin "len") [.ref x]) Q E s := by
  have deep := special_fn (name := "__len__") (args := []) X J es (beq_iff_eq.mp ef) (Q := fun r t => ∃ u, r = some u ∧ LenBack Q u t) (wpAny_mono h (fun u t z => ⟨u, rfl, z⟩) fun _ _ z => z)
  refine Calls.call_function_entry kind_len plain_len entry_len (args_len1 _) ?_
  unfold Builtin.«len»
  apply wpAny_bind (m := oneArg "len" _)
  apply wpAny_pure
  refine wpAny_bind (m := callSpecial? (.ref x) (Str.ofString "__len__")) (wpAny_mono deep (fun r t z => ?_) fun _ _ z => z)
  obtain ⟨u, rfl, q⟩ := z
  cases u with
  | int n tk =>
    obtain ⟨⟨b0, b1⟩, q⟩ := q
    apply wpAny_bind
    apply wpAny_holding
    apply wpAny_pure
    apply wpAny_bind
    apply wpAny_letGo
    show wpAny _ _ (if n < 0 then _ else _) _ _ _
    rw [if_neg (Int.not_lt.mpr b0)]
    show wpAny _ _ (if n ≥ 2 ^ 63 then _ else _) _ _ _
    rw [if_neg (by omega)]
    apply wpAny_bind
    exact wpAny_mkInt (wpAny_pure ⟨_, rfl, q⟩)
  | _ => exact q.elim
end
end PySem.W
namespace Lt
open PySem PySem.Spec PyProof.Rows L2
section
variable {X : Cx} {CX : CXT} {g C : Addr} {n : Nat} {sp : Sp} {E : XK} {fd : FuncData} {ps : List Str}
/-! ### o[x], x in o, len(o) by an own class's defs -/
def rInI (C : Addr) (sp : Sp) (E : XK) : R2 := fun x y H Q => ∃ a dx fs, y = .ref a ∧ H a = some (.ins C dx fs) ∧ sp [y, x] H (fun v H' => ∃ k, v = .bl k ∧ Q (.bl k) H') E
theorem op_inI (es : PySem.W.findIn X.K (.ref C) "__contains__" = some (some (.ref g))) (ef : PySem.W.isFn X.K (.ref g) = true) (F : FnOk X.prog X.w X.K X.mg X.base CX n g fd ps sp) (hb : Binds X.K fd ps []) (hr : Room n X.A) (hx : Passes CX X E) : OpR X (compareOp .In) (rInI C sp E) := by
  intro pins s σ H x y v u Q I rx ry h
  obtain ⟨a, dx, fs, rfl, ha, q⟩ := h
  cases (show u = Value.ref a from ry)
  obtain ⟨mA, J, _⟩ := ins_get I.hok ha
  obtain ⟨od, J, _⟩ := J.look
  refine wpAny_bind (PySem.W.contains_I I.kIn J es ef (wpAny_mono (run_below (A := X.A) (vs := [.ref a, x]) (us := [.ref a, v]) F ⟨hr, rfl⟩ hb hx I (.cons rfl (.cons rx .nil)) q) (fun w t z => ?_) fun _ _ e => e))
  obtain ⟨z', H', I', rz, k, rfl, qz⟩ := z
  cases (show w = Value.bool k from rz)
  exact wpAny_truthy_bool (wpAny_pure ⟨.bl k, H', I', rfl, qz⟩)
/-- o[x] -/
def tIxI (C : Addr) (sp : Sp) (E : XK) (ta tb : TE) : TE := fun σ H Q => ta σ H fun x H1 => tb σ H1 fun y H2 => ∃ a dx fs, x = .ref a ∧ H2 a = some (.ins C dx fs) ∧ sp [x, y] H2 Q E
theorem pe_ixI {a b : Expr} {pos : Pos} {ta tb : TE} (es : PySem.W.findIn X.K (.ref C) "__getitem__" = some (some (.ref g))) (ef : PySem.W.isFn X.K (.ref g) = true) (eg : PySem.W.fnIn X.K g = true) (F : FnOk X.prog X.w X.K X.mg X.base CX n g fd ps sp) (hb : Binds X.K fd ps []) (hr : Room (n + 1) X.A) (hx : Passes CX X E)
    (ha : PE X a ta) (hi : PE X b tb) (hl : ∀ x i, subscripted b true (.ref x) i = runValue (.builtin "lifetime.subscript" ⟨[.ref x, i], []⟩) := by intros; with_unfolding_all rfl) : PE X (.Subscript a b pos) (tIxI C sp E ta tb) := by
  refine ⟨fun pins s σ H Q I h => ?_⟩
  refine Subscript_ (thn (ha.run pins s σ H _ I h) fun v s1 ⟨x, H1, I1, rx, q1⟩ => thn (hi.run pins s1 σ H1 _ I1 q1) fun u s2 ⟨y, H2, I2, ry, q2⟩ => ?_)
  obtain ⟨o, dx, fs, rfl, ho, q⟩ := q2
  cases (show v = Value.ref o from rx)
  obtain ⟨mA, J, _⟩ := ins_get I2.hok ho
  obtain ⟨od, J, _⟩ := J.look
  exact PySem.W.sub_I I2.kIn J es eg ef (run_below (A := X.A.in1) (vs := [.ref o, y]) (us := [.ref o, u]) F (L2.Sub.in1 ⟨hr, rfl⟩) hb hx I2 (.cons rfl (.cons ry .nil)) q) (hl _ _)
/-- len(o) -/
def rLenI (C : Addr) (sp : Sp) (E : XK) : List V → Hp → VK → Prop := fun xs H Q => ∃ a dx fs, xs = [.ref a] ∧ H a = some (.ins C dx fs) ∧ sp [.ref a] H (fun v H' => ∃ k : Int, v = .int k ∧ (0 ≤ k ∧ k < 2 ^ 63) ∧ Q (.int k) H') E
theorem call_lenI (es : PySem.W.findIn X.K (.ref C) "__len__" = some (some (.ref g))) (ef : PySem.W.isFn X.K (.ref g) = true) (F : FnOk X.prog X.w X.K X.mg X.base CX n g fd ps sp) (hb : Binds X.K fd ps []) (hr : Room (n + 1) X.A) (hx : Passes CX X E) : CallR X (.builtin "len") (rLenI C sp E) := by
  intro pins s σ H xs us Q I r h
  obtain ⟨a, dx, fs, rfl, ha, q⟩ := h
  cases r with
  | cons r0 r1 =>
    cases r1
    rename_i u
    cases (show u = Value.ref a from r0)
    obtain ⟨mA, J, _⟩ := ins_get I.hok ha
    obtain ⟨od, J, _⟩ := J.look
    refine PySem.W.len_I I.kIn J es ef (wpAny_mono (run_below (A := X.A.in1) (vs := [.ref a]) (us := [.ref a]) F (L2.Sub.in1 ⟨hr, rfl⟩) hb hx I (.cons rfl .nil) q) (fun w t z => ?_) fun _ _ e => e)
    obtain ⟨z', H', I', rz, k, rfl, hk, qz⟩ := z
    obtain ⟨tk, rfl⟩ := rz
    exact ⟨hk, .int k, H', I'.tok _, ⟨_, rfl⟩, qz⟩
end
/-! ### the empty tuple that a default is -/
def tup0 (K : PySem.W.Frag) (a : Addr) : Bool := match K.lookup a with
  | some o => o.cls == .type "tuple" && (match o.data with
    | .seq its _ => its.size == 0
    | _ => false)
  | none => false
theorem tup0_sq {K : PySem.W.Frag} {a : Addr} {H : Hp} (h : tup0 K a = true) : SqT K H a [] := by
  unfold tup0 at h
  split at h
  · rename_i o e
    rw [Bool.and_eq_true] at h
    obtain ⟨h1, h2⟩ := h
    split at h2
    · rename_i its n ed
      have e0 : its = #[] := Array.size_eq_zero_iff.mp (by simpa using h2)
      subst e0
      exact .inr ⟨o, #[], n, e, beq_iff_eq.mp h1, ed, Nat.zero_le _, .nil⟩
    · cases h2
  · cases h
end Lt

set_option Elab.async false
set_option linter.all false
set_option maxRecDepth 100000
set_option maxHeartbeats 2000000
namespace Lt
open PySem PySem.Spec PyProof.Rows L2
open AutoSeq1 (wpAny_loadPart')
open MeetsSeq MeetsSeq2 MeetsSeq3 SeqRoads2
/-! ### x in a list of texts, x an instance: its own __eq__, reflected -/
section
variable {X : Cx} {CX : CXT} {g C : Addr} {n : Nat} {sp : Sp} {E : XK} {fd : FuncData} {ps : List Str}
theorem strs_vals {zs : List Str} : ∀ {us : List Value} {i : Nat} {u : Value}, Vals (zs.map V.str) us → us[i]? = some u → ∃ z t, zs[i]? = some z ∧ u = .str z t := by
  induction zs with
  | nil =>
    intro us i u h e
    cases h
    simp at e
  | cons z r ih =>
    intro us i u h e
    cases h with
    | cons h1 h2 =>
      cases i with
      | zero =>
        simp at e
        subst e
        obtain ⟨t, rfl⟩ := h1
        exact ⟨z, t, rfl, rfl⟩
      | succ i =>
        rw [List.getElem?_cons_succ] at e
        obtain ⟨z', t, e1, e2⟩ := ih h2 e
        exact ⟨z', t, by rw [List.getElem?_cons_succ]; exact e1, e2⟩
/-- what __eq__ is asked: of any text, False, all stands -/
def SaysNo (C : Addr) (sp : Sp) (E : XK) (b : Addr) (H : Hp) : Prop := ∀ (z : Str) (H1 : Hp), Kp [] H H1 → ∀ Q' : VK, (∀ H2, Kp [] H1 H2 → Q' (.bl false) H2) → sp [.ref b, .str z] H1 Q' E
theorem eqB_own (es : PySem.W.findIn X.K (.ref C) "__eq__" = some (some (.ref g))) (ef : PySem.W.isFn X.K (.ref g) = true) (F : FnOk X.prog X.w X.K X.mg X.base CX n g fd ps sp) (hb : Binds X.K fd ps []) (hr : Room (n + 1) X.A) (hx : Passes CX X E)
    (hsub : PySem.W.subIn X.K (.ref C) (.type "str") = some false) {pins : List (Addr × Obj)} {σ : L2.St} {H : Hp} {s : Shared} {b dy : Addr} {fs : List (Str × V)} {z : Str} {t : Tok} (I : Inv X pins σ H s) (hb' : H b = some (.ins C dy fs))
    (h : ∀ Q' : VK, (∀ H2, Kp [] H H2 → Q' (.bl false) H2) → sp [.ref b, .str z] H Q' E) :
    wpAny (model X.prog X.w) X.A.in1 (eqBool (.str z t) (.ref b)) (fun r s' => r = false ∧ ∃ H', Inv X pins σ H' s' ∧ Kp [] H H') X.xe s := by
  obtain ⟨mA, J, _⟩ := ins_get I.hok hb'
  have hobj := J.obj
  obtain ⟨od, J, _⟩ := J.look
  have hS : L2.Sub X n X.A.in1 := L2.Sub.in1 ⟨hr, rfl⟩
  unfold eqBool
  refine wpAny_holding ?_
  show wpAny _ _ (if (Value.str z t == Value.ref b) = true then _ else _) _ _ s
  rw [if_neg (show ¬ ((Value.str z t == Value.ref b) = true) from fun q => by have := eq_of_beq q; cases this)]
  refine wpAny_bind (refl_K (op := .Eq) hS.room.units0 (typeIs_str _ _ _) I.kIn J hsub (fun Q' hq => wpAny_tryCompare_declines (typeIs_str _ _ _) PySem.F.slot_str_eq (call_meets PySem.F.slot_str_eq (typeIs_str _ _ _) PySem.F.entry_str_eq (PySem.F.args_str_eq_2 _ _) (dec_str_eq z t b C dy) ⟨hobj, ⟨rfl, hq⟩⟩)) es ef ?_)
  refine wpAny_mono (run_below (A := X.A.in1) (vs := [.ref b, .str z]) (us := [.ref b, .str z t]) F hS hb hx I (.cons rfl (.cons ⟨t, rfl⟩ .nil)) (h (fun v H2 => v = .bl false ∧ Kp [] H H2) fun H2 k => ⟨rfl, k⟩)) (fun w s' q => ?_) fun _ _ e => e
  obtain ⟨z', H', I', rz, rfl, k⟩ := q
  cases (show w = Value.bool false from rz)
  exact wpAny_truthy_bool ⟨rfl, H', I', k⟩
/-- the loop of list.__contains__ -/
theorem has_loop (es : PySem.W.findIn X.K (.ref C) "__eq__" = some (some (.ref g))) (ef : PySem.W.isFn X.K (.ref g) = true) (F : FnOk X.prog X.w X.K X.mg X.base CX n g fd ps sp) (hb : Binds X.K fd ps []) (hr : Room (n + 1) X.A) (hx : Passes CX X E)
    (hsub : PySem.W.subIn X.K (.ref C) (.type "str") = some false) {pins : List (Addr × Obj)} {σ : L2.St} {b dy p : Addr} {fs : List (Str × V)} {zs : List Str} (k : Nat) :
    ∀ i : Nat, zs.length - i = k → MeetsIn X.prog X.w (Builtin.«list.__contains__.loop» ⟨[.ref p, .ref b, rawInt i], []⟩)
      (fun A R s => A = X.A ∧ ∃ H, Inv X pins σ H s ∧ H b = some (.ins C dy fs) ∧ H p = some (.lst (zs.map V.str)) ∧ SaysNo C sp E b H ∧ (∀ s' H', Inv X pins σ H' s' → Kp [] H H' → R (.ok (.ret (.bool false))) s') ∧ ∀ e s', X.xe e s' → R (.error e) s') := by
  induction k with
  | zero =>
    rintro i hk A R s ⟨rfl, H, I, hB, hp, hN, hR, hE⟩
    obtain ⟨its, rv, pl, hz⟩ := I.list (SqL.of hp)
    obtain ⟨⟨cls, dd, data, sl⟩, m, ho, hc, hd, hdt⟩ := id pl
    simp only at hc hdt
    subst hc hdt
    have fin := hR s H I (Kp.refl H)
    have hlen : its.length = zs.length := by rw [← rv.length, List.length_map]
    obtain ⟨hp', g', d', tk, os⟩ := s
    wp_walk using wpAny_loadPart' ho
    have hi : its.toArray[((i : Nat) : Int).toNat]? = none := by simp; omega
    rw [hi]
    wp_walk
    exact fin
  | succ k ih =>
    rintro i hk A R s ⟨rfl, H, I, hB, hp, hN, hR, hE⟩
    obtain ⟨its, rv, pl, hz⟩ := I.list (SqL.of hp)
    obtain ⟨⟨cls, dd, data, sl⟩, m, ho, hc, hd, hdt⟩ := id pl
    simp only at hc hdt
    subst hc hdt
    have hlen : its.length = zs.length := by rw [← rv.length, List.length_map]
    have hlt : i < its.length := by omega
    obtain ⟨z, t, ez, eu⟩ := strs_vals rv (List.getElem?_eq_getElem hlt)
    have eq := eqB_own (z := z) (t := t) es ef F hb hr hx hsub I hB (hN z H (Kp.refl H))
    obtain ⟨hp', g', d', tk, os⟩ := s
    wp_walk using wpAny_loadPart' ho
    have hi : its.toArray[((i : Nat) : Int).toNat]? = some (.str z t) := by
      rw [show ((i : Nat) : Int).toNat = i by simp, List.getElem?_toArray, List.getElem?_eq_getElem hlt, eu]
    rw [hi]
    refine wpAny_bind (wpAny_mono eq (fun r s' q => ?_) fun e s' q => hE e s' q)
    obtain ⟨rfl, H', I', kp⟩ := q
    have hc : ((i : Int) + 1) = ((i + 1 : Nat) : Int) := by push_cast; rfl
    wp_walk
    rw [hc]
    exact ⟨plainId_quiet plain_contains_loop _, codeAny_builtin entry_contains_loop (by
      rw [Around.under_plainId plain_contains_loop _]
      exact ih (i + 1) (by omega) X.A R _ ⟨rfl, H', I', kp.get List.not_mem_nil hB, kp.get List.not_mem_nil hp, fun z H1 k1 => hN z H1 (kp.trans k1 fun _ m => nomatch m), fun s2 H2 I2 k2 => hR s2 H2 I2 (kp.trans k2 fun _ m => nomatch m), hE⟩)⟩
/-- x in a list of texts -/
def rInO (C : Addr) (sp : Sp) (E : XK) : R2 := fun x y H Q => ∃ b dy fs p zs, x = .ref b ∧ H b = some (.ins C dy fs) ∧ y = .ref p ∧ H p = some (.lst ((zs : List Str).map V.str)) ∧ SaysNo C sp E b H ∧ ∀ H', Kp [] H H' → Q (.bl false) H'
theorem op_inO (es : PySem.W.findIn X.K (.ref C) "__eq__" = some (some (.ref g))) (ef : PySem.W.isFn X.K (.ref g) = true) (F : FnOk X.prog X.w X.K X.mg X.base CX n g fd ps sp) (hb : Binds X.K fd ps []) (hr : Room (n + 1) X.A) (hx : Passes CX X E)
    (hsub : PySem.W.subIn X.K (.ref C) (.type "str") = some false) : OpR X (compareOp .In) (rInO C sp E) := by
  intro pins s σ H x y v u Q I rx ry h
  obtain ⟨b, dy, fs, p, zs, rfl, hB, rfl, hp, hN, q⟩ := h
  cases (show v = Value.ref b from rx)
  cases (show u = Value.ref p from ry)
  obtain ⟨its, rv, pl, hz⟩ := I.list (SqL.of hp)
  obtain ⟨o, m, ho, hc, _, hdt⟩ := id pl
  have hT : s.TypeIs (.ref p) "list" := ⟨o, ho, hc⟩
  refine wpAny_bind (wpAny_contains_slot hT PySem.F.slot_list_contains (wpAny_mono (call_meetsIn (S := fun A R s => A = X.A ∧ ∃ H, Inv X pins σ H s ∧ H b = some (.ins C dy fs) ∧ H p = some (.lst (zs.map V.str)) ∧ SaysNo C sp E b H ∧ (∀ s' H', Inv X pins σ H' s' → Kp [] H H' → R (.ok (.ret (.bool false))) s') ∧ ∀ e s', X.xe e s' → R (.error e) s') (Q := fun v s' => v = .bool false ∧ ∃ H', Inv X pins σ H' s' ∧ Kp [] H H') PySem.F.slot_list_contains hT PySem.F.entry_list_contains (PySem.F.args_list_contains_2 _ _) ?_ ⟨rfl, H, I, hB, hp, hN, fun s' H' I' k => ⟨rfl, H', I', k⟩, fun e s' q => q⟩) (fun v s' hv => ?_) fun _ _ e => e))
  · rintro A R s ⟨rfl, H, I, hB, hp, hN, hR, hE⟩
    obtain ⟨hp', g', d', tk, os⟩ := s
    wp_walk
    exact ⟨plainId_quiet plain_contains_loop _, codeAny_builtin entry_contains_loop (by
      rw [Around.under_plainId plain_contains_loop _]
      exact has_loop es ef F hb hr hx hsub _ 0 rfl X.A R _ ⟨rfl, H, I, hB, hp, hN, hR, hE⟩)⟩
  · obtain ⟨rfl, H', I', k⟩ := hv
    exact wpAny_truthy_bool (wpAny_pure ⟨.bl false, H', I', rfl, q H' k⟩)
end
/-! ### a text beside a dict; x in a list of texts, x data -/
theorem dec_str_dict (b : Str) (u : Tok) (l : Addr) (dd : Option Addr) (sl : Array (Option Value)) (es : Array DictEntry) (n : Nat) :
    Meets (Builtin.«str.__eq__» ⟨[.str b u, .ref l], []⟩) (fun _ R s => s.heap.get? l = some { cls := .type "dict", dict := dd, data := .dict es n, slots := sl } ∧ R (.ok (.ret .notImplemented)) s) :=
  .of_wp fun prog w A R s h => by obtain ⟨hp, g, d, tk, os⟩ := s; obtain ⟨hl, h⟩ := h; have f1 := F.sub_dict_str; wp_walk using wpAny_loadPart' hl, wpAny_load hl; exact ⟨_, rfl, h⟩
theorem dec_dict_str (b : Str) (u : Tok) (l : Addr) (dd : Option Addr) (sl : Array (Option Value)) (es : Array DictEntry) (n : Nat) :
    Meets (Builtin.«dict.__eq__» ⟨[.ref l, .str b u], []⟩) (fun _ R s => s.heap.get? l = some { cls := .type "dict", dict := dd, data := .dict es n, slots := sl } ∧ R (.ok (.ret .notImplemented)) s) :=
  .of_wp fun prog w A R s h => by obtain ⟨hp, g, d, tk, os⟩ := s; obtain ⟨hl, h⟩ := h; have f1 := F.sub_str_dict; wp_walk using wpAny_loadPart' hl, wpAny_load hl; exact ⟨_, rfl, h⟩
theorem rc_str_dict {A : Around} {s : Shared} {b : Str} {u : Tok} {l : Addr} {dd : Option Addr} {sl : Array (Option Value)} {es : Array DictEntry} {n : Nat} (ho : s.heap.get? l = some { cls := .type "dict", dict := dd, data := .dict es n, slots := sl }) (hu : A.units < cLine) : SeqAt.RcAt A s (.str b u) (.ref l) false := fun prog w E Q h =>
  SeqAt.rc_eq_decline_or (k := false) (typeIs_str s b u) ⟨_, ho, rfl⟩ (by decide) F.sub_dict_str F.slot_str_eq F.slot_dict_eq_refl
    (fun _ hq => call_meets F.slot_str_eq (typeIs_str s b u) F.entry_str_eq (F.args_str_eq_2 _ _) (dec_str_dict b u l dd sl es n) ⟨ho, hq⟩)
    (fun _ hq => call_meets F.slot_dict_eq_refl ⟨_, ho, rfl⟩ F.entry_dict_eq (F.args_dict_eq_2 _ _) (dec_dict_str b u l dd sl es n) ⟨ho, hq⟩)
    (fun _ hq => wpAny_of_eq (rfl : isSame (.str b u) (.ref l) = pure false) hq) (.inr hu) h
theorem eq_str_dict {A : Around} {s : Shared} {b : Str} {u : Tok} {l : Addr} {dd : Option Addr} {sl : Array (Option Value)} {es : Array DictEntry} {n : Nat} (ho : s.heap.get? l = some { cls := .type "dict", dict := dd, data := .dict es n, slots := sl }) (hu : A.units < cLine) : SeqAt.EqAt A s (.str b u) (.ref l) false := fun prog w E Q h => by
  unfold eqBool
  refine wpAny_holding ?_
  refine wpAny_ite_split (fun hab => absurd (eq_of_beq hab) nofun) (fun _ => ?_)
  exact wpAny_bind (rc_str_dict ho hu prog w E _ (wpAny_truthy_bool h))
section
variable {X : Cx}
theorem dct_at {pins : List (Addr × Obj)} {σ : L2.St} {H : Hp} {s : Shared} {a : Addr} {kvs : List (Key × V)} (I : Inv X pins σ H s) (ea : H a = some (.dK kvs)) : ∃ (dd : Option Addr) (sl : Array (Option Value)) (es : Array DictEntry) (n : Nat), s.heap.get? a = some { cls := .type "dict", dict := dd, data := .dict es n, slots := sl } := by
  obtain ⟨_, _, vs, _, o, es, ep, h1, h2, h3⟩ := (show ObjOk X.prog X.w H s.heap a (.dK kvs) from I.hok a _ ea)
  have h3' : o.data = .dict es ep := by first | exact h3 | exact h3.1
  have h2' := h2.1
  obtain ⟨oc, od, dt, sl⟩ := o
  cases h2'
  cases h3'
  exact ⟨od, sl, es, ep, h1⟩
def rEqSD : R2 := fun x y H Q => ∃ z d kvs, x = .str z ∧ y = .ref d ∧ H d = some (.dK kvs) ∧ Q (.bl false) H
theorem op_eqSD (hu : X.A.units < cLine) : OpR X (compareOp .Eq) rEqSD := by
  intro pins s σ H x y v u Q I rx ry h
  obtain ⟨z, d, kvs, rfl, rfl, hd, q⟩ := h
  obtain ⟨t, rfl⟩ := (show ∃ t, v = Value.str z t from rx)
  cases (show u = Value.ref d from ry)
  obtain ⟨dd, sl, es, n, ho⟩ := dct_at I hd
  exact rc_str_dict ho hu _ _ _ _ ⟨.bl false, H, I, rfl, q⟩
/-- a dict in a list of texts -/
def rInSD : R2 := fun x y H Q => ∃ d kvs p zs, x = .ref d ∧ H d = some (.dK kvs) ∧ y = .ref p ∧ H p = some (.lst ((zs : List Str).map V.str)) ∧ Q (.bl false) H
theorem op_inSD (hu : X.A.units + 1 < cLine) : OpR X (compareOp .In) rInSD := by
  intro pins s σ H x y v u Q I rx ry h
  obtain ⟨d, kvs, p, zs, rfl, hd, rfl, hp, q⟩ := h
  cases (show v = Value.ref d from rx)
  cases (show u = Value.ref p from ry)
  obtain ⟨dd, sl, es, n, ho⟩ := dct_at I hd
  obtain ⟨its, rv, pl, hz⟩ := I.list (SqL.of hp)
  refine SeqAt.in_listAt (fun _ => false) pl.isList (fun y hy => ?_) ⟨.bl false, H, I, (show Value.bool (its.toArray.any fun _ => false) = Value.bool false by simp), q⟩
  obtain ⟨i, hi⟩ := List.getElem?_of_mem (by simpa using hy : y ∈ its)
  obtain ⟨z, t, _, rfl⟩ := strs_vals rv hi
  exact eq_str_dict ho hu
/-- data in a list of data, no dicts -/
def rInP (K : PySem.W.Frag) : R2 := fun x y H Q => ∃ d ds, Dp K H x d ∧ Dp K H y (.list ds) ∧ PyData.plain d = true ∧ PyData.plainAll ds = true ∧ d.depth ≤ 64 ∧ Q (.bl (ds.any fun z => PyData.eqv z d)) H
theorem op_inP (hu : X.A.units + 65 < cLine) : OpR X (compareOp .In) (rInP X.K) := by
  intro pins s σ H x y v u Q I rx ry h
  obtain ⟨d, ds, hd, he, sd, se, hz, q⟩ := h
  obtain ⟨as, r1⟩ := Dp.reads I d x v hd rx
  obtain ⟨bs, r2⟩ := Dp.reads I (.list ds) y u he ry
  exact PySem.SeqAt.in_list_data r2 r1 se sd (by have := Nat.min_le_right (PyData.depthAll ds) d.depth; omega) ⟨.bl _, H, I, rfl, q⟩
end
end Lt

set_option Elab.async false
set_option linter.all false
set_option maxRecDepth 100000
set_option maxHeartbeats 2000000
namespace Lt
open PySem PySem.Spec PyProof.Rows L2
open AutoSeq1 (wpAny_loadPart')
/-! ### any objects: none, truths, integers, texts, empty dicts, lists or tuples of such -/
inductive Ob where
  | non | bl (b : Bool) | num (i : Int) | str (z : Str) | dct | sq (xs : List Ob)
structure Kd (H H' : Hp) : Prop where
  l : ∀ b xs, H b = some (.lst xs) → H' b = some (.lst xs)
  t : ∀ b xs, H b = some (.tup xs) → H' b = some (.tup xs)
  d : ∀ b xs, H b = some (.dK xs) → H' b = some (.dK xs)
theorem Kd.of {H H' : Hp} (k : Kp [] H H') : Kd H H' := ⟨fun _ _ e => k.get List.not_mem_nil e, fun _ _ e => k.get List.not_mem_nil e, fun _ _ e => k.get List.not_mem_nil e⟩
theorem Kd.of1 {H H' : Hp} {o C dx : Addr} {fs : List (Str × V)} (k : Kp [o] H H') (h : H o = some (.ins C dx fs)) : Kd H H' :=
  ⟨fun b xs e => k.get (fun m => by rw [List.mem_singleton.mp m, h] at e; cases e) e, fun b xs e => k.get (fun m => by rw [List.mem_singleton.mp m, h] at e; cases e) e, fun b xs e => k.get (fun m => by rw [List.mem_singleton.mp m, h] at e; cases e) e⟩
theorem Kd.refl {H : Hp} : Kd H H := ⟨fun _ _ e => e, fun _ _ e => e, fun _ _ e => e⟩
theorem Kd.trans {H H1 H2 : Hp} (a : Kd H H1) (b : Kd H1 H2) : Kd H H2 := ⟨fun x xs e => b.l x xs (a.l x xs e), fun x xs e => b.t x xs (a.t x xs e), fun x xs e => b.d x xs (a.d x xs e)⟩
theorem Kd.ks {H H' : Hp} (k : Kd H H') : Ks H H' := ⟨k.l, k.t⟩
mutual
inductive ObA (H : Hp) : V → Ob → Prop where
  | non : ObA H .non .non
  | bl (b : Bool) : ObA H (.bl b) (.bl b)
  | num (i : Int) : ObA H (.int i) (.num i)
  | str (z : Str) (hz : z.length ≤ 1000) : ObA H (.str z) (.str z)
  | dct {a : Addr} (h : H a = some (.dK [])) : ObA H (.ref a) .dct
  | sq {a : Addr} {vs : List V} {xs : List Ob} (h : H a = some (.lst vs) ∨ H a = some (.tup vs)) (hz : vs.length ≤ 100) (r : ObAll H vs xs) : ObA H (.ref a) (.sq xs)
inductive ObAll (H : Hp) : List V → List Ob → Prop where
  | nil : ObAll H [] []
  | cons {v : V} {vs : List V} {o : Ob} {os : List Ob} (h : ObA H v o) (t : ObAll H vs os) : ObAll H (v :: vs) (o :: os)
end
section
variable {H H' : Hp}
mutual
theorem ObA.kd (k : Kd H H') : ∀ {v : V} {o : Ob}, ObA H v o → ObA H' v o
  | _, _, .non => .non
  | _, _, .bl b => .bl b
  | _, _, .num i => .num i
  | _, _, .str z hz => .str z hz
  | _, _, .dct h => .dct (k.d _ _ h)
  | _, _, .sq h hz r => .sq (h.imp (k.l _ _) (k.t _ _)) hz (ObAll.kd k r)
theorem ObAll.kd (k : Kd H H') : ∀ {v : List V} {o : List Ob}, ObAll H v o → ObAll H' v o
  | _, _, .nil => .nil
  | _, _, .cons h t => .cons (ObA.kd k h) (ObAll.kd k t)
end
theorem ObA.kp {v : V} {o : Ob} (k : Kp [] H H') (h : ObA H v o) : ObA H' v o := h.kd (Kd.of k)
theorem ObAll.kp {v : List V} {o : List Ob} (k : Kp [] H H') (h : ObAll H v o) : ObAll H' v o := h.kd (Kd.of k)
theorem ObAll.len : ∀ {vs : List V} {rs : List Ob}, ObAll H vs rs → vs.length = rs.length
  | _, _, .nil => rfl
  | _, _, .cons _ t => by simp [ObAll.len t]
theorem ObAll.at_ : ∀ {vs : List V} {rs : List Ob} {i : Nat} {v : V}, ObAll H vs rs → vs[i]? = some v → ∃ r, rs[i]? = some r ∧ ObA H v r
  | _, _, i, _, .nil, e => by simp at e
  | _, _, 0, _, .cons h t, e => by
    simp at e
    subst e
    exact ⟨_, rfl, h⟩
  | _, _, i + 1, _, .cons h t, e => by
    rw [List.getElem?_cons_succ] at e
    obtain ⟨r, e1, e2⟩ := ObAll.at_ t e
    exact ⟨r, by rw [List.getElem?_cons_succ]; exact e1, e2⟩
theorem ObAll.app : ∀ {vs vs' : List V} {rs rs' : List Ob}, ObAll H vs rs → ObAll H vs' rs' → ObAll H (vs ++ vs') (rs ++ rs')
  | _, _, _, _, .nil, h => h
  | _, _, _, _, .cons h t, h2 => .cons h (ObAll.app t h2)
theorem ObAll.split : ∀ {vs : List V} {as bs : List Ob}, ObAll H vs (as ++ bs) → ∃ ws us, vs = ws ++ us ∧ ObAll H ws as ∧ ObAll H us bs
  | vs, [], _, h => ⟨[], vs, rfl, .nil, h⟩
  | _, a :: r, _, .cons h t => by
    obtain ⟨ws, us, e, h1, h2⟩ := ObAll.split t
    subst e
    exact ⟨_ :: ws, us, rfl, .cons h h1, h2⟩
end
def Ob.isSq : Ob → Bool
  | .sq _ => true
  | _ => false
def Ob.isStr : Ob → Bool
  | .str _ => true
  | _ => false
def Ob.isNum : Ob → Bool
  | .num _ => true
  | _ => false
def Ob.btw (lo hi : Int) : Ob → Bool
  | .num i => decide (lo ≤ i ∧ i ≤ hi)
  | _ => false
def Ob.word : Ob → Bool
  | .str z => WordB z
  | _ => false
def Ob.mem (cs : List Str) : Ob → Bool
  | .str z => decide (z ∈ cs)
  | _ => false
mutual
def Ob.dep : Ob → Nat
  | .sq xs => 1 + depO xs
  | _ => 0
def depO : List Ob → Nat
  | [] => 0
  | x :: r => max x.dep (depO r)
end
theorem depO_mem {x : Ob} : ∀ {xs : List Ob}, x ∈ xs → x.dep ≤ depO xs
  | y :: r, m => by
    rw [depO]
    rcases List.mem_cons.mp m with e | m
    · subst e; exact Nat.le_max_left _ _
    · exact Nat.le_trans (depO_mem m) (Nat.le_max_right _ _)
/-! ### what isinstance tells of them -/
theorem kitA_lt_none {K : PySem.W.Frag} : PySem.W.kitAny K (.type "NoneType") [.type "list", .type "tuple"] = some false := kitAny_cons kit_NoneType_list (fun _ => kitAny_cons kit_NoneType_tuple (fun _ => kitAny_nil) (fun h => by cases h)) (fun h => by cases h)
theorem ObA.ty {K : PySem.W.Frag} {H : Hp} {v : V} {o : Ob} (h : ObA H v o) : ∃ t, TyX K H v t ∧ PySem.W.kitAny K t [.type "list", .type "tuple"] = some o.isSq ∧ PySem.W.kitOne K t (.type "str") = some o.isStr ∧ ∃ b c, PySem.W.kitOne K t (.type "int") = some b ∧ PySem.W.kitOne K t (.type "bool") = some c ∧ (b && !c) = o.isNum := by
  cases h with
  | non => exact ⟨_, .base .non, kitA_lt_none, kit_NoneType_str, _, _, kit_NoneType_int, kit_NoneType_bool, rfl⟩
  | bl b => exact ⟨_, .base (.bl b), kitA_lt_bool, kit_bool_str, _, _, kit_bool_int, kit_bool_bool, rfl⟩
  | num i => exact ⟨_, .base (.int i), kitA_lt_int, kit_int_str, _, _, kit_int_int, kit_int_bool, rfl⟩
  | str z => exact ⟨_, .base (.str z), kitA_lt_str, kit_str_str, _, _, kit_str_int, kit_str_bool, rfl⟩
  | dct h => exact ⟨_, .base (.dK h), kitA_lt_dict, kit_dict_str, _, _, kit_dict_int, kit_dict_bool, rfl⟩
  | sq h hz r =>
    rcases h with h | h
    · exact ⟨_, .base (.lst h), kitA_lt_list, kit_list_str, _, _, kit_list_int, kit_list_bool, rfl⟩
    · exact ⟨_, .base (.tup h), kitA_lt_tuple, kit_tuple_str, _, _, kit_tuple_int, kit_tuple_bool, rfl⟩
/-! ### any object in a list of texts -/
section
variable {X : Cx}
def rInSq : R2 := fun x y H Q => ∃ a vs p zs, x = .ref a ∧ (H a = some (.lst vs) ∨ H a = some (.tup vs)) ∧ y = .ref p ∧ H p = some (.lst ((zs : List Str).map V.str)) ∧ Q (.bl false) H
theorem op_inSq (hu : X.A.units + 1 < cLine) : OpR X (compareOp .In) rInSq := by
  intro pins s σ H x y v u Q I rx ry h
  obtain ⟨a, vs, p, zs, rfl, ha, rfl, hp, q⟩ := h
  cases (show v = Value.ref a from rx)
  cases (show u = Value.ref p from ry)
  obtain ⟨its, rv, pl, hz⟩ := I.list (SqL.of hp)
  refine SeqAt.in_listAt (fun _ => false) pl.isList (fun y hy => ?_) ⟨.bl false, H, I, (show Value.bool (its.toArray.any fun _ => false) = Value.bool false by simp), q⟩
  obtain ⟨i, hi⟩ := List.getElem?_of_mem (by simpa using hy : y ∈ its)
  obtain ⟨z, t, _, rfl⟩ := strs_vals rv hi
  rcases ha with ha | ha
  · obtain ⟨its2, _, pl2, _⟩ := I.list (SqL.of ha)
    exact SeqAt.EqAt.str_list z t pl2.isList hu
  · obtain ⟨its2, _, pl2, _⟩ := I.tuple (SqT.of ha)
    exact SeqAt.EqAt.str_tuple z t pl2 hu
theorem strs_dp1 {K : PySem.W.Frag} {H : Hp} {D : Addr} {zs : List Str} (h : H D = some (.lst (zs.map V.str))) : Dp K H (.ref D) (.list (zs.map PyData.str)) := by
  refine .lst (SqL.of h) ?_
  clear h
  induction zs with
  | nil => exact .nil
  | cons z r ih => exact .cons (.str z) ih
theorem strs_plain1 (zs : List Str) : PyData.plainAll (zs.map PyData.str) = true := by
  induction zs with
  | nil => rfl
  | cons z r ih => rw [List.map_cons, PyData.plainAll, ih]; rfl
theorem eqv_str1 {a b : Str} : PyData.eqv (.str a) (.str b) = decide (a = b) := by
  rw [PyData.eqv]
  by_cases h : a = b
  · subst h; simp
  · rw [decide_eq_false h]; exact beq_eq_false_iff_ne.mpr h
theorem any_strs {zs : List Str} {d : PyData} {b : Bool} (h : ∀ z, PyData.eqv (.str z) d = false) : (zs.map PyData.str).any (fun z => PyData.eqv z d) = false := List.any_eq_false.mpr fun z m => by
  obtain ⟨y, my, rfl⟩ := List.mem_map.mp m
  rw [h y]; simp
def rInOb : R2 := fun x y H Q => ∃ o p zs, ObA H x o ∧ y = .ref p ∧ H p = some (.lst ((zs : List Str).map V.str)) ∧ Q (.bl (o.mem zs)) H
theorem op_inOb (hu : X.A.units + 65 < cLine) : OpR X (compareOp .In) rInOb := by
  intro pins s σ H x y v u Q I rx ry h
  obtain ⟨o, p, zs, ho, rfl, hp, q⟩ := h
  have hd := strs_dp1 (K := X.K) hp
  have hu1 : X.A.units + 1 < cLine := by omega
  cases ho with
  | non => exact op_inP hu pins s σ H _ _ v u Q I rx ry ⟨.none, _, .non, hd, rfl, strs_plain1 _, by rw [PyData.depth]; decide, by rw [any_strs (b := true) (fun z => by rw [PyData.eqv])]; exact q⟩
  | bl b => exact op_inP hu pins s σ H _ _ v u Q I rx ry ⟨.bool b, _, .bl b, hd, rfl, strs_plain1 _, by rw [PyData.depth]; decide, by rw [any_strs (b := true) (fun z => by rw [PyData.eqv])]; exact q⟩
  | num i => exact op_inP hu pins s σ H _ _ v u Q I rx ry ⟨.int i, _, .int i, hd, rfl, strs_plain1 _, by rw [PyData.depth]; decide, by rw [any_strs (b := true) (fun z => by rw [PyData.eqv])]; exact q⟩
  | str z hz =>
    refine op_inP hu pins s σ H _ _ v u Q I rx ry ⟨.str z, _, .str z, hd, rfl, strs_plain1 _, by rw [PyData.depth]; decide, ?_⟩
    rw [show (zs.map PyData.str).any (fun y => PyData.eqv y (.str z)) = decide (z ∈ zs) by
      clear hp hd q
      induction zs with
      | nil => simp
      | cons y r ih =>
        rw [List.map_cons, List.any_cons, ih, eqv_str1]
        by_cases h : y = z
        · subst h; simp
        · rw [decide_eq_false h, Bool.false_or]
          exact decide_eq_decide.mpr ⟨fun m => List.mem_cons_of_mem _ m, fun m => (List.mem_cons.mp m).resolve_left fun q => h q.symm⟩]
    exact q
  | dct h => exact op_inSD hu1 pins s σ H _ _ v u Q I rx ry ⟨_, _, p, zs, rfl, h, rfl, hp, q⟩
  | sq h hz r => exact op_inSq hu1 pins s σ H _ _ v u Q I rx ry ⟨_, _, p, zs, rfl, h, rfl, hp, q⟩
end
/-! ### a dict of texts has no other keys -/
def keysB (K : PySem.W.Frag) (a : Addr) (ns : List Str) : Bool := match K.lookup a with
  | some ⟨_, _, .dict es _, _⟩ => es.toList.all fun e => match e.key with
    | .str z _ => ns.contains z
    | _ => false
  | _ => false
theorem keysB_ok {K : PySem.W.Frag} {a : Addr} {ns : List Str} (h : keysB K a ns = true) (z : Str) (hz : z ∉ ns) : PySem.W.nsIn K a z = some none := by
  unfold keysB at h
  unfold PySem.W.nsIn
  split at h
  · rename_i es _ _ e
    rw [e]
    have h1 : es.toList.find? (·.key.isStr z) = none := by
      rw [List.find?_eq_none]
      intro x m hx
      have hk := List.all_eq_true.mp h x m
      split at hk
      · rename_i y t ek
        rw [ek] at hx
        simp [Value.isStr] at hx
        subst hx
        exact hz (by simpa using hk)
      · cases hk
    have h2 : es.toList.any (·.refKey) = false := by
      rw [List.any_eq_false]
      intro x m hx
      have hk := List.all_eq_true.mp h x m
      unfold DictEntry.refKey at hx
      split at hk
      · rename_i y t ek
        rw [ek] at hx
        cases hx
      · cases hk
    simp only [h1, h2]
    rfl
  · cases h
/-! ### rows in them -/
/-- how many items a row of this name has -/
def rlen (n : Str) : Option Nat := if n = "work" then some 3 else if n = "say" then some 2 else if n = "pass" then some 1 else if n = "sleep" then some 2 else if n = "take" then some 2 else if n = "give" then some 2 else if n = "either" then some 3 else if n = "ever" then some 2 else if n = "within" then some 4 else none
/-- how many of them are no lists -/
def rats (n : Str) : Nat := if n = "work" then 2 else if n = "say" then 1 else if n = "sleep" then 1 else if n = "take" then 1 else if n = "give" then 1 else if n = "within" then 1 else 0
inductive ShO : Str → List Ob → List Ob → Prop where
  | work (a b : Ob) : ShO "work" [a, b] []
  | say (z : Ob) : ShO "say" [z] []
  | pass : ShO "pass" [] []
  | sleep (n : Ob) : ShO "sleep" [n] []
  | take (c : Ob) : ShO "take" [c] []
  | give (c : Ob) : ShO "give" [c] []
  | either (p q : Ob) : ShO "either" [] [p, q]
  | ever (p : Ob) : ShO "ever" [] [p]
  | within (n p q : Ob) : ShO "within" [n] [p, q]
def Ob.view : Ob → Option (Str × List Ob × List Ob)
  | .sq (.str n :: r) => if rlen n = some (r.length + 1) then some (n, r.take (rats n), r.drop (rats n)) else none
  | _ => none
theorem rlen_some {n : Str} {k : Nat} (h : rlen n = some k) : (n = "work" ∧ k = 3) ∨ (n = "say" ∧ k = 2) ∨ (n = "pass" ∧ k = 1) ∨ (n = "sleep" ∧ k = 2) ∨ (n = "take" ∧ k = 2) ∨ (n = "give" ∧ k = 2) ∨ (n = "either" ∧ k = 3) ∨ (n = "ever" ∧ k = 2) ∨ (n = "within" ∧ k = 4) := by
  unfold rlen at h
  repeat' split at h
  all_goals first | (cases h; done) | skip
  all_goals (injection h with h; subst h)
  all_goals simp_all
theorem view_some {o : Ob} {n : Str} {as ps : List Ob} (h : o.view = some (n, as, ps)) : o = .sq (.str n :: (as ++ ps)) ∧ ShO n as ps := by
  unfold Ob.view at h
  split at h
  · rename_i m r
    split at h
    · rename_i e
      cases h
      refine ⟨by rw [List.take_append_drop], ?_⟩
      rcases rlen_some e with ⟨rfl, e⟩ | ⟨rfl, e⟩ | ⟨rfl, e⟩ | ⟨rfl, e⟩ | ⟨rfl, e⟩ | ⟨rfl, e⟩ | ⟨rfl, e⟩ | ⟨rfl, e⟩ | ⟨rfl, e⟩
      · match r, e with
        | [a, b], _ => exact .work a b
      · match r, e with
        | [a], _ => exact .say a
      · match r, e with
        | [], _ => exact .pass
      · match r, e with
        | [a], _ => exact .sleep a
      · match r, e with
        | [a], _ => exact .take a
      · match r, e with
        | [a], _ => exact .give a
      · match r, e with
        | [a, b], _ => exact .either a b
      · match r, e with
        | [a], _ => exact .ever a
      · match r, e with
        | [a, b, c], _ => exact .within a b c
    · cases h
  · cases h
theorem view_of {n : Str} {as ps : List Ob} (h : ShO n as ps) : (Ob.sq (.str n :: (as ++ ps))).view = some (n, as, ps) := by
  cases h <;> rfl
theorem ShO.rlen_ {n : Str} {as ps : List Ob} (h : ShO n as ps) : rlen n = some (1 + (as.length + ps.length)) := by
  cases h <;> rfl
theorem ShO.few {n : Str} {as ps : List Ob} (h : ShO n as ps) : as.length ≤ 2 ∧ ps.length ≤ 2 := by
  cases h <;> exact ⟨by simp, by simp⟩
theorem view_none {o : Ob} (h : o.view = none) : o.isSq = false ∨ (∃ xs, o = .sq xs ∧ (xs = [] ∨ ∃ x r, xs = x :: r ∧ (x.isStr = false ∨ ∃ n, x = .str n ∧ rlen n ≠ some (r.length + 1)))) := by
  cases o with
  | sq xs =>
    refine .inr ⟨xs, rfl, ?_⟩
    cases xs with
    | nil => exact .inl rfl
    | cons x r =>
      refine .inr ⟨x, r, rfl, ?_⟩
      cases x with
      | str n =>
        refine .inr ⟨n, rfl, fun e => ?_⟩
        simp only [Ob.view] at h
        rw [if_pos e] at h
        cases h
      | _ => exact .inl rfl
  | _ => exact .inl rfl
/-- are the numbers right -/
def numO (n : Str) (as : List Ob) : Bool := if n = "work" then (match as with
    | [lo, .num hi] => decide (0 ≤ hi ∧ hi ≤ 99) && lo.btw 0 hi
    | _ => false) else if n = "sleep" ∨ n = "within" then (match as with
    | [x] => x.btw 1 99
    | _ => false) else true
def argO (as : List Ob) : Ob := as.headD .non
/-- what is wrong with it as the row with this number -/
def faultO (cs : List Str) (p : Nat) (o : Ob) : Option Str := if p = 12 then some "many" else match o.view with
  | none => some "row"
  | some (n, as, ps) => if numO n as = false then some "number" else if n = "say" ∧ (argO as).word = false then some "word" else if (n = "take" ∨ n = "give") ∧ (argO as).mem cs = false then some "counter" else if ps.all Ob.isSq = false then some "rows" else none
def Ob.nm (o : Ob) : Str := match o.view with
  | some (n, _, _) => n
  | none => ""
def Ob.parts (o : Ob) : List Ob := match o.view with
  | some (_, _, ps) => ps
  | none => []
def whyO (cs : List Str) (g last : Bool) (p : Nat) (o : Ob) : Option Str := (faultO cs p o).or (if o.nm = "within" ∧ g = true then some "nested" else if o.nm = "ever" ∧ last = false then some "last" else none)
/-- things one after the other: the number behind them, or that of the first fault -/
def runO (f : Bool → Nat → Ob → Nat × Option Str) : Nat → List Ob → Nat × Option Str
  | p, [] => (p, none)
  | p, x :: r => match f r.isEmpty p x with
    | (q, some e) => (q, some e)
    | (q, none) => runO f q r
/-- a list of rows, looked at to a depth -/
def seekO : Nat → List Str → Bool → Nat → Ob → Nat × Option Str
  | n + 1, cs, g, p, .sq xs => runO (fun last p o => match whyO cs g last p o with
      | some e => (p, some e)
      | none => runO (fun _ q x => seekO n cs (g || decide (o.nm = "within")) q x) (p + 1) o.parts) p xs
  | _, _, _, p, _ => (p, none)
def Ob.atm : Ob → V
  | .num i => .int i
  | .str z => .str z
  | _ => .non
/-- the rows that they are -/
def toRs : Nat → Ob → List LRow
  | n + 1, .sq xs => xs.map fun o => match o.view with
    | some (nm, as, ps) => .mk nm (as.map Ob.atm) (ps.map (toRs n))
    | none => .mk "" [] []
  | _, _ => []
/-! ### what keeps the rules are rows -/
theorem why_none {cs : List Str} {g last : Bool} {p : Nat} {o : Ob} (h : whyO cs g last p o = none) : p ≠ 12 ∧ ∃ nm as ps, o.view = some (nm, as, ps) ∧ numO nm as = true ∧ (nm = "say" → (argO as).word = true) ∧ (nm = "take" ∨ nm = "give" → (argO as).mem cs = true) ∧ ps.all Ob.isSq = true ∧ (nm = "within" → g = false) ∧ (nm = "ever" → last = true) := by
  unfold whyO at h
  rw [Option.or_eq_none_iff] at h
  obtain ⟨h, h2⟩ := h
  unfold faultO at h
  split at h
  · cases h
  rename_i hp
  refine ⟨hp, ?_⟩
  split at h
  · cases h
  rename_i nm as ps hv
  rw [Ob.nm, hv] at h2
  refine ⟨nm, as, ps, hv, ?_⟩
  split at h
  · cases h
  rename_i n1
  split at h
  · cases h
  rename_i n2
  split at h
  · cases h
  rename_i n3
  split at h
  · cases h
  rename_i n4
  refine ⟨by simpa using n1, fun e => ?_, fun e => ?_, by simpa using n4, fun e => ?_, fun e => ?_⟩
  · cases hw : (argO as).word with
    | true => rfl
    | false => exact absurd ⟨e, hw⟩ n2
  · cases hw : (argO as).mem cs with
    | true => rfl
    | false => exact absurd ⟨e, hw⟩ n3
  · cases g with
    | false => rfl
    | true => rw [if_pos ⟨e, rfl⟩] at h2; cases h2
  · cases last with
    | true => rfl
    | false =>
      rw [if_neg (fun q => by have := q.1.symm.trans e; revert this; decide +kernel), if_pos ⟨e, rfl⟩] at h2
      cases h2
theorem btw_num {lo hi : Int} {o : Ob} (h : o.btw lo hi = true) : ∃ i, o = .num i ∧ lo ≤ i ∧ i ≤ hi := by
  cases o <;> first | exact ⟨_, rfl, of_decide_eq_true h⟩ | cases h
theorem word_str {o : Ob} (h : o.word = true) : ∃ z, o = .str z ∧ WordB z = true := by
  cases o <;> first | exact ⟨_, rfl, h⟩ | cases h
theorem mem_str {cs : List Str} {o : Ob} (h : o.mem cs = true) : ∃ z, o = .str z ∧ z ∈ cs := by
  cases o <;> first | exact ⟨_, rfl, of_decide_eq_true h⟩ | cases h
structure AtsOk (cs : List Str) (nm : Str) (as : List Ob) (m : Nat) (ws : List V) : Prop where
  e : ws = as.map Ob.atm
  a : ∀ v ∈ ws, Atm v
  n : numB nm ws = true
  s : Shp nm ws m
  w : nm = "say" → ∀ z, ws = [.str z] → WordB z = true
  c : nm = "take" ∨ nm = "give" → ∀ z, ws = [.str z] → z ∈ cs
theorem as_ok {cs : List Str} {H : Hp} {nm : Str} {as ps : List Ob} {ws : List V} (h : ShO nm as ps) (h1 : numO nm as = true) (h2 : nm = "say" → (argO as).word = true) (h3 : nm = "take" ∨ nm = "give" → (argO as).mem cs = true) (hw : ObAll H ws as) : AtsOk cs nm as ps.length ws := by
  cases h with
  | work a b =>
    have h1' : (match [a, b] with
    | [lo, .num hi] => decide (0 ≤ hi ∧ hi ≤ 99) && lo.btw 0 hi
    | _ => false) = true := h1
    cases b <;> first | (cases h1'; done) | skip
    rename_i hi
    obtain ⟨e1, e2⟩ := He.ba h1'
    obtain ⟨lo, rfl, e3⟩ := btw_num e2
    have e1' := of_decide_eq_true e1
    cases hw with
    | cons x t =>
      cases x
      cases t with
      | cons y t =>
        cases y
        cases t
        refine ⟨rfl, fun v m => ?_, ?_, .work lo hi, fun e => absurd e (by decide +kernel), fun e => absurd e (by decide +kernel)⟩
        · rcases List.mem_cons.mp m with rfl | m
          · exact .inl ⟨_, rfl⟩
          · rw [List.mem_singleton.mp m]; exact .inl ⟨_, rfl⟩
        · rw [numB_work, decide_eq_true e1', decide_eq_true e3]; rfl
  | say z =>
    obtain ⟨z, rfl, hz⟩ := word_str (h2 rfl)
    cases hw with
    | cons x t =>
      cases x
      cases t
      refine ⟨rfl, fun v m => by rw [List.mem_singleton.mp m]; exact .inr ⟨_, rfl⟩, rfl, .say z, fun _ z' e => by cases e; exact hz, fun e => absurd e (by decide +kernel)⟩
  | pass =>
    cases hw
    exact ⟨rfl, fun v m => (nomatch m), rfl, .pass, fun e => absurd e (by decide +kernel), fun e => absurd e (by decide +kernel)⟩
  | sleep n =>
    obtain ⟨i, rfl, e3⟩ := btw_num (show n.btw 1 99 = true from h1)
    cases hw with
    | cons x t =>
      cases x
      cases t
      refine ⟨rfl, fun v m => by rw [List.mem_singleton.mp m]; exact .inl ⟨_, rfl⟩, ?_, .sleep i, fun e => absurd e (by decide +kernel), fun e => absurd e (by decide +kernel)⟩
      rw [numB_slp (by simp), decide_eq_true e3]
  | take c =>
    obtain ⟨z, rfl, hz⟩ := mem_str (h3 (.inl rfl))
    cases hw with
    | cons x t =>
      cases x
      cases t
      exact ⟨rfl, fun v m => by rw [List.mem_singleton.mp m]; exact .inr ⟨_, rfl⟩, rfl, .take z, fun e => absurd e (by decide +kernel), fun _ z' e => by cases e; exact hz⟩
  | give c =>
    obtain ⟨z, rfl, hz⟩ := mem_str (h3 (.inr rfl))
    cases hw with
    | cons x t =>
      cases x
      cases t
      exact ⟨rfl, fun v m => by rw [List.mem_singleton.mp m]; exact .inr ⟨_, rfl⟩, rfl, .give z, fun e => absurd e (by decide +kernel), fun _ z' e => by cases e; exact hz⟩
  | either p q =>
    cases hw
    exact ⟨rfl, fun v m => (nomatch m), rfl, .either, fun e => absurd e (by decide +kernel), fun e => absurd e (by decide +kernel)⟩
  | ever p =>
    cases hw
    exact ⟨rfl, fun v m => (nomatch m), rfl, .ever, fun e => absurd e (by decide +kernel), fun e => absurd e (by decide +kernel)⟩
  | within n p q =>
    obtain ⟨i, rfl, e3⟩ := btw_num (show n.btw 1 99 = true from h1)
    cases hw with
    | cons x t =>
      cases x
      cases t
      refine ⟨rfl, fun v m => by rw [List.mem_singleton.mp m]; exact .inl ⟨_, rfl⟩, ?_, .within i, fun e => absurd e (by decide +kernel), fun e => absurd e (by decide +kernel)⟩
      rw [numB_slp (by simp), decide_eq_true e3]
/-- the rows of a list that is looked at -/
structure SeekOk (H : Hp) (cs : List Str) (g : Bool) (n p q : Nat) (v : V) (rs : List LRow) : Prop where
  r : RsA .any H v rs
  s : shpR rs
  v : valR cs g rs
  b : badR p rs = none
  q : q = p + sizeR rs
  d : depR rs + 1 ≤ n
def toR1 (n : Nat) (o : Ob) : LRow := match o.view with
  | some (nm, as, ps) => .mk nm (as.map Ob.atm) (ps.map (toRs n))
  | none => .mk "" [] []
theorem toRs_sq {n : Nat} {xs : List Ob} : toRs (n + 1) (.sq xs) = xs.map (toR1 n) := rfl
theorem parts_ok {H : Hp} {cs : List Str} {g : Bool} {n : Nat} (ih : ∀ (p : Nat) (o : Ob) (q : Nat) (v : V), seekO n cs g p o = (q, none) → ObA H v o → o.isSq = true → o.dep ≤ 2 * n → SeekOk H cs g n p q v (toRs n o)) :
    ∀ {ps : List Ob} {us : List V} {p q : Nat}, runO (fun _ q x => seekO n cs g q x) p ps = (q, none) → ObAll H us ps → ps.all Ob.isSq = true → depO ps ≤ 2 * n → RsAll .any H us (ps.map (toRs n)) ∧ shpP (ps.map (toRs n)) ∧ valP cs g (ps.map (toRs n)) ∧ badP p (ps.map (toRs n)) = none ∧ q = p + sizeP (ps.map (toRs n)) ∧ depP (ps.map (toRs n)) ≤ n
  | [], _, p, q, h, .nil, _, _ => by
    rw [runO] at h
    cases h
    rw [List.map_nil, shpP, valP, badP, sizeP, depP]
    exact ⟨.nil, trivial, trivial, rfl, rfl, Nat.zero_le _⟩
  | x :: r, _, p, q, h, .cons hx ht, hs, hd => by
    rw [runO] at h
    rw [List.all_cons, Bool.and_eq_true] at hs
    rw [depO] at hd
    cases e : seekO n cs g p x with
    | mk q1 e1 =>
      rw [e] at h
      cases e1 with
      | some z => cases h
      | none =>
        have k := ih p x q1 _ e hx hs.1 (by omega)
        obtain ⟨h1, h2, h3, h4, h5, h6⟩ := parts_ok ih h ht hs.2 (by omega)
        rw [List.map_cons, shpP, valP, badP, sizeP, depP]
        have kq := k.q
        refine ⟨.cons k.r h1, ⟨k.s, h2⟩, ⟨k.v, h3⟩, ?_, by omega, by have := k.d; omega⟩
        rw [k.b, Option.none_or, ← kq, h4]
theorem rows_ok {H : Hp} {cs : List Str} {g : Bool} {n : Nat} (ih : ∀ (g : Bool) (p : Nat) (o : Ob) (q : Nat) (v : V), seekO n cs g p o = (q, none) → ObA H v o → o.isSq = true → o.dep ≤ 2 * n → SeekOk H cs g n p q v (toRs n o)) :
    ∀ {xs : List Ob} {us : List V} {p q : Nat}, runO (fun last p o => match whyO cs g last p o with
      | some e => (p, some e)
      | none => runO (fun _ q x => seekO n cs (g || decide (o.nm = "within")) q x) (p + 1) o.parts) p xs = (q, none) → ObAll H us xs → depO xs ≤ 2 * n + 1 → RwAll .any H us (xs.map (toR1 n)) ∧ shpR (xs.map (toR1 n)) ∧ valR cs g (xs.map (toR1 n)) ∧ badR p (xs.map (toR1 n)) = none ∧ q = p + sizeR (xs.map (toR1 n)) ∧ depR (xs.map (toR1 n)) ≤ n
  | [], _, p, q, h, .nil, _ => by
    rw [runO] at h
    cases h
    rw [List.map_nil, shpR, valR, badR, sizeR, depR]
    exact ⟨.nil, trivial, trivial, rfl, rfl, Nat.zero_le _⟩
  | x :: r, _, p, q, h, .cons (v := v) hx ht, hd => by
    rw [runO] at h
    rw [depO] at hd
    cases e : whyO cs g r.isEmpty p x with
    | some z => rw [e] at h; cases h
    | none =>
      rw [e] at h
      obtain ⟨hp, nm, as, ps, hv, h1, h2, h3, h4, h5, h6⟩ := why_none e
      obtain ⟨rfl, hsh⟩ := view_some hv
      have e1 : (Ob.sq (.str nm :: (as ++ ps))).nm = nm := by rw [Ob.nm, hv]
      have e2 : (Ob.sq (.str nm :: (as ++ ps))).parts = ps := by rw [Ob.parts, hv]
      have e3 : toR1 n (Ob.sq (.str nm :: (as ++ ps))) = .mk nm (as.map Ob.atm) (ps.map (toRs n)) := by rw [toR1, hv]
      rw [e1, e2] at h
      generalize hr : runO (fun _ q x => seekO n cs (g || decide (nm = "within")) q x) (p + 1) ps = w at h
      obtain ⟨q1, ee⟩ := w
      cases ee with
      | some z => cases h
      | none =>
        cases hx with
        | sq hh hz ra =>
          cases ra with
          | cons hn rest =>
            cases hn
            obtain ⟨ws, us', rfl, ha, hu⟩ := ObAll.split rest
            have A := as_ok (cs := cs) hsh h1 h2 h3 ha
            rw [Ob.dep, depO] at hd
            have hdp : ∀ as : List Ob, depO ps ≤ depO (as ++ ps) := fun as => by
              induction as with
              | nil => exact Nat.le_refl _
              | cons a r ih => rw [List.cons_append, depO]; exact Nat.le_trans ih (Nat.le_max_right _ _)
            have hdp' := hdp as
            obtain ⟨k1, k2, k3, k4, k5, k6⟩ := parts_ok (ih (g || decide (nm = "within"))) hr hu h4 (by omega)
            obtain ⟨j1, j2, j3, j4, j5, j6⟩ := rows_ok ih h ht (by omega)
            rw [List.map_cons, e3, shpR, valR, badR, sizeR, depR, LRow.shp, LRow.val, LRow.bad, LRow.size, LRow.dep, ← A.e, List.length_map, if_pos A.n]
            refine ⟨.cons (.mk hh A.a (by rw [List.length_cons] at hz; omega) k1) j1, ⟨⟨A.s, k2⟩, j2⟩, ⟨⟨A.w, A.c, h5, k3⟩, fun q => ?_, j3⟩, ?_, by omega, by omega⟩
            · have hl := h6 q
              rw [List.isEmpty_iff] at hl
              rw [hl]
              rfl
            · rw [k4, Option.none_or, ← Nat.add_assoc, ← k5, j4]
theorem seek_ok {H : Hp} {cs : List Str} : ∀ (n : Nat) (g : Bool) (p : Nat) (o : Ob) (q : Nat) (v : V), seekO n cs g p o = (q, none) → ObA H v o → o.isSq = true → o.dep ≤ 2 * n → SeekOk H cs g n p q v (toRs n o)
  | 0, g, p, o, q, v, h, ho, hs, hd => by
    cases ho with
    | sq _ _ _ => rw [Ob.dep] at hd; omega
    | _ => cases hs
  | n + 1, g, p, o, q, v, h, ho, hs, hd => by
    cases ho with
    | sq hh hz r =>
      rw [Ob.dep] at hd
      rw [seekO] at h
      obtain ⟨j1, j2, j3, j4, j5, j6⟩ := rows_ok (fun g => seek_ok n g) h r (by omega)
      rw [toRs_sq]
      exact ⟨.mk hh hz j1, j2, j3, j4, j5, by omega⟩
    | _ => cases hs
section
variable {n : Str} {as ps : List Ob}
theorem ShO.work_ (h : ShO n as ps) (e : n = "work") : ∃ a b, as = [a, b] ∧ ps = [] := by
  cases h <;> first | exact ⟨_, _, rfl, rfl⟩ | exact absurd e (by decide +kernel)
theorem ShO.slp_ (h : ShO n as ps) (e : n ∈ (["sleep", "within"] : List Str)) : ∃ a, as = [a] := by
  cases h <;> first | exact ⟨_, rfl⟩ | exact absurd e (by decide +kernel)
theorem ShO.say_ (h : ShO n as ps) (e : n = "say") : ∃ a, as = [a] := by
  cases h <;> first | exact ⟨_, rfl⟩ | exact absurd e (by decide +kernel)
theorem ShO.tak_ (h : ShO n as ps) (e : n ∈ (["take", "give"] : List Str)) : ∃ a, as = [a] := by
  cases h <;> first | exact ⟨_, rfl⟩ | exact absurd e (by decide +kernel)
theorem numO_slp {x : Ob} (e : n ∈ (["sleep", "within"] : List Str)) : numO n [x] = x.btw 1 99 := by
  simp only [List.mem_cons, List.not_mem_nil, or_false] at e
  rcases e with rfl | rfl <;> rfl
theorem numO_else (h : ShO n as ps) (e1 : n ≠ "work") (e2 : n ∉ (["sleep", "within"] : List Str)) : numO n as = true := by
  unfold numO
  rw [if_neg e1, if_neg (fun q => e2 (by simpa using q))]
theorem numO_work {a b : Ob} : numO "work" [a, b] = (b.btw 0 99 && (match b with
    | .num hi => a.btw 0 hi
    | _ => false)) := by
  cases b <;> rfl
end
end Lt

set_option Elab.async false
set_option linter.all false
set_option maxRecDepth 100000
set_option maxHeartbeats 2000000
namespace Lt
open PySem PySem.Spec PyProof.Rows L2
/-! ### figures -/
def dig (c : Nat) : Bool := decide (48 ≤ c) && decide (c ≤ 57)
/-- digits without a leading nought -/
def figs (a : List Nat) : Bool := a.all dig && (decide (a = [48]) || (decide (a ≠ []) && decide (a.head? ≠ some 48)))
theorem dig_iff {c : Nat} : dig c = true ↔ 48 ≤ c ∧ c ≤ 57 := by
  unfold dig
  simp
theorem all_dig {a : List Nat} : a.all dig = true ↔ NumText.AllDigits a := by
  rw [List.all_eq_true]
  exact ⟨fun h c hc => dig_iff.mp (h c hc), fun h c hc => dig_iff.mpr (h c hc)⟩
theorem dig_mem (c : Nat) : decide (c ∈ [48, 49, 50, 51, 52, 53, 54, 55, 56, 57]) = dig c := by
  rw [Bool.eq_iff_iff, decide_eq_true_iff, dig_iff]
  simp only [List.mem_cons, List.not_mem_nil, or_false]
  omega
theorem numL_head : ∀ (n : Nat), TL.numL n = [48] ∨ (TL.numL n).head? ≠ some 48 := by
  intro n
  induction n using Nat.strongRecOn with
  | _ n ih =>
    by_cases h : n < 10
    · rw [TL.numL_lt h]
      by_cases h0 : n = 0
      · subst h0
        exact .inl rfl
      · refine .inr ?_
        simp
        omega
    · rw [TL.numL_step (by omega)]
      refine .inr ?_
      have hm : 0 < n / 10 := by omega
      rcases ih (n / 10) (by omega) with e | e
      · exfalso
        have z : TL.numL (n / 10) = TL.numL 0 := by rw [e]; rfl
        have := TL.numL_inj z
        omega
      · cases q : TL.numL (n / 10) with
        | nil => exact absurd q (TL.numL_ne _)
        | cons c r =>
          rw [q] at e
          simpa using e
theorem figs_num (n : Nat) : figs (TL.numL n) = true := by
  unfold figs
  rw [Bool.and_eq_true, Bool.or_eq_true, Bool.and_eq_true, decide_eq_true_iff, decide_eq_true_iff, decide_eq_true_iff]
  refine ⟨all_dig.mpr (TL.numL_digits n), ?_⟩
  rcases numL_head n with h | h
  · exact .inl h
  · exact .inr ⟨TL.numL_ne n, h⟩
theorem char_back {c : Nat} (h : 48 ≤ c ∧ c ≤ 57) : (Char.ofNat c).toNat = c := by
  have : c = 48 ∨ c = 49 ∨ c = 50 ∨ c = 51 ∨ c = 52 ∨ c = 53 ∨ c = 54 ∨ c = 55 ∨ c = 56 ∨ c = 57 := by omega
  rcases this with e | e | e | e | e | e | e | e | e | e <;> subst e <;> rfl
theorem num_figs {a : List Nat} (h : figs a = true) : TL.numL (NumText.digitsVal a) = a := by
  unfold figs at h
  rw [Bool.and_eq_true, Bool.or_eq_true, Bool.and_eq_true, decide_eq_true_iff, decide_eq_true_iff, decide_eq_true_iff] at h
  obtain ⟨h1, h2⟩ := h
  have hd := all_dig.mp h1
  rcases h2 with e | ⟨e1, e2⟩
  · subst e
    rfl
  · cases a with
    | nil => exact absurd rfl e1
    | cons c r =>
      have hc := hd c List.mem_cons_self
      have e3 : c ≠ 48 := by simpa using e2
      have z := NumText.toDigits_digitsVal r.length (c :: r) (by simp) hd (.inr ⟨c, r, rfl, by omega⟩)
      unfold TL.numL
      rw [z, List.map_map]
      conv => rhs; rw [← List.map_id (c :: r)]
      exact List.map_congr_left fun x hx => char_back (hd x hx)
theorem figs_iff {a : List Nat} : figs a = true ↔ ∃ n, a = TL.numL n := ⟨fun h => ⟨_, (num_figs h).symm⟩, fun ⟨n, h⟩ => by rw [h]; exact figs_num n⟩
theorem figs_zero {a : List Nat} (h : figs a = true) : NumText.digitsVal a = 0 ↔ a = [48] := by
  refine ⟨fun e => ?_, fun e => by subst e; rfl⟩
  have z := num_figs h
  rw [e] at z
  exact z.symm
theorem figs_one {a : List Nat} (h : figs a = true) : NumText.digitsVal a = 1 ↔ a = [49] := by
  refine ⟨fun e => ?_, fun e => by subst e; rfl⟩
  have z := num_figs h
  rw [e] at z
  exact z.symm
theorem figs_free {a : List Nat} (h : figs a = true) {s : Nat} (hs : s < 48 ∨ 57 < s) : s ∉ a := by
  obtain ⟨n, e⟩ := figs_iff.mp h
  rw [e]
  exact TL.numL_free hs
theorem figs_ne {a : List Nat} (h : figs a = true) : a ≠ [] := by
  obtain ⟨n, e⟩ := figs_iff.mp h
  rw [e]
  exact TL.numL_ne n
/-! ### a text by its parts: a sign, a head, what stands behind the first slash -/
def sgn (neg : Bool) : List Nat := if neg then [45] else []
def tlU : Option (List Nat) → List Nat
  | none => []
  | some u => 47 :: u
structure Cut (t : List Nat) (neg : Bool) (h : List Nat) (u : Option (List Nat)) : Prop where
  eq : t = sgn neg ++ (h ++ tlU u)
  free : 47 ∉ h
  pos : neg = false → h.head? ≠ some 45
theorem first47 : ∀ b : List Nat, ∃ h u, b = h ++ tlU u ∧ 47 ∉ h
  | [] => ⟨[], none, rfl, by simp⟩
  | c :: r => by
    by_cases hc : c = 47
    · subst hc
      exact ⟨[], some r, rfl, by simp⟩
    · obtain ⟨h, u, e, f⟩ := first47 r
      exact ⟨c :: h, u, by rw [e]; rfl, by simp [f, Ne.symm hc]⟩
theorem cut_of (t : List Nat) : ∃ neg h u, Cut t neg h u := by
  by_cases c : t.head? = some 45
  · cases t with
    | nil => cases c
    | cons d r =>
      cases c
      obtain ⟨h, u, e, f⟩ := first47 r
      exact ⟨true, h, u, by rw [e]; rfl, f, fun z => by cases z⟩
  · obtain ⟨h, u, e, f⟩ := first47 t
    refine ⟨false, h, u, e, f, fun _ z => c ?_⟩
    rw [e]
    cases h with
    | nil => cases z
    | cons a r => exact z
def okU : Option (List Nat) → List Nat → Bool
  | none, _ => true
  | some u, h => figs u && decide (u ≠ [48]) && decide (u ≠ [49]) && decide (Nat.gcd (NumText.digitsVal h) (NumText.digitsVal u) = 1)
/-- the texts of numbers -/
def okT (neg : Bool) (h : List Nat) (u : Option (List Nat)) : Bool := figs h && !(neg && decide (h = [48])) && okU u h
def ovr (neg : Bool) (h : List Nat) : Int := if neg then -((NumText.digitsVal h : Nat) : Int) else ((NumText.digitsVal h : Nat) : Int)
def und : Option (List Nat) → Int
  | none => 1
  | some u => ((NumText.digitsVal u : Nat) : Int)
/-- the text of p/q -/
def intL (p : Int) : List Nat := if p < 0 then 45 :: TL.numL p.natAbs else TL.numL p.natAbs
def txt (p q : Int) : List Nat := intL p ++ if q = 1 then [] else 47 :: TL.numL q.natAbs
theorem int_S' (p : Int) : Str.ofString (toString p) = SX.S (intL p) := by
  unfold intL
  cases p with
  | ofNat n =>
    rw [if_neg (by simp)]
    exact SX.num_S n
  | negSucc n =>
    rw [if_pos (by omega)]
    have e : toString (Int.negSucc n) = "-" ++ toString (n + 1) := rfl
    rw [e]
    refine TL.ext_tl ?_
    rw [TL.tl_ofString]
    have e2 := TL.tl_num (n + 1)
    rw [TL.tl_ofString] at e2
    show _ = 45 :: TL.numL (n + 1)
    rw [← e2, String.toList_append, List.map_append]
    rfl
theorem okT_txt {neg : Bool} {h : List Nat} {u : Option (List Nat)} (k : okT neg h u = true) : txt (ovr neg h) (und u) = sgn neg ++ (h ++ tlU u) := by
  unfold okT at k
  rw [Bool.and_eq_true, Bool.and_eq_true] at k
  obtain ⟨⟨k1, k2⟩, k3⟩ := k
  have e1 := num_figs k1
  have a1 : intL (ovr neg h) = sgn neg ++ h := by
    unfold intL ovr sgn
    cases neg with
    | false =>
      simp only [Bool.false_eq_true, if_false]
      rw [if_neg (by omega), Int.natAbs_natCast, e1]
      rfl
    | true =>
      have hz : h ≠ [48] := by simpa using k2
      have hz2 : NumText.digitsVal h ≠ 0 := fun e => hz ((figs_zero k1).mp e)
      simp only [if_true]
      rw [if_pos (by omega), Int.natAbs_neg, Int.natAbs_natCast, e1]
      rfl
  unfold txt
  rw [a1, List.append_assoc]
  congr 1
  congr 1
  cases u with
  | none => rfl
  | some u =>
    unfold okU at k3
    rw [Bool.and_eq_true, Bool.and_eq_true, Bool.and_eq_true, decide_eq_true_iff, decide_eq_true_iff, decide_eq_true_iff] at k3
    obtain ⟨⟨⟨u1, u2⟩, u3⟩, u4⟩ := k3
    have n1 : NumText.digitsVal u ≠ 1 := fun e => u3 ((figs_one u1).mp e)
    show (if ((NumText.digitsVal u : Nat) : Int) = 1 then [] else 47 :: TL.numL ((NumText.digitsVal u : Nat) : Int).natAbs) = 47 :: u
    rw [if_neg (by omega), Int.natAbs_natCast, num_figs u1]
/-- the text of a fraction in lowest terms is such a text -/
theorem txt_ok {p q : Int} (hq : 0 < q) (hg : Int.gcd p q = 1) : ∃ neg h u, Cut (txt p q) neg h u ∧ okT neg h u = true ∧ ovr neg h = p ∧ und u = q := by
  refine ⟨decide (p < 0), TL.numL p.natAbs, if q = 1 then none else some (TL.numL q.natAbs), ⟨?_, TL.numL_free (.inl (by decide)), fun _ e => ?_⟩, ?_, ?_, ?_⟩
  · unfold txt intL sgn tlU
    by_cases h1 : p < 0
    · have hd : decide (p < 0) = true := decide_eq_true h1
      rw [if_pos h1, hd]
      by_cases h2 : q = 1
      · simp only [h2, if_true]
        rfl
      · simp only [h2, if_false]
        rfl
    · have hd : decide (p < 0) = false := decide_eq_false h1
      rw [if_neg h1, hd]
      by_cases h2 : q = 1
      · simp only [h2, if_true]
        rfl
      · simp only [h2, if_false]
        rfl
  · have z : (45 : Nat) ∈ TL.numL p.natAbs := List.mem_of_mem_head? e
    exact TL.numL_free (.inl (by decide)) z
  · unfold okT
    rw [Bool.and_eq_true, Bool.and_eq_true]
    refine ⟨⟨figs_num _, ?_⟩, ?_⟩
    · rw [Bool.not_eq_true', Bool.and_eq_false_iff]
      by_cases h1 : p < 0
      · refine .inr (decide_eq_false fun e => ?_)
        have z : TL.numL p.natAbs = TL.numL 0 := e
        have := TL.numL_inj z
        omega
      · exact .inl (decide_eq_false h1)
    · by_cases h2 : q = 1
      · rw [if_pos h2]
        rfl
      · rw [if_neg h2]
        show (figs (TL.numL q.natAbs) && decide (TL.numL q.natAbs ≠ [48]) && decide (TL.numL q.natAbs ≠ [49]) && decide (Nat.gcd (NumText.digitsVal (TL.numL p.natAbs)) (NumText.digitsVal (TL.numL q.natAbs)) = 1)) = true
        rw [Bool.and_eq_true, Bool.and_eq_true, Bool.and_eq_true, decide_eq_true_iff, decide_eq_true_iff, decide_eq_true_iff, TL.numL_val, TL.numL_val]
        refine ⟨⟨⟨figs_num _, fun e => ?_⟩, fun e => ?_⟩, hg⟩
        · have z : TL.numL q.natAbs = TL.numL 0 := e
          have := TL.numL_inj z
          omega
        · have z : TL.numL q.natAbs = TL.numL 1 := e
          have := TL.numL_inj z
          omega
  · unfold ovr
    rw [TL.numL_val]
    by_cases h1 : p < 0
    · rw [if_pos (decide_eq_true h1)]
      omega
    · rw [if_neg (by simpa using h1)]
      omega
  · by_cases h2 : q = 1
    · rw [if_pos h2]
      exact h2.symm
    · rw [if_neg h2]
      show ((NumText.digitsVal (TL.numL q.natAbs) : Nat) : Int) = q
      rw [TL.numL_val]
      omega
end Lt

set_option Elab.async false
set_option linter.all false
set_option maxRecDepth 100000
set_option maxHeartbeats 2000000
namespace Lt
open PySem PySem.Spec PyProof.Rows L2
/-! ### readings of texts by their signs -/
abbrev TS (a : List Nat) : V := .str (SX.S a)
section
variable {X : Cx}
def rRmp : V → List V → Hp → VK → Prop := fun x xs H Q => ∃ a b, x = .str a ∧ xs = [.str b] ∧ a.length ≤ sizeLine ∧ Q (.str (Txt.removeprefix a b)) H
theorem mt_removeprefixQ : MtR X "str.removeprefix" rRmp := mt_removeprefix
def rPart : V → List V → Hp → VK → Prop := fun x xs H Q => ∃ a b, x = .str a ∧ xs = [.str b] ∧ (b.length == 0) = false ∧ a.length ≤ sizeLine ∧ ∀ p, H p = none → Q (.ref p) (upd H p (.tup [.str (Txt.partition a b).1, .str (Txt.partition a b).2.1, .str (Txt.partition a b).2.2]))
theorem mt_partitionQ : MtR X "str.partition" rPart := mt_partition
def rStw : V → List V → Hp → VK → Prop := fun x xs H Q => ∃ a b, x = .str a ∧ xs = [.str b] ∧ Q (.bl (Txt.startswith a b)) H
theorem mt_startswithQ : MtR X "str.startswith" rStw := mt_startswith
def rSplit : V → List V → Hp → VK → Prop := fun x xs H Q => ∃ a b, x = .str a ∧ xs = [.str b] ∧ (b.length == 0) = false ∧ a.length + 2 ≤ sizeLine ∧ rNewStrs (Txt.split a b) H Q
theorem mt_splitQ : MtR X "str.split" rSplit := mt_split
def rSIdx : V → List V → Hp → VK → Prop := fun x xs H Q => ∃ a b i rest, x = .str a ∧ xs = [.str b] ∧ Builtin.Str.occurrences a b 0 a.length 1 = i :: rest ∧ Q (.int (i : Nat)) H
theorem mt_sindexQ : MtR X "str.index" rSIdx := mt_sindex
def rInSg : R2 := fun x y H Q => ∃ (c : Nat) (z : Str), x = .str ⟨#[c]⟩ ∧ y = .str z ∧ Q (.bl (decide (c ∈ z.cps.toList))) H
theorem op_inSg : OpR X (compareOp .In) rInSg := op_in_sign
def rAddS : R2 := fun x y H Q => ∃ i j, x = .str i ∧ y = .str j ∧ i.length + j.length ≤ sizeLine ∧ Q (.str (i ++ j)) H
theorem op_addS : OpR X (binaryOp .Add) rAddS := op_add_str
def rIntS : List V → Hp → VK → Prop := fun xs H Q => ∃ a n, xs = [.str a] ∧ PySem.intText? a = some n ∧ a.length ≤ 640 ∧ Q (.int n) H
theorem call_intS : CallR X (.type "int") rIntS := call_int_str
/-- list(a text) -/
def rListS : List V → Hp → VK → Prop := fun xs H Q => ∃ z : Str, xs = [.str z] ∧ z.length ≤ sizeLine ∧ ∀ l, H l = none → Q (.ref l) (upd H l (.lst (z.cps.toList.map fun c => V.str ⟨#[c]⟩)))
theorem call_listS (hc : X.calm = true) : CallR X (.type "list") rListS := by
  intro pins s σ H xs us Q I r h
  obtain ⟨z, rfl, hz, q⟩ := h
  obtain ⟨u, rfl, rx⟩ := vals1 r
  obtain ⟨t, rfl⟩ := (show ∃ t, u = Value.str z t from rx)
  refine call_list_str (I.ok.hd hc) z t (hn := hz) fun h' tk acc' c' hk hS' hacc => ?_
  have hv : Vals (z.cps.toList.map fun c => V.str ⟨#[c]⟩) acc'.toList := by
    have hl : (z.cps.toList.map fun c => V.str ⟨#[c]⟩).length = acc'.toList.length := by simp [hacc.1]
    have gen : ∀ (xs : List V) (us : List Value), xs.length = us.length → (∀ (j : Nat) (x : V) (u : Value), xs[j]? = some x → us[j]? = some u → RelV x u) → Vals xs us := by
      intro xs
      induction xs with
      | nil =>
        intro us e _
        cases us with
        | nil => exact .nil
        | cons _ _ => cases e
      | cons x xs ih =>
        intro us e k
        cases us with
        | nil => cases e
        | cons u us => exact .cons (k 0 x u rfl rfl) (ih us (Nat.succ.inj e) fun j a b h1 h2 => k (j + 1) a b h1 h2)
    refine gen _ _ hl fun j x v h1 h2 => ?_
    obtain ⟨c, u, hc, rfl⟩ := hacc.2 j v (by simpa using h2)
    rw [List.getElem?_map] at h1
    rw [show z.cps.toList[j]? = some c by simpa using hc] at h1
    cases h1
    exact ⟨u, rfl⟩
  exact ⟨.ref s.heap.objs.size, _, I.laid (t' := tk) hk (Nat.le_refl _) (show ObjOk X.prog X.w _ h' _ (.lst _) from ⟨by simpa [Str.length] using hz, acc'.toList, c', hv, by simpa using hS'⟩), rfl, q _ (I.hok.fresh (Nat.le_refl _))⟩
end
/-! ### .. as functions on lists of signs -/
theorem lit (s : String) : Str.ofString s = SX.S (s.toList.map Char.toNat) := by
  refine TL.ext_tl ?_
  rw [TL.tl_ofString]
theorem S_one (c : Nat) : (⟨#[c]⟩ : Str) = SX.S [c] := rfl
theorem S_le {a : List Nat} {n : Nat} (h : a.length ≤ n) (hn : n ≤ 100000 := by decide) : (SX.S a).length ≤ sizeLine := by
  rw [SX.S_len]
  exact Nat.le_trans (Nat.le_trans h hn) (by decide)
theorem startswith1 (a : List Nat) (c : Nat) : Txt.startswith (SX.S a) (SX.S [c]) = decide (a.head? = some c) := by
  unfold Txt.startswith
  rw [StrLaws.subAt_eq]
  show (decide (0 + (SX.S [c]).length ≤ (SX.S a).length) && ((a.drop 0).take 1 == [c])) = _
  rw [SX.S_len, SX.S_len]
  cases a with
  | nil => rfl
  | cons d r =>
    simp
    rw [Bool.eq_iff_iff]
    simp
theorem removeprefix1 (a : List Nat) (c : Nat) : Txt.removeprefix (SX.S a) (SX.S [c]) = SX.S (if a.head? = some c then a.tail else a) := by
  unfold Txt.removeprefix
  rw [StrLaws.subAt_eq]
  show Txt.affix (SX.S a) (if ((a.drop 0).take 1 == [c]) = true then some ((SX.S [c]).length, (SX.S a).length) else none) = _
  rw [SX.S_len, SX.S_len]
  cases a with
  | nil => rfl
  | cons d r =>
    by_cases e : d = c
    · subst e
      simp only [List.drop_zero, List.take_succ_cons, List.take_zero, beq_self_eq_true, if_true, List.head?_cons, List.tail_cons]
      show (if ((d :: r).length - [d].length == (SX.S (d :: r)).length) = true then SX.S (d :: r) else Builtin.Str.strSub (SX.S (d :: r)) 1 (r.length + 1)) = SX.S r
      rw [SX.S_len]
      have h1 : ¬ ((d :: r).length - [d].length == (d :: r).length) = true := by simp
      rw [if_neg h1]
      unfold Builtin.Str.strSub
      refine TL.ext_tl ?_
      simp [TL.tl, SX.S]
    · have h1 : ¬ ((((d :: r).drop 0).take 1 == [c]) = true) := by simp [e]
      rw [if_neg h1, if_neg (by simp [e])]
      rfl
theorem cutNone {h : List Nat} (f : 47 ∉ h) : Txt.partition (SX.S h) (SX.S [47]) = (SX.S h, SX.S [], SX.S []) := SX.partition_none (by simp) (SX.par_head_none f)
theorem cutSome {h : List Nat} (u : List Nat) (f : 47 ∉ h) : Txt.partition (SX.S (h ++ 47 :: u)) (SX.S [47]) = (SX.S h, SX.S [47], SX.S u) := SX.partition_some (by simp) (SX.par_head (sep := []) u f)
theorem index_dig {c : Nat} (h : dig c = true) : Builtin.Str.occurrences (Str.ofString "0123456789") ⟨#[c]⟩ 0 (Str.ofString "0123456789").length 1 = [c - 48] := by
  have := dig_iff.mp h
  have : c = 48 ∨ c = 49 ∨ c = 50 ∨ c = 51 ∨ c = 52 ∨ c = 53 ∨ c = 54 ∨ c = 55 ∨ c = 56 ∨ c = 57 := by omega
  rcases this with e | e | e | e | e | e | e | e | e | e <;> subst e <;> decide +kernel
theorem split47 {ps : List (List Nat)} (hne : ps ≠ []) (h : ∀ p ∈ ps, 47 ∉ p) : Txt.split (SX.S (TL.joinL [47] ps)) (SX.S [47]) = ps.map SX.S := by
  rw [SX.split_S (by simp) (by decide), SX.spl_join hne h]
theorem fold_lt : ∀ (a : List Nat) (v : Nat), a.all dig = true → a.foldl (fun acc c => acc * 10 + (c - 48)) v < (v + 1) * 10 ^ a.length
  | [], v, _ => by simp
  | c :: r, v, h => by
    rw [List.all_cons, Bool.and_eq_true] at h
    have h2 := dig_iff.mp h.1
    have z := fold_lt r (v * 10 + (c - 48)) h.2
    show r.foldl (fun acc c => acc * 10 + (c - 48)) (v * 10 + (c - 48)) < (v + 1) * 10 ^ (r.length + 1)
    refine Nat.lt_of_lt_of_le z ?_
    rw [Nat.pow_succ, Nat.mul_comm (10 ^ r.length) 10, ← Nat.mul_assoc]
    exact Nat.mul_le_mul_right _ (by omega)
theorem digitsVal_lt {a : List Nat} (h : a.all dig = true) : NumText.digitsVal a < 10 ^ a.length := by
  have z := fold_lt a 0 h
  rw [Nat.zero_add, Nat.one_mul] at z
  exact z
namespace Rd
variable {K : PySem.W.Frag} {D : Ends} {σ : L2.St} {H H0 : Hp} {Q : VK} {S : List Addr} {l l' : Led} {te ta : TE} {a b : List Nat} {c : Nat}
theorem bmS {z : Str} {r : V → List V → Hp → VK → Prop} {t : TA} (h : t σ H fun ys H2 => r (.str z) ys H2 Q) : BM K "str" r t σ (.str z) H Q := ⟨rfl, h⟩
theorem stw (h : Q (.bl (decide (a.head? = some c))) H) : rStw (TS a) [TS [c]] H Q := ⟨_, _, rfl, rfl, by rw [startswith1]; exact h⟩
theorem rmp (hl : a.length ≤ 1000) (h : Q (TS (if a.head? = some c then a.tail else a)) H) : rRmp (TS a) [TS [c]] H Q := ⟨_, _, rfl, rfl, S_le hl, by rw [removeprefix1]; exact h⟩
theorem prtN (st : Stt H0 S l H) (hl : a.length ≤ 1000) (f : 47 ∉ a) (k : ∀ p H1, H0 p = none → Stt H0 S ((p, Is (.tup [TS a, TS [], TS []])) :: l) H1 → Q (.ref p) H1) : rPart (TS a) [TS [47]] H Q :=
  ⟨_, _, rfl, rfl, by decide, S_le hl, fun p hp => by rw [cutNone f]; exact k p _ (st.none hp) (st.new hp _)⟩
theorem prtS (st : Stt H0 S l H) (hl : (a ++ 47 :: b).length ≤ 1000) (f : 47 ∉ a) (k : ∀ p H1, H0 p = none → Stt H0 S ((p, Is (.tup [TS a, TS [47], TS b])) :: l) H1 → Q (.ref p) H1) : rPart (TS (a ++ 47 :: b)) [TS [47]] H Q :=
  ⟨_, _, rfl, rfl, by decide, S_le hl, fun p hp => by rw [cutSome b f]; exact k p _ (st.none hp) (st.new hp _)⟩
theorem inSg {z : Str} (h : Q (.bl (decide (c ∈ z.cps.toList))) H) : rInSg (.str ⟨#[c]⟩) (.str z) H Q := ⟨c, z, rfl, rfl, h⟩
theorem sidx {i : Nat} {x z : Str} {rest : List Nat} (e : Builtin.Str.occurrences x z 0 x.length 1 = i :: rest) (h : Q (.int (i : Nat)) H) : rSIdx (.str x) [.str z] H Q := ⟨x, z, i, rest, rfl, rfl, e, h⟩
theorem addS (hz : a.length + b.length ≤ 100000) (h : Q (TS (a ++ b)) H) : rAddS (TS a) (TS b) H Q :=
  ⟨_, _, rfl, rfl, by rw [SX.S_len, SX.S_len]; exact Nat.le_trans hz (by decide), by rw [SX.S_cat]; exact h⟩
theorem intS (hd : a.all dig = true) (hne : a ≠ []) (hl : a.length ≤ 600) (h : Q (.int ((NumText.digitsVal a : Nat) : Int)) H) : rIntS [TS a] H Q :=
  ⟨_, _, rfl, SX.int_S hd hne (by omega), by rw [SX.S_len]; omega, h⟩
theorem listS {z : Str} {xs : List V} (hz : z.length ≤ 100000) (e : (z.cps.toList.map fun c => V.str ⟨#[c]⟩) = xs) (st : Stt H0 S l H) (k : ∀ p H1, H0 p = none → Stt H0 S ((p, Is (.lst xs)) :: l) H1 → Q (.ref p) H1) : rListS [.str z] H Q :=
  ⟨z, rfl, Nat.le_trans hz (by decide), fun p hp => by subst e; exact k p _ (st.none hp) (st.new hp _)⟩
theorem splt {ps : List (List Nat)} (e : a = TL.joinL [47] ps) (hne : ps ≠ []) (hf : ∀ p ∈ ps, 47 ∉ p) (hl : a.length ≤ 1000) (st : Stt H0 S l H) (k : ∀ p H1, H0 p = none → Stt H0 S ((p, Is (.lst (ps.map TS))) :: l) H1 → Q (.ref p) H1) : rSplit (TS a) [TS [47]] H Q :=
  ⟨_, _, rfl, rfl, by decide, by rw [SX.S_len]; exact Nat.le_trans (Nat.add_le_add_right hl 2) (by decide), fun p hp => by
    have z := k p _ (st.none hp) (st.new hp _)
    rw [e, split47 hne hf, List.map_map]
    exact z⟩
theorem ixS {i : Int} (hl : a.length ≤ 1000) (e : atI a i = some c) (h : Q (TS [c]) H) : rIxS (TS a) (.int i) H Q := ⟨_, i, c, rfl, rfl, S_le hl, e, h⟩
theorem slTo {i : Int} (hl : a.length ≤ 1000) (hi : 0 ≤ i) (h : Q (TS (a.take i.toNat)) H) : C8.rSlX (TS a) none (some i) H Q := ⟨_, rfl, S_le hl, by rw [SX.slice_to hi]; exact h⟩
theorem slFrom {i : Int} (hl : a.length ≤ 1000) (hi : 0 ≤ i) (h : Q (TS (a.drop i.toNat)) H) : C8.rSlX (TS a) (some i) none H Q := ⟨_, rfl, S_le hl, by rw [SX.slice_from hi]; exact h⟩
def WS (x : V) (H1 : Hp) (R : It → Hp → Prop) : Prop := ∃ z, x = .str z ∧ R (Its z) H1
theorem wS {R : It → Hp → Prop} (h : te σ H fun x H1 => WS x H1 R) : iStr te σ H R := h
theorem wSL {z : Str} {R : It → Hp → Prop} (h : R (Its z) H) : WS (.str z) H R := ⟨z, rfl, h⟩
theorem inT {p : Addr} {x : V} {xs : List V} (st : Stt H0 S l H) (m : (p, Is (.tup xs)) ∈ l) (f : flatV x = true) (fs : xs.all flatV = true) (h : Q (.bl (inV x xs)) H) : rIn K false x (.ref p) H Q := ⟨p, xs, rfl, .inr (st.sqT m), f, fs, h⟩
theorem neD {x y : V} {d e : PyData} (h1 : Dp K H x d) (h2 : Dp K H y e) (s1 : SeqAt.shaped d = true) (s2 : SeqAt.shaped e = true) (h : Q (.bl (!PyData.eqv d e)) H) : rNeD K x y H Q := ⟨d, e, h1, h2, s1, s2, h⟩
end Rd
end Lt

namespace Law
open PySem PySem.Spec PyProof.Rows L2 Lt

def top (i : Nat) : Stmt := PySem.Challenge.pw_looptimes_k07_programs_refused.main.body.getD i (.Pass ⟨0, 0, 0, 0⟩)
abbrev s_BadTask_init : Stmt := inClass (top 3) 0
theorem sc_BadTask_init : FnScope ["self", "index"] ["self", "index"] (defScope s_BadTask_init) := ⟨rfl, rfl, rfl, by decide +kernel, rfl, by decide +kernel, by decide +kernel⟩
abbrev s_BadCounter_init : Stmt := inClass (top 4) 0
theorem sc_BadCounter_init : FnScope ["self", "index"] ["self", "index"] (defScope s_BadCounter_init) := ⟨rfl, rfl, rfl, by decide +kernel, rfl, by decide +kernel, by decide +kernel⟩
abbrev s_BadLate_init : Stmt := inClass (top 5) 0
theorem sc_BadLate_init : FnScope ["self", "late"] ["self", "late"] (defScope s_BadLate_init) := ⟨rfl, rfl, rfl, by decide +kernel, rfl, by decide +kernel, by decide +kernel⟩
abbrev s_BadRow_init : Stmt := inClass (top 6) 0
theorem sc_BadRow_init : FnScope ["self", "task", "place", "reason"] ["self", "task", "place", "reason"] (defScope s_BadRow_init) := ⟨rfl, rfl, rfl, by decide +kernel, rfl, by decide +kernel, by decide +kernel⟩
abbrev s_is_integer : Stmt := top 11
theorem sc_is_integer : FnScope ["thing"] ["thing"] (defScope s_is_integer) := ⟨rfl, rfl, rfl, by decide +kernel, rfl, by decide +kernel, by decide +kernel⟩
abbrev s_is_between : Stmt := top 12
theorem sc_is_between : FnScope ["thing", "low", "high"] ["thing", "low", "high"] (defScope s_is_between) := ⟨rfl, rfl, rfl, by decide +kernel, rfl, by decide +kernel, by decide +kernel⟩
abbrev s_is_list : Stmt := top 13
theorem sc_is_list : FnScope ["thing"] ["thing"] (defScope s_is_list) := ⟨rfl, rfl, rfl, by decide +kernel, rfl, by decide +kernel, by decide +kernel⟩
abbrev s_is_word : Stmt := top 14
theorem sc_is_word : FnScope ["thing", "letter"] ["thing"] (defScope s_is_word) := ⟨rfl, rfl, rfl, by decide +kernel, rfl, by decide +kernel, by decide +kernel⟩
abbrev s_lists_of : Stmt := top 18
theorem sc_lists_of : FnScope ["row", "start"] ["row"] (defScope s_lists_of) := ⟨rfl, rfl, rfl, by decide +kernel, rfl, by decide +kernel, by decide +kernel⟩
abbrev s_frozen : Stmt := top 19
theorem sc_frozen : FnScope ["rows", "item"] ["rows"] (defScope s_frozen) := ⟨rfl, rfl, rfl, by decide +kernel, rfl, by decide +kernel, by decide +kernel⟩
abbrev s_row_size : Stmt := top 22
theorem sc_row_size : FnScope ["row", "rows"] ["row"] (defScope s_row_size) := ⟨rfl, rfl, rfl, by decide +kernel, rfl, by decide +kernel, by decide +kernel⟩
abbrev s_size : Stmt := top 23
theorem sc_size : FnScope ["rows", "row"] ["rows"] (defScope s_size) := ⟨rfl, rfl, rfl, by decide +kernel, rfl, by decide +kernel, by decide +kernel⟩
abbrev s_surely_waits : Stmt := top 24
theorem sc_surely_waits : FnScope ["rows", "row"] ["rows"] (defScope s_surely_waits) := ⟨rfl, rfl, rfl, by decide +kernel, rfl, by decide +kernel, by decide +kernel⟩
abbrev s_row_surely_waits : Stmt := top 25
theorem sc_row_surely_waits : FnScope ["row"] ["row"] (defScope s_row_surely_waits) := ⟨rfl, rfl, rfl, by decide +kernel, rfl, by decide +kernel, by decide +kernel⟩
abbrev s_check_program : Stmt := top 32
theorem sc_check_program : FnScope ["tasks", "counters", "late", "names", "name", "rows", "counter"] ["tasks", "counters", "late"] (defScope s_check_program) := ⟨rfl, rfl, rfl, by decide +kernel, rfl, by decide +kernel, by decide +kernel⟩
abbrev s_check_tasks : Stmt := top 33
theorem sc_check_tasks : FnScope ["tasks", "names", "index", "task"] ["tasks"] (defScope s_check_tasks) := ⟨rfl, rfl, rfl, by decide +kernel, rfl, by decide +kernel, by decide +kernel⟩
abbrev s_is_task : Stmt := top 34
theorem sc_is_task : FnScope ["task", "names"] ["task", "names"] (defScope s_is_task) := ⟨rfl, rfl, rfl, by decide +kernel, rfl, by decide +kernel, by decide +kernel⟩
abbrev s_check_counters : Stmt := top 35
theorem sc_check_counters : FnScope ["counters", "names", "index", "counter"] ["counters"] (defScope s_check_counters) := ⟨rfl, rfl, rfl, by decide +kernel, rfl, by decide +kernel, by decide +kernel⟩
abbrev s_is_counter : Stmt := top 36
theorem sc_is_counter : FnScope ["counter", "names", "name", "start", "room"] ["counter", "names"] (defScope s_is_counter) := ⟨rfl, rfl, rfl, by decide +kernel, rfl, by decide +kernel, by decide +kernel⟩
abbrev s_RowCheck_init : Stmt := inClass (top 37) 0
theorem sc_RowCheck_init : FnScope ["self", "name", "counter_names"] ["self", "name", "counter_names"] (defScope s_RowCheck_init) := ⟨rfl, rfl, rfl, by decide +kernel, rfl, by decide +kernel, by decide +kernel⟩
abbrev s_RowCheck_check : Stmt := inClass (top 37) 1
theorem sc_RowCheck_check : FnScope ["self", "rows", "guarded", "at", "row", "reason", "inner"] ["self", "rows", "guarded"] (defScope s_RowCheck_check) := ⟨rfl, rfl, rfl, by decide +kernel, rfl, by decide +kernel, by decide +kernel⟩
abbrev s_RowCheck_fault : Stmt := inClass (top 37) 2
theorem sc_RowCheck_fault : FnScope ["self", "row", "rows"] ["self", "row"] (defScope s_RowCheck_fault) := ⟨rfl, rfl, rfl, by decide +kernel, rfl, by decide +kernel, by decide +kernel⟩
abbrev s_is_row : Stmt := top 38
theorem sc_is_row : FnScope ["row"] ["row"] (defScope s_is_row) := ⟨rfl, rfl, rfl, by decide +kernel, rfl, by decide +kernel, by decide +kernel⟩
abbrev s_has_good_numbers : Stmt := top 39
theorem sc_has_good_numbers : FnScope ["row"] ["row"] (defScope s_has_good_numbers) := ⟨rfl, rfl, rfl, by decide +kernel, rfl, by decide +kernel, by decide +kernel⟩
abbrev s_check_waits : Stmt := top 40
theorem sc_check_waits : FnScope ["name", "rows", "place", "row", "inner"] ["name", "rows", "place"] (defScope s_check_waits) := ⟨rfl, rfl, rfl, by decide +kernel, rfl, by decide +kernel, by decide +kernel⟩
abbrev s_Plan_init : Stmt := inClass (top 43) 0
theorem sc_Plan_init : FnScope ["self", "name", "rows"] ["self", "name", "rows"] (defScope s_Plan_init) := ⟨rfl, rfl, rfl, by decide +kernel, rfl, by decide +kernel, by decide +kernel⟩
abbrev s_Plan_lay : Stmt := inClass (top 43) 1
theorem sc_Plan_lay : FnScope ["self", "rows", "behind", "guard", "place", "at", "row"] ["self", "rows", "behind", "guard"] (defScope s_Plan_lay) := ⟨rfl, rfl, rfl, by decide +kernel, rfl, by decide +kernel, by decide +kernel⟩
abbrev s_Plan_add : Stmt := inClass (top 43) 2
theorem sc_Plan_add : FnScope ["self", "row", "behind", "guard", "place"] ["self", "row", "behind", "guard"] (defScope s_Plan_add) := ⟨rfl, rfl, rfl, by decide +kernel, rfl, by decide +kernel, by decide +kernel⟩
abbrev s_first_places : Stmt := top 44
theorem sc_first_places : FnScope ["row", "place", "behind", "out", "rows"] ["row", "place", "behind"] (defScope s_first_places) := ⟨rfl, rfl, rfl, by decide +kernel, rfl, by decide +kernel, by decide +kernel⟩
abbrev s_Program_init : Stmt := inClass (top 46) 0
theorem sc_Program_init : FnScope ["self", "tasks", "counters", "late", "name", "rows"] ["self", "tasks", "counters", "late"] (defScope s_Program_init) := ⟨rfl, rfl, rfl, by decide +kernel, rfl, by decide +kernel, by decide +kernel⟩
abbrev s_Program_len : Stmt := inClass (top 46) 6
theorem sc_Program_len : FnScope ["self"] ["self"] (defScope s_Program_len) := ⟨rfl, rfl, rfl, by decide +kernel, rfl, by decide +kernel, by decide +kernel⟩
abbrev s_l_fresh : Stmt := top 48
theorem sc_l_fresh : FnScope ["_law_script"] ["_law_script"] (defScope s_l_fresh) := ⟨rfl, rfl, rfl, by decide +kernel, rfl, by decide +kernel, by decide +kernel⟩
abbrev s_l_fill : Stmt := top 49
theorem sc_l_fill : FnScope ["_law_state", "_law_cells", "_law_nth", "_law_seed", "_law_k", "_law_prime", "_law_far"] ["_law_state"] (defScope s_l_fill) := ⟨rfl, rfl, rfl, by decide +kernel, rfl, by decide +kernel, by decide +kernel⟩
abbrev s_l_take : Stmt := top 50
theorem sc_l_take : FnScope ["_law_state", "_law_many", "_law_laps", "_law_digit"] ["_law_state", "_law_many"] (defScope s_l_take) := ⟨rfl, rfl, rfl, by decide +kernel, rfl, by decide +kernel, by decide +kernel⟩
abbrev s_l_one : Stmt := top 51
theorem sc_l_one : FnScope ["_law_state", "_law_things"] ["_law_state", "_law_things"] (defScope s_l_one) := ⟨rfl, rfl, rfl, by decide +kernel, rfl, by decide +kernel, by decide +kernel⟩
abbrev s_l_mix : Stmt := top 52
theorem sc_l_mix : FnScope ["_law_state", "_law_things", "_law_left", "_law_found"] ["_law_state", "_law_things"] (defScope s_l_mix) := ⟨rfl, rfl, rfl, by decide +kernel, rfl, by decide +kernel, by decide +kernel⟩
abbrev s_l_same : Stmt := top 53
theorem sc_l_same : FnScope ["_law_found", "_law_due", "_law_a", "_law_b"] ["_law_found", "_law_due"] (defScope s_l_same) := ⟨rfl, rfl, rfl, by decide +kernel, rfl, by decide +kernel, by decide +kernel⟩
abbrev s_l_all_words : Stmt := top 54
theorem sc_l_all_words : FnScope ["_law_found", "_law_x", "_law_y"] [] (defScope s_l_all_words) := ⟨rfl, rfl, rfl, by decide +kernel, rfl, by decide +kernel, by decide +kernel⟩
abbrev s_l_some_words : Stmt := top 55
theorem sc_l_some_words : FnScope ["_law_state", "_law_many", "_law_left", "_law_found", "_law_k"] ["_law_state", "_law_many"] (defScope s_l_some_words) := ⟨rfl, rfl, rfl, by decide +kernel, rfl, by decide +kernel, by decide +kernel⟩
abbrev s_l_handed : Stmt := top 56
theorem sc_l_handed : FnScope ["_law_state", "_law_things"] ["_law_state", "_law_things"] (defScope s_l_handed) := ⟨rfl, rfl, rfl, by decide +kernel, rfl, by decide +kernel, by decide +kernel⟩
abbrev s_l_row : Stmt := top 57
theorem sc_l_row : FnScope ["_law_state", "_law_deep", "_law_tills", "_law_is_inside", "_law_way", "_law_lo", "_law_first", "_law_second"] ["_law_state", "_law_deep", "_law_tills", "_law_is_inside"] (defScope s_l_row) := ⟨rfl, rfl, rfl, by decide +kernel, rfl, by decide +kernel, by decide +kernel⟩
abbrev s_l_rows : Stmt := top 58
theorem sc_l_rows : FnScope ["_law_state", "_law_many", "_law_tills", "_law_k"] ["_law_state", "_law_many", "_law_tills"] (defScope s_l_rows) := ⟨rfl, rfl, rfl, by decide +kernel, rfl, by decide +kernel, by decide +kernel⟩
abbrev s_l_sheet : Stmt := top 59
theorem sc_l_sheet : FnScope ["_law_state", "_law_tills", "_law_rows_here", "_law_way", "_law_wait", "_law_inner_here", "_law_around", "_law_k"] ["_law_state", "_law_tills"] (defScope s_l_sheet) := ⟨rfl, rfl, rfl, by decide +kernel, rfl, by decide +kernel, by decide +kernel⟩
abbrev s_l_sheets : Stmt := top 60
theorem sc_l_sheets : FnScope ["_law_state", "_law_many", "_law_tills", "_law_names", "_law_name"] ["_law_state", "_law_many", "_law_tills"] (defScope s_l_sheets) := ⟨rfl, rfl, rfl, by decide +kernel, rfl, by decide +kernel, by decide +kernel⟩
abbrev s_l_some_tills : Stmt := top 61
theorem sc_l_some_tills : FnScope ["_law_state", "_law_found", "_law_name", "_law_room"] ["_law_state"] (defScope s_l_some_tills) := ⟨rfl, rfl, rfl, by decide +kernel, rfl, by decide +kernel, by decide +kernel⟩
abbrev s_l_is_number : Stmt := top 62
theorem sc_l_is_number : FnScope ["_law_x", "_law_least", "_law_top"] ["_law_x", "_law_least", "_law_top"] (defScope s_l_is_number) := ⟨rfl, rfl, rfl, by decide +kernel, rfl, by decide +kernel, by decide +kernel⟩
abbrev s_l_is_word : Stmt := top 63
theorem sc_l_is_word : FnScope ["_law_x", "_law_sign"] ["_law_x"] (defScope s_l_is_word) := ⟨rfl, rfl, rfl, by decide +kernel, rfl, by decide +kernel, by decide +kernel⟩
abbrev s_l_inner : Stmt := top 64
theorem sc_l_inner : FnScope ["_law_row_here"] ["_law_row_here"] (defScope s_l_inner) := ⟨rfl, rfl, rfl, by decide +kernel, rfl, by decide +kernel, by decide +kernel⟩
abbrev s_l_reason : Stmt := top 65
theorem sc_l_reason : FnScope ["_law_row_here", "_law_k", "_law_known", "_law_is_inside", "_law_is_last", "_law_sizes", "_law_x"] ["_law_row_here", "_law_k", "_law_known", "_law_is_inside", "_law_is_last"] (defScope s_l_reason) := ⟨rfl, rfl, rfl, by decide +kernel, rfl, by decide +kernel, by decide +kernel⟩
abbrev s_l_seek : Stmt := top 66
theorem sc_l_seek : FnScope ["_law_rows_here", "_law_k", "_law_known", "_law_is_inside", "_law_at", "_law_row_here", "_law_reason_here", "_law_part"] ["_law_rows_here", "_law_k", "_law_known", "_law_is_inside"] (defScope s_l_seek) := ⟨rfl, rfl, rfl, by decide +kernel, rfl, by decide +kernel, by decide +kernel⟩
abbrev s_l_surely : Stmt := top 67
theorem sc_l_surely : FnScope ["_law_rows_here", "_law_row_here", "_law_parts", "_law_x"] ["_law_rows_here"] (defScope s_l_surely) := ⟨rfl, rfl, rfl, by decide +kernel, rfl, by decide +kernel, by decide +kernel⟩
abbrev s_l_hurried : Stmt := top 68
theorem sc_l_hurried : FnScope ["_law_rows_here", "_law_k", "_law_row_here", "_law_part", "_law_is_found"] ["_law_rows_here", "_law_k"] (defScope s_l_hurried) := ⟨rfl, rfl, rfl, by decide +kernel, rfl, by decide +kernel, by decide +kernel⟩
abbrev s_l_row_due : Stmt := top 69
theorem sc_l_row_due : FnScope ["_law_tasks", "_law_known", "_law_name", "_law_rows_here", "_law_k", "_law_reason_here", "_law_is_found"] ["_law_tasks", "_law_known"] (defScope s_l_row_due) := ⟨rfl, rfl, rfl, by decide +kernel, rfl, by decide +kernel, by decide +kernel⟩
abbrev s_l_odd_row : Stmt := top 70
theorem sc_l_odd_row : FnScope ["_law_state", "_law_some"] ["_law_state"] (defScope s_l_odd_row) := ⟨rfl, rfl, rfl, by decide +kernel, rfl, by decide +kernel, by decide +kernel⟩
abbrev s_l_bent : Stmt := top 71
theorem sc_l_bent : FnScope ["_law_state", "_law_rows_here", "_law_found", "_law_at", "_law_row_here", "_law_spot", "_law_place"] ["_law_state", "_law_rows_here"] (defScope s_l_bent) := ⟨rfl, rfl, rfl, by decide +kernel, rfl, by decide +kernel, by decide +kernel⟩
abbrev s_l_tried : Stmt := top 72
theorem sc_l_tried : FnScope ["_law_tasks", "_law_tills", "_law_lag", "_law_found", "e"] ["_law_tasks", "_law_tills", "_law_lag"] (defScope s_l_tried) := ⟨rfl, rfl, rfl, by decide +kernel, rfl, by decide +kernel, by decide +kernel⟩
abbrev s_l_task_due : Stmt := top 73
theorem sc_l_task_due : FnScope ["_law_things", "_law_names", "_law_k", "_law_x", "_law_is_pair"] ["_law_things"] (defScope s_l_task_due) := ⟨rfl, rfl, rfl, by decide +kernel, rfl, by decide +kernel, by decide +kernel⟩
abbrev s_l_till_due : Stmt := top 74
theorem sc_l_till_due : FnScope ["_law_things", "_law_names", "_law_k", "_law_x", "_law_is_right"] ["_law_things"] (defScope s_l_till_due) := ⟨rfl, rfl, rfl, by decide +kernel, rfl, by decide +kernel, by decide +kernel⟩
abbrev s_l_with_odd : Stmt := top 75
theorem sc_l_with_odd : FnScope ["_law_state", "_law_things", "_law_odd", "_law_found"] ["_law_state", "_law_things", "_law_odd"] (defScope s_l_with_odd) := ⟨rfl, rfl, rfl, by decide +kernel, rfl, by decide +kernel, by decide +kernel⟩
abbrev s_law : Stmt := top 76
theorem sc_law : FnScope ["_law_script", "_law_state", "_law_turn", "_law_tills", "_law_sheets_here", "_law_name", "_law_spoilt", "_law_tasks", "_law_odd", "_law_some", "_law_lag", "_law_due", "_law_passed", "_law_bare", "_law_found", "_law_x"] ["_law_script"] (defScope s_law) := ⟨rfl, rfl, rfl, by decide +kernel, rfl, by decide +kernel, by decide +kernel⟩
def d_BadTask_init : He.DefD := ⟨("BadTask", some "__init__"), "__init__", "BadTask.__init__", defArgs s_BadTask_init, defBody s_BadTask_init, defScope s_BadTask_init, [], []⟩
def d_BadCounter_init : He.DefD := ⟨("BadCounter", some "__init__"), "__init__", "BadCounter.__init__", defArgs s_BadCounter_init, defBody s_BadCounter_init, defScope s_BadCounter_init, [], []⟩
def d_BadLate_init : He.DefD := ⟨("BadLate", some "__init__"), "__init__", "BadLate.__init__", defArgs s_BadLate_init, defBody s_BadLate_init, defScope s_BadLate_init, [], []⟩
def d_BadRow_init : He.DefD := ⟨("BadRow", some "__init__"), "__init__", "BadRow.__init__", defArgs s_BadRow_init, defBody s_BadRow_init, defScope s_BadRow_init, [], []⟩
def d_is_integer : He.DefD := ⟨("is_integer", none), "is_integer", "is_integer", defArgs s_is_integer, defBody s_is_integer, defScope s_is_integer, [], []⟩
def d_is_between : He.DefD := ⟨("is_between", none), "is_between", "is_between", defArgs s_is_between, defBody s_is_between, defScope s_is_between, [], []⟩
def d_is_list : He.DefD := ⟨("is_list", none), "is_list", "is_list", defArgs s_is_list, defBody s_is_list, defScope s_is_list, [], []⟩
def d_is_word : He.DefD := ⟨("is_word", none), "is_word", "is_word", defArgs s_is_word, defBody s_is_word, defScope s_is_word, [], []⟩
def d_lists_of : He.DefD := ⟨("lists_of", none), "lists_of", "lists_of", defArgs s_lists_of, defBody s_lists_of, defScope s_lists_of, [], []⟩
def d_frozen : He.DefD := ⟨("frozen", none), "frozen", "frozen", defArgs s_frozen, defBody s_frozen, defScope s_frozen, [], []⟩
def d_row_size : He.DefD := ⟨("row_size", none), "row_size", "row_size", defArgs s_row_size, defBody s_row_size, defScope s_row_size, [], []⟩
def d_size : He.DefD := ⟨("size", none), "size", "size", defArgs s_size, defBody s_size, defScope s_size, [], []⟩
def d_surely_waits : He.DefD := ⟨("surely_waits", none), "surely_waits", "surely_waits", defArgs s_surely_waits, defBody s_surely_waits, defScope s_surely_waits, [], []⟩
def d_row_surely_waits : He.DefD := ⟨("_row_surely_waits", none), "_row_surely_waits", "_row_surely_waits", defArgs s_row_surely_waits, defBody s_row_surely_waits, defScope s_row_surely_waits, [], []⟩
def d_check_program : He.DefD := ⟨("check_program", none), "check_program", "check_program", defArgs s_check_program, defBody s_check_program, defScope s_check_program, [], []⟩
def d_check_tasks : He.DefD := ⟨("_check_tasks", none), "_check_tasks", "_check_tasks", defArgs s_check_tasks, defBody s_check_tasks, defScope s_check_tasks, [], []⟩
def d_is_task : He.DefD := ⟨("_is_task", none), "_is_task", "_is_task", defArgs s_is_task, defBody s_is_task, defScope s_is_task, [], []⟩
def d_check_counters : He.DefD := ⟨("_check_counters", none), "_check_counters", "_check_counters", defArgs s_check_counters, defBody s_check_counters, defScope s_check_counters, [], []⟩
def d_is_counter : He.DefD := ⟨("_is_counter", none), "_is_counter", "_is_counter", defArgs s_is_counter, defBody s_is_counter, defScope s_is_counter, [], []⟩
def d_RowCheck_init : He.DefD := ⟨("RowCheck", some "__init__"), "__init__", "RowCheck.__init__", defArgs s_RowCheck_init, defBody s_RowCheck_init, defScope s_RowCheck_init, [], []⟩
def d_RowCheck_check : He.DefD := ⟨("RowCheck", some "check"), "check", "RowCheck.check", defArgs s_RowCheck_check, defBody s_RowCheck_check, defScope s_RowCheck_check, [], []⟩
def d_RowCheck_fault : He.DefD := ⟨("RowCheck", some "_fault"), "_fault", "RowCheck._fault", defArgs s_RowCheck_fault, defBody s_RowCheck_fault, defScope s_RowCheck_fault, [], []⟩
def d_is_row : He.DefD := ⟨("_is_row", none), "_is_row", "_is_row", defArgs s_is_row, defBody s_is_row, defScope s_is_row, [], []⟩
def d_has_good_numbers : He.DefD := ⟨("_has_good_numbers", none), "_has_good_numbers", "_has_good_numbers", defArgs s_has_good_numbers, defBody s_has_good_numbers, defScope s_has_good_numbers, [], []⟩
def d_check_waits : He.DefD := ⟨("_check_waits", none), "_check_waits", "_check_waits", defArgs s_check_waits, defBody s_check_waits, defScope s_check_waits, [], []⟩
def d_Plan_init : He.DefD := ⟨("Plan", some "__init__"), "__init__", "Plan.__init__", defArgs s_Plan_init, defBody s_Plan_init, defScope s_Plan_init, [], []⟩
def d_Plan_lay : He.DefD := ⟨("Plan", some "_lay"), "_lay", "Plan._lay", defArgs s_Plan_lay, defBody s_Plan_lay, defScope s_Plan_lay, [], []⟩
def d_Plan_add : He.DefD := ⟨("Plan", some "_add"), "_add", "Plan._add", defArgs s_Plan_add, defBody s_Plan_add, defScope s_Plan_add, [], []⟩
def d_first_places : He.DefD := ⟨("_first_places", none), "_first_places", "_first_places", defArgs s_first_places, defBody s_first_places, defScope s_first_places, [], []⟩
def d_Program_init : He.DefD := ⟨("Program", some "__init__"), "__init__", "Program.__init__", defArgs s_Program_init, defBody s_Program_init, defScope s_Program_init, [.adr (He.dflAt ("Program", some "__init__") 0)], [("late", .int 0)]⟩
def d_Program_len : He.DefD := ⟨("Program", some "__len__"), "__len__", "Program.__len__", defArgs s_Program_len, defBody s_Program_len, defScope s_Program_len, [], []⟩
def d_l_fresh : He.DefD := ⟨("_law_fresh", none), "_law_fresh", "_law_fresh", defArgs s_l_fresh, defBody s_l_fresh, defScope s_l_fresh, [], []⟩
def d_l_fill : He.DefD := ⟨("_law_fill", none), "_law_fill", "_law_fill", defArgs s_l_fill, defBody s_l_fill, defScope s_l_fill, [], []⟩
def d_l_take : He.DefD := ⟨("_law_take", none), "_law_take", "_law_take", defArgs s_l_take, defBody s_l_take, defScope s_l_take, [], []⟩
def d_l_one : He.DefD := ⟨("_law_one", none), "_law_one", "_law_one", defArgs s_l_one, defBody s_l_one, defScope s_l_one, [], []⟩
def d_l_mix : He.DefD := ⟨("_law_mix", none), "_law_mix", "_law_mix", defArgs s_l_mix, defBody s_l_mix, defScope s_l_mix, [], []⟩
def d_l_same : He.DefD := ⟨("_law_same", none), "_law_same", "_law_same", defArgs s_l_same, defBody s_l_same, defScope s_l_same, [], []⟩
def d_l_all_words : He.DefD := ⟨("_law_all_words", none), "_law_all_words", "_law_all_words", defArgs s_l_all_words, defBody s_l_all_words, defScope s_l_all_words, [], []⟩
def d_l_some_words : He.DefD := ⟨("_law_some_words", none), "_law_some_words", "_law_some_words", defArgs s_l_some_words, defBody s_l_some_words, defScope s_l_some_words, [], []⟩
def d_l_handed : He.DefD := ⟨("_law_handed", none), "_law_handed", "_law_handed", defArgs s_l_handed, defBody s_l_handed, defScope s_l_handed, [], []⟩
def d_l_row : He.DefD := ⟨("_law_row", none), "_law_row", "_law_row", defArgs s_l_row, defBody s_l_row, defScope s_l_row, [], []⟩
def d_l_rows : He.DefD := ⟨("_law_rows", none), "_law_rows", "_law_rows", defArgs s_l_rows, defBody s_l_rows, defScope s_l_rows, [], []⟩
def d_l_sheet : He.DefD := ⟨("_law_sheet", none), "_law_sheet", "_law_sheet", defArgs s_l_sheet, defBody s_l_sheet, defScope s_l_sheet, [], []⟩
def d_l_sheets : He.DefD := ⟨("_law_sheets", none), "_law_sheets", "_law_sheets", defArgs s_l_sheets, defBody s_l_sheets, defScope s_l_sheets, [], []⟩
def d_l_some_tills : He.DefD := ⟨("_law_some_tills", none), "_law_some_tills", "_law_some_tills", defArgs s_l_some_tills, defBody s_l_some_tills, defScope s_l_some_tills, [], []⟩
def d_l_is_number : He.DefD := ⟨("_law_is_number", none), "_law_is_number", "_law_is_number", defArgs s_l_is_number, defBody s_l_is_number, defScope s_l_is_number, [], []⟩
def d_l_is_word : He.DefD := ⟨("_law_is_word", none), "_law_is_word", "_law_is_word", defArgs s_l_is_word, defBody s_l_is_word, defScope s_l_is_word, [], []⟩
def d_l_inner : He.DefD := ⟨("_law_inner", none), "_law_inner", "_law_inner", defArgs s_l_inner, defBody s_l_inner, defScope s_l_inner, [], []⟩
def d_l_reason : He.DefD := ⟨("_law_reason", none), "_law_reason", "_law_reason", defArgs s_l_reason, defBody s_l_reason, defScope s_l_reason, [], []⟩
def d_l_seek : He.DefD := ⟨("_law_seek", none), "_law_seek", "_law_seek", defArgs s_l_seek, defBody s_l_seek, defScope s_l_seek, [], []⟩
def d_l_surely : He.DefD := ⟨("_law_surely", none), "_law_surely", "_law_surely", defArgs s_l_surely, defBody s_l_surely, defScope s_l_surely, [], []⟩
def d_l_hurried : He.DefD := ⟨("_law_hurried", none), "_law_hurried", "_law_hurried", defArgs s_l_hurried, defBody s_l_hurried, defScope s_l_hurried, [], []⟩
def d_l_row_due : He.DefD := ⟨("_law_row_due", none), "_law_row_due", "_law_row_due", defArgs s_l_row_due, defBody s_l_row_due, defScope s_l_row_due, [], []⟩
def d_l_odd_row : He.DefD := ⟨("_law_odd_row", none), "_law_odd_row", "_law_odd_row", defArgs s_l_odd_row, defBody s_l_odd_row, defScope s_l_odd_row, [], []⟩
def d_l_bent : He.DefD := ⟨("_law_bent", none), "_law_bent", "_law_bent", defArgs s_l_bent, defBody s_l_bent, defScope s_l_bent, [], []⟩
def d_l_tried : He.DefD := ⟨("_law_tried", none), "_law_tried", "_law_tried", defArgs s_l_tried, defBody s_l_tried, defScope s_l_tried, [], []⟩
def d_l_task_due : He.DefD := ⟨("_law_task_due", none), "_law_task_due", "_law_task_due", defArgs s_l_task_due, defBody s_l_task_due, defScope s_l_task_due, [], []⟩
def d_l_till_due : He.DefD := ⟨("_law_till_due", none), "_law_till_due", "_law_till_due", defArgs s_l_till_due, defBody s_l_till_due, defScope s_l_till_due, [], []⟩
def d_l_with_odd : He.DefD := ⟨("_law_with_odd", none), "_law_with_odd", "_law_with_odd", defArgs s_l_with_odd, defBody s_l_with_odd, defScope s_l_with_odd, [], []⟩
def d_law : He.DefD := ⟨("law", none), "law", "law", defArgs s_law, defBody s_law, defScope s_law, [], []⟩
def fn : List He.DefD := [d_BadTask_init, d_BadCounter_init, d_BadLate_init, d_BadRow_init, d_is_integer, d_is_between, d_is_list, d_is_word, d_lists_of, d_frozen, d_row_size, d_size, d_surely_waits, d_row_surely_waits, d_check_program, d_check_tasks, d_is_task, d_check_counters, d_is_counter, d_RowCheck_init, d_RowCheck_check, d_RowCheck_fault, d_is_row, d_has_good_numbers, d_check_waits, d_Plan_init, d_Plan_lay, d_Plan_add, d_first_places, d_Program_init, d_Program_len, d_l_fresh, d_l_fill, d_l_take, d_l_one, d_l_mix, d_l_same, d_l_all_words, d_l_some_words, d_l_handed, d_l_row, d_l_rows, d_l_sheet, d_l_sheets, d_l_some_tills, d_l_is_number, d_l_is_word, d_l_inner, d_l_reason, d_l_seek, d_l_surely, d_l_hurried, d_l_row_due, d_l_odd_row, d_l_bent, d_l_tried, d_l_task_due, d_l_till_due, d_l_with_odd, d_law]
def tf : List He.Defn := []
def ts : List He.Tab := [(fun K => He.ga K "SIZES", ["work", "say", "pass", "sleep", "take", "give", "either", "ever", "within"]), (fun K => He.ga K "LISTS_FROM", ["either", "ever", "within"])]
def sn : List He.DefD := []
def fa : List He.Fa := [.glo "is_integer",
  .glo "is_between",
  .glo "is_list",
  .glo "is_word",
  .glo "lists_of",
  .glo "frozen",
  .glo "row_size",
  .glo "size",
  .glo "surely_waits",
  .glo "_row_surely_waits",
  .glo "check_program",
  .glo "_check_tasks",
  .glo "_is_task",
  .glo "_check_counters",
  .glo "_is_counter",
  .meth "RowCheck" "check",
  .meth "RowCheck" "_fault",
  .glo "_is_row",
  .glo "_has_good_numbers",
  .glo "_check_waits",
  .meth "Plan" "_lay",
  .meth "Plan" "_add",
  .glo "_first_places",
  .meth "Program" "__len__",
  .glo "_law_fresh",
  .glo "_law_fill",
  .glo "_law_take",
  .glo "_law_one",
  .glo "_law_mix",
  .glo "_law_same",
  .glo "_law_all_words",
  .glo "_law_some_words",
  .glo "_law_handed",
  .glo "_law_row",
  .glo "_law_rows",
  .glo "_law_sheet",
  .glo "_law_sheets",
  .glo "_law_some_tills",
  .glo "_law_is_number",
  .glo "_law_is_word",
  .glo "_law_inner",
  .glo "_law_reason",
  .glo "_law_seek",
  .glo "_law_surely",
  .glo "_law_hurried",
  .glo "_law_row_due",
  .glo "_law_odd_row",
  .glo "_law_bent",
  .glo "_law_tried",
  .glo "_law_task_due",
  .glo "_law_till_due",
  .glo "_law_with_odd",
  .glo "law",
  .free "len",
  .free "int",
  .free "range",
  .free "enumerate",
  .free "isinstance",
  .free "all",
  .free "any",
  .free "sum",
  .free "zip",
  .free "bool",
  .free "list",
  .free "tuple",
  .free "str",
  .glo "RowCheck",
  .cls "RowCheck",
  .mkr "RowCheck",
  .glo "Plan",
  .cls "Plan",
  .mkr "Plan",
  .glo "Program",
  .cls "Program",
  .mkr "Program",
  .glo "BadTask",
  .noat "BadTask" "index",
  .glo "BadCounter",
  .noat "BadCounter" "index",
  .glo "BadLate",
  .noat "BadLate" "late",
  .glo "BadRow",
  .noat "BadRow" "task",
  .noat "BadRow" "place",
  .noat "BadRow" "reason",
  .str "LETTERS" "abcdefghijklmnopqrstuvwxyz",
  .glo "SIZES",
  .glo "LISTS_FROM",
  .int "MOST_TASKS" (3),
  .int "MOST_COUNTERS" (2),
  .int "MOST_ROWS" (12),
  .int "MOST_ROOM" (9),
  .int "MOST_TIME" (99),
  .int "UNGUARDED" (-1),
  .noat "RowCheck" "name",
  .noat "RowCheck" "counter_names",
  .noat "RowCheck" "place",
  .noat "Plan" "name",
  .noat "Plan" "rows",
  .noat "Plan" "end",
  .noat "Plan" "flat",
  .noat "Plan" "behinds",
  .noat "Plan" "firsts",
  .noat "Plan" "guards",
  .noat "Program" "late",
  .noat "Program" "plans",
  .noat "Program" "_counters"]
def fs : List (PySem.W.Frag → Bool) := [(fun K => Lt.insTB K (He.ga K "Program")),
  (fun K => decide (PySem.W.exmOne K (.ref (He.ga K "BadCounter")) (.ref (He.ga K "BadTask")) = some false)),
  (fun K => decide (PySem.W.exmOne K (.ref (He.ga K "BadLate")) (.ref (He.ga K "BadTask")) = some false)),
  (fun K => decide (PySem.W.exmOne K (.ref (He.ga K "BadLate")) (.ref (He.ga K "BadCounter")) = some false)),
  (fun K => decide (PySem.W.exmOne K (.ref (He.ga K "BadRow")) (.ref (He.ga K "BadTask")) = some false)),
  (fun K => decide (PySem.W.exmOne K (.ref (He.ga K "BadRow")) (.ref (He.ga K "BadCounter")) = some false)),
  (fun K => decide (PySem.W.exmOne K (.ref (He.ga K "BadRow")) (.ref (He.ga K "BadLate")) = some false)),
  (fun K => He.valsB K (He.ga K "SIZES") [("work", .int 3), ("say", .int 2), ("pass", .int 1), ("sleep", .int 2), ("take", .int 2), ("give", .int 2), ("either", .int 3), ("ever", .int 2), ("within", .int 4)]),
  (fun K => He.valsB K (He.ga K "LISTS_FROM") [("either", .int 1), ("ever", .int 1), ("within", .int 2)]),
  (fun K => (["work", "say", "pass", "sleep", "take", "give"] : List Str).all fun z => He.eqO (PySem.W.nsIn K (He.ga K "LISTS_FROM") z) (some none)),
  (fun K => Lt.keysB K (He.ga K "SIZES") ["work", "say", "pass", "sleep", "take", "give", "either", "ever", "within"]),
  (fun K => Lt.keysB K (He.ga K "LISTS_FROM") ["either", "ever", "within"]),
  (fun K => Lt.exKB K "BadTask"),
  (fun K => Lt.exKB K "BadCounter"),
  (fun K => Lt.exKB K "BadLate"),
  (fun K => Lt.exKB K "BadRow")]
structure TxtD (K : PySem.W.Frag) (w : World) : Prop where
  kd_SIZES : ∃ es n, KDict K w (He.ga K "SIZES") es n
  kd_LISTS_FROM : ∃ es n, KDict K w (He.ga K "LISTS_FROM") es n
theorem txtD_of {K : PySem.W.Frag} {w : World} (c : He.SaysT fa fn ts w K) : Nonempty (PLift (TxtD K w)) := ⟨⟨⟨c.tab 0, c.tab 1⟩⟩⟩
structure Txt (K : PySem.W.Frag) (mg : Str → Option Value) where
  fd_BadTask_init : FuncData
  F_BadTask_init : FunD K "__init__" "BadTask.__init__" (defArgs s_BadTask_init) (defBody s_BadTask_init) (defScope s_BadTask_init) [] [] (He.fAd K ("BadTask", some "__init__")) fd_BadTask_init
  fd_BadCounter_init : FuncData
  F_BadCounter_init : FunD K "__init__" "BadCounter.__init__" (defArgs s_BadCounter_init) (defBody s_BadCounter_init) (defScope s_BadCounter_init) [] [] (He.fAd K ("BadCounter", some "__init__")) fd_BadCounter_init
  fd_BadLate_init : FuncData
  F_BadLate_init : FunD K "__init__" "BadLate.__init__" (defArgs s_BadLate_init) (defBody s_BadLate_init) (defScope s_BadLate_init) [] [] (He.fAd K ("BadLate", some "__init__")) fd_BadLate_init
  fd_BadRow_init : FuncData
  F_BadRow_init : FunD K "__init__" "BadRow.__init__" (defArgs s_BadRow_init) (defBody s_BadRow_init) (defScope s_BadRow_init) [] [] (He.fAd K ("BadRow", some "__init__")) fd_BadRow_init
  fd_is_integer : FuncData
  F_is_integer : FunD K "is_integer" "is_integer" (defArgs s_is_integer) (defBody s_is_integer) (defScope s_is_integer) [] [] (He.fAd K ("is_integer", none)) fd_is_integer
  g_is_integer : mg "is_integer" = some (.ref (He.fAd K ("is_integer", none)))
  fd_is_between : FuncData
  F_is_between : FunD K "is_between" "is_between" (defArgs s_is_between) (defBody s_is_between) (defScope s_is_between) [] [] (He.fAd K ("is_between", none)) fd_is_between
  g_is_between : mg "is_between" = some (.ref (He.fAd K ("is_between", none)))
  fd_is_list : FuncData
  F_is_list : FunD K "is_list" "is_list" (defArgs s_is_list) (defBody s_is_list) (defScope s_is_list) [] [] (He.fAd K ("is_list", none)) fd_is_list
  g_is_list : mg "is_list" = some (.ref (He.fAd K ("is_list", none)))
  fd_is_word : FuncData
  F_is_word : FunD K "is_word" "is_word" (defArgs s_is_word) (defBody s_is_word) (defScope s_is_word) [] [] (He.fAd K ("is_word", none)) fd_is_word
  g_is_word : mg "is_word" = some (.ref (He.fAd K ("is_word", none)))
  fd_lists_of : FuncData
  F_lists_of : FunD K "lists_of" "lists_of" (defArgs s_lists_of) (defBody s_lists_of) (defScope s_lists_of) [] [] (He.fAd K ("lists_of", none)) fd_lists_of
  g_lists_of : mg "lists_of" = some (.ref (He.fAd K ("lists_of", none)))
  fd_frozen : FuncData
  F_frozen : FunD K "frozen" "frozen" (defArgs s_frozen) (defBody s_frozen) (defScope s_frozen) [] [] (He.fAd K ("frozen", none)) fd_frozen
  g_frozen : mg "frozen" = some (.ref (He.fAd K ("frozen", none)))
  fd_row_size : FuncData
  F_row_size : FunD K "row_size" "row_size" (defArgs s_row_size) (defBody s_row_size) (defScope s_row_size) [] [] (He.fAd K ("row_size", none)) fd_row_size
  g_row_size : mg "row_size" = some (.ref (He.fAd K ("row_size", none)))
  fd_size : FuncData
  F_size : FunD K "size" "size" (defArgs s_size) (defBody s_size) (defScope s_size) [] [] (He.fAd K ("size", none)) fd_size
  g_size : mg "size" = some (.ref (He.fAd K ("size", none)))
  fd_surely_waits : FuncData
  F_surely_waits : FunD K "surely_waits" "surely_waits" (defArgs s_surely_waits) (defBody s_surely_waits) (defScope s_surely_waits) [] [] (He.fAd K ("surely_waits", none)) fd_surely_waits
  g_surely_waits : mg "surely_waits" = some (.ref (He.fAd K ("surely_waits", none)))
  fd_row_surely_waits : FuncData
  F_row_surely_waits : FunD K "_row_surely_waits" "_row_surely_waits" (defArgs s_row_surely_waits) (defBody s_row_surely_waits) (defScope s_row_surely_waits) [] [] (He.fAd K ("_row_surely_waits", none)) fd_row_surely_waits
  g_row_surely_waits : mg "_row_surely_waits" = some (.ref (He.fAd K ("_row_surely_waits", none)))
  fd_check_program : FuncData
  F_check_program : FunD K "check_program" "check_program" (defArgs s_check_program) (defBody s_check_program) (defScope s_check_program) [] [] (He.fAd K ("check_program", none)) fd_check_program
  g_check_program : mg "check_program" = some (.ref (He.fAd K ("check_program", none)))
  fd_check_tasks : FuncData
  F_check_tasks : FunD K "_check_tasks" "_check_tasks" (defArgs s_check_tasks) (defBody s_check_tasks) (defScope s_check_tasks) [] [] (He.fAd K ("_check_tasks", none)) fd_check_tasks
  g_check_tasks : mg "_check_tasks" = some (.ref (He.fAd K ("_check_tasks", none)))
  fd_is_task : FuncData
  F_is_task : FunD K "_is_task" "_is_task" (defArgs s_is_task) (defBody s_is_task) (defScope s_is_task) [] [] (He.fAd K ("_is_task", none)) fd_is_task
  g_is_task : mg "_is_task" = some (.ref (He.fAd K ("_is_task", none)))
  fd_check_counters : FuncData
  F_check_counters : FunD K "_check_counters" "_check_counters" (defArgs s_check_counters) (defBody s_check_counters) (defScope s_check_counters) [] [] (He.fAd K ("_check_counters", none)) fd_check_counters
  g_check_counters : mg "_check_counters" = some (.ref (He.fAd K ("_check_counters", none)))
  fd_is_counter : FuncData
  F_is_counter : FunD K "_is_counter" "_is_counter" (defArgs s_is_counter) (defBody s_is_counter) (defScope s_is_counter) [] [] (He.fAd K ("_is_counter", none)) fd_is_counter
  g_is_counter : mg "_is_counter" = some (.ref (He.fAd K ("_is_counter", none)))
  fd_RowCheck_init : FuncData
  F_RowCheck_init : FunD K "__init__" "RowCheck.__init__" (defArgs s_RowCheck_init) (defBody s_RowCheck_init) (defScope s_RowCheck_init) [] [] (He.fAd K ("RowCheck", some "__init__")) fd_RowCheck_init
  fd_RowCheck_check : FuncData
  F_RowCheck_check : FunD K "check" "RowCheck.check" (defArgs s_RowCheck_check) (defBody s_RowCheck_check) (defScope s_RowCheck_check) [] [] (He.fAd K ("RowCheck", some "check")) fd_RowCheck_check
  m_RowCheck_check : Meth K (He.ga K "RowCheck") "check" (He.fAd K ("RowCheck", some "check"))
  fd_RowCheck_fault : FuncData
  F_RowCheck_fault : FunD K "_fault" "RowCheck._fault" (defArgs s_RowCheck_fault) (defBody s_RowCheck_fault) (defScope s_RowCheck_fault) [] [] (He.fAd K ("RowCheck", some "_fault")) fd_RowCheck_fault
  m_RowCheck_fault : Meth K (He.ga K "RowCheck") "_fault" (He.fAd K ("RowCheck", some "_fault"))
  fd_is_row : FuncData
  F_is_row : FunD K "_is_row" "_is_row" (defArgs s_is_row) (defBody s_is_row) (defScope s_is_row) [] [] (He.fAd K ("_is_row", none)) fd_is_row
  g_is_row : mg "_is_row" = some (.ref (He.fAd K ("_is_row", none)))
  fd_has_good_numbers : FuncData
  F_has_good_numbers : FunD K "_has_good_numbers" "_has_good_numbers" (defArgs s_has_good_numbers) (defBody s_has_good_numbers) (defScope s_has_good_numbers) [] [] (He.fAd K ("_has_good_numbers", none)) fd_has_good_numbers
  g_has_good_numbers : mg "_has_good_numbers" = some (.ref (He.fAd K ("_has_good_numbers", none)))
  fd_check_waits : FuncData
  F_check_waits : FunD K "_check_waits" "_check_waits" (defArgs s_check_waits) (defBody s_check_waits) (defScope s_check_waits) [] [] (He.fAd K ("_check_waits", none)) fd_check_waits
  g_check_waits : mg "_check_waits" = some (.ref (He.fAd K ("_check_waits", none)))
  fd_Plan_init : FuncData
  F_Plan_init : FunD K "__init__" "Plan.__init__" (defArgs s_Plan_init) (defBody s_Plan_init) (defScope s_Plan_init) [] [] (He.fAd K ("Plan", some "__init__")) fd_Plan_init
  fd_Plan_lay : FuncData
  F_Plan_lay : FunD K "_lay" "Plan._lay" (defArgs s_Plan_lay) (defBody s_Plan_lay) (defScope s_Plan_lay) [] [] (He.fAd K ("Plan", some "_lay")) fd_Plan_lay
  m_Plan_lay : Meth K (He.ga K "Plan") "_lay" (He.fAd K ("Plan", some "_lay"))
  fd_Plan_add : FuncData
  F_Plan_add : FunD K "_add" "Plan._add" (defArgs s_Plan_add) (defBody s_Plan_add) (defScope s_Plan_add) [] [] (He.fAd K ("Plan", some "_add")) fd_Plan_add
  m_Plan_add : Meth K (He.ga K "Plan") "_add" (He.fAd K ("Plan", some "_add"))
  fd_first_places : FuncData
  F_first_places : FunD K "_first_places" "_first_places" (defArgs s_first_places) (defBody s_first_places) (defScope s_first_places) [] [] (He.fAd K ("_first_places", none)) fd_first_places
  g_first_places : mg "_first_places" = some (.ref (He.fAd K ("_first_places", none)))
  fd_Program_init : FuncData
  F_Program_init : FunD K "__init__" "Program.__init__" (defArgs s_Program_init) (defBody s_Program_init) (defScope s_Program_init) [.ref (He.dflAt ("Program", some "__init__") 0 K)] [("late", .int 0)] (He.fAd K ("Program", some "__init__")) fd_Program_init
  fd_Program_len : FuncData
  F_Program_len : FunD K "__len__" "Program.__len__" (defArgs s_Program_len) (defBody s_Program_len) (defScope s_Program_len) [] [] (He.fAd K ("Program", some "__len__")) fd_Program_len
  m_Program_len : Meth K (He.ga K "Program") "__len__" (He.fAd K ("Program", some "__len__"))
  fd_l_fresh : FuncData
  F_l_fresh : FunD K "_law_fresh" "_law_fresh" (defArgs s_l_fresh) (defBody s_l_fresh) (defScope s_l_fresh) [] [] (He.fAd K ("_law_fresh", none)) fd_l_fresh
  g_l_fresh : mg "_law_fresh" = some (.ref (He.fAd K ("_law_fresh", none)))
  fd_l_fill : FuncData
  F_l_fill : FunD K "_law_fill" "_law_fill" (defArgs s_l_fill) (defBody s_l_fill) (defScope s_l_fill) [] [] (He.fAd K ("_law_fill", none)) fd_l_fill
  g_l_fill : mg "_law_fill" = some (.ref (He.fAd K ("_law_fill", none)))
  fd_l_take : FuncData
  F_l_take : FunD K "_law_take" "_law_take" (defArgs s_l_take) (defBody s_l_take) (defScope s_l_take) [] [] (He.fAd K ("_law_take", none)) fd_l_take
  g_l_take : mg "_law_take" = some (.ref (He.fAd K ("_law_take", none)))
  fd_l_one : FuncData
  F_l_one : FunD K "_law_one" "_law_one" (defArgs s_l_one) (defBody s_l_one) (defScope s_l_one) [] [] (He.fAd K ("_law_one", none)) fd_l_one
  g_l_one : mg "_law_one" = some (.ref (He.fAd K ("_law_one", none)))
  fd_l_mix : FuncData
  F_l_mix : FunD K "_law_mix" "_law_mix" (defArgs s_l_mix) (defBody s_l_mix) (defScope s_l_mix) [] [] (He.fAd K ("_law_mix", none)) fd_l_mix
  g_l_mix : mg "_law_mix" = some (.ref (He.fAd K ("_law_mix", none)))
  fd_l_same : FuncData
  F_l_same : FunD K "_law_same" "_law_same" (defArgs s_l_same) (defBody s_l_same) (defScope s_l_same) [] [] (He.fAd K ("_law_same", none)) fd_l_same
  g_l_same : mg "_law_same" = some (.ref (He.fAd K ("_law_same", none)))
  fd_l_all_words : FuncData
  F_l_all_words : FunD K "_law_all_words" "_law_all_words" (defArgs s_l_all_words) (defBody s_l_all_words) (defScope s_l_all_words) [] [] (He.fAd K ("_law_all_words", none)) fd_l_all_words
  g_l_all_words : mg "_law_all_words" = some (.ref (He.fAd K ("_law_all_words", none)))
  fd_l_some_words : FuncData
  F_l_some_words : FunD K "_law_some_words" "_law_some_words" (defArgs s_l_some_words) (defBody s_l_some_words) (defScope s_l_some_words) [] [] (He.fAd K ("_law_some_words", none)) fd_l_some_words
  g_l_some_words : mg "_law_some_words" = some (.ref (He.fAd K ("_law_some_words", none)))
  fd_l_handed : FuncData
  F_l_handed : FunD K "_law_handed" "_law_handed" (defArgs s_l_handed) (defBody s_l_handed) (defScope s_l_handed) [] [] (He.fAd K ("_law_handed", none)) fd_l_handed
  g_l_handed : mg "_law_handed" = some (.ref (He.fAd K ("_law_handed", none)))
  fd_l_row : FuncData
  F_l_row : FunD K "_law_row" "_law_row" (defArgs s_l_row) (defBody s_l_row) (defScope s_l_row) [] [] (He.fAd K ("_law_row", none)) fd_l_row
  g_l_row : mg "_law_row" = some (.ref (He.fAd K ("_law_row", none)))
  fd_l_rows : FuncData
  F_l_rows : FunD K "_law_rows" "_law_rows" (defArgs s_l_rows) (defBody s_l_rows) (defScope s_l_rows) [] [] (He.fAd K ("_law_rows", none)) fd_l_rows
  g_l_rows : mg "_law_rows" = some (.ref (He.fAd K ("_law_rows", none)))
  fd_l_sheet : FuncData
  F_l_sheet : FunD K "_law_sheet" "_law_sheet" (defArgs s_l_sheet) (defBody s_l_sheet) (defScope s_l_sheet) [] [] (He.fAd K ("_law_sheet", none)) fd_l_sheet
  g_l_sheet : mg "_law_sheet" = some (.ref (He.fAd K ("_law_sheet", none)))
  fd_l_sheets : FuncData
  F_l_sheets : FunD K "_law_sheets" "_law_sheets" (defArgs s_l_sheets) (defBody s_l_sheets) (defScope s_l_sheets) [] [] (He.fAd K ("_law_sheets", none)) fd_l_sheets
  g_l_sheets : mg "_law_sheets" = some (.ref (He.fAd K ("_law_sheets", none)))
  fd_l_some_tills : FuncData
  F_l_some_tills : FunD K "_law_some_tills" "_law_some_tills" (defArgs s_l_some_tills) (defBody s_l_some_tills) (defScope s_l_some_tills) [] [] (He.fAd K ("_law_some_tills", none)) fd_l_some_tills
  g_l_some_tills : mg "_law_some_tills" = some (.ref (He.fAd K ("_law_some_tills", none)))
  fd_l_is_number : FuncData
  F_l_is_number : FunD K "_law_is_number" "_law_is_number" (defArgs s_l_is_number) (defBody s_l_is_number) (defScope s_l_is_number) [] [] (He.fAd K ("_law_is_number", none)) fd_l_is_number
  g_l_is_number : mg "_law_is_number" = some (.ref (He.fAd K ("_law_is_number", none)))
  fd_l_is_word : FuncData
  F_l_is_word : FunD K "_law_is_word" "_law_is_word" (defArgs s_l_is_word) (defBody s_l_is_word) (defScope s_l_is_word) [] [] (He.fAd K ("_law_is_word", none)) fd_l_is_word
  g_l_is_word : mg "_law_is_word" = some (.ref (He.fAd K ("_law_is_word", none)))
  fd_l_inner : FuncData
  F_l_inner : FunD K "_law_inner" "_law_inner" (defArgs s_l_inner) (defBody s_l_inner) (defScope s_l_inner) [] [] (He.fAd K ("_law_inner", none)) fd_l_inner
  g_l_inner : mg "_law_inner" = some (.ref (He.fAd K ("_law_inner", none)))
  fd_l_reason : FuncData
  F_l_reason : FunD K "_law_reason" "_law_reason" (defArgs s_l_reason) (defBody s_l_reason) (defScope s_l_reason) [] [] (He.fAd K ("_law_reason", none)) fd_l_reason
  g_l_reason : mg "_law_reason" = some (.ref (He.fAd K ("_law_reason", none)))
  fd_l_seek : FuncData
  F_l_seek : FunD K "_law_seek" "_law_seek" (defArgs s_l_seek) (defBody s_l_seek) (defScope s_l_seek) [] [] (He.fAd K ("_law_seek", none)) fd_l_seek
  g_l_seek : mg "_law_seek" = some (.ref (He.fAd K ("_law_seek", none)))
  fd_l_surely : FuncData
  F_l_surely : FunD K "_law_surely" "_law_surely" (defArgs s_l_surely) (defBody s_l_surely) (defScope s_l_surely) [] [] (He.fAd K ("_law_surely", none)) fd_l_surely
  g_l_surely : mg "_law_surely" = some (.ref (He.fAd K ("_law_surely", none)))
  fd_l_hurried : FuncData
  F_l_hurried : FunD K "_law_hurried" "_law_hurried" (defArgs s_l_hurried) (defBody s_l_hurried) (defScope s_l_hurried) [] [] (He.fAd K ("_law_hurried", none)) fd_l_hurried
  g_l_hurried : mg "_law_hurried" = some (.ref (He.fAd K ("_law_hurried", none)))
  fd_l_row_due : FuncData
  F_l_row_due : FunD K "_law_row_due" "_law_row_due" (defArgs s_l_row_due) (defBody s_l_row_due) (defScope s_l_row_due) [] [] (He.fAd K ("_law_row_due", none)) fd_l_row_due
  g_l_row_due : mg "_law_row_due" = some (.ref (He.fAd K ("_law_row_due", none)))
  fd_l_odd_row : FuncData
  F_l_odd_row : FunD K "_law_odd_row" "_law_odd_row" (defArgs s_l_odd_row) (defBody s_l_odd_row) (defScope s_l_odd_row) [] [] (He.fAd K ("_law_odd_row", none)) fd_l_odd_row
  g_l_odd_row : mg "_law_odd_row" = some (.ref (He.fAd K ("_law_odd_row", none)))
  fd_l_bent : FuncData
  F_l_bent : FunD K "_law_bent" "_law_bent" (defArgs s_l_bent) (defBody s_l_bent) (defScope s_l_bent) [] [] (He.fAd K ("_law_bent", none)) fd_l_bent
  g_l_bent : mg "_law_bent" = some (.ref (He.fAd K ("_law_bent", none)))
  fd_l_tried : FuncData
  F_l_tried : FunD K "_law_tried" "_law_tried" (defArgs s_l_tried) (defBody s_l_tried) (defScope s_l_tried) [] [] (He.fAd K ("_law_tried", none)) fd_l_tried
  g_l_tried : mg "_law_tried" = some (.ref (He.fAd K ("_law_tried", none)))
  fd_l_task_due : FuncData
  F_l_task_due : FunD K "_law_task_due" "_law_task_due" (defArgs s_l_task_due) (defBody s_l_task_due) (defScope s_l_task_due) [] [] (He.fAd K ("_law_task_due", none)) fd_l_task_due
  g_l_task_due : mg "_law_task_due" = some (.ref (He.fAd K ("_law_task_due", none)))
  fd_l_till_due : FuncData
  F_l_till_due : FunD K "_law_till_due" "_law_till_due" (defArgs s_l_till_due) (defBody s_l_till_due) (defScope s_l_till_due) [] [] (He.fAd K ("_law_till_due", none)) fd_l_till_due
  g_l_till_due : mg "_law_till_due" = some (.ref (He.fAd K ("_law_till_due", none)))
  fd_l_with_odd : FuncData
  F_l_with_odd : FunD K "_law_with_odd" "_law_with_odd" (defArgs s_l_with_odd) (defBody s_l_with_odd) (defScope s_l_with_odd) [] [] (He.fAd K ("_law_with_odd", none)) fd_l_with_odd
  g_l_with_odd : mg "_law_with_odd" = some (.ref (He.fAd K ("_law_with_odd", none)))
  fd_law : FuncData
  F_law : FunD K "law" "law" (defArgs s_law) (defBody s_law) (defScope s_law) [] [] (He.fAd K ("law", none)) fd_law
  g_law : mg "law" = some (.ref (He.fAd K ("law", none)))
  n_len : mg "len" = none
  n_int : mg "int" = none
  n_range : mg "range" = none
  n_enumerate : mg "enumerate" = none
  n_isinstance : mg "isinstance" = none
  n_all : mg "all" = none
  n_any : mg "any" = none
  n_sum : mg "sum" = none
  n_zip : mg "zip" = none
  n_bool : mg "bool" = none
  n_list : mg "list" = none
  n_tuple : mg "tuple" = none
  n_str : mg "str" = none
  g_RowCheck : mg "RowCheck" = some (.ref (He.ga K "RowCheck"))
  c_RowCheck : Cls K (He.ga K "RowCheck")
  k_RowCheck : Mk K (He.ga K "RowCheck") (He.fAd K ("RowCheck", some "__init__"))
  g_Plan : mg "Plan" = some (.ref (He.ga K "Plan"))
  c_Plan : Cls K (He.ga K "Plan")
  k_Plan : Mk K (He.ga K "Plan") (He.fAd K ("Plan", some "__init__"))
  g_Program : mg "Program" = some (.ref (He.ga K "Program"))
  c_Program : Cls K (He.ga K "Program")
  k_Program : Mk K (He.ga K "Program") (He.fAd K ("Program", some "__init__"))
  g_BadTask : mg "BadTask" = some (.ref (He.ga K "BadTask"))
  a_BadTask_index : PySem.W.findIn K (.ref (He.ga K "BadTask")) "index" = some none
  g_BadCounter : mg "BadCounter" = some (.ref (He.ga K "BadCounter"))
  a_BadCounter_index : PySem.W.findIn K (.ref (He.ga K "BadCounter")) "index" = some none
  g_BadLate : mg "BadLate" = some (.ref (He.ga K "BadLate"))
  a_BadLate_late : PySem.W.findIn K (.ref (He.ga K "BadLate")) "late" = some none
  g_BadRow : mg "BadRow" = some (.ref (He.ga K "BadRow"))
  a_BadRow_task : PySem.W.findIn K (.ref (He.ga K "BadRow")) "task" = some none
  a_BadRow_place : PySem.W.findIn K (.ref (He.ga K "BadRow")) "place" = some none
  a_BadRow_reason : PySem.W.findIn K (.ref (He.ga K "BadRow")) "reason" = some none
  g_LETTERS : ∃ t, mg "LETTERS" = some (.str "abcdefghijklmnopqrstuvwxyz" t)
  g_SIZES : mg "SIZES" = some (.ref (He.ga K "SIZES"))
  g_LISTS_FROM : mg "LISTS_FROM" = some (.ref (He.ga K "LISTS_FROM"))
  g_MOST_TASKS : ∃ t, mg "MOST_TASKS" = some (.int (3) t)
  g_MOST_COUNTERS : ∃ t, mg "MOST_COUNTERS" = some (.int (2) t)
  g_MOST_ROWS : ∃ t, mg "MOST_ROWS" = some (.int (12) t)
  g_MOST_ROOM : ∃ t, mg "MOST_ROOM" = some (.int (9) t)
  g_MOST_TIME : ∃ t, mg "MOST_TIME" = some (.int (99) t)
  g_UNGUARDED : ∃ t, mg "UNGUARDED" = some (.int (-1) t)
  a_RowCheck_name : NoAttr K (He.ga K "RowCheck") "name"
  a_RowCheck_counter_names : NoAttr K (He.ga K "RowCheck") "counter_names"
  a_RowCheck_place : NoAttr K (He.ga K "RowCheck") "place"
  a_Plan_name : NoAttr K (He.ga K "Plan") "name"
  a_Plan_rows : NoAttr K (He.ga K "Plan") "rows"
  a_Plan_end : NoAttr K (He.ga K "Plan") "end"
  a_Plan_flat : NoAttr K (He.ga K "Plan") "flat"
  a_Plan_behinds : NoAttr K (He.ga K "Plan") "behinds"
  a_Plan_firsts : NoAttr K (He.ga K "Plan") "firsts"
  a_Plan_guards : NoAttr K (He.ga K "Plan") "guards"
  a_Program_late : NoAttr K (He.ga K "Program") "late"
  a_Program_plans : NoAttr K (He.ga K "Program") "plans"
  a_Program_counters : NoAttr K (He.ga K "Program") "_counters"
  i_Program : Lt.InsT K (He.ga K "Program")
  xm_BadCounter_BadTask : PySem.W.exmOne K (.ref (He.ga K "BadCounter")) (.ref (He.ga K "BadTask")) = some false
  xm_BadLate_BadTask : PySem.W.exmOne K (.ref (He.ga K "BadLate")) (.ref (He.ga K "BadTask")) = some false
  xm_BadLate_BadCounter : PySem.W.exmOne K (.ref (He.ga K "BadLate")) (.ref (He.ga K "BadCounter")) = some false
  xm_BadRow_BadTask : PySem.W.exmOne K (.ref (He.ga K "BadRow")) (.ref (He.ga K "BadTask")) = some false
  xm_BadRow_BadCounter : PySem.W.exmOne K (.ref (He.ga K "BadRow")) (.ref (He.ga K "BadCounter")) = some false
  xm_BadRow_BadLate : PySem.W.exmOne K (.ref (He.ga K "BadRow")) (.ref (He.ga K "BadLate")) = some false
  v_SIZES : ∀ q ∈ ([("work", .int 3), ("say", .int 2), ("pass", .int 1), ("sleep", .int 2), ("take", .int 2), ("give", .int 2), ("either", .int 3), ("ever", .int 2), ("within", .int 4)] : List (Str × He.Dv)), ∃ u, PySem.W.nsIn K (He.ga K "SIZES") q.1 = some (some u) ∧ RelV (q.2.v K) u
  v_LISTS_FROM : ∀ q ∈ ([("either", .int 1), ("ever", .int 1), ("within", .int 2)] : List (Str × He.Dv)), ∃ u, PySem.W.nsIn K (He.ga K "LISTS_FROM") q.1 = some (some u) ∧ RelV (q.2.v K) u
  o_LISTS_FROM : ∀ z ∈ (["work", "say", "pass", "sleep", "take", "give"] : List Str), PySem.W.nsIn K (He.ga K "LISTS_FROM") z = some none
  ks_SIZES : ∀ z : Str, z ∉ (["work", "say", "pass", "sleep", "take", "give", "either", "ever", "within"] : List Str) → PySem.W.nsIn K (He.ga K "SIZES") z = some none
  ks_LISTS_FROM : ∀ z : Str, z ∉ (["either", "ever", "within"] : List Str) → PySem.W.nsIn K (He.ga K "LISTS_FROM") z = some none
  x_BadTask : Lt.ExK K (He.ga K "BadTask") (He.fAd K ("BadTask", some "__init__"))
  x_BadCounter : Lt.ExK K (He.ga K "BadCounter") (He.fAd K ("BadCounter", some "__init__"))
  x_BadLate : Lt.ExK K (He.ga K "BadLate") (He.fAd K ("BadLate", some "__init__"))
  x_BadRow : Lt.ExK K (He.ga K "BadRow") (He.fAd K ("BadRow", some "__init__"))
  b_BadTask_init : Binds K fd_BadTask_init ["self", "index"] []
  b_BadCounter_init : Binds K fd_BadCounter_init ["self", "index"] []
  b_BadLate_init : Binds K fd_BadLate_init ["self", "late"] []
  b_BadRow_init : Binds K fd_BadRow_init ["self", "task", "place", "reason"] []
  b_is_integer : Binds K fd_is_integer ["thing"] []
  b_is_between : Binds K fd_is_between ["thing", "low", "high"] []
  b_is_list : Binds K fd_is_list ["thing"] []
  b_is_word : Binds K fd_is_word ["thing"] []
  b_lists_of : Binds K fd_lists_of ["row"] []
  b_frozen : Binds K fd_frozen ["rows"] []
  b_row_size : Binds K fd_row_size ["row"] []
  b_size : Binds K fd_size ["rows"] []
  b_surely_waits : Binds K fd_surely_waits ["rows"] []
  b_row_surely_waits : Binds K fd_row_surely_waits ["row"] []
  b_check_program : Binds K fd_check_program ["tasks", "counters", "late"] []
  b_check_tasks : Binds K fd_check_tasks ["tasks"] []
  b_is_task : Binds K fd_is_task ["task", "names"] []
  b_check_counters : Binds K fd_check_counters ["counters"] []
  b_is_counter : Binds K fd_is_counter ["counter", "names"] []
  b_RowCheck_init : Binds K fd_RowCheck_init ["self", "name", "counter_names"] []
  b_RowCheck_check : Binds K fd_RowCheck_check ["self", "rows", "guarded"] []
  b_RowCheck_fault : Binds K fd_RowCheck_fault ["self", "row"] []
  b_is_row : Binds K fd_is_row ["row"] []
  b_has_good_numbers : Binds K fd_has_good_numbers ["row"] []
  b_check_waits : Binds K fd_check_waits ["name", "rows", "place"] []
  b_Plan_init : Binds K fd_Plan_init ["self", "name", "rows"] []
  b_Plan_lay : Binds K fd_Plan_lay ["self", "rows", "behind", "guard"] []
  b_Plan_add : Binds K fd_Plan_add ["self", "row", "behind", "guard"] []
  b_first_places : Binds K fd_first_places ["row", "place", "behind"] []
  b_Program_len : Binds K fd_Program_len ["self"] []
  b_l_fresh : Binds K fd_l_fresh ["_law_script"] []
  b_l_fill : Binds K fd_l_fill ["_law_state"] []
  b_l_take : Binds K fd_l_take ["_law_state", "_law_many"] []
  b_l_one : Binds K fd_l_one ["_law_state", "_law_things"] []
  b_l_mix : Binds K fd_l_mix ["_law_state", "_law_things"] []
  b_l_same : Binds K fd_l_same ["_law_found", "_law_due"] []
  b_l_all_words : Binds K fd_l_all_words [] []
  b_l_some_words : Binds K fd_l_some_words ["_law_state", "_law_many"] []
  b_l_handed : Binds K fd_l_handed ["_law_state", "_law_things"] []
  b_l_row : Binds K fd_l_row ["_law_state", "_law_deep", "_law_tills", "_law_is_inside"] []
  b_l_rows : Binds K fd_l_rows ["_law_state", "_law_many", "_law_tills"] []
  b_l_sheet : Binds K fd_l_sheet ["_law_state", "_law_tills"] []
  b_l_sheets : Binds K fd_l_sheets ["_law_state", "_law_many", "_law_tills"] []
  b_l_some_tills : Binds K fd_l_some_tills ["_law_state"] []
  b_l_is_number : Binds K fd_l_is_number ["_law_x", "_law_least", "_law_top"] []
  b_l_is_word : Binds K fd_l_is_word ["_law_x"] []
  b_l_inner : Binds K fd_l_inner ["_law_row_here"] []
  b_l_reason : Binds K fd_l_reason ["_law_row_here", "_law_k", "_law_known", "_law_is_inside", "_law_is_last"] []
  b_l_seek : Binds K fd_l_seek ["_law_rows_here", "_law_k", "_law_known", "_law_is_inside"] []
  b_l_surely : Binds K fd_l_surely ["_law_rows_here"] []
  b_l_hurried : Binds K fd_l_hurried ["_law_rows_here", "_law_k"] []
  b_l_row_due : Binds K fd_l_row_due ["_law_tasks", "_law_known"] []
  b_l_odd_row : Binds K fd_l_odd_row ["_law_state"] []
  b_l_bent : Binds K fd_l_bent ["_law_state", "_law_rows_here"] []
  b_l_tried : Binds K fd_l_tried ["_law_tasks", "_law_tills", "_law_lag"] []
  b_l_task_due : Binds K fd_l_task_due ["_law_things"] []
  b_l_till_due : Binds K fd_l_till_due ["_law_things"] []
  b_l_with_odd : Binds K fd_l_with_odd ["_law_state", "_law_things", "_law_odd"] []
  b_law : Binds K fd_law ["_law_script"] []
theorem txt_of {K : PySem.W.Frag} {h : Heap} {mg : Str → Option Value} (X : K.In h) (G : h.Ns mainGlobals mg) (c : Lt.SaysS fa fs fn sn K) : Nonempty (Txt K mg) := by
  obtain ⟨fd_BadTask_init, F_BadTask_init⟩ := c.def_ 0 (d := d_BadTask_init) rfl
  have b_BadTask_init := FunD.bindsN (ps := ["self", "index"]) F_BadTask_init fun _ _ _ _ _ _ us hl => match us, hl with | [_, _], _ => rfl
  obtain ⟨fd_BadCounter_init, F_BadCounter_init⟩ := c.def_ 1 (d := d_BadCounter_init) rfl
  have b_BadCounter_init := FunD.bindsN (ps := ["self", "index"]) F_BadCounter_init fun _ _ _ _ _ _ us hl => match us, hl with | [_, _], _ => rfl
  obtain ⟨fd_BadLate_init, F_BadLate_init⟩ := c.def_ 2 (d := d_BadLate_init) rfl
  have b_BadLate_init := FunD.bindsN (ps := ["self", "late"]) F_BadLate_init fun _ _ _ _ _ _ us hl => match us, hl with | [_, _], _ => rfl
  obtain ⟨fd_BadRow_init, F_BadRow_init⟩ := c.def_ 3 (d := d_BadRow_init) rfl
  have b_BadRow_init := FunD.bindsN (ps := ["self", "task", "place", "reason"]) F_BadRow_init fun _ _ _ _ _ _ us hl => match us, hl with | [_, _, _, _], _ => rfl
  obtain ⟨fd_is_integer, F_is_integer⟩ := c.def_ 4 (d := d_is_integer) rfl
  have b_is_integer := FunD.bindsN (ps := ["thing"]) F_is_integer fun _ _ _ _ _ _ us hl => match us, hl with | [_], _ => rfl
  obtain ⟨fd_is_between, F_is_between⟩ := c.def_ 5 (d := d_is_between) rfl
  have b_is_between := FunD.bindsN (ps := ["thing", "low", "high"]) F_is_between fun _ _ _ _ _ _ us hl => match us, hl with | [_, _, _], _ => rfl
  obtain ⟨fd_is_list, F_is_list⟩ := c.def_ 6 (d := d_is_list) rfl
  have b_is_list := FunD.bindsN (ps := ["thing"]) F_is_list fun _ _ _ _ _ _ us hl => match us, hl with | [_], _ => rfl
  obtain ⟨fd_is_word, F_is_word⟩ := c.def_ 7 (d := d_is_word) rfl
  have b_is_word := FunD.bindsN (ps := ["thing"]) F_is_word fun _ _ _ _ _ _ us hl => match us, hl with | [_], _ => rfl
  obtain ⟨fd_lists_of, F_lists_of⟩ := c.def_ 8 (d := d_lists_of) rfl
  have b_lists_of := FunD.bindsN (ps := ["row"]) F_lists_of fun _ _ _ _ _ _ us hl => match us, hl with | [_], _ => rfl
  obtain ⟨fd_frozen, F_frozen⟩ := c.def_ 9 (d := d_frozen) rfl
  have b_frozen := FunD.bindsN (ps := ["rows"]) F_frozen fun _ _ _ _ _ _ us hl => match us, hl with | [_], _ => rfl
  obtain ⟨fd_row_size, F_row_size⟩ := c.def_ 10 (d := d_row_size) rfl
  have b_row_size := FunD.bindsN (ps := ["row"]) F_row_size fun _ _ _ _ _ _ us hl => match us, hl with | [_], _ => rfl
  obtain ⟨fd_size, F_size⟩ := c.def_ 11 (d := d_size) rfl
  have b_size := FunD.bindsN (ps := ["rows"]) F_size fun _ _ _ _ _ _ us hl => match us, hl with | [_], _ => rfl
  obtain ⟨fd_surely_waits, F_surely_waits⟩ := c.def_ 12 (d := d_surely_waits) rfl
  have b_surely_waits := FunD.bindsN (ps := ["rows"]) F_surely_waits fun _ _ _ _ _ _ us hl => match us, hl with | [_], _ => rfl
  obtain ⟨fd_row_surely_waits, F_row_surely_waits⟩ := c.def_ 13 (d := d_row_surely_waits) rfl
  have b_row_surely_waits := FunD.bindsN (ps := ["row"]) F_row_surely_waits fun _ _ _ _ _ _ us hl => match us, hl with | [_], _ => rfl
  obtain ⟨fd_check_program, F_check_program⟩ := c.def_ 14 (d := d_check_program) rfl
  have b_check_program := FunD.bindsN (ps := ["tasks", "counters", "late"]) F_check_program fun _ _ _ _ _ _ us hl => match us, hl with | [_, _, _], _ => rfl
  obtain ⟨fd_check_tasks, F_check_tasks⟩ := c.def_ 15 (d := d_check_tasks) rfl
  have b_check_tasks := FunD.bindsN (ps := ["tasks"]) F_check_tasks fun _ _ _ _ _ _ us hl => match us, hl with | [_], _ => rfl
  obtain ⟨fd_is_task, F_is_task⟩ := c.def_ 16 (d := d_is_task) rfl
  have b_is_task := FunD.bindsN (ps := ["task", "names"]) F_is_task fun _ _ _ _ _ _ us hl => match us, hl with | [_, _], _ => rfl
  obtain ⟨fd_check_counters, F_check_counters⟩ := c.def_ 17 (d := d_check_counters) rfl
  have b_check_counters := FunD.bindsN (ps := ["counters"]) F_check_counters fun _ _ _ _ _ _ us hl => match us, hl with | [_], _ => rfl
  obtain ⟨fd_is_counter, F_is_counter⟩ := c.def_ 18 (d := d_is_counter) rfl
  have b_is_counter := FunD.bindsN (ps := ["counter", "names"]) F_is_counter fun _ _ _ _ _ _ us hl => match us, hl with | [_, _], _ => rfl
  obtain ⟨fd_RowCheck_init, F_RowCheck_init⟩ := c.def_ 19 (d := d_RowCheck_init) rfl
  have b_RowCheck_init := FunD.bindsN (ps := ["self", "name", "counter_names"]) F_RowCheck_init fun _ _ _ _ _ _ us hl => match us, hl with | [_, _, _], _ => rfl
  obtain ⟨fd_RowCheck_check, F_RowCheck_check⟩ := c.def_ 20 (d := d_RowCheck_check) rfl
  have b_RowCheck_check := FunD.bindsN (ps := ["self", "rows", "guarded"]) F_RowCheck_check fun _ _ _ _ _ _ us hl => match us, hl with | [_, _, _], _ => rfl
  obtain ⟨fd_RowCheck_fault, F_RowCheck_fault⟩ := c.def_ 21 (d := d_RowCheck_fault) rfl
  have b_RowCheck_fault := FunD.bindsN (ps := ["self", "row"]) F_RowCheck_fault fun _ _ _ _ _ _ us hl => match us, hl with | [_, _], _ => rfl
  obtain ⟨fd_is_row, F_is_row⟩ := c.def_ 22 (d := d_is_row) rfl
  have b_is_row := FunD.bindsN (ps := ["row"]) F_is_row fun _ _ _ _ _ _ us hl => match us, hl with | [_], _ => rfl
  obtain ⟨fd_has_good_numbers, F_has_good_numbers⟩ := c.def_ 23 (d := d_has_good_numbers) rfl
  have b_has_good_numbers := FunD.bindsN (ps := ["row"]) F_has_good_numbers fun _ _ _ _ _ _ us hl => match us, hl with | [_], _ => rfl
  obtain ⟨fd_check_waits, F_check_waits⟩ := c.def_ 24 (d := d_check_waits) rfl
  have b_check_waits := FunD.bindsN (ps := ["name", "rows", "place"]) F_check_waits fun _ _ _ _ _ _ us hl => match us, hl with | [_, _, _], _ => rfl
  obtain ⟨fd_Plan_init, F_Plan_init⟩ := c.def_ 25 (d := d_Plan_init) rfl
  have b_Plan_init := FunD.bindsN (ps := ["self", "name", "rows"]) F_Plan_init fun _ _ _ _ _ _ us hl => match us, hl with | [_, _, _], _ => rfl
  obtain ⟨fd_Plan_lay, F_Plan_lay⟩ := c.def_ 26 (d := d_Plan_lay) rfl
  have b_Plan_lay := FunD.bindsN (ps := ["self", "rows", "behind", "guard"]) F_Plan_lay fun _ _ _ _ _ _ us hl => match us, hl with | [_, _, _, _], _ => rfl
  obtain ⟨fd_Plan_add, F_Plan_add⟩ := c.def_ 27 (d := d_Plan_add) rfl
  have b_Plan_add := FunD.bindsN (ps := ["self", "row", "behind", "guard"]) F_Plan_add fun _ _ _ _ _ _ us hl => match us, hl with | [_, _, _, _], _ => rfl
  obtain ⟨fd_first_places, F_first_places⟩ := c.def_ 28 (d := d_first_places) rfl
  have b_first_places := FunD.bindsN (ps := ["row", "place", "behind"]) F_first_places fun _ _ _ _ _ _ us hl => match us, hl with | [_, _, _], _ => rfl
  obtain ⟨fd_Program_init, F_Program_init⟩ := c.def_ 29 (d := d_Program_init) rfl
  obtain ⟨fd_Program_len, F_Program_len⟩ := c.def_ 30 (d := d_Program_len) rfl
  have b_Program_len := FunD.bindsN (ps := ["self"]) F_Program_len fun _ _ _ _ _ _ us hl => match us, hl with | [_], _ => rfl
  obtain ⟨fd_l_fresh, F_l_fresh⟩ := c.def_ 31 (d := d_l_fresh) rfl
  have b_l_fresh := FunD.bindsN (ps := ["_law_script"]) F_l_fresh fun _ _ _ _ _ _ us hl => match us, hl with | [_], _ => rfl
  obtain ⟨fd_l_fill, F_l_fill⟩ := c.def_ 32 (d := d_l_fill) rfl
  have b_l_fill := FunD.bindsN (ps := ["_law_state"]) F_l_fill fun _ _ _ _ _ _ us hl => match us, hl with | [_], _ => rfl
  obtain ⟨fd_l_take, F_l_take⟩ := c.def_ 33 (d := d_l_take) rfl
  have b_l_take := FunD.bindsN (ps := ["_law_state", "_law_many"]) F_l_take fun _ _ _ _ _ _ us hl => match us, hl with | [_, _], _ => rfl
  obtain ⟨fd_l_one, F_l_one⟩ := c.def_ 34 (d := d_l_one) rfl
  have b_l_one := FunD.bindsN (ps := ["_law_state", "_law_things"]) F_l_one fun _ _ _ _ _ _ us hl => match us, hl with | [_, _], _ => rfl
  obtain ⟨fd_l_mix, F_l_mix⟩ := c.def_ 35 (d := d_l_mix) rfl
  have b_l_mix := FunD.bindsN (ps := ["_law_state", "_law_things"]) F_l_mix fun _ _ _ _ _ _ us hl => match us, hl with | [_, _], _ => rfl
  obtain ⟨fd_l_same, F_l_same⟩ := c.def_ 36 (d := d_l_same) rfl
  have b_l_same := FunD.bindsN (ps := ["_law_found", "_law_due"]) F_l_same fun _ _ _ _ _ _ us hl => match us, hl with | [_, _], _ => rfl
  obtain ⟨fd_l_all_words, F_l_all_words⟩ := c.def_ 37 (d := d_l_all_words) rfl
  have b_l_all_words := FunD.bindsN (ps := []) F_l_all_words fun _ _ _ _ _ _ us hl => match us, hl with | [], _ => rfl
  obtain ⟨fd_l_some_words, F_l_some_words⟩ := c.def_ 38 (d := d_l_some_words) rfl
  have b_l_some_words := FunD.bindsN (ps := ["_law_state", "_law_many"]) F_l_some_words fun _ _ _ _ _ _ us hl => match us, hl with | [_, _], _ => rfl
  obtain ⟨fd_l_handed, F_l_handed⟩ := c.def_ 39 (d := d_l_handed) rfl
  have b_l_handed := FunD.bindsN (ps := ["_law_state", "_law_things"]) F_l_handed fun _ _ _ _ _ _ us hl => match us, hl with | [_, _], _ => rfl
  obtain ⟨fd_l_row, F_l_row⟩ := c.def_ 40 (d := d_l_row) rfl
  have b_l_row := FunD.bindsN (ps := ["_law_state", "_law_deep", "_law_tills", "_law_is_inside"]) F_l_row fun _ _ _ _ _ _ us hl => match us, hl with | [_, _, _, _], _ => rfl
  obtain ⟨fd_l_rows, F_l_rows⟩ := c.def_ 41 (d := d_l_rows) rfl
  have b_l_rows := FunD.bindsN (ps := ["_law_state", "_law_many", "_law_tills"]) F_l_rows fun _ _ _ _ _ _ us hl => match us, hl with | [_, _, _], _ => rfl
  obtain ⟨fd_l_sheet, F_l_sheet⟩ := c.def_ 42 (d := d_l_sheet) rfl
  have b_l_sheet := FunD.bindsN (ps := ["_law_state", "_law_tills"]) F_l_sheet fun _ _ _ _ _ _ us hl => match us, hl with | [_, _], _ => rfl
  obtain ⟨fd_l_sheets, F_l_sheets⟩ := c.def_ 43 (d := d_l_sheets) rfl
  have b_l_sheets := FunD.bindsN (ps := ["_law_state", "_law_many", "_law_tills"]) F_l_sheets fun _ _ _ _ _ _ us hl => match us, hl with | [_, _, _], _ => rfl
  obtain ⟨fd_l_some_tills, F_l_some_tills⟩ := c.def_ 44 (d := d_l_some_tills) rfl
  have b_l_some_tills := FunD.bindsN (ps := ["_law_state"]) F_l_some_tills fun _ _ _ _ _ _ us hl => match us, hl with | [_], _ => rfl
  obtain ⟨fd_l_is_number, F_l_is_number⟩ := c.def_ 45 (d := d_l_is_number) rfl
  have b_l_is_number := FunD.bindsN (ps := ["_law_x", "_law_least", "_law_top"]) F_l_is_number fun _ _ _ _ _ _ us hl => match us, hl with | [_, _, _], _ => rfl
  obtain ⟨fd_l_is_word, F_l_is_word⟩ := c.def_ 46 (d := d_l_is_word) rfl
  have b_l_is_word := FunD.bindsN (ps := ["_law_x"]) F_l_is_word fun _ _ _ _ _ _ us hl => match us, hl with | [_], _ => rfl
  obtain ⟨fd_l_inner, F_l_inner⟩ := c.def_ 47 (d := d_l_inner) rfl
  have b_l_inner := FunD.bindsN (ps := ["_law_row_here"]) F_l_inner fun _ _ _ _ _ _ us hl => match us, hl with | [_], _ => rfl
  obtain ⟨fd_l_reason, F_l_reason⟩ := c.def_ 48 (d := d_l_reason) rfl
  have b_l_reason := FunD.bindsN (ps := ["_law_row_here", "_law_k", "_law_known", "_law_is_inside", "_law_is_last"]) F_l_reason fun _ _ _ _ _ _ us hl => match us, hl with | [_, _, _, _, _], _ => rfl
  obtain ⟨fd_l_seek, F_l_seek⟩ := c.def_ 49 (d := d_l_seek) rfl
  have b_l_seek := FunD.bindsN (ps := ["_law_rows_here", "_law_k", "_law_known", "_law_is_inside"]) F_l_seek fun _ _ _ _ _ _ us hl => match us, hl with | [_, _, _, _], _ => rfl
  obtain ⟨fd_l_surely, F_l_surely⟩ := c.def_ 50 (d := d_l_surely) rfl
  have b_l_surely := FunD.bindsN (ps := ["_law_rows_here"]) F_l_surely fun _ _ _ _ _ _ us hl => match us, hl with | [_], _ => rfl
  obtain ⟨fd_l_hurried, F_l_hurried⟩ := c.def_ 51 (d := d_l_hurried) rfl
  have b_l_hurried := FunD.bindsN (ps := ["_law_rows_here", "_law_k"]) F_l_hurried fun _ _ _ _ _ _ us hl => match us, hl with | [_, _], _ => rfl
  obtain ⟨fd_l_row_due, F_l_row_due⟩ := c.def_ 52 (d := d_l_row_due) rfl
  have b_l_row_due := FunD.bindsN (ps := ["_law_tasks", "_law_known"]) F_l_row_due fun _ _ _ _ _ _ us hl => match us, hl with | [_, _], _ => rfl
  obtain ⟨fd_l_odd_row, F_l_odd_row⟩ := c.def_ 53 (d := d_l_odd_row) rfl
  have b_l_odd_row := FunD.bindsN (ps := ["_law_state"]) F_l_odd_row fun _ _ _ _ _ _ us hl => match us, hl with | [_], _ => rfl
  obtain ⟨fd_l_bent, F_l_bent⟩ := c.def_ 54 (d := d_l_bent) rfl
  have b_l_bent := FunD.bindsN (ps := ["_law_state", "_law_rows_here"]) F_l_bent fun _ _ _ _ _ _ us hl => match us, hl with | [_, _], _ => rfl
  obtain ⟨fd_l_tried, F_l_tried⟩ := c.def_ 55 (d := d_l_tried) rfl
  have b_l_tried := FunD.bindsN (ps := ["_law_tasks", "_law_tills", "_law_lag"]) F_l_tried fun _ _ _ _ _ _ us hl => match us, hl with | [_, _, _], _ => rfl
  obtain ⟨fd_l_task_due, F_l_task_due⟩ := c.def_ 56 (d := d_l_task_due) rfl
  have b_l_task_due := FunD.bindsN (ps := ["_law_things"]) F_l_task_due fun _ _ _ _ _ _ us hl => match us, hl with | [_], _ => rfl
  obtain ⟨fd_l_till_due, F_l_till_due⟩ := c.def_ 57 (d := d_l_till_due) rfl
  have b_l_till_due := FunD.bindsN (ps := ["_law_things"]) F_l_till_due fun _ _ _ _ _ _ us hl => match us, hl with | [_], _ => rfl
  obtain ⟨fd_l_with_odd, F_l_with_odd⟩ := c.def_ 58 (d := d_l_with_odd) rfl
  have b_l_with_odd := FunD.bindsN (ps := ["_law_state", "_law_things", "_law_odd"]) F_l_with_odd fun _ _ _ _ _ _ us hl => match us, hl with | [_, _, _], _ => rfl
  obtain ⟨fd_law, F_law⟩ := c.def_ 59 (d := d_law) rfl
  have b_law := FunD.bindsN (ps := ["_law_script"]) F_law fun _ _ _ _ _ _ us hl => match us, hl with | [_], _ => rfl
  exact ⟨{ fd_BadTask_init := fd_BadTask_init, F_BadTask_init := F_BadTask_init, b_BadTask_init := b_BadTask_init, fd_BadCounter_init := fd_BadCounter_init, F_BadCounter_init := F_BadCounter_init, b_BadCounter_init := b_BadCounter_init, fd_BadLate_init := fd_BadLate_init, F_BadLate_init := F_BadLate_init, b_BadLate_init := b_BadLate_init, fd_BadRow_init := fd_BadRow_init, F_BadRow_init := F_BadRow_init, b_BadRow_init := b_BadRow_init, fd_is_integer := fd_is_integer, F_is_integer := F_is_integer, b_is_integer := b_is_integer, fd_is_between := fd_is_between, F_is_between := F_is_between, b_is_between := b_is_between, fd_is_list := fd_is_list, F_is_list := F_is_list, b_is_list := b_is_list, fd_is_word := fd_is_word, F_is_word := F_is_word, b_is_word := b_is_word, fd_lists_of := fd_lists_of, F_lists_of := F_lists_of, b_lists_of := b_lists_of, fd_frozen := fd_frozen, F_frozen := F_frozen, b_frozen := b_frozen, fd_row_size := fd_row_size, F_row_size := F_row_size, b_row_size := b_row_size, fd_size := fd_size, F_size := F_size, b_size := b_size, fd_surely_waits := fd_surely_waits, F_surely_waits := F_surely_waits, b_surely_waits := b_surely_waits, fd_row_surely_waits := fd_row_surely_waits, F_row_surely_waits := F_row_surely_waits, b_row_surely_waits := b_row_surely_waits, fd_check_program := fd_check_program, F_check_program := F_check_program, b_check_program := b_check_program, fd_check_tasks := fd_check_tasks, F_check_tasks := F_check_tasks, b_check_tasks := b_check_tasks, fd_is_task := fd_is_task, F_is_task := F_is_task, b_is_task := b_is_task, fd_check_counters := fd_check_counters, F_check_counters := F_check_counters, b_check_counters := b_check_counters, fd_is_counter := fd_is_counter, F_is_counter := F_is_counter, b_is_counter := b_is_counter, fd_RowCheck_init := fd_RowCheck_init, F_RowCheck_init := F_RowCheck_init, b_RowCheck_init := b_RowCheck_init, fd_RowCheck_check := fd_RowCheck_check, F_RowCheck_check := F_RowCheck_check, b_RowCheck_check := b_RowCheck_check, fd_RowCheck_fault := fd_RowCheck_fault, F_RowCheck_fault := F_RowCheck_fault, b_RowCheck_fault := b_RowCheck_fault, fd_is_row := fd_is_row, F_is_row := F_is_row, b_is_row := b_is_row, fd_has_good_numbers := fd_has_good_numbers, F_has_good_numbers := F_has_good_numbers, b_has_good_numbers := b_has_good_numbers, fd_check_waits := fd_check_waits, F_check_waits := F_check_waits, b_check_waits := b_check_waits, fd_Plan_init := fd_Plan_init, F_Plan_init := F_Plan_init, b_Plan_init := b_Plan_init, fd_Plan_lay := fd_Plan_lay, F_Plan_lay := F_Plan_lay, b_Plan_lay := b_Plan_lay, fd_Plan_add := fd_Plan_add, F_Plan_add := F_Plan_add, b_Plan_add := b_Plan_add, fd_first_places := fd_first_places, F_first_places := F_first_places, b_first_places := b_first_places, fd_Program_init := fd_Program_init, F_Program_init := F_Program_init, fd_Program_len := fd_Program_len, F_Program_len := F_Program_len, b_Program_len := b_Program_len, fd_l_fresh := fd_l_fresh, F_l_fresh := F_l_fresh, b_l_fresh := b_l_fresh, fd_l_fill := fd_l_fill, F_l_fill := F_l_fill, b_l_fill := b_l_fill, fd_l_take := fd_l_take, F_l_take := F_l_take, b_l_take := b_l_take, fd_l_one := fd_l_one, F_l_one := F_l_one, b_l_one := b_l_one, fd_l_mix := fd_l_mix, F_l_mix := F_l_mix, b_l_mix := b_l_mix, fd_l_same := fd_l_same, F_l_same := F_l_same, b_l_same := b_l_same, fd_l_all_words := fd_l_all_words, F_l_all_words := F_l_all_words, b_l_all_words := b_l_all_words, fd_l_some_words := fd_l_some_words, F_l_some_words := F_l_some_words, b_l_some_words := b_l_some_words, fd_l_handed := fd_l_handed, F_l_handed := F_l_handed, b_l_handed := b_l_handed, fd_l_row := fd_l_row, F_l_row := F_l_row, b_l_row := b_l_row, fd_l_rows := fd_l_rows, F_l_rows := F_l_rows, b_l_rows := b_l_rows, fd_l_sheet := fd_l_sheet, F_l_sheet := F_l_sheet, b_l_sheet := b_l_sheet, fd_l_sheets := fd_l_sheets, F_l_sheets := F_l_sheets, b_l_sheets := b_l_sheets, fd_l_some_tills := fd_l_some_tills, F_l_some_tills := F_l_some_tills, b_l_some_tills := b_l_some_tills, fd_l_is_number := fd_l_is_number, F_l_is_number := F_l_is_number, b_l_is_number := b_l_is_number, fd_l_is_word := fd_l_is_word, F_l_is_word := F_l_is_word, b_l_is_word := b_l_is_word, fd_l_inner := fd_l_inner, F_l_inner := F_l_inner, b_l_inner := b_l_inner, fd_l_reason := fd_l_reason, F_l_reason := F_l_reason, b_l_reason := b_l_reason, fd_l_seek := fd_l_seek, F_l_seek := F_l_seek, b_l_seek := b_l_seek, fd_l_surely := fd_l_surely, F_l_surely := F_l_surely, b_l_surely := b_l_surely, fd_l_hurried := fd_l_hurried, F_l_hurried := F_l_hurried, b_l_hurried := b_l_hurried, fd_l_row_due := fd_l_row_due, F_l_row_due := F_l_row_due, b_l_row_due := b_l_row_due, fd_l_odd_row := fd_l_odd_row, F_l_odd_row := F_l_odd_row, b_l_odd_row := b_l_odd_row, fd_l_bent := fd_l_bent, F_l_bent := F_l_bent, b_l_bent := b_l_bent, fd_l_tried := fd_l_tried, F_l_tried := F_l_tried, b_l_tried := b_l_tried, fd_l_task_due := fd_l_task_due, F_l_task_due := F_l_task_due, b_l_task_due := b_l_task_due, fd_l_till_due := fd_l_till_due, F_l_till_due := F_l_till_due, b_l_till_due := b_l_till_due, fd_l_with_odd := fd_l_with_odd, F_l_with_odd := F_l_with_odd, b_l_with_odd := b_l_with_odd, fd_law := fd_law, F_law := F_law, b_law := b_law, g_is_integer := He.glo_ok X G (c.fact 0 (f := .glo "is_integer") rfl), g_is_between := He.glo_ok X G (c.fact 1 (f := .glo "is_between") rfl), g_is_list := He.glo_ok X G (c.fact 2 (f := .glo "is_list") rfl), g_is_word := He.glo_ok X G (c.fact 3 (f := .glo "is_word") rfl), g_lists_of := He.glo_ok X G (c.fact 4 (f := .glo "lists_of") rfl), g_frozen := He.glo_ok X G (c.fact 5 (f := .glo "frozen") rfl), g_row_size := He.glo_ok X G (c.fact 6 (f := .glo "row_size") rfl), g_size := He.glo_ok X G (c.fact 7 (f := .glo "size") rfl), g_surely_waits := He.glo_ok X G (c.fact 8 (f := .glo "surely_waits") rfl), g_row_surely_waits := He.glo_ok X G (c.fact 9 (f := .glo "_row_surely_waits") rfl), g_check_program := He.glo_ok X G (c.fact 10 (f := .glo "check_program") rfl), g_check_tasks := He.glo_ok X G (c.fact 11 (f := .glo "_check_tasks") rfl), g_is_task := He.glo_ok X G (c.fact 12 (f := .glo "_is_task") rfl), g_check_counters := He.glo_ok X G (c.fact 13 (f := .glo "_check_counters") rfl), g_is_counter := He.glo_ok X G (c.fact 14 (f := .glo "_is_counter") rfl), m_RowCheck_check := He.meth_ok (c.fact 15 (f := .meth "RowCheck" "check") rfl), m_RowCheck_fault := He.meth_ok (c.fact 16 (f := .meth "RowCheck" "_fault") rfl), g_is_row := He.glo_ok X G (c.fact 17 (f := .glo "_is_row") rfl), g_has_good_numbers := He.glo_ok X G (c.fact 18 (f := .glo "_has_good_numbers") rfl), g_check_waits := He.glo_ok X G (c.fact 19 (f := .glo "_check_waits") rfl), m_Plan_lay := He.meth_ok (c.fact 20 (f := .meth "Plan" "_lay") rfl), m_Plan_add := He.meth_ok (c.fact 21 (f := .meth "Plan" "_add") rfl), g_first_places := He.glo_ok X G (c.fact 22 (f := .glo "_first_places") rfl), m_Program_len := He.meth_ok (c.fact 23 (f := .meth "Program" "__len__") rfl), g_l_fresh := He.glo_ok X G (c.fact 24 (f := .glo "_law_fresh") rfl), g_l_fill := He.glo_ok X G (c.fact 25 (f := .glo "_law_fill") rfl), g_l_take := He.glo_ok X G (c.fact 26 (f := .glo "_law_take") rfl), g_l_one := He.glo_ok X G (c.fact 27 (f := .glo "_law_one") rfl), g_l_mix := He.glo_ok X G (c.fact 28 (f := .glo "_law_mix") rfl), g_l_same := He.glo_ok X G (c.fact 29 (f := .glo "_law_same") rfl), g_l_all_words := He.glo_ok X G (c.fact 30 (f := .glo "_law_all_words") rfl), g_l_some_words := He.glo_ok X G (c.fact 31 (f := .glo "_law_some_words") rfl), g_l_handed := He.glo_ok X G (c.fact 32 (f := .glo "_law_handed") rfl), g_l_row := He.glo_ok X G (c.fact 33 (f := .glo "_law_row") rfl), g_l_rows := He.glo_ok X G (c.fact 34 (f := .glo "_law_rows") rfl), g_l_sheet := He.glo_ok X G (c.fact 35 (f := .glo "_law_sheet") rfl), g_l_sheets := He.glo_ok X G (c.fact 36 (f := .glo "_law_sheets") rfl), g_l_some_tills := He.glo_ok X G (c.fact 37 (f := .glo "_law_some_tills") rfl), g_l_is_number := He.glo_ok X G (c.fact 38 (f := .glo "_law_is_number") rfl), g_l_is_word := He.glo_ok X G (c.fact 39 (f := .glo "_law_is_word") rfl), g_l_inner := He.glo_ok X G (c.fact 40 (f := .glo "_law_inner") rfl), g_l_reason := He.glo_ok X G (c.fact 41 (f := .glo "_law_reason") rfl), g_l_seek := He.glo_ok X G (c.fact 42 (f := .glo "_law_seek") rfl), g_l_surely := He.glo_ok X G (c.fact 43 (f := .glo "_law_surely") rfl), g_l_hurried := He.glo_ok X G (c.fact 44 (f := .glo "_law_hurried") rfl), g_l_row_due := He.glo_ok X G (c.fact 45 (f := .glo "_law_row_due") rfl), g_l_odd_row := He.glo_ok X G (c.fact 46 (f := .glo "_law_odd_row") rfl), g_l_bent := He.glo_ok X G (c.fact 47 (f := .glo "_law_bent") rfl), g_l_tried := He.glo_ok X G (c.fact 48 (f := .glo "_law_tried") rfl), g_l_task_due := He.glo_ok X G (c.fact 49 (f := .glo "_law_task_due") rfl), g_l_till_due := He.glo_ok X G (c.fact 50 (f := .glo "_law_till_due") rfl), g_l_with_odd := He.glo_ok X G (c.fact 51 (f := .glo "_law_with_odd") rfl), g_law := He.glo_ok X G (c.fact 52 (f := .glo "law") rfl), n_len := He.free_ok X G (c.fact 53 (f := .free "len") rfl), n_int := He.free_ok X G (c.fact 54 (f := .free "int") rfl), n_range := He.free_ok X G (c.fact 55 (f := .free "range") rfl), n_enumerate := He.free_ok X G (c.fact 56 (f := .free "enumerate") rfl), n_isinstance := He.free_ok X G (c.fact 57 (f := .free "isinstance") rfl), n_all := He.free_ok X G (c.fact 58 (f := .free "all") rfl), n_any := He.free_ok X G (c.fact 59 (f := .free "any") rfl), n_sum := He.free_ok X G (c.fact 60 (f := .free "sum") rfl), n_zip := He.free_ok X G (c.fact 61 (f := .free "zip") rfl), n_bool := He.free_ok X G (c.fact 62 (f := .free "bool") rfl), n_list := He.free_ok X G (c.fact 63 (f := .free "list") rfl), n_tuple := He.free_ok X G (c.fact 64 (f := .free "tuple") rfl), n_str := He.free_ok X G (c.fact 65 (f := .free "str") rfl), g_RowCheck := He.glo_ok X G (c.fact 66 (f := .glo "RowCheck") rfl), c_RowCheck := He.cls_ok (c.fact 67 (f := .cls "RowCheck") rfl), k_RowCheck := He.mkr_ok (c.fact 68 (f := .mkr "RowCheck") rfl), g_Plan := He.glo_ok X G (c.fact 69 (f := .glo "Plan") rfl), c_Plan := He.cls_ok (c.fact 70 (f := .cls "Plan") rfl), k_Plan := He.mkr_ok (c.fact 71 (f := .mkr "Plan") rfl), g_Program := He.glo_ok X G (c.fact 72 (f := .glo "Program") rfl), c_Program := He.cls_ok (c.fact 73 (f := .cls "Program") rfl), k_Program := He.mkr_ok (c.fact 74 (f := .mkr "Program") rfl), g_BadTask := He.glo_ok X G (c.fact 75 (f := .glo "BadTask") rfl), a_BadTask_index := He.noat_ok (c.fact 76 (f := .noat "BadTask" "index") rfl), g_BadCounter := He.glo_ok X G (c.fact 77 (f := .glo "BadCounter") rfl), a_BadCounter_index := He.noat_ok (c.fact 78 (f := .noat "BadCounter" "index") rfl), g_BadLate := He.glo_ok X G (c.fact 79 (f := .glo "BadLate") rfl), a_BadLate_late := He.noat_ok (c.fact 80 (f := .noat "BadLate" "late") rfl), g_BadRow := He.glo_ok X G (c.fact 81 (f := .glo "BadRow") rfl), a_BadRow_task := He.noat_ok (c.fact 82 (f := .noat "BadRow" "task") rfl), a_BadRow_place := He.noat_ok (c.fact 83 (f := .noat "BadRow" "place") rfl), a_BadRow_reason := He.noat_ok (c.fact 84 (f := .noat "BadRow" "reason") rfl), g_LETTERS := He.str_ok X G (c.fact 85 (f := .str "LETTERS" "abcdefghijklmnopqrstuvwxyz") rfl), g_SIZES := He.glo_ok X G (c.fact 86 (f := .glo "SIZES") rfl), g_LISTS_FROM := He.glo_ok X G (c.fact 87 (f := .glo "LISTS_FROM") rfl), g_MOST_TASKS := He.int_ok X G (c.fact 88 (f := .int "MOST_TASKS" (3)) rfl), g_MOST_COUNTERS := He.int_ok X G (c.fact 89 (f := .int "MOST_COUNTERS" (2)) rfl), g_MOST_ROWS := He.int_ok X G (c.fact 90 (f := .int "MOST_ROWS" (12)) rfl), g_MOST_ROOM := He.int_ok X G (c.fact 91 (f := .int "MOST_ROOM" (9)) rfl), g_MOST_TIME := He.int_ok X G (c.fact 92 (f := .int "MOST_TIME" (99)) rfl), g_UNGUARDED := He.int_ok X G (c.fact 93 (f := .int "UNGUARDED" (-1)) rfl), a_RowCheck_name := He.noat_ok (c.fact 94 (f := .noat "RowCheck" "name") rfl), a_RowCheck_counter_names := He.noat_ok (c.fact 95 (f := .noat "RowCheck" "counter_names") rfl), a_RowCheck_place := He.noat_ok (c.fact 96 (f := .noat "RowCheck" "place") rfl), a_Plan_name := He.noat_ok (c.fact 97 (f := .noat "Plan" "name") rfl), a_Plan_rows := He.noat_ok (c.fact 98 (f := .noat "Plan" "rows") rfl), a_Plan_end := He.noat_ok (c.fact 99 (f := .noat "Plan" "end") rfl), a_Plan_flat := He.noat_ok (c.fact 100 (f := .noat "Plan" "flat") rfl), a_Plan_behinds := He.noat_ok (c.fact 101 (f := .noat "Plan" "behinds") rfl), a_Plan_firsts := He.noat_ok (c.fact 102 (f := .noat "Plan" "firsts") rfl), a_Plan_guards := He.noat_ok (c.fact 103 (f := .noat "Plan" "guards") rfl), a_Program_late := He.noat_ok (c.fact 104 (f := .noat "Program" "late") rfl), a_Program_plans := He.noat_ok (c.fact 105 (f := .noat "Program" "plans") rfl), a_Program_counters := He.noat_ok (c.fact 106 (f := .noat "Program" "_counters") rfl), i_Program := Lt.insT_of (He.cls_ok (c.fact 73 (f := .cls "Program") rfl)) (c.chk 0 rfl), xm_BadCounter_BadTask := of_decide_eq_true (c.chk 1 rfl), xm_BadLate_BadTask := of_decide_eq_true (c.chk 2 rfl), xm_BadLate_BadCounter := of_decide_eq_true (c.chk 3 rfl), xm_BadRow_BadTask := of_decide_eq_true (c.chk 4 rfl), xm_BadRow_BadCounter := of_decide_eq_true (c.chk 5 rfl), xm_BadRow_BadLate := of_decide_eq_true (c.chk 6 rfl), v_SIZES := fun q hq => He.valsB_ok (c.chk 7 rfl) hq, v_LISTS_FROM := fun q hq => He.valsB_ok (c.chk 8 rfl) hq, o_LISTS_FROM := fun z hz => He.eqO_ok (List.all_eq_true.mp (c.chk 9 rfl) z hz), ks_SIZES := Lt.keysB_ok (c.chk 10 rfl), ks_LISTS_FROM := Lt.keysB_ok (c.chk 11 rfl), x_BadTask := Lt.exK_of (c.chk 12 rfl), x_BadCounter := Lt.exK_of (c.chk 13 rfl), x_BadLate := Lt.exK_of (c.chk 14 rfl), x_BadRow := Lt.exK_of (c.chk 15 rfl) }⟩
def loose0 : List Str := ["_wall", "LoopError", "BadTask", "BadCounter", "BadLate", "BadRow", "UnknownTask", "BadPlace", "LETTERS", "is_integer", "is_between", "is_list", "is_word", "SIZES", "LISTS_FROM", "lists_of", "frozen", "opened_row", "opened", "row_size", "size", "surely_waits", "_row_surely_waits", "MOST_TASKS", "MOST_COUNTERS", "MOST_ROWS", "MOST_ROOM", "MOST_TIME", "check_program", "_check_tasks"]
def loose1 : List Str := ["_is_task", "_check_counters", "_is_counter", "RowCheck", "_is_row", "_has_good_numbers", "_check_waits", "UNGUARDED", "Plan", "_first_places", "Program", "_law_fresh", "_law_fill", "_law_take", "_law_one", "_law_mix", "_law_same", "_law_all_words", "_law_some_words", "_law_handed", "_law_row", "_law_rows", "_law_sheet", "_law_sheets", "_law_some_tills", "_law_is_number", "_law_is_word", "_law_inner", "_law_reason", "_law_seek"]
def loose2 : List Str := ["_law_surely", "_law_hurried", "_law_row_due", "_law_odd_row", "_law_bent", "_law_tried", "_law_task_due", "_law_till_due", "_law_with_odd"]
def loose : List Str := loose0 ++ loose1 ++ loose2
def asL : List Addr := [3, 38, 58, 77, 96, 115, 162, 169, 176, 181, 182, 183, 190, 195, 210, 215, 220, 227, 232, 239, 246, 253, 260, 289, 300, 307, 314, 345, 356, 485, 496, 503, 510, 517, 524, 529, 534, 541, 548, 555, 560, 565, 570, 577, 584, 589, 596, 601, 608, 613, 620, 627, 634, 641, 648, 655, 662, 669, 674, 37, 57, 76, 95, 114, 161, 168, 175, 180, 189, 194, 209, 214, 219, 226, 231, 238, 245, 252, 259, 288, 299, 306, 313, 344, 355, 484, 495, 502, 509, 516, 523, 528, 533, 540, 547, 554, 559, 564, 569, 576, 583, 588, 595, 600, 607, 612, 619, 626, 633, 640, 647, 654, 661, 668, 673, 55, 74, 93, 112, 274, 281, 286, 328, 335, 342, 371, 411, 54, 73, 92, 111, 273, 280, 285, 327, 334, 341, 370, 365, 366, 410]
abbrev R : PySem.W.OpenRow := PySem.W.OpenLaw.row PySem.Challenge.rw_looptimes_k07_programs_refused
abbrev hk : PySem.W.Hook := Lt.hookL asL fa fs fn sn ts tf
def ob (s : PySem.W.SharedT) : Lt.AlL := Lt.obsL asL fa fs fn sn ts tf (HandSHeadRun.getT s)
theorem ob_eq (s : PySem.W.SharedT) : ob s = hk.obs s.abs := Lt.obsL_eq (HandSHeadRun.getT_eq s)
theorem runA0 (w : World) : Lt.RunA R (PySem.W.view R.prog [76]) 6000 loose (Lt.setF w false) := by
  intro os
  kernel_rfl
theorem runB0 (w : World) : Lt.RunB R hk ob 6000 (Lt.setF w false) := by
  intro os
  kernel_rfl
theorem runA1 (w : World) : Lt.RunA R (PySem.W.view R.prog [76]) 6000 loose (Lt.setF w true) := by
  intro os
  kernel_rfl
theorem runB1 (w : World) : Lt.RunB R hk ob 6000 (Lt.setF w true) := by
  intro os
  kernel_rfl
theorem run (w : World) : HandSHeadRun.RunEq R (PySem.W.view R.prog [76]) hk ob 6000 loose w := Lt.by_setF (P := fun w => HandSHeadRun.RunEq R (PySem.W.view R.prog [76]) hk ob 6000 loose w) (fun w => Lt.runEq_two (runA0 w) (runB0 w)) (fun w => Lt.runEq_two (runA1 w) (runB1 w)) w

def spLaw0 (K : PySem.W.Frag) : Sp := fun vs H Q _ => ∃ (a : Addr) (ns : List Int), vs = [.ref a] ∧ SqL K H a (ns.map V.int) ∧ ns.length ≤ 63 ∧ ∀ H', Q (.bl true) H'
abbrev OkLaw : Prop := ∀ {P : Program} {w : World} {K : PySem.W.Frag} {mg : Str → Option Value} {base : Heap} (T : Txt K mg) (D0 : TxtD K w), FnOk P w K mg base CX0 26 (He.fAd K ("law", none)) T.fd_law ["_law_script"] (spLaw0 K)
end Law
section
open PySem PySem.W PySem.Calls PyProof.Rows
set_option maxRecDepth 100000 in
set_option maxHeartbeats 0 in
theorem Law.early (okl : Law.OkLaw) : PySem.Challenge.rw_looptimes_k07_programs_refused.Holds := by
  w_on; o_law
  refine HandSHeadRun.head_any (r := OpenLaw.row PySem.Challenge.rw_looptimes_k07_programs_refused) (q := view (OpenLaw.row PySem.Challenge.rw_looptimes_k07_programs_refused).prog [76]) (H := Law.hk) (ob := Law.ob) (M := 6000) (loose := Law.loose) (d := HandSHeadRun.topDef (OpenLaw.row PySem.Challenge.rw_looptimes_k07_programs_refused).prog 76) (kwd := []) Law.ob_eq
    (by kernel_rfl) (fun s => by kernel_rfl) Law.run (by kernel_rfl) (by kernel_rfl) (by kernel_rfl) (by rfl) (by first | assumption | decide +kernel) (by decide +kernel) ⟨rfl, rfl, rfl, rfl, rfl, by decide +kernel⟩ ?hw ?hc
  case hw => w_witness2
  case hc =>
    refine LamX.walk_ofTsE (l := PySem.Challenge.rw_looptimes_k07_programs_refused) (n := 63) (k := 26) (x := "_law_script") (CX := fun _ => L2.CX0) rfl (by decide) (by kernel_rfl) ⟨rfl, by decide, by decide⟩ ?F (fun _ _ _ _ _ z => z)
    intro w mg fa h Y G hmg0
    obtain ⟨K, KX, c⟩ := Y
    have hmg : mg ("law" : PySem.Str) = some (.ref fa) := by
      have e : (HandSHeadRun.topDef (OpenLaw.row PySem.Challenge.rw_looptimes_k07_programs_refused).prog 76).name = ("law" : PySem.Str) := by kernel_rfl
      rw [← e]
      exact hmg0
    obtain ⟨T⟩ := Law.txt_of KX G (Lt.saysS_of c)
    have ea := hmg.symm.trans T.g_law
    cases ea
    have b : ∀ (s : Shared) (v : Value), BindsTo s T.fd_law ⟨[v], []⟩ [("_law_script", v)] := fun s v => L2.FunD.bindsA (ps := ["_law_script"]) T.F_law (fun _ _ _ _ _ _ us hl => match us, hl with | [_], _ => rfl) s [v] rfl
    obtain ⟨⟨D⟩⟩ := Law.txtD_of c.x.t
    exact ⟨K, KX, T.fd_law, Lt.cts Law.tf K, Law.spLaw0 K, Lt.cts_empty c.x, Lt.cts_out c.x, Lt.cts_hd KX c.x, b, fun H a ns hl hi hT hS => ⟨a, ns, rfl, hS, hl, fun _ => rfl⟩, fun base _ _ hT => okl T D⟩

end
namespace Law
open PySem PySem.Spec PyProof.Rows L2 Lt
section
local macro_rules | `(tactic| wtm_at "subl") => `(tactic| first | with_reducible exact List.nil_sublist _ | with_reducible exact List.Sublist.refl _ | (with_reducible refine List.Sublist.cons₂ _ ?_; wtm_at "subl") | (with_reducible refine List.Sublist.cons _ ?_; wtm_at "subl"))
local macro_rules | `(tactic| wtm_at "k") => `(tactic| try dsimp only [L2.cxOf, L2.Cx.nox, L2.Cx.wish, L2.Cx.blk])
local macro_rules | `(tactic| wtm_at "ask") => `(tactic| fail)
local macro_rules | `(tactic| wtm_at "mem") => `(tactic| first | with_reducible exact List.mem_cons_self | (with_reducible apply List.mem_cons_of_mem; wtm_at "mem"))
local macro_rules | `(tactic| wtm_at "put") => `(tactic| first | with_reducible exact Lt.Put.head | (with_reducible apply Lt.Put.tail; wtm_at "put"))
local macro_rules | `(tactic| wtm_at "own") => `(tactic| first | exact Or.inr (by assumption) | exact Or.inl (by wtm_at "mem"))
local macro_rules | `(tactic| wtm_at "cnd") => `(tactic| first | assumption | decide | ((try dsimp only); omega) | (unfold CMul; omega) | (unfold CDiv; omega) | (unfold CPow; omega) | exact Or.inr (by decide) | exact Or.inl (by decide) | exact wide_div (b := 128) (by omega) (by omega) (by decide) (by decide))
local macro_rules | `(tactic| wtm_at "at") => `(tactic| first | exact rfl | assumption)
local macro_rules | `(tactic| wtm_at "kit") => `(tactic| first | assumption | exact kit_int_int | exact kit_int_bool | exact kit_int_str | exact kit_int_list | exact kit_int_tuple | exact kit_int_dict | exact kit_bool_int | exact kit_bool_bool | exact kit_bool_str | exact kit_bool_list | exact kit_bool_tuple | exact kit_bool_dict | exact kit_str_int | exact kit_str_bool | exact kit_str_str | exact kit_str_list | exact kit_str_tuple | exact kit_str_dict | exact kit_list_int | exact kit_list_bool | exact kit_list_str | exact kit_list_list | exact kit_list_tuple | exact kit_list_dict | exact kit_tuple_int | exact kit_tuple_bool | exact kit_tuple_str | exact kit_tuple_list | exact kit_tuple_tuple | exact kit_tuple_dict | exact kit_dict_int | exact kit_dict_bool | exact kit_dict_str | exact kit_dict_list | exact kit_dict_tuple | exact kit_dict_dict | exact kit_NoneType_int | exact kit_NoneType_bool | exact kit_NoneType_str | exact kit_NoneType_list | exact kit_NoneType_tuple | exact kit_NoneType_dict)
local macro_rules | `(tactic| wtm_at "kitA") => `(tactic| first | assumption | exact kitA_lt_int | exact kitA_lt_bool | exact kitA_lt_str | exact kitA_lt_list | exact kitA_lt_tuple | exact kitA_lt_dict | exact kitA_lt_NoneType | exact kitA_bilt_int | exact kitA_bilt_bool | exact kitA_bilt_str | exact kitA_bilt_list | exact kitA_bilt_tuple | exact kitA_bilt_dict | exact kitA_bilt_NoneType)
local macro_rules | `(tactic| wtm_at "ty") => `(tactic| first | exact .base (.int _) | exact .base (.bl _) | exact .base (.str _) | exact .base .non | exact .base (.lst (Stt.get (by assumption) (by wtm_at "mem"))) | exact .base (.tup (Stt.get (by assumption) (by wtm_at "mem"))) | exact .base (.dK (Stt.get (by assumption) (by wtm_at "mem"))) | exact sqL_ty (Stt.upL (by assumption) (by assumption)) | exact sqT_ty (Stt.upT (by assumption) (by assumption)) | exact InsT.ty (by assumption) (Stt.get (by assumption) (by wtm_at "mem")) | assumption)
local macro_rules | `(tactic| wtm_at "pre") => `(tactic| fail)
local macro_rules | `(tactic| wtm_at "rd") => `(tactic| repeat (first
  | wtm_at "pre"
  | with_reducible refine' Rd.seq ?_
  | with_reducible refine' Rd.asg ?_
  | ((with_reducible refine' Rd.var ?vh ?_); (case vh => exact rfl))
  | with_reducible refine' Rd.con ?_
  | with_reducible refine' Rd.op ?_
  | with_reducible refine' Rd.i0 ?_
  | ((with_reducible refine' Rd.ic ?vh ?_); (case vh => wtm_at "cnd"))
  | ((with_reducible refine' Rd.ixL ?v1 ?v2 ?v3 ?_); (case v1 => assumption); (case v2 => wtm_at "mem"); (case v3 => wtm_at "at"))
  | ((with_reducible refine' Rd.ixT ?v1 ?v2 ?v3 ?_); (case v1 => assumption); (case v2 => wtm_at "mem"); (case v3 => wtm_at "at"))
  | ((with_reducible refine' Rd.ixD2 ?v1 ?v2 ?_); (case v1 => assumption); (case v2 => wtm_at "mem"); intro _)
  | ((with_reducible refine' Rd.ixD3 ?v1 ?v2 ?_); (case v1 => assumption); (case v2 => wtm_at "mem"); intro _)
  | ((with_reducible refine' Rd.setD2 ?v1 ?v2 ?v3 ?v4 ?_); (case v1 => assumption); (case v2 => wtm_at "mem"); (case v3 => wtm_at "put"); (case v4 => wtm_at "own"); intro _ _)
  | ((with_reducible refine' Rd.isi ?v1 ?v2 ?v3 ?_); (case v1 => wtm_at "ty"); (case v2 => first | exact ClsV.ty _ | exact ClsV.own _); (case v3 => wtm_at "kit"))
  | with_reducible refine' Rd.fld ?_
  | ((with_reducible refine' Rd.fldI ?v1 ?v2 ?v3 ?v4 ?v5 ?_); (case v1 => assumption); (case v2 => wtm_at "mem"); (case v3 => assumption); (case v4 => assumption); (case v5 => wtm_at "at"))
  | with_reducible refine' Rd.sfld ?_
  | ((with_reducible refine' Rd.sfldI ?v1 ?v2 ?v3 ?v4 ?v5 ?v6 ?v7 ?_); (case v1 => assumption); (case v2 => wtm_at "mem"); (case v3 => assumption); (case v4 => assumption); (case v5 => first | decide | (refine Nat.lt_of_le_of_lt (putF_len _ _ _) ?_; decide)); (case v6 => wtm_at "put"); (case v7 => wtm_at "own"); intro _ _)
  | with_reducible refine' Rd.make ?_
  | with_reducible refine' Rd.gcd ?_
  | with_reducible refine' Rd.cons ?_
  | with_reducible refine' Rd.nil ?_
  | with_reducible refine' Rd.cb ?_
  | with_reducible refine' Rd.intI ?_
  | with_reducible refine' Rd.absI ?_
  | ((with_reducible refine' Rd.lenL ?v1 ?v2 ?_); (case v1 => assumption); (case v2 => wtm_at "mem"))
  | ((with_reducible refine' Rd.lenT ?v1 ?v2 ?_); (case v1 => assumption); (case v2 => wtm_at "mem"))
  | ((with_reducible refine' Rd.lenBL ?v1 ?v2 ?v3 ?_); (case v1 => assumption); (case v2 => assumption); (case v3 => first | exact List.not_mem_nil | assumption))
  | ((with_reducible refine' Rd.lenBT ?v1 ?v2 ?v3 ?_); (case v1 => assumption); (case v2 => assumption); (case v3 => first | exact List.not_mem_nil | assumption))
  | ((with_reducible refine' Rd.ixBL ?v1 ?v2 ?v4 ?v3 ?_); (case v1 => assumption); (case v2 => assumption); (case v4 => first | exact List.not_mem_nil | assumption); (case v3 => wtm_at "at"))
  | ((with_reducible refine' Rd.ixBT ?v1 ?v2 ?v4 ?v3 ?_); (case v1 => assumption); (case v2 => assumption); (case v4 => first | exact List.not_mem_nil | assumption); (case v3 => wtm_at "at"))
  | ((with_reducible refine' Rd.brI ?vh ?_); (case vh => with_reducible exact rfl))
  | with_reducible refine' Rd.ifS ?_
  | with_reducible refine' Rd.test ?_
  | with_reducible refine' Rd.tbl ?_
  | with_reducible refine' Rd.bl ?_
  | with_reducible refine' Rd.brTT ?_
  | with_reducible refine' Rd.brFF ?_
  | with_reducible refine' Rd.brN ?_
  | ((with_reducible refine' Rd.aug ?vh ?_); (case vh => exact rfl))
  | with_reducible refine' Rd.ipI ?_
  | with_reducible refine' Rd.blV ?_
  | with_reducible refine' Rd.notVL ?_
  | with_reducible refine' Rd.andT ?_
  | with_reducible refine' Rd.orT ?_
  | with_reducible refine' Rd.notT ?_
  | with_reducible refine' Rd.andV ?_
  | with_reducible refine' Rd.orV ?_
  | with_reducible refine' Rd.notV ?_
  | with_reducible refine' Rd.ifE ?_
  | ((with_reducible refine' Rd.eqS ?vh ?_); (case vh => exact rfl))
  | ((with_reducible refine' Rd.neS ?vh ?_); (case vh => exact rfl))
  | with_reducible refine' Rd.par ?_
  | with_reducible refine' Rd.parL ?_
  | with_reducible refine' Rd.un ?_
  | with_reducible refine' Rd.u1 ?_
  | with_reducible refine' Rd.sub ?_
  | ((with_reducible refine' Rd.setL ?v1 ?v2 ?v3 ?v4 ?v5 ?_); (case v1 => assumption); (case v2 => wtm_at "mem"); (case v3 => wtm_at "at"); (case v4 => wtm_at "put"); (case v5 => wtm_at "own"); intro _ _)
  | with_reducible refine' Rd.tup ?_
  | with_reducible refine' Rd.lst ?_
  | ((with_reducible refine' Rd.tupN ?v1 ?v2 ?_); (case v1 => assumption); (case v2 => simp only [List.length_cons, List.length_nil]; decide); intro _ _ _ _)
  | ((with_reducible refine' Rd.lstN ?v1 ?v2 ?_); (case v1 => assumption); (case v2 => simp only [List.length_cons, List.length_nil]; decide); intro _ _ _ _)
  | with_reducible refine' Rd.ret ?_
  | with_reducible refine' Rd.drop ?_
  | with_reducible refine' Rd.retN ?_
  | with_reducible refine' Rd.next ?_
  | with_reducible refine' Rd.brk ?_
  | with_reducible refine' Rd.cont ?_
  | with_reducible refine' Rd.call ?_
  | wtm_at "ask"
  | with_reducible refine' Rd.bm ?_
  | ((with_reducible refine' Rd.bmL ?v1 ?v2 ?_); (case v1 => assumption); (case v2 => wtm_at "mem"))
  | ((with_reducible refine' Rd.app ?v1 ?v2 ?v3 ?v4 ?v5 ?_); (case v1 => assumption); (case v2 => wtm_at "mem"); (case v3 => simp only [List.length_cons, List.length_nil, List.length_append]; omega); (case v4 => wtm_at "put"); (case v5 => wtm_at "own"); intro _ _)
  | with_reducible refine' Rd.asgT ?_
  | ((with_reducible refine' Rd.gtup ?v1 ?v2 ?v3 ?_); (case v1 => assumption); (case v2 => wtm_at "mem"); (case v3 => exact rfl))
  | with_reducible refine' Rd.gcons ?_
  | with_reducible refine' Rd.gname ?_
  | with_reducible refine' Rd.gnil ?_
  | with_reducible refine' Rd.sl ?_
  | with_reducible refine' Rd.noPart ?_
  | with_reducible refine' Rd.part ?_
  | with_reducible refine' Rd.prt ?_
  | with_reducible refine' Rd.isB ?_
  | ((with_reducible refine' Rd.wp ?vh ?_); (case vh => exact rfl))
  | with_reducible refine' Rd.makeK ?_
  | with_reducible refine' Rd.meth ?_
  | ((with_reducible refine' Rd.catL ?v1 ?v2 ?v3 ?v4 ?_); (case v1 => assumption); (case v2 => wtm_at "mem"); (case v3 => wtm_at "mem"); (case v4 => simp only [List.length_cons, List.length_nil, List.length_append]; omega); intro _ _ _ _)
  | with_reducible refine' Rd.dnew ?_
  | ((with_reducible refine' Rd.dnewL ?v1 ?_); (case v1 => assumption); intro _ _ _ _)
  | with_reducible refine' Rd.lc ?_
  | with_reducible refine' Rd.wZ ?_
  | with_reducible refine' Rd.tYesH ?_
  | with_reducible refine' Rd.fmt ?_
  | with_reducible refine' Rd.joined ?_
  | with_reducible refine' Rd.jsNil ?_
  | with_reducible refine' Rd.jsCons ?_
  | ((with_reducible refine' Rd.isiT ?v1 ?v2 ?v3 ?v4 ?v5 ?_); (case v1 => assumption); (case v2 => wtm_at "mem"); (case v3 => wtm_at "ty"); (case v4 => first | exact .cons (.ty _) (.cons (.ty _) .nil) | exact .cons (.ty _) (.cons (.ty _) (.cons (.ty _) (.cons (.ty _) .nil))) | exact .cons (.ty _) (.cons (.ty _) (.cons (.ty _) .nil))); (case v5 => wtm_at "kitA"))
  | with_reducible refine' Rd.forS ?_
  | with_reducible refine' Rd.wEnT ?_
  | ((with_reducible refine' Rd.wEnTL ?v1 ?v2 ?_); (case v1 => assumption); (case v2 => wtm_at "mem"))
  | with_reducible refine' Rd.wL ?_
  | ((with_reducible refine' Rd.wLL ?v1 ?v2 ?_); (case v1 => assumption); (case v2 => wtm_at "mem"))
  | with_reducible refine' Rd.wT ?_
  | ((with_reducible refine' Rd.wTL ?v1 ?v2 ?_); (case v1 => assumption); (case v2 => wtm_at "mem"))
  | with_reducible refine' Rd.wR1 ?_
  | ((with_reducible refine' Rd.wR1L ?v1 ?v2 ?_); (case v1 => omega); (case v2 => omega))
  | with_reducible refine' Rd.wR2 ?_
  | ((with_reducible refine' Rd.wR2L ?v1 ?_); (case v1 => omega))))

section
variable {P : Program} {w : World} {K : PySem.W.Frag} {mg : Str → Option Value} {base : Heap}
/-! ### the draws -/
def spFresh (K : PySem.W.Frag) : Sp := fun vs H Q _ => ∃ (a : Addr) (ns : List Int), vs = [.ref a] ∧ SqL K H a (ns.map V.int) ∧ ns.length ≤ 63 ∧ ∀ st c ms H', H st = none → Stt H [] (dled st c ms) H' → ms.length ≤ 63 → Q (.ref st) H'
theorem ok_l_fresh (T : Txt K mg) : FnOk P w K mg base CX0 1 (He.fAd K ("_law_fresh", none)) T.fd_l_fresh ["_law_script"] (spFresh K) := by
  refine T.F_l_fresh.ok sc_l_fresh (fun vs H Q E h => ?_) (fun cdv A outer s H vs Q E hr h => ?_)
  · obtain ⟨a, ns, rfl, _⟩ := h
    rfl
  · obtain ⟨a, ns, rfl, hS, hl, k⟩ := h
    refine ⟨_, PSs.nox (pss_one (ps_ret (pe_lst (pa_cons (pe_slice sl_list (pv 0) po_none (po_some pe_int)) (pa_cons pe_int (pa_cons pe_int (pa_cons pe_bl pa_nil))))))), ?_⟩
    wtm_at "k"
    have s0 : Stt H [] [] H := Stt.nil
    wtm_at "rd"
    refine ⟨a, _, rfl, hS, fun p hp => ?_⟩
    have ec : cutV (ns.map V.int) none (some 63) = (ns.take 63).map V.int := by
      unfold cutV
      simp [HT.sIx]
    rw [ec]
    have s1 := s0.new hp (.lst ((ns.take 63).map V.int))
    generalize upd H p (HO.lst ((ns.take 63).map V.int)) = H1 at s1 ⊢
    wtm_at "rd"
    refine k _ p (ns.take 63) _ (by assumption) (Stt.re (f := DrS p) (by assumption) .head ⟨_, Stt.get (by assumption) (by wtm_at "mem"), 0, 0, false, rfl⟩) ?_
    rw [List.length_take]
    omega
def spFill : Sp := fun vs H Q _ => ∃ (st c : Addr) (ns : List Int), vs = [.ref st] ∧ Stt H [st] (dled st c ns) H ∧ ns.length ≤ 63 ∧ ∀ H', Stt H [st] (dled st c ns) H' → Q .non H'
theorem ok_l_fill (T : Txt K mg) : FnOk P w K mg base CX0 1 (He.fAd K ("_law_fill", none)) T.fd_l_fill ["_law_state"] spFill := by
  refine T.F_l_fill.ok sc_l_fill (fun vs H Q E h => ?_) (fun cdv A outer s H vs Q E hr h => ?_)
  · obtain ⟨st, c, ns, rfl, _⟩ := h
    rfl
  · obtain ⟨st, c, ns, rfl, s0, hl, k⟩ := h
    refine ⟨_, PSs.nox (pss_cons (ps_par (i := 1) (j := 2) (by rfl) sc_l_fill.nd rfl rfl (by decide) rfl rfl (pa_cons (pe_ix ix_list (pv 0) pe_int (fun _ _ => rfl)) (pa_cons (pe_ix ix_list (pv 0) pe_int (fun _ _ => rfl)) pa_nil)) (by rfl))
  (pss_cons (ps_asg (pe_op op_add (pe_op op_mul pe_int (pv 2)) pe_int) (pg_name (i := 3) sc_l_fill.nd rfl (by first | exact Or.inl rfl | exact Or.inr rfl)))
  (C8.pss_cut (ps_if (pt_cmpR op_gt (pe_callB call_lenQ (by rfl) T.n_len PySem.boot_len (pa_cons (pv 1) pa_nil)) pe_int (nomark _)) (pss_one (ps_asg (pe_op op_add (pe_op op_mul pe_int (pe_op op_fdiv (pv 2) (pe_callB call_lenQ (by rfl) T.n_len PySem.boot_len (pa_cons (pv 1) pa_nil)))) (pe_ix ix_list (pv 1) (pe_op op_mod (pe_callTy call_intQ (by rfl) T.n_int (by decide +kernel) (pa_cons (pv 2) pa_nil)) (pe_callB call_lenQ (by rfl) T.n_len PySem.boot_len (pa_cons (pv 1) pa_nil))) (fun _ _ => rfl))) (pg_name (i := 3) sc_l_fill.nd rfl (by first | exact Or.inl rfl | exact Or.inr rfl))))
   pss_nil)
  (pss_cons (ps_asg (pe_op op_add (pv 2) pe_int) (pg_sub (pv 0) pe_int set_list))
  (C8.pss_cut (ps_asg (pe_or (pe_cmpR op_ge (pv 2) (pe_callB call_lenQ (by rfl) T.n_len PySem.boot_len (pa_cons (pv 1) pa_nil)) (nomark _)) (pe_one (pe_cmpR op_lt (pv 3) (pe_op op_pow pe_int pe_int) (nomark _)))) (pg_sub (pv 0) pe_int set_list))
  (pss_cons (ps_asg (pe_op op_sub (pv 3) (pe_op op_pow pe_int pe_int)) (pg_sub (pv 0) pe_int set_list))
  (pss_one (ps_if (pt_val (pe_ix ix_list (pv 0) pe_int (fun _ _ => rfl))) (pss_cons (ps_asg pe_int (pg_sub (pv 0) pe_int set_list))
  (pss_one (ps_for PassesOwn.never rfl (pi_enumT (by rfl) T.n_enumerate (pa_cons (pe_tup (pa_cons pe_int (pa_cons pe_int (pa_cons pe_int (pa_cons pe_int (pa_cons pe_int pa_nil)))))) pa_nil)) (pg_tup (by rfl) (pgs_cons (pg_name (i := 4) sc_l_fill.nd rfl (by first | exact Or.inl rfl | exact Or.inr rfl)) (pgs_cons (pg_name (i := 5) sc_l_fill.nd rfl (by first | exact Or.inl rfl | exact Or.inr rfl)) pgs_nil)))
   (pss_cons (ps_asg (pe_op op_mod (pe_callTy call_intQ (by rfl) T.n_int (by decide +kernel) (pa_cons (pe_op op_mul (pe_op op_add (pe_op op_add (pv 3) (pe_op op_mul (pe_op op_mul pe_int (pv 4)) (pv 4))) (pe_op op_mul pe_int (pv 4))) (pe_op op_add pe_int (pe_op op_mul pe_int (pv 4)))) pa_nil)) (pv 5)) (pg_name (i := 6) sc_l_fill.nd rfl (by first | exact Or.inl rfl | exact Or.inr rfl)))
  (pss_one (ps_asg (pe_op op_add (pe_op op_mul (pe_ix ix_list (pv 0) pe_int (fun _ _ => rfl)) (pv 5)) (pe_op op_mod (pe_callTy call_intQ (by rfl) T.n_int (by decide +kernel) (pa_cons (pe_op op_pow (pv 6) pe_int) pa_nil)) (pv 5))) (pg_sub (pv 0) pe_int set_list)))))))
   pss_nil)))))))), ?_⟩
    wtm_at "k"
    obtain ⟨o, h1, nth, val, fl, rfl⟩ := s0.pick (a := st) (f := DrS c) (by wtm_at "mem")
    have s1 : Stt H [st] [(st, Is (.lst [.ref c, .int nth, .int val, .bl fl])), (c, Is (.lst (ns.map V.int)))] H := s0.re .head ⟨_, h1, rfl⟩
    have fin : ∀ (H' : Hp) (a b : Int) (d : Bool), Stt H [st] [(st, Is (.lst [.ref c, .int a, .int b, .bl d])), (c, Is (.lst (ns.map V.int)))] H' → Q .non H' := fun H' a b d q2 =>
      k H' (q2.re .head ⟨_, q2.get (by wtm_at "mem"), a, b, d, rfl⟩)
    have hlen : (((ns.map V.int).length : Nat) : Int) = (ns.length : Int) := by rw [List.length_map]
    wtm_at "rd"
    refine Rd.cut (fun σ' H' => H = H' ∧ ∃ z : Int, σ' = [some (.ref st), some (.ref c), some (.int nth), some (.int z), none, none, none]) ?_ ?_
    · wtm_at "rd"
      refine Rd.brD (fun c1 => ?_) (fun c1 => ?_)
      · have hp : (0 : Int) < (((ns.map V.int).length : Nat) : Int) := c1
        obtain ⟨z, hz⟩ : ∃ z, atI (ns.map V.int) (nth % (((ns.map V.int).length : Nat) : Int)) = some (V.int z) := by
          have b0 := Int.emod_nonneg nth (Int.ne_of_gt hp)
          have b1 := Int.emod_lt_of_pos nth hp
          obtain ⟨j, hj⟩ := Int.eq_ofNat_of_zero_le b0
          have hj2 : j < ns.length := by omega
          refine ⟨ns[j], ?_⟩
          rw [hj]
          exact atI_nat (by simp [hj2])
        wtm_at "rd"
        exact ⟨rfl, _, rfl⟩
      · wtm_at "rd"
        exact ⟨rfl, _, rfl⟩
    · rintro σ' H' ⟨rfl, z, rfl⟩
      wtm_at "rd"
      refine Rd.cut (fun σ' H' => ∃ d : Bool, σ' = [some (.ref st), some (.ref c), some (.int nth), some (.int z), none, none, none] ∧ Stt H [st] [(st, Is (.lst [.ref c, .int (nth + 1), .int val, .bl d])), (c, Is (.lst (ns.map V.int)))] H') ?_ ?_
      · wtm_at "rd"
        refine Rd.brD (fun c1 => ?_) (fun c1 => ?_)
        · wtm_at "rd"
          exact ⟨_, rfl, by assumption⟩
        · wtm_at "rd"
          exact ⟨_, rfl, by assumption⟩
      · rintro σ' H' ⟨d, rfl, s3⟩
        wtm_at "rd"
        refine Rd.br (fun c1 => ?_) (fun c1 => ?_)
        · wtm_at "rd"
          have hpr : ∀ x ∈ ([.int 2147483647, .int 2147483629, .int 2147483587, .int 2147483579, .int 2147483563] : List V), ∃ z : Int, x = .int z ∧ 0 < z ∧ z < 2147483648 := by
            intro x hx
            simp only [List.mem_cons, List.not_mem_nil, or_false] at hx
            rcases hx with rfl | rfl | rfl | rfl | rfl <;> exact ⟨_, rfl, by decide, by decide⟩
          rename_i p _ _ _
          refine Rd.loop (walk_enumT (xs := [.int 2147483647, .int 2147483629, .int 2147483587, .int 2147483579, .int 2147483563])) (fun i σ H' => ∃ (v4 v5 v6 : Option V) (b : Int), σ = [some (.ref st), some (.ref c), some (.int nth), some (.int z), v4, v5, v6] ∧
            Stt H [st] [(p, Is (.tup [.int 2147483647, .int 2147483629, .int 2147483587, .int 2147483579, .int 2147483563])), (st, Is (.lst [.ref c, .int (nth + 1), .int b, .bl d])), (c, Is (.lst (ns.map V.int)))] H') ⟨_, _, _, _, rfl, by assumption⟩ (fun i σ H' _ hP => ?_) ?_ ?_
          · obtain ⟨_, _, _, _, _, s4⟩ := hP
            exact s4.sqT (by wtm_at "mem")
          · rintro i x σ H' H2 hi ⟨v4, v5, v6, b, rfl, s4⟩ ⟨p, x1, x2, rfl, hp, rfl, e1, e2⟩
            cases e1
            obtain ⟨pr, rfl, hp1, hp2⟩ := hpr x2 (List.mem_of_getElem? e2)
            have hi5 : i < 5 := hi
            have s5 := s4.new hp (.tup [.int (i : Int), .int pr])
            have b2 := Int.emod_nonneg ((z + 10007 * (i : Int) * (i : Int) + 101 * (i : Int)) * (48271 + 2 * (i : Int))) (show pr ≠ 0 by omega)
            have b3 := Int.emod_lt_of_pos ((z + 10007 * (i : Int) * (i : Int) + 101 * (i : Int)) * (48271 + 2 * (i : Int))) hp1
            wtm_at "rd"
            exact ⟨_, _, _, _, rfl, Stt.sub (by assumption) (List.Sublist.cons _ (List.Sublist.refl _))⟩
          · rintro σ H' ⟨v4, v5, v6, b, rfl, s4⟩
            wtm_at "rd"
            exact fin _ _ _ _ (s4.sub (List.Sublist.cons _ (List.Sublist.refl _)))
        · wtm_at "rd"
          exact fin _ _ _ _ (by assumption)
/-- a call of a draw asks -/
def spTake : Sp := fun vs H Q _ => ∃ (st c : Addr) (ns : List Int) (m : Int), vs = [.ref st, .int m] ∧ Stt H [st] (dled st c ns) H ∧ ns.length ≤ 63 ∧ 0 < m ∧ m < 2 ^ 100 ∧ ∀ d H', 0 ≤ d → d < m → Stt H [st] (dled st c ns) H' → Q (.int d) H'
theorem fill_ask {H0 H : Hp} {S : List Addr} {l : Led} {st c : Addr} {ns : List Int} {Q : VK} {E : XK} (s : Stt H0 S l H) (m1 : (st, DrS c) ∈ l) (m2 : (c, Is (.lst (ns.map V.int))) ∈ l) (hn : ns.length ≤ 63) (hs : st ∈ S ∨ H0 st = none) (k : ∀ H', Stt H0 S l H' → Q .non H') : spFill ([.ref st] ++ []) H Q E :=
  ⟨st, c, ns, rfl, s.drawn m1 m2, hn, fun H' q => k H' (s.after1 m1 q.keep hs (q.pick (by wtm_at "mem")))⟩
local macro_rules | `(tactic| wtm_at "ask") => `(tactic| ((with_reducible refine' fill_ask ?v1 ?v2 ?v3 ?v4 ?v5 ?_); (case v1 => assumption); (case v2 => wtm_at "mem"); (case v3 => wtm_at "mem"); (case v4 => assumption); (case v5 => wtm_at "own"); intro _ _))
theorem ok_l_take (T : Txt K mg) : FnOk P w K mg base CX0 2 (He.fAd K ("_law_take", none)) T.fd_l_take ["_law_state", "_law_many"] spTake := by
  refine T.F_l_take.ok sc_l_take (fun vs H Q E h => ?_) (fun cdv A outer s H vs Q E hr h => ?_)
  · obtain ⟨st, c, ns, m, rfl, _⟩ := h
    rfl
  · obtain ⟨st, c, ns, m, rfl, s0, hl, h0, h1, k⟩ := h
    refine ⟨_, PSs.nox (pss_cons (ps_asg pe_int (pg_name (i := 2) sc_l_take.nd rfl (by first | exact Or.inl rfl | exact Or.inr rfl)))
  (pss_cons (ps_while PassesOwn.never (PW.pt (pw_and (pt_cmpR op_lt (pv 2) pe_int (nomark _)) (pw_and1 (PW.pt (pw_or (pt_cmpR op_eq (pe_ix ix_list (pv 0) pe_int (fun _ _ => rfl)) pe_int (nomark _)) (pw_or1 (PW.pt (pw_and (pt_val (pe_ix ix_list (pv 0) pe_int (fun _ _ => rfl))) (pw_and1 (pt_cmpR op_lt (pe_ix ix_list (pv 0) pe_int (fun _ _ => rfl)) (pe_op op_mul (pv 1) pe_int) (nomark _))))))))))) (pss_cons (ps_expr (pe_call (ok_l_fill T) (hr.mono (by decide)) rfl T.g_l_fill T.F_l_fill.kp T.b_l_fill .nil pass0 (pa_cons (pv 0) pa_nil)))
  (pss_cons (ps_aug (i := 2) sc_l_take.nd rfl (by first | exact Or.inl rfl | exact Or.inr rfl) pe_int ip_add)
  (pss_one (ps_if (PW.pt (pw_and (pt_val (pe_ix ix_list (pv 0) pe_int (fun _ _ => rfl))) (pw_and1 (pt_cmpR op_lt (pe_ix ix_list (pv 0) pe_int (fun _ _ => rfl)) (pe_op op_mul (pv 1) pe_int) (nomark _))))) (pss_one (ps_asg (pe_op op_add (pe_ix ix_list (pv 0) pe_int (fun _ _ => rfl)) (pe_op op_mul (pe_op op_mul (pv 1) pe_int) (pe_op op_add pe_int (pe_op op_mod (pe_callTy call_intQ (by rfl) T.n_int (by decide +kernel) (pa_cons (pe_ix ix_list (pv 0) pe_int (fun _ _ => rfl)) pa_nil)) pe_int)))) (pg_sub (pv 0) pe_int set_list)))
   pss_nil)))))
  (pss_cons (ps_asg (pe_op op_mod (pe_callTy call_intQ (by rfl) T.n_int (by decide +kernel) (pa_cons (pe_ix ix_list (pv 0) pe_int (fun _ _ => rfl)) pa_nil)) (pv 1)) (pg_name (i := 3) sc_l_take.nd rfl (by first | exact Or.inl rfl | exact Or.inr rfl)))
  (pss_cons (ps_asg (pe_op op_fdivW (pe_ix ix_list (pv 0) pe_int (fun _ _ => rfl)) (pv 1)) (pg_sub (pv 0) pe_int set_list))
  (pss_one (ps_ret (pv 3))))))), ?_⟩
    wtm_at "k"
    wtm_at "rd"
    refine Rd.whileS (fun n σ' H' => ∃ (z : Int), σ' = [some (.ref st), some (.int m), some (.int z), none] ∧ 0 ≤ z ∧ n = (64 - z).toNat ∧ Stt H [st] (dled st c ns) H') 64 ⟨0, rfl, by decide, rfl, s0⟩ ?_
    rintro n σ' H' ⟨z, rfl, hz, rfl, s1⟩
    have body : ∀ H2, z < 64 → Stt H [st] (dled st c ns) H2 → ∃ N : L2.St → Hp → Prop, (∀ σ' H', N σ' H' → ∃ m', m' < (64 - z).toNat ∧ ∃ (z : Int), σ' = [some (.ref st), some (.int m), some (.int z), none] ∧ 0 ≤ z ∧ m' = (64 - z).toNat ∧ Stt H [st] (dled st c ns) H') ∧
        ∀ H2, Stt H [st] (dled st c ns) H2 → N [some (.ref st), some (.int m), some (.int (z + 1)), none] H2 := fun H2 hz2 _ =>
      ⟨fun σ' H' => σ' = [some (.ref st), some (.int m), some (.int (z + 1)), none] ∧ Stt H [st] (dled st c ns) H', fun σ' H' h => ⟨_, by omega, z + 1, h.1, by omega, rfl, h.2⟩, fun H2 s2 => ⟨rfl, s2⟩⟩
    have fin : ∀ (v : Int) (H5 : Hp), Stt H [st] (dled st c ns) H5 → Q (.int (v % m)) H5 := fun v H5 s5 => k _ _ (Int.emod_nonneg v (show m ≠ 0 by omega)) (Int.emod_lt_of_pos v h0) s5
    wtm_at "rd"
    refine Rd.brD (fun c1 => ?_) (fun c1 => ?_)
    · obtain ⟨N, n1, n2⟩ := body H' c1 s1
      wtm_at "rd"
      refine Rd.brD (fun c2 => ?_) (fun c2 => ?_)
      · wtm_at "rd"
        refine ⟨N, n1, ?_⟩; wtm_at "rd"; refine Rd.br (fun c3 => ?_) (fun c3 => ?_) <;> subst c3 <;> wtm_at "rd"; (refine Rd.brD (fun c4 => ?_) (fun c4 => ?_) <;> wtm_at "rd" <;> exact n2 _ (by assumption)); exact n2 _ (by assumption)
      · wtm_at "rd"
        refine Rd.br (fun c3 => ?_) (fun c3 => ?_)
        · subst c3
          wtm_at "rd"
          refine Rd.brD (fun c4 => ?_) (fun c4 => ?_)
          · wtm_at "rd"
            refine ⟨N, n1, ?_⟩; wtm_at "rd"; refine Rd.br (fun c3 => ?_) (fun c3 => ?_) <;> subst c3 <;> wtm_at "rd"; (refine Rd.brD (fun c4 => ?_) (fun c4 => ?_) <;> wtm_at "rd" <;> exact n2 _ (by assumption)); exact n2 _ (by assumption)
          · wtm_at "rd"
            exact fin _ _ (by assumption)
        · subst c3
          wtm_at "rd"
          exact fin _ _ (by assumption)
    · wtm_at "rd"
      exact fin _ _ (by assumption)
end

set_option exponentiation.threshold 20000
section
variable {P : Program} {w : World} {K : PySem.W.Frag} {mg : Str → Option Value} {base : Heap}
theorem take_ask {H0 H : Hp} {S : List Addr} {l : Led} {st c : Addr} {ns : List Int} {m : Int} {Q : VK} {E : XK} (s : Stt H0 S l H) (m1 : (st, DrS c) ∈ l) (m2 : (c, Is (.lst (ns.map V.int))) ∈ l) (hn : ns.length ≤ 63) (hs : st ∈ S ∨ H0 st = none)
    (h0 : 0 < m ∧ m < 2 ^ 100) (k : ∀ d H', 0 ≤ d ∧ d < m → Stt H0 S l H' → Q (.int d) H') : spTake ([.ref st, .int m] ++ []) H Q E :=
  ⟨st, c, ns, m, rfl, s.drawn m1 m2, hn, h0.1, h0.2, fun d H' a b q => k d H' ⟨a, b⟩ (s.after1 m1 q.keep hs (q.pick (by wtm_at "mem")))⟩
local macro_rules | `(tactic| wtm_at "ask") => `(tactic| ((with_reducible refine' take_ask ?v1 ?v2 ?v3 ?v4 ?v5 ?v6 ?_); (case v1 => assumption); (case v2 => wtm_at "mem"); (case v3 => wtm_at "mem"); (case v4 => assumption); (case v5 => wtm_at "own"); (case v6 => first | decide | omega); intro _ _ _ _))
/-- things[take(len(things))] -/
def spOne : Sp := fun vs H Q _ => ∃ (st c : Addr) (ns : List Int) (p : Addr) (xs : List V), vs = [.ref st, .ref p] ∧ Stt H [st] [(p, Is (.lst xs)), (st, DrS c), (c, Is (.lst (ns.map V.int)))] H ∧ ns.length ≤ 63 ∧ 0 < xs.length ∧ xs.length ≤ 1000 ∧
  ∀ v H', v ∈ xs → Stt H [st] [(p, Is (.lst xs)), (st, DrS c), (c, Is (.lst (ns.map V.int)))] H' → Q v H'
theorem ok_l_one (T : Txt K mg) : FnOk P w K mg base CX0 3 (He.fAd K ("_law_one", none)) T.fd_l_one ["_law_state", "_law_things"] spOne := by
  refine T.F_l_one.ok sc_l_one (fun vs H Q E h => ?_) (fun cdv A outer s H vs Q E hr h => ?_)
  · obtain ⟨st, c, ns, m, xs, rfl, _⟩ := h
    rfl
  · obtain ⟨st, c, ns, p, xs, rfl, s0, hl, h0, h1, k⟩ := h
    refine ⟨_, PSs.nox (pss_one (ps_ret (pe_ix ix_list (pv 1) (pe_call (ok_l_take T) (hr.mono (by decide)) rfl T.g_l_take T.F_l_take.kp T.b_l_take .nil pass0 (pa_cons (pv 0) (pa_cons (pe_callB call_lenQ (by rfl) T.n_len PySem.boot_len (pa_cons (pv 1) pa_nil)) pa_nil))) (fun _ _ => rfl)))), ?_⟩
    wtm_at "k"
    wtm_at "rd"
    rename_i d H1 hd s1
    obtain ⟨j, rfl⟩ := Int.eq_ofNat_of_zero_le hd.1
    have hj : j < xs.length := by omega
    have hz : atI xs (j : Int) = some xs[j] := atI_nat (by simp [hj])
    wtm_at "rd"
    exact k _ _ (List.getElem_mem hj) s1
theorem one_ask {H0 H : Hp} {S : List Addr} {l : Led} {st c p : Addr} {ns : List Int} {xs : List V} {Q : VK} {E : XK} (s : Stt H0 S l H) (sb : List.Sublist [(p, Is (.lst xs)), (st, DrS c), (c, Is (.lst (ns.map V.int)))] l) (hn : ns.length ≤ 63) (hs : st ∈ S ∨ H0 st = none)
    (h0 : 0 < xs.length ∧ xs.length ≤ 1000) (k : ∀ v H', v ∈ xs → Stt H0 S l H' → Q v H') : spOne ([.ref st, .ref p] ++ []) H Q E :=
  ⟨st, c, ns, p, xs, rfl, s.base sb, hn, h0.1, h0.2, fun v H' a q => k v H' a (s.after1 (f := DrS c) (sb.subset (by simp)) q.keep hs (q.pick (by wtm_at "mem")))⟩
end

section
variable {P : Program} {w : World} {K : PySem.W.Frag} {mg : Str → Option Value} {base : Heap}
/-- the same at every depth, at most n lists or tuples deep; a dict beside itself -/
inductive Sm (G : Hp) : Nat → V → V → Prop where
  | non (n : Nat) : Sm G n .non .non
  | bl (n : Nat) (b : Bool) : Sm G n (.bl b) (.bl b)
  | int (n : Nat) (i : Int) : Sm G n (.int i) (.int i)
  | str (n : Nat) (z : Str) : Sm G n (.str z) (.str z)
  | lst {n : Nat} {a b : Addr} {xs ys : List V} (h1 : G a = some (.lst xs)) (h2 : G b = some (.lst ys)) (hl : xs.length = ys.length) (hz : xs.length ≤ 1000) (r : ∀ (i : Nat) x y, xs[i]? = some x → ys[i]? = some y → Sm G n x y) : Sm G (n + 1) (.ref a) (.ref b)
  | tup {n : Nat} {a b : Addr} {xs ys : List V} (h1 : G a = some (.tup xs)) (h2 : G b = some (.tup ys)) (hl : xs.length = ys.length) (hz : xs.length ≤ 1000) (r : ∀ (i : Nat) x y, xs[i]? = some x → ys[i]? = some y → Sm G n x y) : Sm G (n + 1) (.ref a) (.ref b)
  | dct (n : Nat) {a : Addr} {kvs : List (Key × V)} (h : G a = some (.dK kvs)) (nd : (kvs.map (·.1)).Nodup) (f : ∀ p ∈ kvs, flatR p.2) : Sm G n (.ref a) (.ref a)
theorem Sm.mono {G G' : Hp} (k : ∀ b o, G b = some o → G' b = some o) {n : Nat} {x y : V} (h : Sm G n x y) : Sm G' n x y := by
  induction h with
  | non n => exact .non n
  | bl n b => exact .bl n b
  | int n i => exact .int n i
  | str n z => exact .str n z
  | lst h1 h2 hl hz r ih => exact .lst (k _ _ h1) (k _ _ h2) hl hz ih
  | tup h1 h2 hl hz r ih => exact .tup (k _ _ h1) (k _ _ h2) hl hz ih
  | dct n h nd f => exact .dct n (k _ _ h) nd f
theorem Sm.kp {H H' : Hp} (k : Kp [] H H') {n : Nat} {x y : V} (h : Sm H n x y) : Sm H' n x y := h.mono fun b o e => k.get List.not_mem_nil e
def rEqOr : R2 := fun x y H Q => rEq x y H Q ∨ rEqSelf x y H Q
theorem op_eqOr {X : Cx} (hu : X.A.units < cLine) : OpR X (compareOp .Eq) rEqOr := fun pins s σ H x y v u Q I rx ry h => h.elim (op_eq pins s σ H x y v u Q I rx ry) (op_eqSelf hu pins s σ H x y v u Q I rx ry)
theorem eqOrS {x y : V} {H : Hp} {Q : VK} (s : scal x y = true) (h : Q (.bl (decide (x = y))) H) : rEqOr x y H Q := .inl ⟨s, h⟩
local macro_rules | `(tactic| wtm_at "ask") => `(tactic| ((with_reducible refine' eqOrS ?vh ?_); (case vh => exact rfl)))
theorem dK_ty {H0 H : Hp} {l : Led} {a : Addr} {kvs : List (Key × V)} (s : Stt H0 [] l H) (h : H0 a = some (.dK kvs)) : TyX K H (.ref a) (.type "dict") := .base (.dK (s.keep.get List.not_mem_nil h))
local macro_rules | `(tactic| wtm_at "ty") => `(tactic| exact dK_ty (by assumption) (by assumption))
def spSame (n : Nat) : Sp := fun vs H Q _ => ∃ x y : V, vs = [x, y] ∧ Sm H n x y ∧ ∀ H', Kp [] H H' → Q (.bl true) H'
theorem same_body (T : Txt K mg) (n k : Nat) (hk : k ≤ 60) (sp0 : Sp) (F0 : FnOk P w K mg base CX0 k (He.fAd K ("_law_same", none)) T.fd_l_same ["_law_found", "_law_due"] sp0)
    (h0 : ∀ x y H Q E, (∃ m, m + 1 = n ∧ Sm H m x y ∧ ∀ H', Kp [] H H' → Q (.bl true) H') → sp0 [x, y] H Q E) : FnOk P w K mg base CX0 (k + 1) (He.fAd K ("_law_same", none)) T.fd_l_same ["_law_found", "_law_due"] (spSame n) := by
  refine T.F_l_same.ok sc_l_same (fun vs H Q E h => ?_) (fun cdv A outer s H vs Q E hr h => ?_)
  · obtain ⟨x, y, rfl, _⟩ := h
    rfl
  · obtain ⟨x, y, rfl, hx, q⟩ := h
    refine ⟨_, PSs.nox (pss_cons (ps_if (pt_val (pe_callB call_isiT (by rfl) T.n_isinstance (by decide +kernel) (pa_cons (pv 1) (pa_cons (pe_tup (pa_cons (pe_bltn (v := .ty "list") (by rfl) T.n_list (by decide +kernel) (show RelV (.ty "list") (.type "list") from rfl)) (pa_cons (pe_bltn (v := .ty "tuple") (by rfl) T.n_tuple (by decide +kernel) (show RelV (.ty "tuple") (.type "tuple") from rfl)) pa_nil))) pa_nil)))) (pss_cons (ps_if (PW.pt (pw_or (pt_cmpR op_ne (pe_callB call_isi (by rfl) T.n_isinstance (by decide +kernel) (pa_cons (pv 0) (pa_cons (pe_bltn (v := .ty "list") (by rfl) T.n_list (by decide +kernel) (show RelV (.ty "list") (.type "list") from rfl)) pa_nil))) (pe_callB call_isi (by rfl) T.n_isinstance (by decide +kernel) (pa_cons (pv 1) (pa_cons (pe_bltn (v := .ty "list") (by rfl) T.n_list (by decide +kernel) (show RelV (.ty "list") (.type "list") from rfl)) pa_nil))) (nomark _)) (pw_or1 (pt_cmpR op_ne (pe_callB call_isi (by rfl) T.n_isinstance (by decide +kernel) (pa_cons (pv 0) (pa_cons (pe_bltn (v := .ty "tuple") (by rfl) T.n_tuple (by decide +kernel) (show RelV (.ty "tuple") (.type "tuple") from rfl)) pa_nil))) (pe_callB call_isi (by rfl) T.n_isinstance (by decide +kernel) (pa_cons (pv 1) (pa_cons (pe_bltn (v := .ty "tuple") (by rfl) T.n_tuple (by decide +kernel) (show RelV (.ty "tuple") (.type "tuple") from rfl)) pa_nil))) (nomark _))))) (pss_one (ps_ret pe_bl))
   pss_nil)
  (pss_one (ps_ret (pe_and (pe_cmpR op_eq (pe_callB call_lenQ (by rfl) T.n_len PySem.boot_len (pa_cons (pv 0) pa_nil)) (pe_callB call_lenQ (by rfl) T.n_len PySem.boot_len (pa_cons (pv 1) pa_nil)) (nomark _)) (pe_one (pe_callB (cr_all rfl) (by rfl) T.n_all (by decide +kernel) (pa_cons (pe_lc (own := [("_law_a", 2), ("_law_b", 3)]) (g := gTup K 2 (gCons (gName 2) (gCons (gName 3) (gNil)))) (tt := tYes) (by rfl) sc_l_same.nd (RZ.pi_zipA (by rfl) T.n_zip (pa_cons (pv 0) (pa_cons (pv 1) pa_nil))) (blkOk_by (own := [("_law_a", 2), ("_law_b", 3)]) (N := ["_law_found", "_law_due", "_law_a", "_law_b"]) (sc := defScope s_l_same) (by decide +kernel)) (fun _ _ _ _ _ => (pg_tup (by rfl) (pgs_cons (pg_name (i := 2) sc_l_same.nd rfl (by first | exact Or.inl rfl | exact Or.inr rfl)) (pgs_cons (pg_name (i := 3) sc_l_same.nd rfl (by first | exact Or.inl rfl | exact Or.inr rfl)) pgs_nil)))) (fun _ _ _ _ _ => pts_nil) (fun _ _ _ _ _ => (pe_call F0 hr rfl T.g_l_same T.F_l_same.kp T.b_l_same .nil pass0 (pa_cons (pv 2) (pa_cons (pv 3) pa_nil))))) pa_nil)))))))
   pss_nil)
  (pss_cons (ps_if (pt_val (pe_callB call_isi (by rfl) T.n_isinstance (by decide +kernel) (pa_cons (pv 1) (pa_cons (pe_bltn (v := .ty "int") (by rfl) T.n_int (by decide +kernel) (show RelV (.ty "int") (.type "int") from rfl)) pa_nil)))) (pss_one (ps_ret (pe_and (pe_callB call_isi (by rfl) T.n_isinstance (by decide +kernel) (pa_cons (pv 0) (pa_cons (pe_bltn (v := .ty "int") (by rfl) T.n_int (by decide +kernel) (show RelV (.ty "int") (.type "int") from rfl)) pa_nil))) (pe_and (pe_cmpR op_eq (pe_callB call_isi (by rfl) T.n_isinstance (by decide +kernel) (pa_cons (pv 0) (pa_cons (pe_bltn (v := .ty "bool") (by rfl) T.n_bool (by decide +kernel) (show RelV (.ty "bool") (.type "bool") from rfl)) pa_nil))) (pe_callB call_isi (by rfl) T.n_isinstance (by decide +kernel) (pa_cons (pv 1) (pa_cons (pe_bltn (v := .ty "bool") (by rfl) T.n_bool (by decide +kernel) (show RelV (.ty "bool") (.type "bool") from rfl)) pa_nil))) (nomark _)) (pe_one (pe_cmpR (op_eqOr (Nat.lt_of_le_of_lt (Nat.le_add_right _ _) hr.units)) (pv 0) (pv 1) (nomark _)))))))
   pss_nil)
  (pss_one (ps_ret (pe_and (pe_cmpR op_isBl (pe_callB call_isiT (by rfl) T.n_isinstance (by decide +kernel) (pa_cons (pv 0) (pa_cons (pe_tup (pa_cons (pe_bltn (v := .ty "bool") (by rfl) T.n_bool (by decide +kernel) (show RelV (.ty "bool") (.type "bool") from rfl)) (pa_cons (pe_bltn (v := .ty "int") (by rfl) T.n_int (by decide +kernel) (show RelV (.ty "int") (.type "int") from rfl)) (pa_cons (pe_bltn (v := .ty "list") (by rfl) T.n_list (by decide +kernel) (show RelV (.ty "list") (.type "list") from rfl)) (pa_cons (pe_bltn (v := .ty "tuple") (by rfl) T.n_tuple (by decide +kernel) (show RelV (.ty "tuple") (.type "tuple") from rfl)) pa_nil))))) pa_nil))) pe_bl (nomark _)) (pe_one (pe_cmpR (op_eqOr (Nat.lt_of_le_of_lt (Nat.le_add_right _ _) hr.units)) (pv 0) (pv 1) (nomark _)))))))), ?_⟩
    wtm_at "k"
    have s0 : Stt H [] [] H := Stt.nil
    have e1 : ∀ v : V, decide (v = v) = true := fun v => decide_eq_true rfl
    cases hx with
    | non =>
      wtm_at "rd"
      rename_i s1
      rw [e1]
      exact q _ s1.keep
    | bl _ b =>
      wtm_at "rd"
      rename_i s1
      rw [e1]
      exact q _ s1.keep
    | int _ i =>
      wtm_at "rd"
      rename_i s1
      rw [e1]
      exact q _ s1.keep
    | str _ z =>
      wtm_at "rd"
      rename_i s1
      rw [e1]
      exact q _ s1.keep
    | @lst m a b xs ys h1 h2 hlen hz r =>
      have hx : SqL K H a xs := SqL.of h1
      have hy : SqL K H b ys := SqL.of h2
      wtm_at "rd"
      refine Rd.brI (by rw [hlen]) ?_
      wtm_at "rd"
      rename_i p0 _ _ s1
      refine Rd.zL (s1.upL hx) (s1.upL hy) ?_
      refine Rd.lcG (walk_zip rfl) s1 (fun i acc ex => ex = [] ∧ acc = List.replicate i (.bl true)) ⟨rfl, rfl⟩ (fun H' D acc ex _ q => ⟨q.upL hx, q.upL hy⟩) ?_ ?_
      · rintro D hD i x HA HB acc ex hi ⟨rfl, rfl⟩ hac s2 ⟨p, x1, y1, rfl, hp, rfl, e2, e3⟩
        have s3 := s2.new hp (.tup [x1, y1])
        wtm_at "rd"
        refine h0 x1 y1 _ _ _ ⟨m, rfl, (r i x1 y1 e2 e3).kp s3.keep, fun H5 k5 => ?_⟩
        have s5 := (s3.after0 k5).sub (List.Sublist.cons _ (List.Sublist.refl _))
        exact Rd.lcE s5 hD (by omega) hac ⟨rfl, by rw [List.replicate_succ']⟩
      · rintro D HA acc ex hD ⟨rfl, rfl⟩ s2
        have s3 : Stt H [] ((D, Is (.lst ((List.replicate (min xs.length ys.length) true).map V.bl))) :: ([] ++ [(p0, Is (.tup [V.ty "list", V.ty "tuple"]))])) HA := by
          rw [List.map_replicate]
          exact s2
        wtm_at "rd"
        refine Rd.allL s3 (by wtm_at "mem") ?_
        wtm_at "rd"
        have e3 : (List.replicate (min xs.length ys.length) true).all id = true := by simp
        rw [e3]
        exact q _ s3.keep
    | @tup m a b xs ys h1 h2 hlen hz r =>
      have hx : SqT K H a xs := SqT.of h1
      have hy : SqT K H b ys := SqT.of h2
      wtm_at "rd"
      refine Rd.brI (by rw [hlen]) ?_
      wtm_at "rd"
      rename_i p0 _ _ s1
      refine Rd.zT (s1.upT hx) (s1.upT hy) ?_
      refine Rd.lcG (walk_zipT rfl) s1 (fun i acc ex => ex = [] ∧ acc = List.replicate i (.bl true)) ⟨rfl, rfl⟩ (fun H' D acc ex _ q => ⟨q.upT hx, q.upT hy⟩) ?_ ?_
      · rintro D hD i x HA HB acc ex hi ⟨rfl, rfl⟩ hac s2 ⟨p, x1, y1, rfl, hp, rfl, e2, e3⟩
        have s3 := s2.new hp (.tup [x1, y1])
        wtm_at "rd"
        refine h0 x1 y1 _ _ _ ⟨m, rfl, (r i x1 y1 e2 e3).kp s3.keep, fun H5 k5 => ?_⟩
        have s5 := (s3.after0 k5).sub (List.Sublist.cons _ (List.Sublist.refl _))
        exact Rd.lcE s5 hD (by omega) hac ⟨rfl, by rw [List.replicate_succ']⟩
      · rintro D HA acc ex hD ⟨rfl, rfl⟩ s2
        have s3 : Stt H [] ((D, Is (.lst ((List.replicate (min xs.length ys.length) true).map V.bl))) :: ([] ++ [(p0, Is (.tup [V.ty "list", V.ty "tuple"]))])) HA := by
          rw [List.map_replicate]
          exact s2
        wtm_at "rd"
        refine Rd.allL s3 (by wtm_at "mem") ?_
        wtm_at "rd"
        have e3 : (List.replicate (min xs.length ys.length) true).all id = true := by simp
        rw [e3]
        exact q _ s3.keep
    | @dct _ a kvs h nd f =>
      wtm_at "rd"
      rename_i s1
      refine .inr ⟨a, kvs, rfl, rfl, s1.keep.get List.not_mem_nil h, nd, f, ?_⟩
      exact q _ s1.keep
theorem ok_l_same (T : Txt K mg) : ∀ n, n ≤ 60 → FnOk P w K mg base CX0 (n + 1) (He.fAd K ("_law_same", none)) T.fd_l_same ["_law_found", "_law_due"] (spSame n)
  | 0, _ => same_body T 0 0 (by omega) _ fnok_false fun x y H Q E ⟨m, h, _⟩ => by omega
  | n + 1, hn => same_body T (n + 1) (n + 1) hn _ (ok_l_same T n (by omega)) fun x y H Q E ⟨m, h1, h2, h3⟩ => by
    cases h1
    exact ⟨x, y, rfl, h2, h3⟩
end

local macro_rules | `(tactic| wtm_at "ask") => `(tactic| first
  | with_reducible refine' Lt.Rd.chain ?_
  | ((with_reducible refine' Lt.Rd.ixXL ?v1 ?v2 ?v3 ?_); (case v1 => assumption); (case v2 => wtm_at "mem"); (case v3 => wtm_at "at"))
  | ((with_reducible refine' Lt.Rd.ixXT ?v1 ?v2 ?v3 ?_); (case v1 => assumption); (case v2 => wtm_at "mem"); (case v3 => wtm_at "at"))
  | ((with_reducible refine' Lt.Rd.ixX ?v2 ?v3 ?_); (case v2 => assumption); (case v3 => wtm_at "at"))
  | ((with_reducible refine' Lt.Rd.ixXB ?v1 ?v2 ?v4 ?v3 ?_); (case v1 => assumption); (case v2 => assumption); (case v4 => first | exact List.not_mem_nil | assumption); (case v3 => wtm_at "at"))
  | with_reducible refine' Lt.Rd.asgTX ?_
  | ((with_reducible refine' Lt.Rd.gseqT ?v1 ?v2 ?v3 ?_); (case v1 => assumption); (case v2 => wtm_at "mem"); (case v3 => exact rfl))
  | ((with_reducible refine' Lt.Rd.gseqL ?v1 ?v2 ?v3 ?_); (case v1 => assumption); (case v2 => wtm_at "mem"); (case v3 => exact rfl))
  | ((with_reducible refine' Lt.Rd.gseqX ?v1 ?v3 ?_); (case v1 => assumption); (case v3 => exact rfl))
  | with_reducible refine' Lt.Rd.wX ?_
  | with_reducible refine' Lt.Rd.wEnX ?_
  | with_reducible refine' Lt.Rd.kget ?_
  | ((with_reducible refine' Lt.Rd.kg2 ?v1 ?_); (case v1 => assumption))
  | ((with_reducible refine' Lt.Rd.kg3 ?v1 ?_); (case v1 => assumption))
  | ((with_reducible refine' Lt.Rd.lenX ?v1 ?_); (case v1 => assumption))
  | ((with_reducible refine' Lt.Rd.lenXB ?v1 ?v2 ?v3 ?_); (case v1 => assumption); (case v2 => assumption); (case v3 => first | exact List.not_mem_nil | assumption)))
local macro_rules | `(tactic| wtm_at "plen") => `(tactic| first | decide | exact Nat.lt_of_le_of_lt ((putF_le (Nat.le_refl _))) (by decide) | exact Nat.lt_of_le_of_lt ((putF_le (putF_le (Nat.le_refl _)))) (by decide) | exact Nat.lt_of_le_of_lt ((putF_le (putF_le (putF_le (Nat.le_refl _))))) (by decide) | exact Nat.lt_of_le_of_lt ((putF_le (putF_le (putF_le (putF_le (Nat.le_refl _)))))) (by decide) | exact Nat.lt_of_le_of_lt ((putF_le (putF_le (putF_le (putF_le (putF_le (Nat.le_refl _))))))) (by decide) | exact Nat.lt_of_le_of_lt ((putF_le (putF_le (putF_le (putF_le (putF_le (putF_le (Nat.le_refl _)))))))) (by decide) | exact Nat.lt_of_le_of_lt ((putF_le (putF_le (putF_le (putF_le (putF_le (putF_le (putF_le (Nat.le_refl _))))))))) (by decide) | exact Nat.lt_of_le_of_lt ((putF_le (putF_le (putF_le (putF_le (putF_le (putF_le (putF_le (putF_le (Nat.le_refl _)))))))))) (by decide) | exact Nat.lt_of_le_of_lt (putF_le (by assumption)) (by decide) | exact Nat.lt_of_le_of_lt (by assumption) (by decide))
local macro_rules | `(tactic| wtm_at "ask") => `(tactic| ((with_reducible refine' Rd.sfldI ?v1 ?v2 ?v3 ?v4 ?v5 ?v6 ?v7 ?_); (case v1 => assumption); (case v2 => wtm_at "mem"); (case v3 => assumption); (case v4 => assumption); (case v5 => wtm_at "plen"); (case v6 => wtm_at "put"); (case v7 => wtm_at "own"); intro _ _))
local macro_rules | `(tactic| wtm_at "ask") => `(tactic| first
  | ((with_reducible refine' Lt.Rd.fldX ?v1 ?v2 ?v3 ?v4 ?_); (case v1 => assumption); (case v2 => assumption); (case v3 => assumption); (case v4 => assumption))
  | ((with_reducible refine' Lt.Rd.fldXB ?v1 ?v2 ?v5 ?v3 ?v4 ?v6 ?_); (case v1 => assumption); (case v2 => assumption); (case v5 => first | exact List.not_mem_nil | assumption); (case v3 => assumption); (case v4 => assumption); (case v6 => assumption))
  | with_reducible refine' Lt.Rd.isN ?_)

section
variable {P : Program} {w : World} {K : PySem.W.Frag} {mg : Str → Option Value} {base : Heap}
/-! ### kinds -/
def spIsI (K : PySem.W.Frag) : Sp := fun vs H Q _ => ∃ (v : V) (t : Value) (b c : Bool), vs = [v] ∧ TyX K H v t ∧ PySem.W.kitOne K t (.type "int") = some b ∧ PySem.W.kitOne K t (.type "bool") = some c ∧ Q (.bl (b && !c)) H
theorem ok_is_integer (T : Txt K mg) : FnOk P w K mg base CX0 1 (He.fAd K ("is_integer", none)) T.fd_is_integer ["thing"] (spIsI K) := by
  refine T.F_is_integer.ok sc_is_integer (fun vs H Q E h => ?_) (fun cdv A outer s H vs Q E hr h => ?_)
  · obtain ⟨v, t, b, c, rfl, _⟩ := h
    rfl
  · obtain ⟨v, t, b, c, rfl, ht, h1, h2, k⟩ := h
    refine ⟨_, PSs.nox (pss_one (ps_ret (pe_and (pe_callB call_isi (by rfl) T.n_isinstance (by decide +kernel) (pa_cons (pv 0) (pa_cons (pe_bltn (v := .ty "int") (by rfl) T.n_int (by decide +kernel) (show RelV (.ty "int") (.type "int") from rfl)) pa_nil))) (pe_one (pe_not (pe_callB call_isi (by rfl) T.n_isinstance (by decide +kernel) (pa_cons (pv 0) (pa_cons (pe_bltn (v := .ty "bool") (by rfl) T.n_bool (by decide +kernel) (show RelV (.ty "bool") (.type "bool") from rfl)) pa_nil)))))))), ?_⟩
    wtm_at "k"
    wtm_at "rd"
    refine Rd.br (fun e => ?_) (fun e => ?_)
    · subst e
      wtm_at "rd"
      exact k
    · subst e
      wtm_at "rd"
      exact k
theorem isI_int {H : Hp} {i : Int} {Q : VK} {E : XK} (k : Q (.bl true) H) : spIsI K ([.int i] ++ []) H Q E := ⟨.int i, _, _, _, rfl, .base (.int i), kit_int_int, kit_int_bool, k⟩
local macro_rules | `(tactic| wtm_at "ask") => `(tactic| with_reducible refine' isI_int ?_)
/-- low <= thing <= high, of ints -/
def spBtw : Sp := fun vs H Q _ => ∃ z lo hi : Int, vs = [.int z, .int lo, .int hi] ∧ Q (.bl (decide (lo ≤ z ∧ z ≤ hi))) H
theorem ok_is_between (T : Txt K mg) : FnOk P w K mg base CX0 2 (He.fAd K ("is_between", none)) T.fd_is_between ["thing", "low", "high"] spBtw := by
  refine T.F_is_between.ok sc_is_between (fun vs H Q E h => ?_) (fun cdv A outer s H vs Q E hr h => ?_)
  · obtain ⟨z, lo, hi, rfl, _⟩ := h
    rfl
  · obtain ⟨z, lo, hi, rfl, k⟩ := h
    refine ⟨_, PSs.nox (pss_one (ps_ret (pe_and (pe_call (ok_is_integer T) (hr.mono (by decide)) rfl T.g_is_integer T.F_is_integer.kp T.b_is_integer .nil pass0 (pa_cons (pv 0) pa_nil)) (pe_one (pe_chain op_le op_le (pv 1) (pv 0) (pv 2)))))), ?_⟩
    wtm_at "k"
    wtm_at "rd"
    refine Rd.brD (fun c1 => ?_) (fun c1 => ?_)
    · wtm_at "rd"
      rw [show decide (z ≤ hi) = decide (lo ≤ z ∧ z ≤ hi) from decide_eq_decide.mpr ⟨fun c => ⟨c1, c⟩, fun c => c.2⟩]
      exact k
    · wtm_at "rd"
      rw [show decide (lo ≤ z ∧ z ≤ hi) = false from decide_eq_false fun c => c1 c.1] at k
      exact k
theorem btw_ask {H : Hp} {z lo hi : Int} {Q : VK} {E : XK} (k : Q (.bl (decide (lo ≤ z ∧ z ≤ hi))) H) : spBtw ([.int z, .int lo, .int hi] ++ []) H Q E := ⟨z, lo, hi, rfl, k⟩
/-- isinstance(thing, (list, tuple)) -/
def LsB (K : PySem.W.Frag) (H : Hp) (v : V) (b : Bool) : Prop := (b = true ∧ ∃ a xs, v = .ref a ∧ SqX K H a xs) ∨ (b = false ∧ Atm v)
theorem LsB.ty {H : Hp} {v : V} {b : Bool} (h : LsB K H v b) : ∃ t, TyX K H v t ∧ PySem.W.kitAny K t [.type "list", .type "tuple"] = some b := by
  rcases h with ⟨rfl, a, xs, rfl, s | s⟩ | ⟨rfl, ⟨i, rfl⟩ | ⟨z, rfl⟩⟩
  · exact ⟨_, sqL_ty s, kitA_lt_list⟩
  · exact ⟨_, sqT_ty s, kitA_lt_tuple⟩
  · exact ⟨_, .base (.int i), kitA_lt_int⟩
  · exact ⟨_, .base (.str z), kitA_lt_str⟩
theorem LsB.kp {H H' : Hp} {v : V} {b : Bool} (k : Kp [] H H') (h : LsB K H v b) : LsB K H' v b := by
  rcases h with ⟨rfl, a, xs, rfl, s⟩ | h
  · exact .inl ⟨rfl, a, xs, rfl, s.kp0 k⟩
  · exact .inr h
def spIsL (K : PySem.W.Frag) : Sp := fun vs H Q _ => ∃ (v : V) (b : Bool), vs = [v] ∧ LsB K H v b ∧ ∀ H', Kp [] H H' → Q (.bl b) H'
theorem ok_is_list (T : Txt K mg) : FnOk P w K mg base CX0 1 (He.fAd K ("is_list", none)) T.fd_is_list ["thing"] (spIsL K) := by
  refine T.F_is_list.ok sc_is_list (fun vs H Q E h => ?_) (fun cdv A outer s H vs Q E hr h => ?_)
  · obtain ⟨v, b, rfl, _⟩ := h
    rfl
  · obtain ⟨v, b, rfl, hb, k⟩ := h
    refine ⟨_, PSs.nox (pss_one (ps_ret (pe_callB call_isiT (by rfl) T.n_isinstance (by decide +kernel) (pa_cons (pv 0) (pa_cons (pe_tup (pa_cons (pe_bltn (v := .ty "list") (by rfl) T.n_list (by decide +kernel) (show RelV (.ty "list") (.type "list") from rfl)) (pa_cons (pe_bltn (v := .ty "tuple") (by rfl) T.n_tuple (by decide +kernel) (show RelV (.ty "tuple") (.type "tuple") from rfl)) pa_nil))) pa_nil))))), ?_⟩
    wtm_at "k"
    have s0 : Stt H [] [] H := Stt.nil
    wtm_at "rd"
    rename_i p H1 hp s1
    obtain ⟨t, ty, kt⟩ := (hb.kp s1.keep).ty
    refine Rd.isiT s1 (by wtm_at "mem") ty (.cons (.ty _) (.cons (.ty _) .nil)) kt ?_
    exact k _ s1.keep
theorem isL_seq {H0 H : Hp} {l : Led} {S : List Addr} {a : Addr} {xs : List V} {Q : VK} {E : XK} (st : Stt H0 S l H) (s : SqX K H a xs) (k : ∀ H', Kp [] H H' → Stt H0 S l H' → Q (.bl true) H') : spIsL K ([.ref a] ++ []) H Q E := ⟨.ref a, true, rfl, .inl ⟨rfl, a, xs, rfl, s⟩, fun H' kp => k H' kp (st.after0 kp)⟩
theorem isL_atm {H0 H : Hp} {l : Led} {S : List Addr} {v : V} {Q : VK} {E : XK} (st : Stt H0 S l H) (h : Atm v) (k : ∀ H', Kp [] H H' → Stt H0 S l H' → Q (.bl false) H') : spIsL K ([v] ++ []) H Q E := ⟨v, false, rfl, .inr ⟨rfl, h⟩, fun H' kp => k H' kp (st.after0 kp)⟩
/-! ### words -/
def spWord : Sp := fun vs H Q _ => ∃ z : Str, vs = [.str z] ∧ WordB z = true ∧ ∀ H', Kp [] H H' → Q (.bl true) H'
local macro_rules | `(tactic| wtm_at "ask") => `(tactic| with_reducible refine' Rd.inSg ?_)
local macro_rules | `(tactic| wtm_at "ask") => `(tactic| with_reducible refine' Rd.wS ?_)
local macro_rules | `(tactic| wtm_at "ask") => `(tactic| with_reducible refine' Rd.wSL ?_)
theorem all_map_id {α : Type} {a : List α} {f : α → Bool} : (a.map f).all id = a.all f := by simp [List.all_map]
theorem len_of_word {z : Str} (h : WordB z = true) : 1 ≤ z.length ∧ z.length ≤ 8 ∧ (z.cps.toList.all fun c => decide (c ∈ letters.cps.toList)) = true := by
  unfold WordB at h
  rw [Bool.and_eq_true, Bool.and_eq_true, decide_eq_true_iff, decide_eq_true_iff] at h
  exact ⟨h.1.1, h.1.2, h.2⟩
theorem ok_is_word (T : Txt K mg) : FnOk P w K mg base CX0 1 (He.fAd K ("is_word", none)) T.fd_is_word ["thing"] spWord := by
  refine T.F_is_word.ok sc_is_word (fun vs H Q E h => ?_) (fun cdv A outer s H vs Q E hr h => ?_)
  · obtain ⟨z, rfl, _⟩ := h
    rfl
  · obtain ⟨z, rfl, hw, k⟩ := h
    obtain ⟨h1, h2, h3⟩ := len_of_word hw
    refine ⟨_, PSs.nox (pss_one (ps_ret (pe_and (pe_callB call_isi (by rfl) T.n_isinstance (by decide +kernel) (pa_cons (pv 0) (pa_cons (pe_bltn (v := .ty "str") (by rfl) T.n_str (by decide +kernel) (show RelV (.ty "str") (.type "str") from rfl)) pa_nil))) (pe_and (pe_chain op_le op_le pe_int (pe_callB call_len_str (by rfl) T.n_len PySem.boot_len (pa_cons (pv 0) pa_nil)) pe_int) (pe_one (pe_callB (cr_all rfl) (by rfl) T.n_all (by decide +kernel) (pa_cons (pe_lc (own := [("letter", 1)]) (g := gName 1) (tt := tYes) (by rfl) sc_is_word.nd (pi_str (pv 0)) (blkOk_by (own := [("letter", 1)]) (N := ["thing", "letter"]) (sc := defScope s_is_word) (by decide +kernel)) (fun _ _ _ _ _ => (pg_name (i := 1) sc_is_word.nd rfl (by first | exact Or.inl rfl | exact Or.inr rfl))) (fun _ _ _ _ _ => pts_nil) (fun _ _ _ _ _ => (pe_cmpR (show OpR _ (compareOp .In) rInSg from op_inSg) (pv 1) (Lt.pe_globS rfl T.g_LETTERS) (by rfl)))) pa_nil))))))), ?_⟩
    wtm_at "k"
    have s0 : Stt H [] [] H := Stt.nil
    wtm_at "rd"
    refine ⟨z, rfl, Nat.le_trans h2 (by decide), ?_⟩
    wtm_at "rd"
    refine Rd.brI (by omega) ?_
    wtm_at "rd"
    refine Rd.brI (by omega) ?_
    wtm_at "rd"
    refine Rd.lcG (walk_str (z := z)) s0 (fun i acc ex => ex = [] ∧ acc = (z.cps.toList.take i).map fun c => V.bl (decide (c ∈ letters.cps.toList))) ⟨rfl, rfl⟩ (fun _ _ _ _ _ _ => trivial) ?_ ?_
    · rintro D hD i x HA HB acc ex hi ⟨rfl, rfl⟩ hac s22 ⟨rfl, c, hc, rfl⟩
      have hz : z.cps.size ≤ 8 := h2
      wtm_at "rd"
      refine Rd.lcE s22 hD (by omega) hac ⟨rfl, ?_⟩
      rw [List.take_add_one, show z.cps.toList[i]? = some c by simpa using hc, List.map_append]
      rfl
    · rintro D HA acc ex hD ⟨rfl, rfl⟩ s22
      rw [show z.cps.size = z.cps.toList.length by simp, List.take_length] at s22
      replace s22 : Stt H [] ((D, Is (.lst ((z.cps.toList.map fun c => decide (c ∈ letters.cps.toList)).map V.bl))) :: ([] ++ [])) HA := by
        rw [List.map_map]
        exact s22
      wtm_at "rd"
      refine Rd.allL s22 (by wtm_at "mem") ?_
      rw [all_map_id, h3]
      exact k _ s22.keep
theorem word_ask {H0 H : Hp} {l : Led} {S : List Addr} {z : Str} {Q : VK} {E : XK} (st : Stt H0 S l H) (h : WordB z = true) (k : ∀ H', Kp [] H H' → Stt H0 S l H' → Q (.bl true) H') : spWord ([.str z] ++ []) H Q E := ⟨z, rfl, h, fun H' kp => k H' kp (st.after0 kp)⟩
end

section
variable {P : Program} {w : World} {K : PySem.W.Frag} {mg : Str → Option Value} {base : Heap}
/-! ### kinds of any objects -/
theorem isI_ob {v : V} {o : Ob} {H : Hp} {Q : VK} {E : XK} (h : ObA H v o) (k : Q (.bl o.isNum) H) : spIsI K ([v] ++ []) H Q E := by
  obtain ⟨t, h1, h2, h3, b, c, h4, h5, h6⟩ := h.ty (K := K)
  exact ⟨v, t, b, c, rfl, h1, h4, h5, by rw [h6]; exact k⟩
def spBtwO : Sp := fun vs H Q _ => ∃ (v : V) (o : Ob) (lo hi : Int), vs = [v, .int lo, .int hi] ∧ ObA H v o ∧ Q (.bl (o.btw lo hi)) H
theorem ok_is_betweenO (T : Txt K mg) : FnOk P w K mg base CX0 2 (He.fAd K ("is_between", none)) T.fd_is_between ["thing", "low", "high"] spBtwO := by
  refine T.F_is_between.ok sc_is_between (fun vs H Q E h => ?_) (fun cdv A outer s H vs Q E hr h => ?_)
  · obtain ⟨v, o, lo, hi, rfl, _⟩ := h
    rfl
  · obtain ⟨v, o, lo, hi, rfl, ho, k⟩ := h
    refine ⟨_, PSs.nox (pss_one (ps_ret (pe_and (pe_call (ok_is_integer T) (hr.mono (by decide)) rfl T.g_is_integer T.F_is_integer.kp T.b_is_integer .nil pass0 (pa_cons (pv 0) pa_nil)) (pe_one (pe_chain op_le op_le (pv 1) (pv 0) (pv 2)))))), ?_⟩
    wtm_at "k"
    wtm_at "rd"
    refine isI_ob ho ?_
    refine Rd.blV (Rd.br (fun e => ?_) (fun e => ?_))
    · cases ho with
      | num z =>
        wtm_at "rd"
        refine Rd.brD (fun c1 => ?_) (fun c1 => ?_)
        · wtm_at "rd"
          rw [show decide (z ≤ hi) = Ob.btw lo hi (.num z) from decide_eq_decide.mpr ⟨fun c => ⟨c1, c⟩, fun c => c.2⟩]
          exact k
        · wtm_at "rd"
          rw [show Ob.btw lo hi (.num z) = false from decide_eq_false fun c => c1 c.1] at k
          exact k
      | _ => cases e
    · wtm_at "rd"
      cases ho with
      | num z => cases e
      | _ => exact k
theorem btwO_ask {v : V} {o : Ob} {H : Hp} {lo hi : Int} {Q : VK} {E : XK} (ho : ObA H v o) (k : Q (.bl (o.btw lo hi)) H) : spBtwO ([v, .int lo, .int hi] ++ []) H Q E := ⟨v, o, lo, hi, rfl, ho, k⟩
def spIsLO : Sp := fun vs H Q _ => ∃ (v : V) (o : Ob), vs = [v] ∧ ObA H v o ∧ ∀ H', Kp [] H H' → Q (.bl o.isSq) H'
theorem ok_is_listO (T : Txt K mg) : FnOk P w K mg base CX0 1 (He.fAd K ("is_list", none)) T.fd_is_list ["thing"] spIsLO := by
  refine T.F_is_list.ok sc_is_list (fun vs H Q E h => ?_) (fun cdv A outer s H vs Q E hr h => ?_)
  · obtain ⟨v, b, rfl, _⟩ := h
    rfl
  · obtain ⟨v, o, rfl, ho, k⟩ := h
    refine ⟨_, PSs.nox (pss_one (ps_ret (pe_callB call_isiT (by rfl) T.n_isinstance (by decide +kernel) (pa_cons (pv 0) (pa_cons (pe_tup (pa_cons (pe_bltn (v := .ty "list") (by rfl) T.n_list (by decide +kernel) (show RelV (.ty "list") (.type "list") from rfl)) (pa_cons (pe_bltn (v := .ty "tuple") (by rfl) T.n_tuple (by decide +kernel) (show RelV (.ty "tuple") (.type "tuple") from rfl)) pa_nil))) pa_nil))))), ?_⟩
    wtm_at "k"
    have s0 : Stt H [] [] H := Stt.nil
    wtm_at "rd"
    rename_i p H1 hp s1
    obtain ⟨t, ty, kt, _⟩ := (ho.kp s1.keep).ty (K := K)
    refine Rd.isiT s1 (by wtm_at "mem") ty (.cons (.ty _) (.cons (.ty _) .nil)) kt ?_
    exact k _ s1.keep
theorem isLO_ask {H0 H : Hp} {l : Led} {S : List Addr} {v : V} {o : Ob} {Q : VK} {E : XK} (st : Stt H0 S l H) (ho : ObA H v o) (k : ∀ H', Kp [] H H' → Stt H0 S l H' → Q (.bl o.isSq) H') : spIsLO ([v] ++ []) H Q E := ⟨v, o, rfl, ho, fun H' kp => k H' kp (st.after0 kp)⟩
/-! ### words -/
def spWordO : Sp := fun vs H Q _ => ∃ (v : V) (o : Ob), vs = [v] ∧ ObA H v o ∧ ∀ H', Kp [] H H' → Q (.bl o.word) H'
local macro_rules | `(tactic| wtm_at "ask") => `(tactic| with_reducible refine' Rd.inSg ?_)
local macro_rules | `(tactic| wtm_at "ask") => `(tactic| with_reducible refine' Rd.wS ?_)
local macro_rules | `(tactic| wtm_at "ask") => `(tactic| with_reducible refine' Rd.wSL ?_)
theorem word_len {z : Str} (h : ¬ (1 ≤ z.length ∧ z.length ≤ 8)) : WordB z = false := by
  unfold WordB
  rw [← Bool.decide_and, decide_eq_false h, Bool.false_and]
theorem ok_is_wordO (T : Txt K mg) : FnOk P w K mg base CX0 1 (He.fAd K ("is_word", none)) T.fd_is_word ["thing"] spWordO := by
  refine T.F_is_word.ok sc_is_word (fun vs H Q E h => ?_) (fun cdv A outer s H vs Q E hr h => ?_)
  · obtain ⟨v, o, rfl, _⟩ := h
    rfl
  · obtain ⟨v, o, rfl, ho, k⟩ := h
    refine ⟨_, PSs.nox (pss_one (ps_ret (pe_and (pe_callB call_isi (by rfl) T.n_isinstance (by decide +kernel) (pa_cons (pv 0) (pa_cons (pe_bltn (v := .ty "str") (by rfl) T.n_str (by decide +kernel) (show RelV (.ty "str") (.type "str") from rfl)) pa_nil))) (pe_and (pe_chain op_le op_le pe_int (pe_callB call_len_str (by rfl) T.n_len PySem.boot_len (pa_cons (pv 0) pa_nil)) pe_int) (pe_one (pe_callB (cr_all rfl) (by rfl) T.n_all (by decide +kernel) (pa_cons (pe_lc (own := [("letter", 1)]) (g := gName 1) (tt := tYes) (by rfl) sc_is_word.nd (pi_str (pv 0)) (blkOk_by (own := [("letter", 1)]) (N := ["thing", "letter"]) (sc := defScope s_is_word) (by decide +kernel)) (fun _ _ _ _ _ => (pg_name (i := 1) sc_is_word.nd rfl (by first | exact Or.inl rfl | exact Or.inr rfl))) (fun _ _ _ _ _ => pts_nil) (fun _ _ _ _ _ => (pe_cmpR (show OpR _ (compareOp .In) rInSg from op_inSg) (pv 1) (Lt.pe_globS rfl T.g_LETTERS) (by rfl)))) pa_nil))))))), ?_⟩
    wtm_at "k"
    have s0 : Stt H [] [] H := Stt.nil
    wtm_at "rd"
    obtain ⟨t, ty, _, kt, _⟩ := ho.ty (K := K)
    refine Rd.isi ty (.ty _) kt ?_
    refine Rd.blV (Rd.br (fun e => ?_) (fun e => ?_))
    · cases ho with
      | str z hz =>
        wtm_at "rd"
        refine ⟨z, rfl, Nat.le_trans hz (by decide), ?_⟩
        wtm_at "rd"
        refine Rd.brD (fun c1 => ?_) (fun c1 => ?_)
        · wtm_at "rd"
          refine Rd.brD (fun c2 => ?_) (fun c2 => ?_)
          · wtm_at "rd"
            refine Rd.lcG (walk_str (z := z)) s0 (fun i acc ex => ex = [] ∧ acc = (z.cps.toList.take i).map fun c => V.bl (decide (c ∈ letters.cps.toList))) ⟨rfl, rfl⟩ (fun _ _ _ _ _ _ => trivial) ?_ ?_
            · rintro D hD i x HA HB acc ex hi ⟨rfl, rfl⟩ hac s22 ⟨rfl, c, hc, rfl⟩
              have hz' : z.cps.size ≤ 8 := (show z.length ≤ 8 by omega)
              wtm_at "rd"
              refine Rd.lcE s22 hD (by omega) hac ⟨rfl, ?_⟩
              rw [List.take_add_one, show z.cps.toList[i]? = some c by simpa using hc, List.map_append]
              rfl
            · rintro D HA acc ex hD ⟨rfl, rfl⟩ s22
              rw [show z.cps.size = z.cps.toList.length by simp, List.take_length] at s22
              replace s22 : Stt H [] ((D, Is (.lst ((z.cps.toList.map fun c => decide (c ∈ letters.cps.toList)).map V.bl))) :: ([] ++ [])) HA := by
                rw [List.map_map]
                exact s22
              wtm_at "rd"
              refine Rd.allL s22 (by wtm_at "mem") ?_
              rw [all_map_id]
              have e1 : (z.cps.toList.all fun c => decide (c ∈ letters.cps.toList)) = Ob.word (.str z) := by
                show _ = WordB z
                unfold WordB
                rw [decide_eq_true (show 1 ≤ z.length by omega), decide_eq_true (show z.length ≤ 8 by omega)]
                rfl
              rw [e1]
              exact k _ s22.keep
          · rw [show Ob.word (.str z) = false from word_len (by omega)] at k
            wtm_at "rd"
            exact k _ (Kp.refl _)
        · rw [show Ob.word (.str z) = false from word_len (by omega)] at k
          wtm_at "rd"
          exact k _ (Kp.refl _)
      | _ => cases e
    · wtm_at "rd"
      cases ho with
      | str z => cases e
      | _ => exact k _ (Kp.refl _)
theorem wordO_ask {H0 H : Hp} {l : Led} {S : List Addr} {v : V} {o : Ob} {Q : VK} {E : XK} (st : Stt H0 S l H) (ho : ObA H v o) (k : ∀ H', Kp [] H H' → Stt H0 S l H' → Q (.bl o.word) H') : spWordO ([v] ++ []) H Q E := ⟨v, o, rfl, ho, fun H' kp => k H' kp (st.after0 kp)⟩
end

section
variable {P : Program} {w : World} {K : PySem.W.Frag} {mg : Str → Option Value} {base : Heap}
/-! ### a row's lists -/
theorem kgetI (T : Txt K mg) {d : Addr} {n : Str} {i : Int} (D : ∃ es k, KDict K w d es k) (h : ∃ u, PySem.W.nsIn K d n = some (some u) ∧ RelV (.int i) u) : KGet K w d n (some (.int i)) := by
  obtain ⟨es, k, D⟩ := D
  obtain ⟨u, e, r⟩ := h
  exact ⟨es, k, _, D, e, r⟩
theorem kgetN (T : Txt K mg) {d : Addr} {n : Str} (D : ∃ es k, KDict K w d es k) (h : PySem.W.nsIn K d n = some none) : KGet K w d n none := by
  obtain ⟨es, k, D⟩ := D
  exact ⟨es, k, _, D, h, trivial⟩
theorem lists_at (T : Txt K mg) (D : TxtD K w) {n : Str} {as vs : List V} (h : Shp n as vs.length) : ∃ o, KGet K w (He.ga K "LISTS_FROM") n o ∧ o.getD (.int ((V.str n :: (as ++ vs)).length : Int)) = .int ((as.length + 1 : Nat) : Int) ∧ as.length ≤ 2 := by
  have none_ : ∀ {n : Str}, n ∈ (["work", "say", "pass", "sleep", "take", "give"] : List Str) → KGet K w (He.ga K "LISTS_FROM") n none := fun m => kgetN T D.kd_LISTS_FROM (T.o_LISTS_FROM _ m)
  have lz : ∀ {vs : List V}, 0 = vs.length → vs = [] := fun e => List.length_eq_zero_iff.mp e.symm
  generalize hm : vs.length = m at h
  cases h with
  | work lo hi => rw [lz hm.symm]; exact ⟨_, none_ (by simp), rfl, by simp⟩
  | say z => rw [lz hm.symm]; exact ⟨_, none_ (by simp), rfl, by simp⟩
  | pass => rw [lz hm.symm]; exact ⟨_, none_ (by simp), rfl, by simp⟩
  | sleep z => rw [lz hm.symm]; exact ⟨_, none_ (by simp), rfl, by simp⟩
  | take z => rw [lz hm.symm]; exact ⟨_, none_ (by simp), rfl, by simp⟩
  | give z => rw [lz hm.symm]; exact ⟨_, none_ (by simp), rfl, by simp⟩
  | either => exact ⟨_, kgetI T D.kd_LISTS_FROM (T.v_LISTS_FROM ("either", .int 1) (by simp)), rfl, by simp⟩
  | ever => exact ⟨_, kgetI T D.kd_LISTS_FROM (T.v_LISTS_FROM ("ever", .int 1) (by simp)), rfl, by simp⟩
  | within z => exact ⟨_, kgetI T D.kd_LISTS_FROM (T.v_LISTS_FROM ("within", .int 2) (by simp)), rfl, by simp⟩
def spLof (K : PySem.W.Frag) : Sp := fun vs H Q _ => ∃ (a : Addr) (n : Str) (as us : List V), vs = [.ref a] ∧ SqX K H a (.str n :: (as ++ us)) ∧ Shp n as us.length ∧ ∀ p H', H p = none → Stt H [] [(p, Is (.lst us))] H' → Q (.ref p) H'
theorem ok_lists_of (T : Txt K mg) (D : TxtD K w) : FnOk P w K mg base CX0 1 (He.fAd K ("lists_of", none)) T.fd_lists_of ["row"] (spLof K) := by
  refine T.F_lists_of.ok sc_lists_of (fun vs H Q E h => ?_) (fun cdv A outer s H vs Q E hr h => ?_)
  · obtain ⟨a, n, as, us, rfl, _⟩ := h
    rfl
  · obtain ⟨a, n, as, us, rfl, hq, hs, k⟩ := h
    refine ⟨_, PSs.nox (pss_cons (ps_asg (pe_kget2 (pe_glob (v := .ref (He.ga K "LISTS_FROM")) rfl T.g_LISTS_FROM RelT.ref) (pe_ix ix_sqX (pv 0) pe_int (fun _ _ => rfl)) (pe_callB call_lenQ (by rfl) T.n_len PySem.boot_len (pa_cons (pv 0) pa_nil)) (by exact ⟨rfl, rfl, rfl, rfl⟩)) (pg_name (i := 1) sc_lists_of.nd rfl (by first | exact Or.inl rfl | exact Or.inr rfl)))
  (pss_one (ps_ret (pe_callTy call_listX (by rfl) T.n_list (by decide +kernel) (pa_cons (pe_slice sl_seq (pv 0) (po_some (pv 1)) po_none) pa_nil))))), ?_⟩
    wtm_at "k"
    obtain ⟨o, ho, hv, h2⟩ := lists_at T D hs
    have s0 : Stt H [] [] H := Stt.nil
    have d0 := D.kd_LISTS_FROM
    have a0 : atI (V.str n :: (as ++ us)) 0 = some (.str n) := atI_nat (j := 0) rfl
    wtm_at "rd"
    rw [hv]
    wtm_at "rd"
    refine Rd.slX hq (by omega) (by simp) fun q o hq' hoo => ?_
    have e : (V.str n :: (as ++ us)).drop (as.length + 1) = us := by rw [List.drop_succ_cons, List.drop_left]
    rw [e] at hoo
    have s1 := s0.new hq' o
    have sq : SqX K (upd H q o) q us := by
      rcases hoo with rfl | rfl
      · exact .inl (SqL.of upd_same)
      · exact .inr (SqT.of upd_same)
    wtm_at "rd"
    refine Rd.lstX s1 sq fun p H1 hp s2 => ?_
    exact k p H1 hp (s2.sub (by wtm_at "subl"))
theorem lof_ask {H0 H : Hp} {S : List Addr} {l : Led} {a : Addr} {n : Str} {as us : List V} {Q : VK} {E : XK} (st : Stt H0 S l H) (h : SqX K H a (.str n :: (as ++ us))) (hs : Shp n as us.length) (k : ∀ p H', H0 p = none → Kp [] H H' → Stt H0 S ((p, Is (.lst us)) :: l) H' → Q (.ref p) H') : spLof K ([.ref a] ++ []) H Q E :=
  ⟨a, n, as, us, rfl, h, hs, fun p H' hp s => k p H' (st.none hp) s.keep ((st.after0 s.keep).add (s.pick List.mem_cons_self) (st.fresh hp))⟩
/-! ### frozen -/
def spFrz (K : PySem.W.Frag) (n : Nat) : Sp := fun vs H Q _ => ∃ (a : Addr) (xs : List V) (ts : List Tr), vs = [.ref a] ∧ SqX K H a xs ∧ TrXs K H xs ts ∧ xs.length ≤ 1000 ∧ depT ts ≤ n ∧ ∀ p H', H p = none → Kp [] H H' → TrT H' (.ref p) (.sq ts) → Q (.ref p) H'
theorem frz_body (T : Txt K mg) (n k : Nat) (hk : k ≤ 60) (hk1 : 1 ≤ k) (sp0 : Sp) (F0 : FnOk P w K mg base CX0 k (He.fAd K ("frozen", none)) T.fd_frozen ["rows"] sp0)
    (h0 : ∀ vs H Q E, (∃ m, m + 1 = n ∧ spFrz K m vs H Q E) → sp0 vs H Q E) : FnOk P w K mg base CX0 (k + 1) (He.fAd K ("frozen", none)) T.fd_frozen ["rows"] (spFrz K n) := by
  refine T.F_frozen.ok sc_frozen (fun vs H Q E h => ?_) (fun cdv A outer s H vs Q E hr h => ?_)
  · obtain ⟨a, xs, ts, rfl, _⟩ := h
    rfl
  · obtain ⟨a, xs, ts, rfl, hq, hx, hz, hd, kk⟩ := h
    refine ⟨_, PSs.nox (pss_one (ps_ret (pe_callTy call_tuple_of (by rfl) T.n_tuple (by decide +kernel) (pa_cons (pe_lc (own := [("item", 1)]) (g := gName 1) (tt := tYes) (by rfl) sc_frozen.nd (pi_seq (pv 0)) (blkOk_by (own := [("item", 1)]) (N := ["rows", "item"]) (sc := defScope s_frozen) (by decide +kernel)) (fun _ _ _ _ _ => (pg_name (i := 1) sc_frozen.nd rfl (by first | exact Or.inl rfl | exact Or.inr rfl))) (fun _ _ _ _ _ => pts_nil) (fun _ _ _ _ _ => (pe_ifExp (pt_val (pe_call (ok_is_list T) (hr.mono hk1) rfl T.g_is_list T.F_is_list.kp T.b_is_list .nil pass0 (pa_cons (pv 1) pa_nil))) (pe_call F0 hr rfl T.g_frozen T.F_frozen.kp T.b_frozen .nil pass0 (pa_cons (pv 1) pa_nil)) (pv 1)))) pa_nil)))), ?_⟩
    wtm_at "k"
    have s0 : Stt H [] [] H := Stt.nil
    wtm_at "rd"
    refine Rd.lcXH hq List.not_mem_nil s0 (fun D i acc H1 => TrTs H1 acc (ts.take i)) (fun D hD => by simp; exact .nil) ?_ ?_
    · rintro D hD i x HA acc hi hg hac s1 ex
      obtain ⟨t, et, hx'⟩ := hx.at_ ex
      have hx2 := hx'.kp s1.keep
      have etk : ts.take (i + 1) = ts.take i ++ [t] := by rw [List.take_add_one, et]; rfl
      have mt : t ∈ ts := List.mem_of_getElem? et
      cases hx2 with
      | atm h =>
        wtm_at "rd"
        refine isL_atm s1 h fun HB kB s2 => ?_
        wtm_at "rd"
        refine Rd.lcHE s2 hD (by omega) hac ?_
        rw [etk]
        exact ((hg.kp kB).updL (s2.get List.mem_cons_self)).snoc (.atm h)
      | sq h hz' r =>
        wtm_at "rd"
        refine isL_seq s1 h fun HB kB s2 => ?_
        wtm_at "rd"
        have hdep : (Tr.sq _).dep ≤ n := Nat.le_trans (depT_mem mt) hd
        rw [Tr.dep] at hdep
        obtain ⟨m, rfl⟩ : ∃ m, n = m + 1 := ⟨n - 1, by omega⟩
        refine h0 _ _ _ _ ⟨m, rfl, _, _, _, rfl, h.kp0 kB, TrXs.kp kB r, hz', by omega, fun p HC hp kC hT => ?_⟩
        have s3 := s2.after0 kC
        refine Rd.lcHE s3 hD (by omega) hac ?_
        rw [etk]
        exact (((hg.kp kB).kp kC).updL (s3.get List.mem_cons_self)).snoc (hT.updL (s3.get List.mem_cons_self))
    · rintro D HA acc hD hD0 hac hg s1
      rw [hx.len, List.take_length] at hg
      wtm_at "rd"
      refine ⟨D, acc, rfl, .inl ⟨s1.sqL List.mem_cons_self, fun p hp => ?_⟩⟩
      have s2 := s1.new hp (.tup acc)
      refine kk p _ (s1.none hp) s2.keep (.sq upd_same (by omega) (hg.ext fun b zs e => ?_))
      rw [upd_ne (ne_of_none e hp)]
      exact e
theorem ok_frozen (T : Txt K mg) : ∀ n, n ≤ 50 → FnOk P w K mg base CX0 (n + 2) (He.fAd K ("frozen", none)) T.fd_frozen ["rows"] (spFrz K n)
  | 0, _ => frz_body T 0 1 (by omega) (by omega) _ fnok_false fun vs H Q E ⟨m, h, _⟩ => by omega
  | n + 1, hn => frz_body T (n + 1) (n + 2) (by omega) (by omega) _ (ok_frozen T n (by omega)) fun vs H Q E ⟨m, h1, h2⟩ => by
    cases h1
    exact h2
end

section
variable {P : Program} {w : World} {K : PySem.W.Frag} {mg : Str → Option Value} {base : Heap}
/-! ### sizes -/
theorem rw_sq {c : Cf} {H : Hp} {v : V} {n : Str} {as : List V} {ps : List (List LRow)} (h : RwA c H v (.mk n as ps)) : ∃ a us, v = .ref a ∧ SqX K H a (.str n :: (as ++ us)) ∧ RsAll c H us ps ∧ (as ++ us).length ≤ 100 ∧ ∀ x ∈ as, Atm x := by
  cases h with
  | mk h ha hz r => exact ⟨_, _, rfl, sqX_of (Cf.rX h), r, hz, ha⟩
theorem rs_sq {c : Cf} {H : Hp} {v : V} {rs : List LRow} (h : RsA c H v rs) : ∃ a us, v = .ref a ∧ SqX K H a us ∧ RwAll c H us rs ∧ us.length ≤ 100 := by
  cases h with
  | mk h hz r => exact ⟨_, _, rfl, sqX_of (Cf.sX h), r, hz⟩
def spSizeR (n : Nat) : Sp := fun vs H Q _ => ∃ (v : V) (rs : List LRow), vs = [v] ∧ RsA .any H v rs ∧ shpR rs ∧ depR rs ≤ n ∧ ∀ H', Kp [] H H' → Q (.int (sizeR rs : Nat)) H'
def spSizeW (n : Nat) : Sp := fun vs H Q _ => ∃ (v : V) (r : LRow), vs = [v] ∧ RwA .any H v r ∧ r.shp ∧ r.dep ≤ n ∧ ∀ H', Kp [] H H' → Q (.int (r.size : Nat)) H'
theorem sum_P : ∀ ps : List (List LRow), (ps.map fun p => ((sizeR p : Nat) : Int)).sum = ((sizeP ps : Nat) : Int)
  | [] => by rw [sizeP]; rfl
  | p :: r => by rw [List.map_cons, List.sum_cons, sum_P r, sizeP]; omega
theorem sum_R : ∀ rs : List LRow, (rs.map fun r => ((r.size : Nat) : Int)).sum = ((sizeR rs : Nat) : Int)
  | [] => by rw [sizeR]; rfl
  | p :: r => by rw [List.map_cons, List.sum_cons, sum_R r, sizeR]; omega
theorem take_map {α β : Type} {f : α → β} {xs : List α} {i : Nat} {x : α} (h : xs[i]? = some x) : (xs.take (i + 1)).map f = (xs.take i).map f ++ [f x] := by
  rw [List.take_add_one, h, List.map_append]
  rfl
theorem row_size_body (T : Txt K mg) (D : TxtD K w) (n k : Nat) (hk : k ≤ 60) (hk1 : 1 ≤ k) (sp0 : Sp) (F0 : FnOk P w K mg base CX0 k (He.fAd K ("size", none)) T.fd_size ["rows"] sp0)
    (h0 : ∀ vs H Q E, (∃ m, m + 1 = n ∧ spSizeR m vs H Q E) → sp0 vs H Q E) : FnOk P w K mg base CX0 (k + 1) (He.fAd K ("row_size", none)) T.fd_row_size ["row"] (spSizeW n) := by
  refine T.F_row_size.ok sc_row_size (fun vs H Q E h => ?_) (fun cdv A outer s H vs Q E hr h => ?_)
  · obtain ⟨v, r, rfl, _⟩ := h
    rfl
  · obtain ⟨v, ⟨nm, as, ps⟩, rfl, hw, hs, hd, kk⟩ := h
    refine ⟨_, PSs.nox (pss_one (ps_ret (pe_op op_add pe_int (pe_callB (cr_sum rfl) (by rfl) T.n_sum (by decide +kernel) (pa_cons (pe_lc (own := [("rows", 1)]) (g := gName 1) (tt := tYes) (by rfl) sc_row_size.nd (pi_seq (pe_call (ok_lists_of T D) (hr.mono hk1) rfl T.g_lists_of T.F_lists_of.kp T.b_lists_of .nil pass0 (pa_cons (pv 0) pa_nil))) (blkOk_by (own := [("rows", 1)]) (N := ["row", "rows"]) (sc := defScope s_row_size) (by decide +kernel)) (fun _ _ _ _ _ => (pg_name (i := 1) sc_row_size.nd rfl (by first | exact Or.inl rfl | exact Or.inr rfl))) (fun _ _ _ _ _ => pts_nil) (fun _ _ _ _ _ => (pe_call F0 hr rfl T.g_size T.F_size.kp T.b_size .nil pass0 (pa_cons (pv 1) pa_nil)))) pa_nil))))), ?_⟩
    wtm_at "k"
    obtain ⟨a, us, rfl, hq, hu, hz, ha⟩ := rw_sq (K := K) hw
    rw [LRow.shp] at hs
    rw [LRow.dep] at hd
    have s0 : Stt H [] [] H := Stt.nil
    wtm_at "rd"
    refine lof_ask s0 hq (by rw [hu.len]; exact hs.1) fun p H1 hp k1 s1 => ?_
    rw [List.length_append] at hz
    have t1 : Stt H1 [] [] H1 := Stt.nil
    have sx : SqX K H1 p us := .inl (s1.sqL (by wtm_at "mem"))
    refine Rd.lcX sx List.not_mem_nil t1 (fun i acc ex => ex = [] ∧ acc = (ps.take i).map fun p => V.int (sizeR p : Nat)) ⟨rfl, rfl⟩ ?_ ?_
    · rintro D2 hD i x HA acc ex hi ⟨rfl, rfl⟩ hac s2 ex
      obtain ⟨q, eq, hq'⟩ := hu.at_ ex
      have mq : q ∈ ps := List.mem_of_getElem? eq
      have hdep := depP_mem mq
      obtain ⟨m, rfl⟩ : ∃ m, n = m + 1 := ⟨n - 1, by omega⟩
      wtm_at "rd"
      refine h0 _ _ _ _ ⟨m, rfl, x, q, rfl, ((hq'.kp k1).kp s2.keep), shpP_mem hs.2 mq, by omega, fun HB kB => ?_⟩
      refine Rd.lcE (s2.after0 kB) hD (by omega) hac ⟨rfl, ?_⟩
      rw [take_map eq]
    · rintro D2 HA acc ex hD ⟨rfl, rfl⟩ s2
      rw [hu.len, List.take_length] at s2
      wtm_at "rd"
      refine ⟨D2, ps.map fun p => ((sizeR p : Nat) : Int), rfl, ?_, ?_⟩
      · rw [List.map_map]
        exact s2.sqL List.mem_cons_self
      rw [sum_P]
      wtm_at "rd"
      have z := kk HA (k1.trans s2.keep fun _ h => nomatch h)
      rw [LRow.size] at z
      rw [show (1 : Int) + ((sizeP ps : Nat) : Int) = ((1 + sizeP ps : Nat) : Int) by omega]
      exact z
theorem size_body (T : Txt K mg) (n k : Nat) (hk : k ≤ 60) (F0 : FnOk P w K mg base CX0 k (He.fAd K ("row_size", none)) T.fd_row_size ["row"] (spSizeW n)) : FnOk P w K mg base CX0 (k + 1) (He.fAd K ("size", none)) T.fd_size ["rows"] (spSizeR n) := by
  refine T.F_size.ok sc_size (fun vs H Q E h => ?_) (fun cdv A outer s H vs Q E hr h => ?_)
  · obtain ⟨v, r, rfl, _⟩ := h
    rfl
  · obtain ⟨v, rs, rfl, hw, hs, hd, kk⟩ := h
    refine ⟨_, PSs.nox (pss_one (ps_ret (pe_callB (cr_sum rfl) (by rfl) T.n_sum (by decide +kernel) (pa_cons (pe_lc (own := [("row", 1)]) (g := gName 1) (tt := tYes) (by rfl) sc_size.nd (pi_seq (pv 0)) (blkOk_by (own := [("row", 1)]) (N := ["rows", "row"]) (sc := defScope s_size) (by decide +kernel)) (fun _ _ _ _ _ => (pg_name (i := 1) sc_size.nd rfl (by first | exact Or.inl rfl | exact Or.inr rfl))) (fun _ _ _ _ _ => pts_nil) (fun _ _ _ _ _ => (pe_call F0 hr rfl T.g_row_size T.F_row_size.kp T.b_row_size .nil pass0 (pa_cons (pv 1) pa_nil)))) pa_nil)))), ?_⟩
    wtm_at "k"
    obtain ⟨a, us, rfl, hq, hu, hz⟩ := rs_sq (K := K) hw
    have s0 : Stt H [] [] H := Stt.nil
    wtm_at "rd"
    refine Rd.lcX hq List.not_mem_nil s0 (fun i acc ex => ex = [] ∧ acc = (rs.take i).map fun r => V.int (r.size : Nat)) ⟨rfl, rfl⟩ ?_ ?_
    · rintro D2 hD i x HA acc ex hi ⟨rfl, rfl⟩ hac s2 ex
      obtain ⟨q, eq, hq'⟩ := hu.at_ ex
      have mq : q ∈ rs := List.mem_of_getElem? eq
      wtm_at "rd"
      refine ⟨x, q, rfl, hq'.kp s2.keep, shpR_mem hs mq, Nat.le_trans (depR_mem mq) hd, fun HB kB => ?_⟩
      refine Rd.lcE (s2.after0 kB) hD (by omega) hac ⟨rfl, ?_⟩
      rw [take_map eq]
    · rintro D2 HA acc ex hD ⟨rfl, rfl⟩ s2
      rw [hu.len, List.take_length] at s2
      wtm_at "rd"
      refine ⟨D2, rs.map fun r => ((r.size : Nat) : Int), rfl, ?_, ?_⟩
      · rw [List.map_map]
        exact s2.sqL List.mem_cons_self
      rw [sum_R]
      exact kk HA s2.keep
theorem ok_sizes (T : Txt K mg) (D : TxtD K w) : ∀ n, n ≤ 20 → FnOk P w K mg base CX0 (2 * n + 2) (He.fAd K ("row_size", none)) T.fd_row_size ["row"] (spSizeW n) ∧ FnOk P w K mg base CX0 (2 * n + 3) (He.fAd K ("size", none)) T.fd_size ["rows"] (spSizeR n)
  | 0, _ => by
    have F := row_size_body (base := base) (P := P) (w := w) T D 0 1 (by omega) (by omega) _ fnok_false fun vs H Q E ⟨m, h, _⟩ => by omega
    exact ⟨F, size_body T 0 2 (by omega) F⟩
  | n + 1, hn => by
    have F := row_size_body (base := base) (P := P) (w := w) T D (n + 1) (2 * n + 3) (by omega) (by omega) _ (ok_sizes T D n (by omega)).2 fun vs H Q E ⟨m, h1, h2⟩ => by
      cases h1
      exact h2
    exact ⟨F, size_body T (n + 1) (2 * n + 4) (by omega) F⟩
end

section
variable {P : Program} {w : World} {K : PySem.W.Frag} {mg : Str → Option Value} {base : Heap}
/-! ### surely waiting -/
def spSwR (n : Nat) : Sp := fun vs H Q _ => ∃ (v : V) (rs : List LRow), vs = [v] ∧ RsA .any H v rs ∧ shpR rs ∧ depR rs ≤ n ∧ ∀ H', Kp [] H H' → Q (.bl (swR rs)) H'
def spSwW (n : Nat) : Sp := fun vs H Q _ => ∃ (v : V) (r : LRow), vs = [v] ∧ RwA .any H v r ∧ r.shp ∧ r.dep ≤ n ∧ ∀ H', Kp [] H H' → Q (.bl r.sw) H'
theorem sw_body (T : Txt K mg) (n k : Nat) (hk : k ≤ 60) (F0 : FnOk P w K mg base CX0 k (He.fAd K ("_row_surely_waits", none)) T.fd_row_surely_waits ["row"] (spSwW n)) : FnOk P w K mg base CX0 (k + 1) (He.fAd K ("surely_waits", none)) T.fd_surely_waits ["rows"] (spSwR n) := by
  refine T.F_surely_waits.ok sc_surely_waits (fun vs H Q E h => ?_) (fun cdv A outer s H vs Q E hr h => ?_)
  · obtain ⟨v, r, rfl, _⟩ := h
    rfl
  · obtain ⟨v, rs, rfl, hw, hs, hd, kk⟩ := h
    refine ⟨_, PSs.nox (pss_one (ps_ret (pe_callB (cr_any rfl) (by rfl) T.n_any (by decide +kernel) (pa_cons (pe_lc (own := [("row", 1)]) (g := gName 1) (tt := tYes) (by rfl) sc_surely_waits.nd (pi_seq (pv 0)) (blkOk_by (own := [("row", 1)]) (N := ["rows", "row"]) (sc := defScope s_surely_waits) (by decide +kernel)) (fun _ _ _ _ _ => (pg_name (i := 1) sc_surely_waits.nd rfl (by first | exact Or.inl rfl | exact Or.inr rfl))) (fun _ _ _ _ _ => pts_nil) (fun _ _ _ _ _ => (pe_call F0 hr rfl T.g_row_surely_waits T.F_row_surely_waits.kp T.b_row_surely_waits .nil pass0 (pa_cons (pv 1) pa_nil)))) pa_nil)))), ?_⟩
    wtm_at "k"
    obtain ⟨a, us, rfl, hq, hu, hz⟩ := rs_sq (K := K) hw
    have s0 : Stt H [] [] H := Stt.nil
    wtm_at "rd"
    refine Rd.lcX hq List.not_mem_nil s0 (fun i acc ex => ex = [] ∧ acc = (rs.take i).map fun r => V.bl r.sw) ⟨rfl, rfl⟩ ?_ ?_
    · rintro D2 hD i x HA acc ex hi ⟨rfl, rfl⟩ hac s2 ex
      obtain ⟨q, eq, hq'⟩ := hu.at_ ex
      have mq : q ∈ rs := List.mem_of_getElem? eq
      wtm_at "rd"
      refine ⟨x, q, rfl, hq'.kp s2.keep, shpR_mem hs mq, Nat.le_trans (depR_mem mq) hd, fun HB kB => ?_⟩
      refine Rd.lcE (s2.after0 kB) hD (by omega) hac ⟨rfl, ?_⟩
      rw [take_map eq]
    · rintro D2 HA acc ex hD ⟨rfl, rfl⟩ s2
      rw [hu.len, List.take_length] at s2
      replace s2 : Stt H [] ((D2, Is (.lst ((rs.map LRow.sw).map V.bl))) :: ([] ++ [])) HA := by
        rw [List.map_map]
        exact s2
      wtm_at "rd"
      refine Rd.anyL s2 (by wtm_at "mem") ?_
      have e : (rs.map LRow.sw).any id = swR rs := by rw [swR_any, List.any_map]; rfl
      rw [e]
      exact kk HA s2.keep
theorem inS {ys : List Str} {neg : Bool} {x : Str} {p : Addr} {H : Hp} {Q : VK} (s : SqX K H p (ys.map V.str)) (k : Q (.bl (if neg then !decide (x ∈ ys) else decide (x ∈ ys))) H) : rIn K neg (.str x) (.ref p) H Q :=
  ⟨p, _, rfl, s, rfl, flat_strs, by rw [inV_str]; exact k⟩
theorem sleepy_mem {n : Str} : decide (n ∈ (["sleep", "pass", "ever"] : List Str)) = sleepy n := by
  unfold sleepy
  by_cases h1 : n = "sleep"
  · simp [h1]
  · by_cases h2 : n = "pass"
    · simp [h2]
    · by_cases h3 : n = "ever"
      · simp [h3]
      · simp [h1, h2, h3]
theorem rsAll2 {c : Cf} {H : Hp} {us : List V} {p1 p2 : List LRow} (h : RsAll c H us [p1, p2]) : ∃ u1 u2, us = [u1, u2] ∧ RsA c H u1 p1 ∧ RsA c H u2 p2 := by
  cases h with
  | cons h1 t =>
    cases t with
    | cons h2 t =>
      cases t
      exact ⟨_, _, rfl, h1, h2⟩
theorem rsAll1 {c : Cf} {H : Hp} {us : List V} {p1 : List LRow} (h : RsAll c H us [p1]) : ∃ u1, us = [u1] ∧ RsA c H u1 p1 := by
  cases h with
  | cons h1 t =>
    cases t
    exact ⟨_, rfl, h1⟩
theorem sww_body (T : Txt K mg) (n k : Nat) (hk : k ≤ 60) (sp0 : Sp) (F0 : FnOk P w K mg base CX0 k (He.fAd K ("surely_waits", none)) T.fd_surely_waits ["rows"] sp0)
    (h0 : ∀ vs H Q E, (∃ m, m + 1 = n ∧ spSwR m vs H Q E) → sp0 vs H Q E) : FnOk P w K mg base CX0 (k + 1) (He.fAd K ("_row_surely_waits", none)) T.fd_row_surely_waits ["row"] (spSwW n) := by
  refine T.F_row_surely_waits.ok sc_row_surely_waits (fun vs H Q E h => ?_) (fun cdv A outer s H vs Q E hr h => ?_)
  · obtain ⟨v, r, rfl, _⟩ := h
    rfl
  · obtain ⟨v, ⟨nm, as, ps⟩, rfl, hw, hs, hd, kk⟩ := h
    refine ⟨_, PSs.nox (pss_cons (ps_if (pt_cmpR op_in_seq (pe_ix ix_sqX (pv 0) pe_int (fun _ _ => rfl)) (pe_tup (pa_cons pe_str (pa_cons pe_str (pa_cons pe_str pa_nil)))) (by rfl)) (pss_one (ps_ret pe_bl))
   pss_nil)
  (pss_cons (ps_if (pt_cmpR op_eq (pe_ix ix_sqX (pv 0) pe_int (fun _ _ => rfl)) pe_str (nomark _)) (pss_one (ps_ret (pe_and (pe_call F0 hr rfl T.g_surely_waits T.F_surely_waits.kp T.b_surely_waits .nil pass0 (pa_cons (pe_ix ix_sqX (pv 0) pe_int (fun _ _ => rfl)) pa_nil)) (pe_one (pe_call F0 hr rfl T.g_surely_waits T.F_surely_waits.kp T.b_surely_waits .nil pass0 (pa_cons (pe_ix ix_sqX (pv 0) pe_int (fun _ _ => rfl)) pa_nil))))))
   pss_nil)
  (pss_one (ps_ret (pe_and (pe_cmpR op_eq (pe_ix ix_sqX (pv 0) pe_int (fun _ _ => rfl)) pe_str (nomark _)) (pe_one (pe_call F0 hr rfl T.g_surely_waits T.F_surely_waits.kp T.b_surely_waits .nil pass0 (pa_cons (pe_ix ix_sqX (pv 0) pe_int (fun _ _ => rfl)) pa_nil)))))))), ?_⟩
    wtm_at "k"
    obtain ⟨a, us, rfl, hq, hu, hz, ha⟩ := rw_sq (K := K) hw
    rw [LRow.shp] at hs
    rw [LRow.dep] at hd
    have s0 : Stt H [] [] H := Stt.nil
    have a0 : atI (V.str nm :: (as ++ us)) 0 = some (.str nm) := atI_nat (j := 0) rfl
    wtm_at "rd"
    rename_i p H1 hp s1
    refine inS (ys := ["sleep", "pass", "ever"]) (.inr (s1.sqT (xs := [.str "sleep", .str "pass", .str "ever"]) (by wtm_at "mem"))) ?_
    have es : (if false = true then !decide (nm ∈ (["sleep", "pass", "ever"] : List Str)) else decide (nm ∈ (["sleep", "pass", "ever"] : List Str))) = sleepy nm := sleepy_mem
    rw [es]
    clear s0
    rw [LRow.sw] at kk
    wtm_at "rd"
    refine Rd.br (fun e1 => ?_) (fun e1 => ?_)
    · rw [e1] at kk
      wtm_at "rd"
      exact kk _ s1.keep
    · rw [e1, Bool.false_or] at kk
      wtm_at "rd"
      refine Rd.brD (fun e2 => ?_) (fun e2 => ?_)
      · have e3 := str_inj.mp e2
        subst e3
        obtain ⟨rfl, h2⟩ := hs.1.either_ rfl
        obtain ⟨p1, p2, rfl⟩ := len2 h2
        obtain ⟨u1, u2, rfl, g1, g2⟩ := rsAll2 hu
        rw [depP, depP, depP] at hd
        rw [shpP, shpP] at hs
        obtain ⟨m, rfl⟩ : ∃ m, n = m + 1 := ⟨n - 1, by omega⟩
        rw [swAll, swAll, swAll, Bool.and_true, decide_eq_true rfl, Bool.true_and, show decide ((("either" : Str)) = "within") = false by decide +kernel, Bool.false_and, Bool.or_false] at kk
        wtm_at "rd"
        refine h0 _ _ _ _ ⟨m, rfl, u1, p1, rfl, g1.kp s1.keep, hs.2.1, by omega, fun H2 k2 => ?_⟩
        have k12 : Kp [] H H2 := s1.keep.trans k2 fun _ h => nomatch h
        have s2 := s1.after0 k2
        clear s1
        refine Rd.blV (Rd.br (fun e4 => ?_) (fun e4 => ?_))
        · rw [e4, Bool.true_and] at kk
          wtm_at "rd"
          refine h0 _ _ _ _ ⟨m, rfl, u2, p2, rfl, g2.kp k12, hs.2.2.1, by omega, fun H3 k3 => ?_⟩
          exact kk _ (k12.trans k3 fun _ h => nomatch h)
        · rw [e4, Bool.false_and] at kk
          exact kk _ k12
      · have e3 : nm ≠ "either" := fun q => e2 (by rw [q])
        rw [decide_eq_false e3, Bool.false_and, Bool.false_or] at kk
        wtm_at "rd"
        refine Rd.brD (fun e4 => ?_) (fun e4 => ?_)
        · have e5 := str_inj.mp e4
          subst e5
          obtain ⟨⟨z, rfl⟩, h2⟩ := hs.1.within_ rfl
          obtain ⟨p1, p2, rfl⟩ := len2 h2
          obtain ⟨u1, u2, rfl, g1, g2⟩ := rsAll2 hu
          rw [depP, depP, depP] at hd
          rw [shpP, shpP] at hs
          obtain ⟨m, rfl⟩ : ∃ m, n = m + 1 := ⟨n - 1, by omega⟩
          rw [swFst, decide_eq_true rfl, Bool.true_and] at kk
          wtm_at "rd"
          refine h0 _ _ _ _ ⟨m, rfl, u1, p1, rfl, g1.kp s1.keep, hs.2.1, by omega, fun H2 k2 => ?_⟩
          exact kk _ (s1.keep.trans k2 fun _ h => nomatch h)
        · have e5 : nm ≠ "within" := fun q => e4 (by rw [q])
          rw [decide_eq_false e5, Bool.false_and] at kk
          wtm_at "rd"
          exact kk _ s1.keep
theorem ok_sws (T : Txt K mg) : ∀ n, n ≤ 20 → FnOk P w K mg base CX0 (2 * n + 2) (He.fAd K ("_row_surely_waits", none)) T.fd_row_surely_waits ["row"] (spSwW n) ∧ FnOk P w K mg base CX0 (2 * n + 3) (He.fAd K ("surely_waits", none)) T.fd_surely_waits ["rows"] (spSwR n)
  | 0, _ => by
    have F := sww_body (base := base) (P := P) (w := w) T 0 1 (by omega) _ fnok_false fun vs H Q E ⟨m, h, _⟩ => by omega
    exact ⟨F, sw_body T 0 2 (by omega) F⟩
  | n + 1, hn => by
    have F := sww_body (base := base) (P := P) (w := w) T (n + 1) (2 * n + 3) (by omega) _ (ok_sws T n (by omega)).2 fun vs H Q E ⟨m, h1, h2⟩ => by
      cases h1
      exact h2
    exact ⟨F, sw_body T (n + 1) (2 * n + 4) (by omega) F⟩
end

section
variable {P : Program} {w : World} {K : PySem.W.Frag} {mg : Str → Option Value} {base : Heap}
/-! ### checks of a row, any object -/
theorem rlen_rel (T : Txt K mg) {n : Str} {k : Nat} (h : rlen n = some k) : ∃ u, PySem.W.nsIn K (He.ga K "SIZES") n = some (some u) ∧ RelV (.int (k : Int)) u := by
  rcases rlen_some h with ⟨rfl, rfl⟩ | ⟨rfl, rfl⟩ | ⟨rfl, rfl⟩ | ⟨rfl, rfl⟩ | ⟨rfl, rfl⟩ | ⟨rfl, rfl⟩ | ⟨rfl, rfl⟩ | ⟨rfl, rfl⟩ | ⟨rfl, rfl⟩
  · exact T.v_SIZES ("work", .int 3) (by simp)
  · exact T.v_SIZES ("say", .int 2) (by simp)
  · exact T.v_SIZES ("pass", .int 1) (by simp)
  · exact T.v_SIZES ("sleep", .int 2) (by simp)
  · exact T.v_SIZES ("take", .int 2) (by simp)
  · exact T.v_SIZES ("give", .int 2) (by simp)
  · exact T.v_SIZES ("either", .int 3) (by simp)
  · exact T.v_SIZES ("ever", .int 2) (by simp)
  · exact T.v_SIZES ("within", .int 4) (by simp)
theorem rlen_no (T : Txt K mg) {n : Str} (h : rlen n = none) : PySem.W.nsIn K (He.ga K "SIZES") n = some none := T.ks_SIZES n fun m => by
  simp only [List.mem_cons, List.not_mem_nil, or_false] at m
  rcases m with rfl | rfl | rfl | rfl | rfl | rfl | rfl | rfl | rfl <;> cases h
def spIsRowO : Sp := fun vs H Q _ => ∃ (v : V) (o : Ob), vs = [v] ∧ ObA H v o ∧ ∀ H', Kp [] H H' → Q (.bl o.view.isSome) H'
theorem view_len {n : Str} {r : List Ob} {k : Nat} (h : rlen n = some k) : (Ob.sq (.str n :: r)).view.isSome = decide (r.length + 1 = k) := by
  show (if rlen n = some (r.length + 1) then _ else none : Option (Str × List Ob × List Ob)).isSome = _
  by_cases e : r.length + 1 = k
  · rw [if_pos (by rw [h, e]), decide_eq_true e]; rfl
  · rw [if_neg (by rw [h]; intro q; injection q with q; exact e q.symm), decide_eq_false e]; rfl
theorem view_no {n : Str} {r : List Ob} (h : rlen n = none) : (Ob.sq (.str n :: r)).view.isSome = false := by
  show (if rlen n = some (r.length + 1) then _ else none : Option (Str × List Ob × List Ob)).isSome = _
  rw [if_neg (by rw [h]; intro q; cases q)]; rfl
theorem view_str {x : Ob} {r : List Ob} (h : x.isStr = false) : (Ob.sq (x :: r)).view.isSome = false := by
  cases x <;> first | rfl | cases h
theorem ok_is_rowO (T : Txt K mg) (D : TxtD K w) : FnOk P w K mg base CX0 2 (He.fAd K ("_is_row", none)) T.fd_is_row ["row"] spIsRowO := by
  refine T.F_is_row.ok sc_is_row (fun vs H Q E h => ?_) (fun cdv A outer s H vs Q E hr h => ?_)
  · obtain ⟨v, o, rfl, _⟩ := h
    rfl
  · obtain ⟨v, o, rfl, ho, k⟩ := h
    obtain ⟨es, ne, kd⟩ := D.kd_SIZES
    refine ⟨_, PSs.nox (pss_cons (ps_if (PW.pt (pw_or (pt_not (pt_val (pe_call (ok_is_listO T) (hr.mono (by decide)) rfl T.g_is_list T.F_is_list.kp T.b_is_list .nil pass0 (pa_cons (pv 0) pa_nil)))) (pw_or (pt_cmpR op_eq (pe_callB call_lenQ (by rfl) T.n_len PySem.boot_len (pa_cons (pv 0) pa_nil)) pe_int (nomark _)) (pw_or1 (pt_not (pt_val (pe_callB call_isi (by rfl) T.n_isinstance (by decide +kernel) (pa_cons (pe_ix ix_sqX (pv 0) pe_int (fun _ _ => rfl)) (pa_cons (pe_bltn (v := .ty "str") (by rfl) T.n_str (by decide +kernel) (show RelV (.ty "str") (.type "str") from rfl)) pa_nil))))))))) (pss_one (ps_ret pe_bl))
   pss_nil)
  (pss_one (ps_ret (pe_and (pe_cmpR (op_in_kd kd) (pe_ix ix_sqX (pv 0) pe_int (fun _ _ => rfl)) (pe_glob (v := .ref (He.ga K "SIZES")) rfl T.g_SIZES RelT.ref) (by rfl)) (pe_one (pe_cmpR op_eq (pe_callB call_lenQ (by rfl) T.n_len PySem.boot_len (pa_cons (pv 0) pa_nil)) (pe_ix ix_kdict (pe_glob (v := .ref (He.ga K "SIZES")) rfl T.g_SIZES RelT.ref) (pe_ix ix_sqX (pv 0) pe_int (fun _ _ => rfl)) (fun _ _ => rfl)) (nomark _))))))), ?_⟩
    wtm_at "k"
    have s0 : Stt H [] [] H := Stt.nil
    wtm_at "rd"
    refine isLO_ask s0 ho fun H1 k1 s1 => ?_
    cases e : o.isSq with
    | false =>
      wtm_at "rd"
      rw [show o.view.isSome = false by cases o <;> first | rfl | cases e] at k
      exact k _ k1
    | true =>
      have h1 := ho.kp k1
      cases h1 with
      | sq hh hz r =>
        rename_i a vs xs
        have hq : SqX K H1 a vs := sqX_of hh
        clear s0
        wtm_at "rd"
        cases r with
        | nil =>
          refine Rd.brI rfl ?_
          wtm_at "rd"
          exact k _ k1
        | cons hx hr' =>
          rename_i v0 vr x r
          have a0 : atI (v0 :: vr) 0 = some v0 := atI_nat (j := 0) rfl
          refine Rd.brJ (fun e => absurd (V.int.inj e) (by rw [List.length_cons]; omega)) ?_
          wtm_at "rd"
          obtain ⟨t, ty, _, kt, _⟩ := hx.ty (K := K)
          refine Rd.isi ty (.ty _) kt ?_
          cases e2 : x.isStr with
          | false =>
            wtm_at "rd"
            rw [view_str e2] at k
            exact k _ k1
          | true =>
            cases hx with
            | str n hn =>
              wtm_at "rd"
              cases e3 : rlen n with
              | none =>
                rw [view_no e3] at k
                refine ⟨n, none, rfl, rfl, rlen_no T e3, ?_⟩
                rw [show (none : Option Value).isSome = false from rfl]
                wtm_at "rd"
                exact k _ k1
              | some m =>
                obtain ⟨u, hu, ru⟩ := rlen_rel T e3
                refine ⟨n, some u, rfl, rfl, hu, ?_⟩
                rw [show (some u).isSome = true from rfl]
                wtm_at "rd"
                refine ⟨_, n, _, rfl, rfl, ⟨es, ne, u, kd.at_, kd.lit, hu, ru⟩, ?_⟩
                wtm_at "rd"
                rw [view_len e3] at k
                rw [show decide (V.int ((V.str n :: vr).length : Nat) = V.int (m : Nat)) = decide (r.length + 1 = m) from decide_eq_decide.mpr ⟨fun q => by have := V.int.inj q; rw [List.length_cons, hr'.len] at this; omega, fun q => by rw [List.length_cons, hr'.len, q]⟩]
                exact k _ k1
            | _ => cases e2
      | _ => cases e
/-- the items of a row that has been looked at -/
theorem view_at {H : Hp} {v : V} {o : Ob} {n : Str} {as ps : List Ob} (ho : ObA H v o) (hv : o.view = some (n, as, ps)) : ∃ (a : Addr) (ws us : List V), v = .ref a ∧ SqX K H a (.str n :: (ws ++ us)) ∧ ObAll H ws as ∧ ObAll H us ps ∧ ShO n as ps := by
  obtain ⟨rfl, hs⟩ := view_some hv
  cases ho with
  | sq hh hz r =>
    cases r with
    | cons hx r =>
      cases hx
      obtain ⟨ws, us, rfl, h1, h2⟩ := r.split
      exact ⟨_, ws, us, rfl, sqX_of hh, h1, h2, hs⟩
/-- numbers -/
def spGoodO : Sp := fun vs H Q _ => ∃ (v : V) (o : Ob) (n : Str) (as ps : List Ob), vs = [v] ∧ ObA H v o ∧ o.view = some (n, as, ps) ∧ ∀ H', Kp [] H H' → Q (.bl (numO n as)) H'
theorem ok_has_good_numbersO (T : Txt K mg) : FnOk P w K mg base CX0 3 (He.fAd K ("_has_good_numbers", none)) T.fd_has_good_numbers ["row"] spGoodO := by
  refine T.F_has_good_numbers.ok sc_has_good_numbers (fun vs H Q E h => ?_) (fun cdv A outer s H vs Q E hr h => ?_)
  · obtain ⟨v, o, n, as, ps, rfl, _⟩ := h
    rfl
  · obtain ⟨v, o, n, as, ps, rfl, ho, hv, k⟩ := h
    refine ⟨_, PSs.nox (pss_cons (ps_if (pt_cmpR op_eq (pe_ix ix_sqX (pv 0) pe_int (fun _ _ => rfl)) pe_str (nomark _)) (pss_one (ps_ret (pe_and (pe_call (ok_is_betweenO T) (hr.mono (by decide)) rfl T.g_is_between T.F_is_between.kp T.b_is_between .nil pass0 (pa_cons (pe_ix ix_sqX (pv 0) pe_int (fun _ _ => rfl)) (pa_cons pe_int (pa_cons (Lt.pe_globI rfl T.g_MOST_TIME) pa_nil)))) (pe_one (pe_call (ok_is_betweenO T) (hr.mono (by decide)) rfl T.g_is_between T.F_is_between.kp T.b_is_between .nil pass0 (pa_cons (pe_ix ix_sqX (pv 0) pe_int (fun _ _ => rfl)) (pa_cons pe_int (pa_cons (pe_ix ix_sqX (pv 0) pe_int (fun _ _ => rfl)) pa_nil))))))))
   pss_nil)
  (pss_cons (ps_if (pt_cmpR op_in_seq (pe_ix ix_sqX (pv 0) pe_int (fun _ _ => rfl)) (pe_tup (pa_cons pe_str (pa_cons pe_str pa_nil))) (by rfl)) (pss_one (ps_ret (pe_call (ok_is_betweenO T) (hr.mono (by decide)) rfl T.g_is_between T.F_is_between.kp T.b_is_between .nil pass0 (pa_cons (pe_ix ix_sqX (pv 0) pe_int (fun _ _ => rfl)) (pa_cons pe_int (pa_cons (Lt.pe_globI rfl T.g_MOST_TIME) pa_nil))))))
   pss_nil)
  (pss_one (ps_ret pe_bl)))), ?_⟩
    wtm_at "k"
    obtain ⟨a, ws, us, rfl, hq, hw, hu, hs⟩ := view_at (K := K) ho hv
    have s0 : Stt H [] [] H := Stt.nil
    have a0 : atI (V.str n :: (ws ++ us)) 0 = some (.str n) := atI_nat (j := 0) rfl
    wtm_at "rd"
    refine Rd.brD (fun e => ?_) (fun e => ?_)
    · have e1 := str_inj.mp e
      subst e1
      obtain ⟨x, y, rfl, rfl⟩ := hs.work_ rfl
      cases hu
      cases hw with
      | cons hx t =>
        cases t with
        | cons hy t =>
          cases t
          rename_i vx vy
          rw [numO_work] at k
          wtm_at "rd"
          refine btwO_ask hy ?_
          refine Rd.blV (Rd.br (fun e2 => ?_) (fun e2 => ?_))
          · rw [e2, Bool.true_and] at k
            obtain ⟨i, rfl, _⟩ := btw_num e2
            cases hy
            wtm_at "rd"
            refine btwO_ask hx ?_
            exact k _ (Kp.refl _)
          · rw [e2, Bool.false_and] at k
            exact k _ (Kp.refl _)
    · have e1 : n ≠ "work" := fun q => e (by rw [q])
      wtm_at "rd"
      rename_i p H1 hp s1
      refine inS (ys := ["sleep", "within"]) (.inr (s1.sqT (xs := [.str "sleep", .str "within"]) (by wtm_at "mem"))) ?_
      clear s0
      wtm_at "rd"
      refine Rd.br (fun e2 => ?_) (fun e2 => ?_)
      · have e3 : n ∈ (["sleep", "within"] : List Str) := of_decide_eq_true e2
        obtain ⟨x, rfl⟩ := hs.slp_ e3
        cases hw with
        | cons hx t =>
          cases t
          rename_i vx
          have a1 : atI (V.str n :: ([vx] ++ us)) 1 = some vx := atI_nat (j := 1) rfl
          rw [numO_slp e3] at k
          wtm_at "rd"
          refine btwO_ask (hx.kp s1.keep) ?_
          exact k _ s1.keep
      · have e3 : n ∉ (["sleep", "within"] : List Str) := fun q => of_decide_eq_false e2 q
        rw [numO_else hs e1 e3] at k
        wtm_at "rd"
        exact k _ s1.keep
end

section
variable {P : Program} {w : World} {K : PySem.W.Frag} {mg : Str → Option Value} {base : Heap}
/-! ### the law's own number and word, any objects -/
def spLNumO : Sp := fun vs H Q _ => ∃ (v : V) (o : Ob) (lo hi : Int), vs = [v, .int lo, .int hi] ∧ ObA H v o ∧ Q (.bl (o.btw lo hi)) H
theorem btw_no {o : Ob} {lo hi : Int} (h : o.isNum = false) : o.btw lo hi = false := by
  cases o <;> first | rfl | cases h
theorem ok_l_is_numberO (T : Txt K mg) : FnOk P w K mg base CX0 1 (He.fAd K ("_law_is_number", none)) T.fd_l_is_number ["_law_x", "_law_least", "_law_top"] spLNumO := by
  refine T.F_l_is_number.ok sc_l_is_number (fun vs H Q E h => ?_) (fun cdv A outer s H vs Q E hr h => ?_)
  · obtain ⟨v, o, lo, hi, rfl, _⟩ := h
    rfl
  · obtain ⟨v, o, lo, hi, rfl, ho, k⟩ := h
    refine ⟨_, PSs.nox (pss_one (ps_ret (pe_and (pe_callB call_isi (by rfl) T.n_isinstance (by decide +kernel) (pa_cons (pv 0) (pa_cons (pe_bltn (v := .ty "int") (by rfl) T.n_int (by decide +kernel) (show RelV (.ty "int") (.type "int") from rfl)) pa_nil))) (pe_and (pe_not (pe_callB call_isi (by rfl) T.n_isinstance (by decide +kernel) (pa_cons (pv 0) (pa_cons (pe_bltn (v := .ty "bool") (by rfl) T.n_bool (by decide +kernel) (show RelV (.ty "bool") (.type "bool") from rfl)) pa_nil)))) (pe_one (pe_chain op_le op_le (pv 1) (pv 0) (pv 2))))))), ?_⟩
    wtm_at "k"
    obtain ⟨t, ty, _, _, b, c, h4, h5, h6⟩ := ho.ty (K := K)
    wtm_at "rd"
    cases b with
    | false =>
      rw [btw_no (show o.isNum = false by rw [← h6]; rfl)] at k
      wtm_at "rd"
      exact k
    | true =>
      wtm_at "rd"
      cases c with
      | true =>
        rw [btw_no (show o.isNum = false by rw [← h6]; rfl)] at k
        wtm_at "rd"
        exact k
      | false =>
        have hn : o.isNum = true := by rw [← h6]; rfl
        cases ho with
        | num x =>
          wtm_at "rd"
          refine Rd.brD (fun c1 => ?_) (fun c1 => ?_)
          · wtm_at "rd"
            rw [show decide (x ≤ hi) = Ob.btw lo hi (.num x) from decide_eq_decide.mpr ⟨fun c => ⟨c1, c⟩, fun c => c.2⟩]
            exact k
          · wtm_at "rd"
            rw [show Ob.btw lo hi (.num x) = false from decide_eq_false fun c => c1 c.1] at k
            exact k
        | _ => cases hn
def spLWordO : Sp := fun vs H Q _ => ∃ (v : V) (o : Ob), vs = [v] ∧ ObA H v o ∧ ∀ H', Kp [] H H' → Q (.bl o.word) H'
local macro_rules | `(tactic| wtm_at "ask") => `(tactic| with_reducible refine' Rd.inSg ?_)
local macro_rules | `(tactic| wtm_at "ask") => `(tactic| with_reducible refine' Rd.wS ?_)
local macro_rules | `(tactic| wtm_at "ask") => `(tactic| with_reducible refine' Rd.wSL ?_)
theorem ok_l_is_wordO (T : Txt K mg) : FnOk P w K mg base CX0 1 (He.fAd K ("_law_is_word", none)) T.fd_l_is_word ["_law_x"] spLWordO := by
  refine T.F_l_is_word.ok sc_l_is_word (fun vs H Q E h => ?_) (fun cdv A outer s H vs Q E hr h => ?_)
  · obtain ⟨v, o, rfl, _⟩ := h
    rfl
  · obtain ⟨v, o, rfl, ho, k⟩ := h
    refine ⟨_, PSs.nox (pss_cons (ps_if (PW.pt (pw_or (pt_not (pt_val (pe_callB call_isi (by rfl) T.n_isinstance (by decide +kernel) (pa_cons (pv 0) (pa_cons (pe_bltn (v := .ty "str") (by rfl) T.n_str (by decide +kernel) (show RelV (.ty "str") (.type "str") from rfl)) pa_nil))))) (pw_or1 (pt_not (pt_chain op_le op_le pe_int (pe_callB call_len_str (by rfl) T.n_len PySem.boot_len (pa_cons (pv 0) pa_nil)) pe_int))))) (pss_one (ps_ret pe_bl))
   pss_nil)
  (pss_one (ps_ret (pe_callB (cr_all rfl) (by rfl) T.n_all (by decide +kernel) (pa_cons (pe_lc (own := [("_law_sign", 1)]) (g := gName 1) (tt := tYes) (by rfl) sc_l_is_word.nd (pi_str (pv 0)) (blkOk_by (own := [("_law_sign", 1)]) (N := ["_law_x", "_law_sign"]) (sc := defScope s_l_is_word) (by decide +kernel)) (fun _ _ _ _ _ => (pg_name (i := 1) sc_l_is_word.nd rfl (by first | exact Or.inl rfl | exact Or.inr rfl))) (fun _ _ _ _ _ => pts_nil) (fun _ _ _ _ _ => (pe_cmpR (show OpR _ (compareOp .In) rInSg from op_inSg) (pv 1) pe_str (by rfl)))) pa_nil))))), ?_⟩
    wtm_at "k"
    have s0 : Stt H [] [] H := Stt.nil
    obtain ⟨t, ty, _, kt, _⟩ := ho.ty (K := K)
    wtm_at "rd"
    cases e : o.isStr with
    | false =>
      rw [show o.word = false by cases o <;> first | rfl | cases e] at k
      wtm_at "rd"
      exact k _ (Kp.refl _)
    | true =>
      cases ho with
      | str z hz =>
        wtm_at "rd"
        refine ⟨z, rfl, Nat.le_trans hz (by decide), ?_⟩
        wtm_at "rd"
        refine Rd.brD (fun c1 => ?_) (fun c1 => ?_)
        · wtm_at "rd"
          refine Rd.brD (fun c2 => ?_) (fun c2 => ?_)
          · wtm_at "rd"
            refine Rd.lcG (walk_str (z := z)) s0 (fun i acc ex => ex = [] ∧ acc = (z.cps.toList.take i).map fun c => V.bl (decide (c ∈ letters.cps.toList))) ⟨rfl, rfl⟩ (fun _ _ _ _ _ _ => trivial) ?_ ?_
            · rintro D hD i x HA HB acc ex hi ⟨rfl, rfl⟩ hac s22 ⟨rfl, c, hc, rfl⟩
              have hz' : z.cps.size ≤ 8 := (show z.length ≤ 8 by omega)
              wtm_at "rd"
              refine Rd.lcE s22 hD (by omega) hac ⟨rfl, ?_⟩
              rw [List.take_add_one, show z.cps.toList[i]? = some c by simpa using hc, List.map_append]
              rfl
            · rintro D HA acc ex hD ⟨rfl, rfl⟩ s22
              rw [show z.cps.size = z.cps.toList.length by simp, List.take_length] at s22
              replace s22 : Stt H [] ((D, Is (.lst ((z.cps.toList.map fun c => decide (c ∈ letters.cps.toList)).map V.bl))) :: ([] ++ [])) HA := by
                rw [List.map_map]
                exact s22
              wtm_at "rd"
              refine Rd.allL s22 (by wtm_at "mem") ?_
              rw [all_map_id]
              have e1 : (z.cps.toList.all fun c => decide (c ∈ letters.cps.toList)) = Ob.word (.str z) := by
                show _ = WordB z
                unfold WordB
                rw [decide_eq_true (show 1 ≤ z.length by omega), decide_eq_true (show z.length ≤ 8 by omega)]
                rfl
              rw [e1]
              exact k _ s22.keep
          · rw [show Ob.word (.str z) = false from word_len (by omega)] at k
            wtm_at "rd"
            exact k _ (Kp.refl _)
        · rw [show Ob.word (.str z) = false from word_len (by omega)] at k
          wtm_at "rd"
          exact k _ (Kp.refl _)
      | _ => cases e
theorem lnumO_ask {v : V} {o : Ob} {lo hi : Int} {H : Hp} {Q : VK} {E : XK} (ho : ObA H v o) (h : Q (.bl (o.btw lo hi)) H) : spLNumO ([v, .int lo, .int hi] ++ []) H Q E := ⟨v, o, lo, hi, rfl, ho, h⟩
theorem lwordO_ask {H0 H : Hp} {S : List Addr} {l : Led} {v : V} {o : Ob} {Q : VK} {E : XK} (s : Stt H0 S l H) (h : ObA H v o) (k : ∀ H', Kp [] H H' → Stt H0 S l H' → Q (.bl o.word) H') : spLWordO ([v] ++ []) H Q E := ⟨v, o, rfl, h, fun H' kp => k H' kp (s.after0 kp)⟩
end

section
variable {P : Program} {w : World} {K : PySem.W.Frag} {mg : Str → Option Value} {base : Heap}
/-! ### the law's own lists of a row, any objects -/
theorem ix_K7 {X : Cx} {r : PySem.W.Frag → R2} (hK : X.K = K) (h : IxR X (r X.K)) : IxR X (r K) := by
  rw [← hK]
  exact h
theorem cutFrom {us : List V} {k : Nat} : cutV us (some (k : Int)) none = us.drop k := by
  unfold cutV
  rw [show HT.sIx us.length us.length none = us.length from rfl, HT.sIx_nat]
  by_cases h : k ≤ us.length
  · rw [Nat.min_eq_left h, List.take_of_length_le (by rw [List.length_drop]; exact Nat.le_refl _)]
  · rw [Nat.min_eq_right (by omega), List.drop_of_length_le (Nat.le_refl _), List.drop_of_length_le (by omega), List.take_nil]
/-- x[k:] of a list or a tuple with items -/
def rSlY (K : PySem.W.Frag) : V → Option Int → Option Int → Hp → VK → Prop := fun x lo hi H Q => ∃ (a : Addr) (xs : List V) (k : Nat), x = .ref a ∧ SqX K H a xs ∧ lo = some (k : Int) ∧ hi = none ∧ 1 ≤ k ∧ 1 ≤ xs.length ∧ ∀ p o, H p = none → (o = HO.lst (xs.drop k) ∨ o = .tup (xs.drop k)) → Q (.ref p) (upd H p o)
theorem sl_Y {X : Cx} (hK : X.K = K) : SlR X (rSlY K) := by
  rw [← hK]
  intro pins s σ H x v vl vu lo hi sl Q I rx hs pl pu h
  obtain ⟨a, xs, k, hx, sq | sq, rfl, rfl, h1, h2, q⟩ := h
  · exact sl_list pins s σ H x v vl vu _ _ sl Q I rx hs pl pu ⟨a, xs, hx, sq, fun p hp => by rw [cutFrom]; exact q p _ hp (.inl rfl)⟩
  · exact sl_tup pins s σ H x v vl vu _ _ sl Q I rx hs pl pu ⟨a, xs, hx, sq, fun z => absurd z.1 (by rw [HT.sIx_nat]; omega), fun p hp => by rw [cutFrom]; exact q p _ hp (.inr rfl)⟩
theorem sq_oneOf {H0 H : Hp} {S : List Addr} {l : Led} {p : Addr} {o : HO} {xs : List V} (s : Stt H0 S l H) (m : (p, Is o) ∈ l) (h : o = .lst xs ∨ o = .tup xs) : SqX K H p xs := by
  rcases h with rfl | rfl
  · exact .inl (s.sqL m)
  · exact .inr (s.sqT m)
theorem val3 {n : Str} {v1 v2 v3 : V} : valV [((.inr "either" : L2.Key), v1), (.inr "ever", v2), (.inr "within", v3)] (.inr n) = if n = "either" then some v1 else if n = "ever" then some v2 else if n = "within" then some v3 else none := by
  unfold valV
  by_cases h1 : n = "either"
  · subst h1
    simp
  · by_cases h2 : n = "ever"
    · subst h2
      simp [List.find?_cons, Ne.symm h1, h1]
    · by_cases h3 : n = "within"
      · subst h3
        simp [List.find?_cons, Ne.symm h1, Ne.symm h2, h1, h2]
      · simp [List.find?_cons, Ne.symm h1, Ne.symm h2, Ne.symm h3, h1, h2, h3]
theorem merge3 {v1 v2 v3 : V} : mergeK [] [((.inr "either" : L2.Key), v1), (.inr "ever", v2), (.inr "within", v3)] = [(.inr "either", v1), (.inr "ever", v2), (.inr "within", v3)] := by
  have h1 : ¬ ("either" : Str) = "ever" := by decide +kernel
  have h2 : ¬ ("either" : Str) = "within" := by decide +kernel
  have h3 : ¬ ("ever" : Str) = "within" := by decide +kernel
  simp [mergeK, putK, h1, h2, h3]
def spInner (K : PySem.W.Frag) : Sp := fun vs H Q _ => ∃ (a : Addr) (n : Str) (as us : List V) (os ps : List Ob), vs = [.ref a] ∧ SqX K H a (.str n :: (as ++ us)) ∧ ShO n os ps ∧ os.length = as.length ∧ ps.length = us.length ∧ ∀ p H', H p = none → Stt H [] [(p, Is (.lst us))] H' → Q (.ref p) H'
theorem ok_l_inner (T : Txt K mg) : FnOk P w K mg base CX0 1 (He.fAd K ("_law_inner", none)) T.fd_l_inner ["_law_row_here"] (spInner K) := by
  refine T.F_l_inner.ok sc_l_inner (fun vs H Q E h => ?_) (fun cdv A outer s H vs Q E hr h => ?_)
  · obtain ⟨a, n, as, us, os, ps, rfl, _⟩ := h
    rfl
  · obtain ⟨a, n, as, us, os, ps, rfl, ha, hs, hz1, hz2, k⟩ := h
    refine ⟨_, PSs.nox (pss_one (ps_ret (pe_dget2 (Nat.lt_of_le_of_lt (Nat.add_le_add_left (by decide : 1 ≤ 64) _) hr.units) (pe_disp (pps_cons pe_str (pe_callTy call_listX (by rfl) T.n_list (by decide +kernel) (pa_cons (pe_slice (sl_Y (K := K) rfl) (pv 0) (po_some pe_int) po_none) pa_nil)) (pps_cons pe_str (pe_callTy call_listX (by rfl) T.n_list (by decide +kernel) (pa_cons (pe_slice (sl_Y (K := K) rfl) (pv 0) (po_some pe_int) po_none) pa_nil)) (pps_cons pe_str (pe_callTy call_listX (by rfl) T.n_list (by decide +kernel) (pa_cons (pe_slice (sl_Y (K := K) rfl) (pv 0) (po_some pe_int) po_none) pa_nil)) pps_nil))) rfl rfl (by simp) (by decide)) (pe_ix (ix_K7 (K := K) (r := fun K1 => rIxX K1) rfl ix_sqX) (pv 0) pe_int (fun _ _ => rfl)) (pe_lst pa_nil) ⟨rfl, rfl, rfl, rfl⟩))), ?_⟩
    wtm_at "k"
    have kt : ∀ {l : Led} {H' : Hp}, Stt H [] l H' → SqX K H' a (.str n :: (as ++ us)) := fun s => ha.kp0 s.keep
    intro p hp
    have s0 := (Stt.nil (H := H) (S := [])).new hp (.dK [])
    generalize upd H p (.dK []) = H1 at s0
    rw [tPairs]
    wtm_at "rd"
    refine ⟨a, _, 1, rfl, kt s0, rfl, rfl, by decide, by simp, fun q1 oq1 hq1 hoq1 => ?_⟩
    have t1 := s0.new hq1 oq1
    clear s0
    wtm_at "rd"
    refine Rd.lstX t1 (sq_oneOf t1 List.mem_cons_self hoq1) fun l1 H3 hl1 s1 => ?_
    clear t1
    rw [tPairs]
    wtm_at "rd"
    refine ⟨a, _, 1, rfl, kt s1, rfl, rfl, by decide, by simp, fun q2 oq2 hq2 hoq2 => ?_⟩
    have t2 := s1.new hq2 oq2
    clear s1
    wtm_at "rd"
    refine Rd.lstX t2 (sq_oneOf t2 List.mem_cons_self hoq2) fun l2 H4 hl2 s2 => ?_
    clear t2
    rw [tPairs]
    wtm_at "rd"
    refine ⟨a, _, 2, rfl, kt s2, rfl, rfl, by decide, by simp, fun q3 oq3 hq3 hoq3 => ?_⟩
    have t3 := s2.new hq3 oq3
    clear s2
    wtm_at "rd"
    refine Rd.lstX t3 (sq_oneOf t3 List.mem_cons_self hoq3) fun l3 H5 hl3 s3 => ?_
    clear t3
    rw [tPairs]
    refine ⟨s3.get (by wtm_at "mem"), [(.inr "either", .ref l1), (.inr "ever", .ref l2), (.inr "within", .ref l3)], rfl, by simp, ?_⟩
    rw [merge3]
    have s4 := s3.set (a := p) (o := .dK [(.inr "either", .ref l1), (.inr "ever", .ref l2), (.inr "within", .ref l3)]) (by wtm_at "put") (.inr hp)
    generalize upd H5 p (HO.dK [(.inr "either", .ref l1), (.inr "ever", .ref l2), (.inr "within", .ref l3)]) = H6 at s4
    clear s3
    have ep := s4.get (a := p) (by wtm_at "mem")
    refine ⟨p, rfl, Or.inl ⟨_, Or.inl ep⟩, ?_⟩
    wtm_at "rd"
    refine ⟨a, _, 0, .str n, rfl, rfl, kt s4, atI_nat (j := 0) rfl, ?_⟩
    wtm_at "rd"
    rename_i l4 H7 hl4 s5
    clear s4 ep
    have e5 := s5.get (a := p) (by wtm_at "mem")
    refine ⟨_, DGet.k (k := .inr n) e5, ?_⟩
    rw [val3]
    by_cases n1 : n = "either"
    · have ha0 : as = [] := List.length_eq_zero_iff.mp (by rw [← hz1]; cases hs <;> first | rfl | exact absurd n1 (by decide +kernel))
      subst ha0
      rw [if_pos n1]
      simp only [List.nil_append, List.drop_succ_cons, List.drop_zero] at s5
      exact k l1 H7 hl1 (s5.sub (by wtm_at "subl"))
    · rw [if_neg n1]
      by_cases n2 : n = "ever"
      · have ha0 : as = [] := List.length_eq_zero_iff.mp (by rw [← hz1]; cases hs <;> first | rfl | exact absurd n2 (by decide +kernel))
        subst ha0
        rw [if_pos n2]
        simp only [List.nil_append, List.drop_succ_cons, List.drop_zero] at s5
        exact k l2 H7 hl2 (s5.sub (by wtm_at "subl"))
      · rw [if_neg n2]
        by_cases n3 : n = "within"
        · obtain ⟨x, rfl⟩ := len1 (show as.length = 1 by rw [← hz1]; cases hs <;> first | rfl | exact absurd n3 (by decide +kernel))
          rw [if_pos n3]
          simp only [List.cons_append, List.nil_append, List.drop_succ_cons, List.drop_zero] at s5
          exact k l3 H7 hl3 (s5.sub (by wtm_at "subl"))
        · rw [if_neg n3]
          have hu : us = [] := List.length_eq_zero_iff.mp (by rw [← hz2]; cases hs <;> first | rfl | exact absurd rfl n1 | exact absurd rfl n2 | exact absurd rfl n3)
          subst hu
          exact k l4 H7 hl4 (s5.sub (by wtm_at "subl"))
end

section
variable {P : Program} {w : World} {K : PySem.W.Frag} {mg : Str → Option Value} {base : Heap}
/-! ### errors -/
theorem ok_BadTask_init (T : Txt K mg) : FnOk P w K mg base CX0 1 (He.fAd K ("BadTask", some "__init__")) T.fd_BadTask_init ["self", "index"] (spExI (He.ga K "BadTask") "index") := by
  refine T.F_BadTask_init.ok sc_BadTask_init (fun vs H Q E h => ?_) (fun cdv A outer s H vs Q E hr h => ?_)
  · obtain ⟨a, v, rfl, _⟩ := h
    rfl
  · obtain ⟨a, v, rfl, ha, k⟩ := h
    refine ⟨_, PSs.nox (pss_one (ps_ost (pv 0) (pv 1))), ?_⟩
    exact ⟨_, rfl, _, rfl, a, _, rfl, T.x_BadTask.oex, T.a_BadTask_index, .inl ⟨ha, fun d hd hn => k d hd hn⟩⟩
theorem ok_BadCounter_init (T : Txt K mg) : FnOk P w K mg base CX0 1 (He.fAd K ("BadCounter", some "__init__")) T.fd_BadCounter_init ["self", "index"] (spExI (He.ga K "BadCounter") "index") := by
  refine T.F_BadCounter_init.ok sc_BadCounter_init (fun vs H Q E h => ?_) (fun cdv A outer s H vs Q E hr h => ?_)
  · obtain ⟨a, v, rfl, _⟩ := h
    rfl
  · obtain ⟨a, v, rfl, ha, k⟩ := h
    refine ⟨_, PSs.nox (pss_one (ps_ost (pv 0) (pv 1))), ?_⟩
    exact ⟨_, rfl, _, rfl, a, _, rfl, T.x_BadCounter.oex, T.a_BadCounter_index, .inl ⟨ha, fun d hd hn => k d hd hn⟩⟩
theorem ok_BadLate_init (T : Txt K mg) : FnOk P w K mg base CX0 1 (He.fAd K ("BadLate", some "__init__")) T.fd_BadLate_init ["self", "late"] (spExI (He.ga K "BadLate") "late") := by
  refine T.F_BadLate_init.ok sc_BadLate_init (fun vs H Q E h => ?_) (fun cdv A outer s H vs Q E hr h => ?_)
  · obtain ⟨a, v, rfl, _⟩ := h
    rfl
  · obtain ⟨a, v, rfl, ha, k⟩ := h
    refine ⟨_, PSs.nox (pss_one (ps_ost (pv 0) (pv 1))), ?_⟩
    exact ⟨_, rfl, _, rfl, a, _, rfl, T.x_BadLate.oex, T.a_BadLate_late, .inl ⟨ha, fun d hd hn => k d hd hn⟩⟩
def spExR (C : Addr) : Sp := fun vs H Q _ => ∃ (a : Addr) (t p r : V), vs = [.ref a, t, p, r] ∧ H a = some (exo a C none) ∧ ∀ d, H d = none → d ≠ a → Q .non (upd (upd H d (exd d [("reason", r), ("place", p), ("task", t)])) a (exo a C (some d)))
theorem ok_BadRow_init (T : Txt K mg) : FnOk P w K mg base CX0 1 (He.fAd K ("BadRow", some "__init__")) T.fd_BadRow_init ["self", "task", "place", "reason"] (spExR (He.ga K "BadRow")) := by
  refine T.F_BadRow_init.ok sc_BadRow_init (fun vs H Q E h => ?_) (fun cdv A outer s H vs Q E hr h => ?_)
  · obtain ⟨a, t, p, r, rfl, _⟩ := h
    rfl
  · obtain ⟨a, t, p, r, rfl, ha, k⟩ := h
    refine ⟨_, PSs.nox (pss_cons (ps_ost (pv 0) (pv 1)) (pss_cons (ps_ost (pv 0) (pv 2)) (pss_one (ps_ost (pv 0) (pv 3))))), ?_⟩
    refine ⟨_, rfl, _, rfl, a, _, rfl, T.x_BadRow.oex, T.a_BadRow_task, .inl ⟨ha, fun d hd hn => ?_⟩⟩
    have e1 : ∀ o, upd (upd H d o) a (exo a (He.ga K "BadRow") (some d)) d = some o := fun o => by rw [upd_ne hn, upd_same]
    have e2 : ∀ o o' : HO, upd (upd (upd H d o) a (exo a (He.ga K "BadRow") (some d))) d o' = upd (upd H d o') a (exo a (He.ga K "BadRow") (some d)) := fun o o' => by
      funext b
      by_cases hb : b = d
      · subst hb
        rw [upd_same, upd_ne hn, upd_same]
      · rw [upd_ne hb]
        by_cases hc : b = a
        · subst hc
          rw [upd_same, upd_same]
        · rw [upd_ne hc, upd_ne hc, upd_ne hb, upd_ne hb]
    refine ⟨_, rfl, _, rfl, a, _, rfl, T.x_BadRow.oex, T.a_BadRow_place, .inr ⟨d, _, upd_same, e1 _, by simp, ?_⟩⟩
    rw [e2]
    refine ⟨_, rfl, _, rfl, a, _, rfl, T.x_BadRow.oex, T.a_BadRow_reason, .inr ⟨d, _, upd_same, e1 _, by simp, ?_⟩⟩
    rw [e2]
    exact k d hd hn
/-- what flies: class C with the attributes fs; but for S all stands -/
def XF (K : PySem.W.Frag) (C : Str) (fs : List (Str × V)) (S : List Addr) (H : Hp) : XK := fun cls d H' => cls = .ref (He.ga K C) ∧ ∃ d0, d = some d0 ∧ H' d0 = some (.xd fs) ∧ Kp S H H'
theorem XF.kp {C : Str} {fs : List (Str × V)} {S S' : List Addr} {H H1 : Hp} {cls : Value} {d : Option Addr} {H' : Hp} (k : Kp S' H H1) (hs : ∀ x ∈ S, x ∈ S' ∨ H x = none) (h : XF K C fs S H1 cls d H') : XF K C fs S' H cls d H' := by
  obtain ⟨h1, d0, h2, h3, h4⟩ := h
  exact ⟨h1, d0, h2, h3, k.trans h4 hs⟩
theorem kp_new {H : Hp} {d : Addr} {o : HO} (h : H d = none) : Kp [] H (upd H d o) := fun b u e => .inl (by rw [upd_ne (ne_of_none e h)]; exact e)
def MkO (C : Addr) (sp : Sp) (dvs vs : List V) (H1 : Hp) (Q : XK) : Prop := vs.length ≤ 1000 ∧ ∀ a, H1 a = none → sp (.ref a :: (vs ++ dvs)) (upd H1 a (exo a C none))
  (fun v H2 => v = .non ∧ ∃ (d : Addr) (fs : List (Str × V)), H2 a = some (exo a C (some d)) ∧ H2 d = some (exd d fs) ∧ H1 d = none ∧ Q (.ref C) (some d) (upd (del H2 a) d (.xd fs))) (fun _ _ _ => False)
theorem mkO {C : Addr} {sp : Sp} {dvs : List V} {ta : TA} {σ : L2.St} {H : Hp} {Q : XK} (h : ta σ H fun vs H1 => MkO C sp dvs vs H1 Q) : tMkO C sp dvs ta σ H Q := h
theorem del_eq {H : Hp} {a d : Addr} {o o1 o2 o3 : HO} (ha : H a = none) (hda : d ≠ a) : upd (del (upd (upd (upd H a o1) d o2) a o3) a) d o = upd H d o := by
  funext b
  by_cases h1 : b = d
  · subst h1
    rw [upd_same, upd_same]
  · rw [upd_ne h1, upd_ne h1]
    by_cases h2 : b = a
    · subst h2
      rw [del_same, ha]
    · rw [del_ne h2, upd_ne h2, upd_ne h1, upd_ne h2]
theorem mkR {t p r : V} {H : Hp} {W : XK} (k : ∀ cls d H', XF K "BadRow" [("reason", r), ("place", p), ("task", t)] [] H cls d H' → W cls d H') : MkO (He.ga K "BadRow") (spExR (He.ga K "BadRow")) [] [t, p, r] H W := by
  refine ⟨by simp, fun a ha => ⟨a, t, p, r, rfl, upd_same, fun d hd hda => ⟨rfl, d, [("reason", r), ("place", p), ("task", t)], upd_same, ?_, ?_, ?_⟩⟩⟩
  · rw [upd_ne hda, upd_same]
  · rw [upd_ne hda] at hd
    exact hd
  · rw [del_eq ha hda]
    rw [upd_ne hda] at hd
    exact k _ _ _ ⟨rfl, d, rfl, upd_same, kp_new hd⟩
theorem mkL {C f : Str} {v : V} {H : Hp} {W : XK} (k : ∀ cls d H', XF K C [(f, v)] [] H cls d H' → W cls d H') : MkO (He.ga K C) (spExI (He.ga K C) f) [] [v] H W := by
  refine ⟨by simp, fun a ha => ⟨a, v, rfl, upd_same, fun d hd hda => ⟨rfl, d, [(f, v)], upd_same, ?_, ?_, ?_⟩⟩⟩
  · rw [upd_ne hda, upd_same]
  · rw [upd_ne hda] at hd
    exact hd
  · rw [del_eq ha hda]
    rw [upd_ne hda] at hd
    exact k _ _ _ ⟨rfl, d, rfl, upd_same, kp_new hd⟩
theorem fnok_cx {CX : CXT} {k : Nat} {f : Addr} {fd : FuncData} {ps : List Str} {sp : Sp} (F : FnOk P w K mg base CX0 k f fd ps sp) : FnOk P w K mg base CX k f fd ps sp :=
  ⟨F.len, fun A outer s H args us vs Q E hr he hb hv hs => codeAny_mono (F.run A outer s H args us vs Q E hr he hb hv hs) fun r s' z => by
    cases r with
    | error e => exact False.elim z
    | ok fl =>
      cases fl with
      | ret u => exact z
      | next => exact z
      | brk => exact z
      | cont => exact z⟩
/-! ### RowCheck -/
structure RcAt (K : PySem.W.Frag) (H : Hp) (o : Addr) (nm cn : V) (p : Nat) : Prop where
  ex : ∃ dx fs, H o = some (.ins (He.ga K "RowCheck") dx fs) ∧ fs.lookup ("name" : Str) = some nm ∧ fs.lookup ("counter_names" : Str) = some cn ∧ fs.lookup ("place" : Str) = some (V.int (p : Nat)) ∧ fs.length ≤ 100 ∧ fs.lookup ("check" : Str) = none ∧ fs.lookup ("_fault" : Str) = none
theorem RcAt.kp {H H' : Hp} {o : Addr} {nm cn : V} {p : Nat} (k : Kp [] H H') (h : RcAt K H o nm cn p) : RcAt K H' o nm cn p := by
  obtain ⟨dx, fs, h0, h⟩ := h.ex
  exact ⟨dx, fs, k.get List.not_mem_nil h0, h⟩
def spRcI (K : PySem.W.Frag) : Sp := fun vs H Q _ => ∃ (o dx : Addr) (nm cn : V), vs = [.ref o, nm, cn] ∧ H o = some (.ins (He.ga K "RowCheck") dx []) ∧ ∀ H', Kp [o] H H' → RcAt K H' o nm cn 0 → Q .non H'
theorem ok_RowCheck_init (T : Txt K mg) : FnOk P w K mg base CX0 1 (He.fAd K ("RowCheck", some "__init__")) T.fd_RowCheck_init ["self", "name", "counter_names"] (spRcI K) := by
  refine T.F_RowCheck_init.ok sc_RowCheck_init (fun vs H Q E h => ?_) (fun cdv A outer s H vs Q E hr h => ?_)
  · obtain ⟨o, dx, nm, cn, rfl, _⟩ := h
    rfl
  · obtain ⟨o, dx, nm, cn, rfl, h0, k⟩ := h
    refine ⟨_, PSs.nox (pss_cons (ps_fld (pv 0) (pv 1) rfl)
  (pss_cons (ps_fld (pv 0) (pv 2) rfl)
  (pss_one (ps_fld (pv 0) pe_int rfl)))), ?_⟩
    wtm_at "k"
    have s0 : Stt H [o] [(o, Is (.ins (He.ga K "RowCheck") dx []))] H := ⟨.refl H, by simp, fun e m => by rw [List.mem_singleton.mp m]; exact ⟨_, h0, rfl⟩⟩
    have c1 := T.c_RowCheck
    have c2 := T.a_RowCheck_name
    have c3 := T.a_RowCheck_counter_names
    have c4 := T.a_RowCheck_place
    wtm_at "rd"
    rename_i H3 s3
    refine k _ s3.keep ⟨dx, _, s3.get (by wtm_at "mem"), ?_, ?_, ?_, ?_, ?_, ?_⟩
    · exact lk_ne (by decide +kernel) (lk_ne (by decide +kernel) lk_same)
    · exact lk_ne (by decide +kernel) lk_same
    · exact lk_same
    · exact Nat.le_trans (putF_len _ _ _) (Nat.succ_le_succ (Nat.le_trans (putF_len _ _ _) (Nat.succ_le_succ (Nat.le_trans (putF_len _ _ _) (by decide)))))
    · exact lk_ne (by decide +kernel) (lk_ne (by decide +kernel) (lk_ne (by decide +kernel) rfl))
    · exact lk_ne (by decide +kernel) (lk_ne (by decide +kernel) (lk_ne (by decide +kernel) rfl))
end

section
/-! ### any object not in a list of texts -/
variable {X : Cx}
def rNotOb : R2 := fun x y H Q => ∃ o p zs, ObA H x o ∧ y = .ref p ∧ H p = some (.lst ((zs : List Str).map V.str)) ∧ Q (.bl (!o.mem zs)) H
theorem inV_no {x : V} (h : ∀ z, eqV (.str z) x = false) : ∀ zs : List Str, inV x (zs.map V.str) = false
  | [] => by simp [inV]
  | z :: r => by
    have ih := inV_no h r
    unfold inV at ih ⊢
    rw [List.map_cons, List.any_cons, ih, h z]; rfl
theorem op_notInOb (hu : X.A.units + 1 < cLine) : OpR X (compareOp .NotIn) rNotOb := by
  intro pins s σ H x y v u Q I rx ry h
  obtain ⟨o, p, zs, ho, rfl, hp, q⟩ := h
  have flat : ∀ {v : Value}, RelV x v → flatV x = true → inV x (zs.map V.str) = o.mem zs → _ := fun {v} rx hf he => op_notIn_seq pins s σ H x (.ref p) v u Q I rx ry ⟨p, _, rfl, .inl (SqL.of hp), hf, flat_strs, by rw [he]; exact q⟩
  have far : ∀ {a : Addr} {vs : List V}, x = .ref a → o.mem zs = false → (∀ (z : Str) (t : Tok), SeqAt.EqAt X.A.in1 s (.str z t) v false) → wpAny (model X.prog X.w) X.A (compareOp .NotIn v u) (EP X pins σ Q) X.xe s := fun {a vs} e hm hq => by
    subst e
    cases (show u = Value.ref p from ry)
    obtain ⟨its, rv, pl, hz⟩ := I.list (SqL.of hp)
    refine SeqAt.notIn_listAt (fun _ => false) pl.isList (fun y hy => ?_) ⟨.bl true, H, I, (show Value.bool (!(its.toArray.any fun _ => false)) = Value.bool true by simp), by rw [hm] at q; exact q⟩
    obtain ⟨i, hi⟩ := List.getElem?_of_mem (by simpa using hy : y ∈ its)
    obtain ⟨z, t, _, rfl⟩ := strs_vals rv hi
    exact hq z t
  cases ho with
  | non => exact flat rx rfl (inV_no (fun z => rfl) zs)
  | bl b => exact flat rx rfl (inV_no (fun z => rfl) zs)
  | num i => exact flat rx rfl (inV_no (fun z => rfl) zs)
  | str z hz => exact flat rx rfl inV_str
  | dct h =>
    rename_i a
    cases (show v = Value.ref a from rx)
    obtain ⟨dd, sl, es, n, ho⟩ := dct_at I h
    exact far (vs := []) rfl rfl fun z t => eq_str_dict ho hu
  | sq h hz r =>
    rename_i a vs xs
    cases (show v = Value.ref a from rx)
    refine far (vs := []) rfl rfl fun z t => ?_
    rcases h with ha | ha
    · obtain ⟨its2, _, pl2, _⟩ := I.list (SqL.of ha)
      exact SeqAt.EqAt.str_list z t pl2.isList hu
    · obtain ⟨its2, _, pl2, _⟩ := I.tuple (SqT.of ha)
      exact SeqAt.EqAt.str_tuple z t pl2 hu
theorem room1o {k : Nat} {A : Around} (r : Room k A) : A.units + 1 < cLine := by have := r.un; omega
end
section
variable {P : Program} {w : World} {K : PySem.W.Frag} {mg : Str → Option Value} {base : Heap}
/-! ### what is wrong with any object as a row -/
def rIsNo : R2 := fun x y H Q => y = .non ∧ Q (.bl (decide (x = .non))) H
def rNotNo : R2 := fun x y H Q => y = .non ∧ Q (.bl (!decide (x = .non))) H
theorem op_isNo {X : Cx} : OpR X (compareOp .Is) rIsNo := op_isN
theorem op_notNo {X : Cx} : OpR X (compareOp .IsNot) rNotNo := op_notN
theorem isNo {x : V} {H : Hp} {Q : VK} (h : Q (.bl (decide (x = .non))) H) : rIsNo x .non H Q := ⟨rfl, h⟩
theorem notNo {x : V} {H : Hp} {Q : VK} (h : Q (.bl (!decide (x = .non))) H) : rNotNo x .non H Q := ⟨rfl, h⟩
theorem methX {C : Addr} {m : Str} {sp : Sp} {dvs : List V} {E : XK} {t : TA} {σ : L2.St} {H : Hp} {Q : VK} {a dx : Addr} {fs : List (Str × V)} (h0 : H a = some (.ins C dx fs)) (e : fs.lookup m = none) (h : t σ H fun vs H2 => sp (.ref a :: (vs ++ dvs)) H2 Q E) : Rd.MethL C m sp dvs E t σ (.ref a) H Q := ⟨a, dx, fs, rfl, h0, e, h⟩
theorem kp_nil {S : List Addr} {H H' : Hp} (k : Kp [] H H') : Kp S H H' := k.mono fun _ h => nomatch h
theorem kpT {S : List Addr} {H H1 H2 : Hp} (a : Kp S H H1) (b : Kp S H1 H2) : Kp S H H2 := a.trans b fun _ h => .inl h
theorem RcAt.ne {H : Hp} {o b : Addr} {nm c : V} {p : Nat} {xs : List V} (h : RcAt K H o nm c p) (e : H b = some (.lst xs) ∨ H b = some (.tup xs)) : b ∉ [o] := fun m => by
  obtain ⟨dx, fs, h0, _⟩ := h.ex
  rw [List.mem_singleton.mp m, h0] at e
  rcases e with e | e <;> cases e
theorem RcAt.ks {H H' : Hp} {o : Addr} {nm c : V} {p : Nat} (h : RcAt K H o nm c p) (k : Kp [o] H H') : Ks H H' := by
  obtain ⟨dx, fs, h0, _⟩ := h.ex
  exact Ks.of1 k h0
theorem RcAt.put {H : Hp} {o dx : Addr} {fs : List (Str × V)} {nm cn : V} {p q : Nat} (h1 : fs.lookup ("name" : Str) = some nm) (h2 : fs.lookup ("counter_names" : Str) = some cn) (h4 : fs.length ≤ 100) (h5 : fs.lookup ("check" : Str) = none) (h6 : fs.lookup ("_fault" : Str) = none) (hp : fs.lookup ("place" : Str) = some (V.int (p : Nat))) : RcAt K (upd H o (.ins (He.ga K "RowCheck") dx (putF "place" (.int (q : Nat)) fs))) o nm cn q :=
  ⟨dx, _, upd_same, lk_ne (by decide +kernel) h1, lk_ne (by decide +kernel) h2, lk_same, by rw [putF_there hp]; exact h4, lk_ne (by decide +kernel) h5, lk_ne (by decide +kernel) h6⟩
where
  putF_there {f : Str} {v v0 : V} : ∀ {fs : List (Str × V)}, fs.lookup f = some v0 → (putF f v fs).length = fs.length
    | [], h => by cases h
    | (g, u) :: r, h => by
      unfold putF
      split
      · rfl
      · rename_i hg
        rw [List.length_cons, List.length_cons]
        rw [List.lookup_cons, beq_eq_false_iff_ne.mpr (fun q => hg q.symm)] at h
        exact congrArg Nat.succ (putF_there h)
theorem kp_upd1 {H : Hp} {o : Addr} {u : HO} (h : ∃ v, H o = some v) : Kp [o] H (upd H o u) := fun b v e => by
  by_cases hb : b = o
  · subst hb
    exact .inr ⟨List.mem_singleton_self _, u, upd_same⟩
  · exact .inl (by rw [upd_ne hb]; exact e)
def optV : Option Str → V
  | none => .non
  | some z => .str z
def spFaultO (K : PySem.W.Frag) : Sp := fun vs H Q _ => ∃ (o cn : Addr) (nm : V) (p : Nat) (cs : List Str) (v : V) (ob : Ob), vs = [.ref o, v] ∧ RcAt K H o nm (.ref cn) p ∧ H cn = some (.lst (cs.map V.str)) ∧ ObA H v ob ∧
  ∀ H', Kp [] H H' → Q (optV (faultO cs p ob)) H'
theorem view_all {H : Hp} {us : List V} {ps : List Ob} (h : ObAll H us ps) {i : Nat} {x : V} (e : us[i]? = some x) : ∃ o, ps[i]? = some o ∧ ObA H x o := h.at_ e
theorem ok_RowCheck_faultO (T : Txt K mg) (D : TxtD K w) : FnOk P w K mg base CX0 4 (He.fAd K ("RowCheck", some "_fault")) T.fd_RowCheck_fault ["self", "row"] (spFaultO K) := by
  refine T.F_RowCheck_fault.ok sc_RowCheck_fault (fun vs H Q E h => ?_) (fun cdv A outer s H vs Q E hr h => ?_)
  · obtain ⟨o, cn, nm, p, cs, v, ob, rfl, _⟩ := h
    rfl
  · obtain ⟨o, cn, nm, p, cs, v, ob, rfl, hR, hcn, ho, k⟩ := h
    refine ⟨_, PSs.nox (pss_cons (ps_if (pt_cmpR op_eq (pe_fld (pv 0) rfl) (Lt.pe_globI rfl T.g_MOST_ROWS) (nomark _)) (pss_one (ps_ret pe_str))
   pss_nil)
  (pss_cons (ps_if (pt_not (pt_val (pe_call (ok_is_rowO T D) (hr.mono (by decide)) rfl T.g_is_row T.F_is_row.kp T.b_is_row .nil pass0 (pa_cons (pv 1) pa_nil)))) (pss_one (ps_ret pe_str))
   pss_nil)
  (pss_cons (ps_if (pt_not (pt_val (pe_call (ok_has_good_numbersO T) (hr.mono (by decide)) rfl T.g_has_good_numbers T.F_has_good_numbers.kp T.b_has_good_numbers .nil pass0 (pa_cons (pv 1) pa_nil)))) (pss_one (ps_ret pe_str))
   pss_nil)
  (C8.pss_cut (ps_if (PW.pt (pw_and (pt_cmpR op_eq (pe_ix ix_sqX (pv 1) pe_int (fun _ _ => rfl)) pe_str (nomark _)) (pw_and1 (pt_not (pt_val (pe_call (ok_is_wordO T) (hr.mono (by decide)) rfl T.g_is_word T.F_is_word.kp T.b_is_word .nil pass0 (pa_cons (pe_ix ix_sqX (pv 1) pe_int (fun _ _ => rfl)) pa_nil))))))) (pss_one (ps_ret pe_str))
   pss_nil)
  (C8.pss_cut (ps_if (PW.pt (pw_and (pt_cmpR op_in_seq (pe_ix ix_sqX (pv 1) pe_int (fun _ _ => rfl)) (pe_tup (pa_cons pe_str (pa_cons pe_str pa_nil))) (by rfl)) (pw_and1 (pt_cmpR (op_notInOb (room1o hr)) (pe_ix ix_sqX (pv 1) pe_int (fun _ _ => rfl)) (pe_fld (pv 0) rfl) (by rfl))))) (pss_one (ps_ret pe_str))
   pss_nil)
  (pss_cons (ps_if (pt_not (pt_val (pe_callB (cr_all rfl) (by rfl) T.n_all (by decide +kernel) (pa_cons (pe_lc (own := [("rows", 2)]) (g := gName 2) (tt := tYes) (by rfl) sc_RowCheck_fault.nd (pi_seq (pe_call (ok_lists_of T D) (hr.mono (by decide)) rfl T.g_lists_of T.F_lists_of.kp T.b_lists_of .nil pass0 (pa_cons (pv 1) pa_nil))) (blkOk_by (own := [("rows", 2)]) (N := ["self", "row", "rows"]) (sc := defScope s_RowCheck_fault) (by decide +kernel)) (fun _ _ _ _ _ => (pg_name (i := 2) sc_RowCheck_fault.nd rfl (by first | exact Or.inl rfl | exact Or.inr rfl))) (fun _ _ _ _ _ => pts_nil) (fun _ _ _ _ _ => (pe_call (ok_is_listO T) (hr.mono (by decide)) rfl T.g_is_list T.F_is_list.kp T.b_is_list .nil pass0 (pa_cons (pv 2) pa_nil)))) pa_nil)))) (pss_one (ps_ret pe_str))
   pss_nil)
  (pss_one (ps_ret pe_non)))))))), ?_⟩
    wtm_at "k"
    obtain ⟨dx, fs, f0, f1, f2, f3, f4, f5, f6⟩ := hR.ex
    have c1 := T.c_RowCheck
    have c2 := T.a_RowCheck_name
    have c3 := T.a_RowCheck_counter_names
    have c4 := T.a_RowCheck_place
    have s0 : Stt H [] [] H := Stt.nil
    wtm_at "rd"
    refine Rd.brD (fun e => ?_) (fun e => ?_)
    · have e1 : p = 12 := by have := V.int.inj e; omega
      rw [faultO, if_pos e1] at k
      wtm_at "rd"
      exact k _ (Kp.refl _)
    have e1 : p ≠ 12 := fun q => e (by rw [q]; rfl)
    rw [faultO, if_neg e1] at k
    wtm_at "rd"
    refine ⟨v, ob, rfl, ho, fun H1 k1 => ?_⟩
    have s1 := s0.after0 k1
    cases ev : ob.view with
    | none =>
      rw [ev] at k
      rw [Option.isSome_none]
      wtm_at "rd"
      exact k _ k1
    | some vw =>
      obtain ⟨n, as, ps⟩ := vw
      rw [ev] at k
      rw [Option.isSome_some]
      wtm_at "rd"
      refine ⟨v, ob, n, as, ps, rfl, ho.kp k1, ev, fun H2 k2 => ?_⟩
      have s2 := s1.after0 k2
      have k20 := s2.keep
      clear s1 s0
      cases e3 : numO n as with
      | false =>
        simp only [e3, if_pos] at k
        wtm_at "rd"
        exact k _ k20
      | true =>
        obtain ⟨a, ws, us, rfl, hq, hw, hu, hs⟩ := view_at (K := K) ho ev
        have a0 : atI (V.str n :: (ws ++ us)) 0 = some (.str n) := atI_nat (j := 0) rfl
        have e4 : ¬ (numO n as = false) := by rw [e3]; exact fun q => nomatch q
        simp only [if_neg e4] at k
        have kW : n = "say" → (argO as).word = false → ∀ H', Kp [] H H' → Q (.str "word") H' := fun x y H' k' => by
          have z := k H' k'
          rw [if_pos ⟨x, y⟩] at z
          exact z
        have kC : ¬ (n = "say" ∧ (argO as).word = false) → (n = "take" ∨ n = "give") → (argO as).mem cs = false → ∀ H', Kp [] H H' → Q (.str "counter") H' := fun c x y H' k' => by
          have z := k H' k'
          rw [if_neg c, if_pos ⟨x, y⟩] at z
          exact z
        have kR : ¬ (n = "say" ∧ (argO as).word = false) → ¬ ((n = "take" ∨ n = "give") ∧ (argO as).mem cs = false) → ∀ b, ps.all Ob.isSq = b → ∀ H', Kp [] H H' → Q (if b = false then .str "rows" else .non) H' := fun c d b e H' k' => by
          have z := k H' k'
          rw [if_neg c, if_neg d, e] at z
          cases b <;> exact z
        clear k
        wtm_at "rd"
        refine Rd.cut (fun σ' H' => σ' = L2.start ["self", "row", "rows"] [.ref o, .ref a] ∧ Kp [] H H' ∧ ¬ (n = "say" ∧ (argO as).word = false)) ?_ ?_
        · wtm_at "rd"
          have hq2 := hq.kp0 k20
          refine Rd.brD (fun e1 => ?_) (fun e1 => ?_)
          · have en := str_inj.mp e1
            obtain ⟨x, rfl⟩ := hs.say_ en
            cases hw with
            | cons hx t =>
              cases t
              rename_i vx
              have a1 : atI (V.str n :: ([vx] ++ us)) 1 = some vx := atI_nat (j := 1) rfl
              wtm_at "rd"
              refine wordO_ask s2 (hx.kp k20) fun H3 k3 s3 => ?_
              cases ew : x.word with
              | false =>
                wtm_at "rd"
                exact kW en ew _ s3.keep
              | true =>
                wtm_at "rd"
                exact ⟨rfl, s3.keep, fun q => by rw [show argO [x] = x from rfl, ew] at q; exact nomatch q.2⟩
          · wtm_at "rd"
            exact ⟨rfl, s2.keep, fun q => e1 (by rw [q.1])⟩
        · rintro σ' H3 ⟨rfl, k3, hc⟩
          have s3 : Stt H [] [] H3 := ⟨k3, List.nodup_nil, fun _ h => nomatch h⟩
          clear s2
          refine Rd.cut (fun σ' H' => σ' = L2.start ["self", "row", "rows"] [.ref o, .ref a] ∧ Kp [] H H' ∧ ¬ ((n = "take" ∨ n = "give") ∧ (argO as).mem cs = false)) ?_ ?_
          · wtm_at "rd"
            rename_i q H4 hq4 s4
            refine inS (ys := ["take", "give"]) (.inr (s4.sqT (xs := [.str "take", .str "give"]) (by wtm_at "mem"))) ?_
            clear s3
            wtm_at "rd"
            refine Rd.br (fun e1 => ?_) (fun e1 => ?_)
            · have e2 : n ∈ (["take", "give"] : List Str) := of_decide_eq_true e1
              have e2' : n = "take" ∨ n = "give" := by simpa using e2
              obtain ⟨x, rfl⟩ := hs.tak_ e2
              cases hw with
              | cons hx t =>
                cases t
                rename_i vx
                have a1 : atI (V.str n :: ([vx] ++ us)) 1 = some vx := atI_nat (j := 1) rfl
                have hq4' := hq.kp0 s4.keep
                wtm_at "rd"
                refine ⟨x, cn, cs, hx.kp s4.keep, rfl, s4.keep.get List.not_mem_nil hcn, ?_⟩
                cases ew : x.mem cs with
                | false =>
                  rw [Bool.not_false]
                  wtm_at "rd"
                  exact kC hc e2' ew _ s4.keep
                | true =>
                  rw [Bool.not_true]
                  wtm_at "rd"
                  exact ⟨rfl, s4.keep, fun q => by rw [show argO [x] = x from rfl, ew] at q; exact nomatch q.2⟩
            · wtm_at "rd"
              exact ⟨rfl, s4.keep, fun q => of_decide_eq_false e1 (by simpa using q.1)⟩
          · rintro σ' H4 ⟨rfl, k4, hd⟩
            have s4 : Stt H [] [] H4 := ⟨k4, List.nodup_nil, fun _ h => nomatch h⟩
            clear s3
            have A := as_ok (cs := cs) hs e3 (fun q => by cases ew : (argO as).word with
              | true => rfl
              | false => exact absurd ⟨q, ew⟩ hc) (fun q => by cases ew : (argO as).mem cs with
              | true => rfl
              | false => exact absurd ⟨q, ew⟩ hd) hw
            have hsu : Shp n ws us.length := by rw [hu.len]; exact A.s
            wtm_at "rd"
            refine lof_ask s4 (hq.kp0 k4) hsu fun q H5 hq5 k5 s5 => ?_
            have sx : SqX K H5 q us := .inl (s5.sqL (by wtm_at "mem"))
            have k50 := s5.keep
            have t5 : Stt H5 [] [] H5 := Stt.nil
            wtm_at "rd"
            refine Rd.lcX sx List.not_mem_nil t5 (fun i acc ex => ex = [] ∧ acc = ((ps.take i).map Ob.isSq).map V.bl) ⟨rfl, by simp⟩ ?_ ?_
            · rintro D2 hD i x HA acc ex hi ⟨rfl, rfl⟩ hac s6 ex
              obtain ⟨y, ey, hy⟩ := hu.at_ ex
              have hus : us.length ≤ 2 := hsu.few.2
              wtm_at "rd"
              refine isLO_ask s6 (hy.kp (kpT k50 s6.keep)) fun HB kB s7 => ?_
              refine Rd.lcE s7 hD (by omega) hac ⟨rfl, ?_⟩
              rw [take_snoc ey, List.map_append, List.map_append]
              rfl
            · rintro D2 HA acc ex hD ⟨rfl, rfl⟩ s6
              rw [List.take_of_length_le (by rw [hu.len]; exact Nat.le_refl _)] at s6
              wtm_at "rd"
              refine Rd.allL s6 (by wtm_at "mem") ?_
              rw [all_map_id]
              have fin := kR hc hd _ rfl HA (kpT k50 s6.keep)
              cases eb : ps.all Ob.isSq with
              | false =>
                rw [eb] at fin
                wtm_at "rd"
                exact fin
              | true =>
                rw [eb] at fin
                wtm_at "rd"
                exact fin
theorem faultO_ask {H0 H : Hp} {S : List Addr} {l : Led} {o cn : Addr} {nm : V} {p : Nat} {cs : List Str} {v : V} {ob : Ob} {Q : VK} {E : XK} (st : Stt H0 S l H) (hR : RcAt K H o nm (.ref cn) p) (hcn : H cn = some (.lst (cs.map V.str))) (hw : ObA H v ob)
    (k : ∀ H', Kp [] H H' → Stt H0 S l H' → Q (optV (faultO cs p ob)) H') : spFaultO K (V.ref o :: ([v] ++ [])) H Q E :=
  ⟨o, cn, nm, p, cs, v, ob, rfl, hR, hcn, hw, fun H' k1 => k H' k1 (st.after0 k1)⟩
end

section
variable {P : Program} {w : World} {K : PySem.W.Frag} {mg : Str → Option Value} {base : Heap}
/-! ### tasks and counters, any objects -/
abbrev Tsk : Type := Str × List LRow
abbrev Ctr : Type := Str × Int × Int
structure TaskA (c : Cf) (H : Hp) (v : V) (t : Tsk) : Prop where
  ex : ∃ a r, v = .ref a ∧ (H a = some (.lst [.str t.1, r]) ∨ H a = some (.tup [.str t.1, r])) ∧ RsA c H r t.2
structure CtA (K : PySem.W.Frag) (H : Hp) (v : V) (c : Ctr) : Prop where
  ex : ∃ a, v = .ref a ∧ SqX K H a [.str c.1, .int c.2.1, .int c.2.2]
theorem TaskA.ks {c : Cf} {H H' : Hp} {v : V} {t : Tsk} (k : Ks H H') (h : TaskA c H v t) : TaskA c H' v t := by
  obtain ⟨a, r, h1, h2, h3⟩ := h.ex
  exact ⟨a, r, h1, h2.imp (k.l _ _) (k.t _ _), h3.ks k⟩
theorem CtA.kp {H H' : Hp} {v : V} {t : Ctr} (k : Kp [] H H') (h : CtA K H v t) : CtA K H' v t := by
  obtain ⟨a, h1, h2⟩ := h.ex
  exact ⟨a, h1, h2.kp0 k⟩
def CtrOk (c : Ctr) : Prop := WordB c.1 = true ∧ (1 ≤ c.2.2 ∧ c.2.2 ≤ 9) ∧ 0 ≤ c.2.1 ∧ c.2.1 ≤ c.2.2
theorem nodup_at {α β : Type} {f : α → β} : ∀ {xs : List α} {i : Nat} {x : α}, (xs.map f).Nodup → xs[i]? = some x → f x ∉ (xs.take i).map f
  | [], i, x, _, e => by simp at e
  | y :: r, 0, x, _, _ => by simp
  | y :: r, i + 1, x, h, e => by
    rw [List.getElem?_cons_succ] at e
    rw [List.map_cons, List.nodup_cons] at h
    rw [List.take_succ_cons, List.map_cons, List.mem_cons, not_or]
    exact ⟨fun q => h.1 (by rw [← q]; exact List.mem_map.mpr ⟨x, List.mem_of_getElem? e, rfl⟩), nodup_at h.2 e⟩
/-- the first item, a text -/
def obKey : Ob → Str
  | .sq (.str n :: _) => n
  | _ => ""
def taskO (seen : List Str) : Ob → Bool
  | .sq [n, r] => n.word && (!n.mem seen && r.isSq)
  | _ => false
def startO (s : Ob) : Ob → Bool
  | .num k => s.btw 0 k
  | _ => false
def ctrO (seen : List Str) : Ob → Bool
  | .sq [n, s, r] => n.word && (!n.mem seen && (r.btw 1 9 && startO s r))
  | _ => false
/-- the first of them that is wrong -/
def firstO (most : Nat) (f : List Str → Ob → Bool) : Nat → List Str → List Ob → Option Nat
  | _, _, [] => none
  | i, seen, x :: r => if i = most ∨ f seen x = false then some i else firstO most f (i + 1) (seen ++ [obKey x]) r
def tasksO : Ob → Option Nat
  | .sq xs => if xs = [] then some 0 else firstO 3 taskO 0 [] xs
  | _ => some 0
def ctrsO : Ob → Option Nat
  | .sq xs => firstO 2 ctrO 0 [] xs
  | _ => some 0
local macro_rules | `(tactic| wtm_at "ask") => `(tactic| with_reducible refine' mkO ?_)
def spIsTaskO : Sp := fun vs H Q _ => ∃ (v : V) (o : Ob) (nl : Addr) (seen : List Str), vs = [v, .ref nl] ∧ ObA H v o ∧ H nl = some (.lst (seen.map V.str)) ∧ ∀ H', Kp [] H H' → Q (.bl (taskO seen o)) H'
theorem ok_is_taskO (T : Txt K mg) : FnOk P w K mg base CX0 2 (He.fAd K ("_is_task", none)) T.fd_is_task ["task", "names"] spIsTaskO := by
  refine T.F_is_task.ok sc_is_task (fun vs H Q E h => ?_) (fun cdv A outer s H vs Q E hr h => ?_)
  · obtain ⟨v, o, nl, seen, rfl, _⟩ := h
    rfl
  · obtain ⟨v, o, nl, seen, rfl, ho, hn, k⟩ := h
    refine ⟨_, PSs.nox (pss_cons (ps_if (PW.pt (pw_or (pt_not (pt_val (pe_call (ok_is_listO T) (hr.mono (by decide)) rfl T.g_is_list T.F_is_list.kp T.b_is_list .nil pass0 (pa_cons (pv 0) pa_nil)))) (pw_or1 (pt_cmpR op_ne (pe_callB call_lenQ (by rfl) T.n_len PySem.boot_len (pa_cons (pv 0) pa_nil)) pe_int (nomark _))))) (pss_one (ps_ret pe_bl))
   pss_nil)
  (pss_one (ps_ret (pe_and (pe_call (ok_is_wordO T) (hr.mono (by decide)) rfl T.g_is_word T.F_is_word.kp T.b_is_word .nil pass0 (pa_cons (pe_ix ix_sqX (pv 0) pe_int (fun _ _ => rfl)) pa_nil)) (pe_and (pe_cmpR op_notIn_seq (pe_ix ix_sqX (pv 0) pe_int (fun _ _ => rfl)) (pv 1) (by rfl)) (pe_one (pe_call (ok_is_listO T) (hr.mono (by decide)) rfl T.g_is_list T.F_is_list.kp T.b_is_list .nil pass0 (pa_cons (pe_ix ix_sqX (pv 0) pe_int (fun _ _ => rfl)) pa_nil)))))))), ?_⟩
    wtm_at "k"
    have s0 : Stt H [] [] H := Stt.nil
    wtm_at "rd"
    refine isLO_ask s0 ho fun H1 k1 s1 => ?_
    clear s0
    cases e : o.isSq with
    | false =>
      rw [show taskO seen o = false by cases o <;> first | rfl | cases e] at k
      wtm_at "rd"
      exact k _ k1
    | true =>
      have h1 := ho.kp k1
      cases h1 with
      | sq hh hz r =>
        rename_i a vs xs
        have hq : SqX K H1 a vs := sqX_of hh
        have hlen := r.len
        wtm_at "rd"
        refine Rd.brD (fun e2 => ?_) (fun e2 => ?_)
        · have e2' := V.int.inj e2
          obtain ⟨x, y, rfl⟩ := len2 (show xs.length = 2 by omega)
          cases r with
          | cons hx r =>
            cases r with
            | cons hy r =>
              cases r
              rename_i vx vy
              have a0 : atI [vx, vy] 0 = some vx := atI_nat (j := 0) rfl
              have a1 : atI [vx, vy] 1 = some vy := atI_nat (j := 1) rfl
              wtm_at "rd"
              refine wordO_ask s1 hx fun H2 k2 s2 => ?_
              clear s1
              have hq2 := hq.kp0 k2
              cases ew : x.word with
              | false =>
                rw [show taskO seen (.sq [x, y]) = false by rw [taskO, ew, Bool.false_and]] at k
                wtm_at "rd"
                exact k _ s2.keep
              | true =>
                obtain ⟨z, rfl, _⟩ := word_str ew
                cases hx
                wtm_at "rd"
                refine inS (.inl (SqL.of (s2.keep.get List.not_mem_nil hn))) ?_
                cases em : decide (z ∈ seen) with
                | true =>
                  rw [show taskO seen (.sq [.str z, y]) = false by rw [taskO, ew, Ob.mem, em]; rfl] at k
                  refine ⟨false, rfl, ?_⟩
                  wtm_at "rd"
                  exact k _ s2.keep
                | false =>
                  rw [show taskO seen (.sq [.str z, y]) = y.isSq by rw [taskO, ew, Ob.mem, em]; rfl] at k
                  refine ⟨true, rfl, ?_⟩
                  rw [if_pos rfl]
                  wtm_at "rd"
                  refine isLO_ask s2 (hy.kp k2) fun H3 k3 s3 => ?_
                  exact k _ s3.keep
        · rw [show taskO seen (.sq xs) = false by
            match xs, hlen with
            | [_, _], h => exact absurd (by rw [h]; rfl) e2
            | [], _ => rfl
            | [_], _ => rfl
            | _ :: _ :: _ :: _, _ => rfl] at k
          wtm_at "rd"
          exact k _ k1
      | _ => cases e
theorem take_map_snoc {α β : Type} {f : α → β} {xs : List α} {i : Nat} {x : α} (h : xs[i]? = some x) : (xs.take (i + 1)).map f = (xs.take i).map f ++ [f x] := by
  rw [take_snoc h, List.map_append]; rfl
theorem drop_at {α : Type} {xs : List α} {i : Nat} {x : α} (h : xs[i]? = some x) : xs.drop i = x :: xs.drop (i + 1) := by
  obtain ⟨l, e⟩ := List.getElem?_eq_some_iff.mp h
  rw [← e]
  exact List.drop_eq_getElem_cons l
def spCkTO (K : PySem.W.Frag) : Sp := fun vs H Q E => ∃ (v : V) (o : Ob), vs = [v] ∧ ObA H v o ∧ (tasksO o = none → ∀ H', Kp [] H H' → Q .non H') ∧ (∀ i, tasksO o = some i → ∀ cls d H', XF K "BadTask" [("index", .int (i : Nat))] [] H cls d H' → E cls d H')
theorem task_head {seen : List Str} {o : Ob} {H : Hp} {v : V} (ho : ObA H v o) (h : taskO seen o = true) : ∃ (a : Addr) (n : Str) (w2 : V) (r : Ob), v = .ref a ∧ SqX K H a [.str n, w2] ∧ ObA H w2 r ∧ o = .sq [.str n, r] ∧ WordB n = true ∧ n ∉ seen ∧ r.isSq = true := by
  unfold taskO at h
  split at h
  · rename_i n r
    rw [Bool.and_eq_true, Bool.and_eq_true] at h
    obtain ⟨z, rfl, hz⟩ := word_str h.1
    cases ho with
    | sq hh hz' q =>
      cases q with
      | cons hx q =>
        cases hx
        cases q with
        | cons hy q =>
          cases q
          refine ⟨_, z, _, r, rfl, sqX_of hh, hy, rfl, hz, fun m => ?_, h.2.2⟩
          have := h.2.1
          rw [Ob.mem, decide_eq_true m] at this
          cases this
  · cases h
theorem ok_check_tasksO (T : Txt K mg) : FnOk P w K mg base (L2.CX P w) 4 (He.fAd K ("_check_tasks", none)) T.fd_check_tasks ["tasks"] (spCkTO K) := by
  refine T.F_check_tasks.ok sc_check_tasks (fun vs H Q E h => ?_) (fun cdv A outer s H vs Q E hr h => ?_)
  · obtain ⟨v, o, rfl, _⟩ := h
    rfl
  · obtain ⟨v, o, rfl, ho, kQ, kE⟩ := h
    refine ⟨_, (pss_cons (ps_if (PW.pt (pw_or (pt_not (pt_val (pe_call (ok_is_listO T) (hr.mono (by decide)) rfl T.g_is_list T.F_is_list.kp T.b_is_list .nil pass0 (pa_cons (pv 0) pa_nil)))) (pw_or1 (pt_cmpR op_eq (pe_callB call_lenQ (by rfl) T.n_len PySem.boot_len (pa_cons (pv 0) pa_nil)) pe_int (nomark _))))) (pss_one (ps_raise rfl (takes_of rfl rfl rfl rfl) (pmk_oex T.x_BadTask.oex T.x_BadTask.iC T.x_BadTask.tI (ok_BadTask_init T) (hr.mono (by decide)) T.b_BadTask_init .nil pass0 rfl T.g_BadTask (pa_cons pe_int pa_nil))))
   pss_nil)
  (pss_cons (ps_asg (pe_lst pa_nil) (pg_name (i := 1) sc_check_tasks.nd rfl (by first | exact Or.inl rfl | exact Or.inr rfl)))
  (pss_one (ps_for (passes_of rfl) rfl (pi_enumX (by rfl) T.n_enumerate (pa_cons (pv 0) pa_nil)) (pg_seq (by rfl) (pgs_cons (pg_name (i := 2) sc_check_tasks.nd rfl (by first | exact Or.inl rfl | exact Or.inr rfl)) (pgs_cons (pg_name (i := 3) sc_check_tasks.nd rfl (by first | exact Or.inl rfl | exact Or.inr rfl)) pgs_nil)))
   (pss_cons (ps_if (PW.pt (pw_or (pt_cmpR op_eq (pv 2) (Lt.pe_globI rfl T.g_MOST_TASKS) (nomark _)) (pw_or1 (pt_not (pt_val (pe_call (ok_is_taskO T) (hr.mono (by decide)) rfl T.g_is_task T.F_is_task.kp T.b_is_task .nil pass0 (pa_cons (pv 3) (pa_cons (pv 1) pa_nil)))))))) (pss_one (ps_raise rfl (takes_of rfl rfl rfl rfl) (pmk_oex T.x_BadTask.oex T.x_BadTask.iC T.x_BadTask.tI (ok_BadTask_init T) (hr.mono (by decide)) T.b_BadTask_init .nil pass0 rfl T.g_BadTask (pa_cons (pv 2) pa_nil))))
   pss_nil)
  (pss_one (ps_expr (pe_bm PySem.F.plainAttrs_list PySem.F.slot_list_append PySem.F.type_list_append mt_append (pv 1) (pa_cons (pe_ix ix_sqX (pv 3) pe_int (fun _ _ => rfl)) pa_nil))))))))), ?_⟩
    wtm_at "k"
    have s0 : Stt H [] [] H := Stt.nil
    wtm_at "rd"
    refine isLO_ask s0 ho fun H1 k1 s1 => ?_
    clear s0
    cases e : o.isSq with
    | false =>
      rw [show tasksO o = some 0 by cases o <;> first | rfl | cases e] at kE
      wtm_at "rd"
      exact mkL fun cls d H' hf => kE 0 rfl cls d H' (hf.kp (S := []) (S' := []) k1 fun x m => nomatch m)
    | true =>
      cases ho with
      | sq hh hz r =>
        rename_i a us xs
        have hq : SqX K H a us := sqX_of hh
        have hq1 := hq.kp0 k1
        have hlen := r.len
        wtm_at "rd"
        refine Rd.brD (fun e2 => ?_) (fun e2 => ?_)
        · have e2' := V.int.inj e2
          have ex : xs = [] := List.length_eq_zero_iff.mp (by omega)
          subst ex
          wtm_at "rd"
          exact mkL fun cls d H' hf => kE 0 rfl cls d H' (hf.kp (S := []) (S' := []) k1 fun x m => nomatch m)
        · have ne : xs ≠ [] := fun q => e2 (by rw [hlen, q]; rfl)
          rw [tasksO, if_neg ne] at kQ kE
          wtm_at "rd"
          rename_i nl H2 hnl s2
          refine Rd.forEnX hq (fun i σ' H' => (∃ v2 v3 : Option V, σ' = [some (.ref a), some (.ref nl), v2, v3]) ∧ Stt H [] [(nl, Is (.lst (((xs.take i).map obKey).map V.str)))] H' ∧ firstO 3 taskO 0 [] xs = firstO 3 taskO i ((xs.take i).map obKey) (xs.drop i) ∧ i ≤ 3) ⟨⟨_, _, rfl⟩, by simp; exact s2, by simp, by omega⟩ (fun i σ' H' _ h => ⟨[], List.not_mem_nil, h.2.1.keep⟩) ?_ ?_
          · rintro i x σ' H3 U hi ⟨⟨v2, v3, rfl⟩, s3, hf, hi3⟩ ex hU
            obtain ⟨ob, eo, hx⟩ := r.at_ ex
            rw [drop_at eo, firstO] at hf
            have s4 := s3.new hU (.tup [.int (i : Nat), x])
            have hx4 := hx.kp s4.keep
            generalize upd H3 U (HO.tup [.int (i : Nat), x]) = H4 at s4 hx4
            clear s3 s2 s1
            refine Rd.gseqT s4 (by wtm_at "mem") rfl ?_
            wtm_at "rd"
            refine Rd.brD (fun e3 => ?_) (fun e3 => ?_)
            · have e3' : i = 3 := by have := V.int.inj e3; omega
              rw [if_pos (.inl e3')] at hf
              wtm_at "rd"
              exact mkL fun cls d H' hf' => kE i hf cls d H' (hf'.kp (S := []) (S' := []) s4.keep fun x m => nomatch m)
            have ei : i ≠ 3 := fun q => e3 (by rw [q]; rfl)
            wtm_at "rd"
            refine ⟨x, ob, nl, (xs.take i).map obKey, rfl, hx4, s4.get (by wtm_at "mem"), fun H5 k5 => ?_⟩
            have s5 := s4.after0 k5
            clear s4
            cases et : taskO ((xs.take i).map obKey) ob with
            | false =>
              rw [if_pos (.inr et)] at hf
              wtm_at "rd"
              exact mkL fun cls d H' hf' => kE i hf cls d H' (hf'.kp (S := []) (S' := []) s5.keep fun x m => nomatch m)
            | true =>
              rw [if_neg (fun c => c.elim ei fun q => by rw [et] at q; cases q)] at hf
              obtain ⟨b, n, w2, r2, rfl, hb, hw2, rfl, hwd, hns, hrs⟩ := task_head (K := K) (hx4.kp k5) et
              have a0 : atI [V.str n, w2] 0 = some (.str n) := atI_nat (j := 0) rfl
              have h5 : Stt H [] _ H5 ∧ True := ⟨s5, trivial⟩
              clear s5
              wtm_at "rd"
              refine Rd.bmL h5.1 (by wtm_at "mem") ?_
              wtm_at "rd"
              refine Rd.app h5.1 (by wtm_at "mem") (by rw [List.length_map, List.length_map, List.length_take]; omega) (by wtm_at "put") (by wtm_at "own") fun H6 s6 => ?_
              have ek : (xs.take (i + 1)).map obKey = (xs.take i).map obKey ++ [n] := take_map_snoc eo
              refine ⟨⟨_, _, rfl⟩, ?_, by rw [ek]; exact hf, by omega⟩
              rw [ek, List.map_append]
              exact s6.sub (List.Sublist.cons _ (List.Sublist.refl _))
          · rintro σ' H3 ⟨⟨v2, v3, rfl⟩, s3, hf, _⟩
            rw [List.drop_of_length_le (by rw [hlen]; exact Nat.le_refl _), firstO] at hf
            exact kQ hf _ s3.keep
      | _ => cases e
def spIsCtO : Sp := fun vs H Q _ => ∃ (v : V) (o : Ob) (nl : Addr) (seen : List Str), vs = [v, .ref nl] ∧ ObA H v o ∧ H nl = some (.lst (seen.map V.str)) ∧ ∀ H', Kp [] H H' → Q (.bl (ctrO seen o)) H'
theorem len3 {α : Type} {l : List α} (h : l.length = 3) : ∃ x y z, l = [x, y, z] := by
  match l, h with
  | [x, y, z], _ => exact ⟨x, y, z, rfl⟩
theorem ok_is_counterO (T : Txt K mg) : FnOk P w K mg base CX0 3 (He.fAd K ("_is_counter", none)) T.fd_is_counter ["counter", "names"] spIsCtO := by
  refine T.F_is_counter.ok sc_is_counter (fun vs H Q E h => ?_) (fun cdv A outer s H vs Q E hr h => ?_)
  · obtain ⟨v, o, nl, seen, rfl, _⟩ := h
    rfl
  · obtain ⟨v, o, nl, seen, rfl, ho, hn, k⟩ := h
    refine ⟨_, PSs.nox (pss_cons (ps_if (PW.pt (pw_or (pt_not (pt_val (pe_call (ok_is_listO T) (hr.mono (by decide)) rfl T.g_is_list T.F_is_list.kp T.b_is_list .nil pass0 (pa_cons (pv 0) pa_nil)))) (pw_or1 (pt_cmpR op_ne (pe_callB call_lenQ (by rfl) T.n_len PySem.boot_len (pa_cons (pv 0) pa_nil)) pe_int (nomark _))))) (pss_one (ps_ret pe_bl))
   pss_nil)
  (pss_cons (ps_asg (pv 0) (pg_seq (by rfl) (pgs_cons (pg_name (i := 2) sc_is_counter.nd rfl (by first | exact Or.inl rfl | exact Or.inr rfl)) (pgs_cons (pg_name (i := 3) sc_is_counter.nd rfl (by first | exact Or.inl rfl | exact Or.inr rfl)) (pgs_cons (pg_name (i := 4) sc_is_counter.nd rfl (by first | exact Or.inl rfl | exact Or.inr rfl)) pgs_nil)))))
  (pss_cons (ps_if (PW.pt (pw_or (pt_not (pt_val (pe_call (ok_is_wordO T) (hr.mono (by decide)) rfl T.g_is_word T.F_is_word.kp T.b_is_word .nil pass0 (pa_cons (pv 2) pa_nil)))) (pw_or1 (pt_cmpR op_in_seq (pv 2) (pv 1) (by rfl))))) (pss_one (ps_ret pe_bl))
   pss_nil)
  (pss_one (ps_ret (pe_and (pe_call (ok_is_betweenO T) (hr.mono (by decide)) rfl T.g_is_between T.F_is_between.kp T.b_is_between .nil pass0 (pa_cons (pv 4) (pa_cons pe_int (pa_cons (Lt.pe_globI rfl T.g_MOST_ROOM) pa_nil)))) (pe_one (pe_call (ok_is_betweenO T) (hr.mono (by decide)) rfl T.g_is_between T.F_is_between.kp T.b_is_between .nil pass0 (pa_cons (pv 3) (pa_cons pe_int (pa_cons (pv 4) pa_nil))))))))))), ?_⟩
    wtm_at "k"
    have s0 : Stt H [] [] H := Stt.nil
    wtm_at "rd"
    refine isLO_ask s0 ho fun H1 k1 s1 => ?_
    clear s0
    cases e : o.isSq with
    | false =>
      rw [show ctrO seen o = false by cases o <;> first | rfl | cases e] at k
      wtm_at "rd"
      exact k _ k1
    | true =>
      have h1 := ho.kp k1
      cases h1 with
      | sq hh hz r =>
        rename_i a vs xs
        have hq : SqX K H1 a vs := sqX_of hh
        have hlen := r.len
        wtm_at "rd"
        refine Rd.brD (fun e2 => ?_) (fun e2 => ?_)
        · have e2' := V.int.inj e2
          obtain ⟨x, y, z, rfl⟩ := len3 (show xs.length = 3 by omega)
          cases r with
          | cons hx r =>
            cases r with
            | cons hy r =>
              cases r with
              | cons hz3 r =>
                cases r
                rename_i vx vy vz
                wtm_at "rd"
                refine wordO_ask s1 hx fun H2 k2 s2 => ?_
                clear s1
                cases ew : x.word with
                | false =>
                  rw [show ctrO seen (.sq [x, y, z]) = false by rw [ctrO, ew, Bool.false_and]] at k
                  wtm_at "rd"
                  exact k _ s2.keep
                | true =>
                  obtain ⟨n, rfl, _⟩ := word_str ew
                  cases hx
                  wtm_at "rd"
                  refine inS (.inl (SqL.of (s2.keep.get List.not_mem_nil hn))) ?_
                  cases em : decide (n ∈ seen) with
                  | true =>
                    rw [show ctrO seen (.sq [.str n, y, z]) = false by rw [ctrO, ew, Ob.mem, em]; rfl] at k
                    rw [if_neg Bool.false_ne_true]
                    wtm_at "rd"
                    exact k _ s2.keep
                  | false =>
                    rw [show ctrO seen (.sq [.str n, y, z]) = (z.btw 1 9 && startO y z) by rw [ctrO, ew, Ob.mem, em]; rfl] at k
                    rw [if_neg Bool.false_ne_true]
                    wtm_at "rd"
                    refine btwO_ask (hz3.kp k2) ?_
                    refine Rd.blV (Rd.br (fun e4 => ?_) (fun e4 => ?_))
                    · rw [e4, Bool.true_and] at k
                      obtain ⟨i, rfl, _⟩ := btw_num e4
                      cases hz3
                      wtm_at "rd"
                      refine btwO_ask (hy.kp k2) ?_
                      exact k _ s2.keep
                    · rw [e4, Bool.false_and] at k
                      exact k _ s2.keep
        · rw [show ctrO seen (.sq xs) = false by
            match xs, hlen with
            | [_, _, _], h => exact absurd (by rw [h]; rfl) e2
            | [], _ => rfl
            | [_], _ => rfl
            | [_, _], _ => rfl
            | _ :: _ :: _ :: _ :: _, _ => rfl] at k
          wtm_at "rd"
          exact k _ k1
      | _ => cases e
def spCkCO (K : PySem.W.Frag) : Sp := fun vs H Q E => ∃ (v : V) (o : Ob), vs = [v] ∧ ObA H v o ∧ (ctrsO o = none → ∀ H', Kp [] H H' → Q .non H') ∧ (∀ i, ctrsO o = some i → ∀ cls d H', XF K "BadCounter" [("index", .int (i : Nat))] [] H cls d H' → E cls d H')
theorem ctr_head {seen : List Str} {o : Ob} {H : Hp} {v : V} (ho : ObA H v o) (h : ctrO seen o = true) : ∃ (a : Addr) (c : Ctr), v = .ref a ∧ SqX K H a [.str c.1, .int c.2.1, .int c.2.2] ∧ o = .sq [.str c.1, .num c.2.1, .num c.2.2] ∧ CtrOk c ∧ c.1 ∉ seen := by
  unfold ctrO at h
  split at h
  · rename_i n s r
    rw [Bool.and_eq_true, Bool.and_eq_true, Bool.and_eq_true] at h
    obtain ⟨z, rfl, hz⟩ := word_str h.1
    obtain ⟨k, rfl, hk⟩ := btw_num h.2.2.1
    obtain ⟨i, rfl, hi⟩ := btw_num (show s.btw 0 k = true from h.2.2.2)
    cases ho with
    | sq hh hz' q =>
      cases q with
      | cons hx q =>
        cases hx
        cases q with
        | cons hy q =>
          cases hy
          cases q with
          | cons hy q =>
            cases hy
            cases q
            refine ⟨_, (z, i, k), rfl, sqX_of hh, rfl, ⟨hz, hk, hi⟩, fun m => ?_⟩
            have := h.2.1
            rw [Ob.mem, decide_eq_true m] at this
            cases this
  · cases h
theorem ok_check_countersO (T : Txt K mg) : FnOk P w K mg base (L2.CX P w) 4 (He.fAd K ("_check_counters", none)) T.fd_check_counters ["counters"] (spCkCO K) := by
  refine T.F_check_counters.ok sc_check_counters (fun vs H Q E h => ?_) (fun cdv A outer s H vs Q E hr h => ?_)
  · obtain ⟨v, o, rfl, _⟩ := h
    rfl
  · obtain ⟨v, o, rfl, ho, kQ, kE⟩ := h
    refine ⟨_, (pss_cons (ps_if (pt_not (pt_val (pe_call (ok_is_listO T) (hr.mono (by decide)) rfl T.g_is_list T.F_is_list.kp T.b_is_list .nil pass0 (pa_cons (pv 0) pa_nil)))) (pss_one (ps_raise rfl (takes_of rfl rfl rfl rfl) (pmk_oex T.x_BadCounter.oex T.x_BadCounter.iC T.x_BadCounter.tI (ok_BadCounter_init T) (hr.mono (by decide)) T.b_BadCounter_init .nil pass0 rfl T.g_BadCounter (pa_cons pe_int pa_nil))))
   pss_nil)
  (pss_cons (ps_asg (pe_lst pa_nil) (pg_name (i := 1) sc_check_counters.nd rfl (by first | exact Or.inl rfl | exact Or.inr rfl)))
  (pss_one (ps_for (passes_of rfl) rfl (pi_enumX (by rfl) T.n_enumerate (pa_cons (pv 0) pa_nil)) (pg_seq (by rfl) (pgs_cons (pg_name (i := 2) sc_check_counters.nd rfl (by first | exact Or.inl rfl | exact Or.inr rfl)) (pgs_cons (pg_name (i := 3) sc_check_counters.nd rfl (by first | exact Or.inl rfl | exact Or.inr rfl)) pgs_nil)))
   (pss_cons (ps_if (PW.pt (pw_or (pt_cmpR op_eq (pv 2) (Lt.pe_globI rfl T.g_MOST_COUNTERS) (nomark _)) (pw_or1 (pt_not (pt_val (pe_call (ok_is_counterO T) (hr.mono (by decide)) rfl T.g_is_counter T.F_is_counter.kp T.b_is_counter .nil pass0 (pa_cons (pv 3) (pa_cons (pv 1) pa_nil)))))))) (pss_one (ps_raise rfl (takes_of rfl rfl rfl rfl) (pmk_oex T.x_BadCounter.oex T.x_BadCounter.iC T.x_BadCounter.tI (ok_BadCounter_init T) (hr.mono (by decide)) T.b_BadCounter_init .nil pass0 rfl T.g_BadCounter (pa_cons (pv 2) pa_nil))))
   pss_nil)
  (pss_one (ps_expr (pe_bm PySem.F.plainAttrs_list PySem.F.slot_list_append PySem.F.type_list_append mt_append (pv 1) (pa_cons (pe_ix ix_sqX (pv 3) pe_int (fun _ _ => rfl)) pa_nil))))))))), ?_⟩
    wtm_at "k"
    have s0 : Stt H [] [] H := Stt.nil
    wtm_at "rd"
    refine isLO_ask s0 ho fun H1 k1 s1 => ?_
    clear s0
    cases e : o.isSq with
    | false =>
      rw [show ctrsO o = some 0 by cases o <;> first | rfl | cases e] at kE
      wtm_at "rd"
      exact mkL fun cls d H' hf => kE 0 rfl cls d H' (hf.kp (S := []) (S' := []) k1 fun x m => nomatch m)
    | true =>
      cases ho with
      | sq hh hz r =>
        rename_i a us xs
        have hq : SqX K H a us := sqX_of hh
        have hq1 := hq.kp0 k1
        have hlen := r.len
        rw [ctrsO] at kQ kE
        wtm_at "rd"
        rename_i nl H2 hnl s2
        refine Rd.forEnX hq (fun i σ' H' => (∃ v2 v3 : Option V, σ' = [some (.ref a), some (.ref nl), v2, v3]) ∧ Stt H [] [(nl, Is (.lst (((xs.take i).map obKey).map V.str)))] H' ∧ firstO 2 ctrO 0 [] xs = firstO 2 ctrO i ((xs.take i).map obKey) (xs.drop i) ∧ i ≤ 2) ⟨⟨_, _, rfl⟩, by simp; exact s2, by simp, by omega⟩ (fun i σ' H' _ h => ⟨[], List.not_mem_nil, h.2.1.keep⟩) ?_ ?_
        · rintro i x σ' H3 U hi ⟨⟨v2, v3, rfl⟩, s3, hf, hi3⟩ ex hU
          obtain ⟨ob, eo, hx⟩ := r.at_ ex
          rw [drop_at eo, firstO] at hf
          have s4 := s3.new hU (.tup [.int (i : Nat), x])
          have hx4 := hx.kp s4.keep
          generalize upd H3 U (HO.tup [.int (i : Nat), x]) = H4 at s4 hx4
          clear s3 s2 s1
          refine Rd.gseqT s4 (by wtm_at "mem") rfl ?_
          wtm_at "rd"
          refine Rd.brD (fun e3 => ?_) (fun e3 => ?_)
          · have e3' : i = 2 := by have := V.int.inj e3; omega
            rw [if_pos (.inl e3')] at hf
            wtm_at "rd"
            exact mkL fun cls d H' hf' => kE i hf cls d H' (hf'.kp (S := []) (S' := []) s4.keep fun x m => nomatch m)
          have ei : i ≠ 2 := fun q => e3 (by rw [q]; rfl)
          wtm_at "rd"
          refine ⟨x, ob, nl, (xs.take i).map obKey, rfl, hx4, s4.get (by wtm_at "mem"), fun H5 k5 => ?_⟩
          have s5 := s4.after0 k5
          clear s4
          cases et : ctrO ((xs.take i).map obKey) ob with
          | false =>
            rw [if_pos (.inr et)] at hf
            wtm_at "rd"
            exact mkL fun cls d H' hf' => kE i hf cls d H' (hf'.kp (S := []) (S' := []) s5.keep fun x m => nomatch m)
          | true =>
            rw [if_neg (fun c => c.elim ei fun q => by rw [et] at q; cases q)] at hf
            obtain ⟨b, c, rfl, hb, rfl, _, _⟩ := ctr_head (K := K) (hx4.kp k5) et
            have a0 : atI [V.str c.1, .int c.2.1, .int c.2.2] 0 = some (.str c.1) := atI_nat (j := 0) rfl
            have h5 : Stt H [] _ H5 ∧ True := ⟨s5, trivial⟩
            clear s5
            wtm_at "rd"
            refine Rd.bmL h5.1 (by wtm_at "mem") ?_
            wtm_at "rd"
            refine Rd.app h5.1 (by wtm_at "mem") (by rw [List.length_map, List.length_map, List.length_take]; omega) (by wtm_at "put") (by wtm_at "own") fun H6 s6 => ?_
            have ek : (xs.take (i + 1)).map obKey = (xs.take i).map obKey ++ [c.1] := take_map_snoc eo
            refine ⟨⟨_, _, rfl⟩, ?_, by rw [ek]; exact hf, by omega⟩
            rw [ek, List.map_append]
            exact s6.sub (List.Sublist.cons _ (List.Sublist.refl _))
        · rintro σ' H3 ⟨⟨v2, v3, rfl⟩, s3, hf, _⟩
          rw [List.drop_of_length_le (by rw [hlen]; exact Nat.le_refl _), firstO] at hf
          exact kQ hf _ s3.keep
      | _ => cases e
end

section
variable {P : Program} {w : World} {K : PySem.W.Frag} {mg : Str → Option Value} {base : Heap}
/-! ### the first ever that does not surely wait -/
mutual
def hurL (p : Nat) : LRow → Option Nat
  | .mk n _ ps => if n = "ever" ∧ swFst ps = false then some p else hurP (p + 1) ps
def hurP (p : Nat) : List (List LRow) → Option Nat
  | [] => none
  | q :: r => (hurR p q).or (hurP (p + sizeR q) r)
def hurR (p : Nat) : List LRow → Option Nat
  | [] => none
  | x :: r => (hurL p x).or (hurR (p + x.size) r)
end
theorem hurR_app : ∀ {a b : List LRow} {k : Nat}, hurR k (a ++ b) = (hurR k a).or (hurR (k + sizeR a) b)
  | [], b, k => by rw [List.nil_append, hurR, sizeR, Nat.add_zero]; rfl
  | x :: r, b, k => by rw [List.cons_append, hurR, hurR, hurR_app, sizeR, Option.or_assoc, Nat.add_assoc]
theorem hurP_app : ∀ {a b : List (List LRow)} {k : Nat}, hurP k (a ++ b) = (hurP k a).or (hurP (k + sizeP a) b)
  | [], b, k => by rw [List.nil_append, hurP, sizeP, Nat.add_zero]; rfl
  | x :: r, b, k => by rw [List.cons_append, hurP, hurP, hurP_app, sizeP, Option.or_assoc, Nat.add_assoc]
mutual
theorem wo_hurL : ∀ {r : LRow} {p : Nat}, hurL p r = none → r.wo
  | .mk n as ps, p, h => by
    rw [hurL] at h
    rw [LRow.wo]
    split at h
    · cases h
    · rename_i c
      refine ⟨fun e => ?_, wo_hurP h⟩
      cases e2 : swFst ps with
      | true => rfl
      | false => exact absurd ⟨e, e2⟩ c
theorem wo_hurP : ∀ {ps : List (List LRow)} {p : Nat}, hurP p ps = none → woP ps
  | [], _, _ => by rw [woP]; trivial
  | q :: r, p, h => by
    rw [hurP, Option.or_eq_none_iff] at h
    rw [woP]
    exact ⟨wo_hurR h.1, wo_hurP h.2⟩
theorem wo_hurR : ∀ {rs : List LRow} {p : Nat}, hurR p rs = none → woR rs
  | [], _, _ => by rw [woR]; trivial
  | x :: r, p, h => by
    rw [hurR, Option.or_eq_none_iff] at h
    rw [woR]
    exact ⟨wo_hurL h.1, wo_hurR h.2⟩
end
local macro_rules | `(tactic| wtm_at "ask") => `(tactic| with_reducible refine' mkO ?_)
def spWaitO (K : PySem.W.Frag) (n : Nat) : Sp := fun vs H Q E => ∃ (nm v : V) (p : Nat) (rs : List LRow), vs = [nm, v, .int (p : Nat)] ∧ RsA .any H v rs ∧ shpR rs ∧ depR rs ≤ n ∧ (hurR p rs = none → ∀ H', Kp [] H H' → Q (.int ((p + sizeR rs : Nat) : Int)) H') ∧
  (∀ k, hurR p rs = some k → ∀ cls d H', XF K "BadRow" [("reason", .str "waits"), ("place", .int (k : Nat)), ("task", nm)] [] H cls d H' → E cls d H')
theorem wait_bodyO (T : Txt K mg) (D : TxtD K w) (n k : Nat) (hn : n ≤ 20) (hk : 2 * n + 3 ≤ k) (sp0 : Sp) (F0 : FnOk P w K mg base (L2.CX P w) k (He.fAd K ("_check_waits", none)) T.fd_check_waits ["name", "rows", "place"] sp0)
    (h0 : ∀ vs H Q E, (∃ m, m + 1 = n ∧ spWaitO K m vs H Q E) → sp0 vs H Q E) : FnOk P w K mg base (L2.CX P w) (k + 1) (He.fAd K ("_check_waits", none)) T.fd_check_waits ["name", "rows", "place"] (spWaitO K n) := by
  refine T.F_check_waits.ok sc_check_waits (fun vs H Q E h => ?_) (fun cdv A outer s H vs Q E hr h => ?_)
  · obtain ⟨nm, v, p, rs, rfl, _⟩ := h
    rfl
  · obtain ⟨nm, v, p, rs, rfl, hw, hs, hd, kQ, kE⟩ := h
    refine ⟨_, (pss_cons (ps_for (passes_of rfl) rfl (pi_seq (pv 1)) (pg_name (i := 3) sc_check_waits.nd rfl (by first | exact Or.inl rfl | exact Or.inr rfl))
   (C8.pss_cut (ps_if (PW.pt (pw_and (pt_cmpR op_eq (pe_ix ix_sqX (pv 3) pe_int (fun _ _ => rfl)) pe_str (nomark _)) (pw_and1 (pt_not (pt_val (pe_call (ok_sws T n hn).2 (hr.mono (by omega)) rfl T.g_surely_waits T.F_surely_waits.kp T.b_surely_waits .nil pass0 (pa_cons (pe_ix ix_sqX (pv 3) pe_int (fun _ _ => rfl)) pa_nil))))))) (pss_one (ps_raise rfl (takes_of rfl rfl rfl rfl) (pmk_oex T.x_BadRow.oex T.x_BadRow.iC T.x_BadRow.tI (ok_BadRow_init T) (hr.mono (by omega)) T.b_BadRow_init .nil pass0 rfl T.g_BadRow (pa_cons (pv 0) (pa_cons (pv 2) (pa_cons pe_str pa_nil))))))
   pss_nil)
  (pss_cons (ps_asg (pe_op op_add (pv 2) pe_int) (pg_name (i := 2) sc_check_waits.nd rfl (by first | exact Or.inl rfl | exact Or.inr rfl)))
  (pss_one (ps_for (passes_of rfl) rfl (pi_seq (pe_call (ok_lists_of T D) (hr.mono (by omega)) rfl T.g_lists_of T.F_lists_of.kp T.b_lists_of .nil pass0 (pa_cons (pv 3) pa_nil))) (pg_name (i := 4) sc_check_waits.nd rfl (by first | exact Or.inl rfl | exact Or.inr rfl))
   (pss_one (ps_asg (pe_call F0 hr rfl T.g_check_waits T.F_check_waits.kp T.b_check_waits .nil (passes_call (takes_of rfl rfl rfl rfl) (fun _ _ _ _ h => h)) (pa_cons (pv 0) (pa_cons (pv 4) (pa_cons (pv 2) pa_nil)))) (pg_name (i := 2) sc_check_waits.nd rfl (by first | exact Or.inl rfl | exact Or.inr rfl)))))))))
  (pss_one (ps_ret (pv 2)))), ?_⟩
    wtm_at "k"
    obtain ⟨a, us, rfl, hq, hu, hz⟩ := rs_sq (K := K) hw
    wtm_at "rd"
    refine Rd.forX hq (fun i σ' H' => (∃ v3 v4 : Option V, σ' = [some nm, some (.ref a), some (.int ((p + sizeR (rs.take i) : Nat) : Int)), v3, v4]) ∧ Kp [] H H' ∧ hurR p (rs.take i) = none) ⟨⟨_, _, by rw [List.take_zero, sizeR]; rfl⟩, Kp.refl _, by rw [List.take_zero, hurR]⟩ (fun i σ' H' _ h => ⟨[], List.not_mem_nil, h.2.1⟩) ?_ ?_
    · rintro i x σ' H1 hi ⟨⟨v3, v4, rfl⟩, k1, hh⟩ ex
      obtain ⟨⟨n', as, ps⟩, er, hx⟩ := hu.at_ ex
      have mr := List.mem_of_getElem? er
      have hsr := shpR_mem hs mr
      have hdr := Nat.le_trans (depR_mem mr) hd
      rw [LRow.shp] at hsr
      rw [LRow.dep] at hdr
      obtain ⟨b, uu, rfl, hqb, hub, hzb, hab⟩ := rw_sq (K := K) (hx.kp k1)
      have a0 : atI (V.str n' :: (as ++ uu)) 0 = some (.str n') := atI_nat (j := 0) rfl
      have hsu : Shp n' as uu.length := by rw [hub.len]; exact hsr.1
      have esp := take_split er
      generalize hqq : p + sizeR (rs.take i) = q
      have hhur : ∀ kk, hurL q (.mk n' as ps) = some kk → hurR p rs = some kk := fun kk e => by
        rw [esp, hurR_app, hh, hqq, hurR, e]
        rfl
      have hgood : hurL q (.mk n' as ps) = none → hurR p (rs.take (i + 1)) = none := fun e => by
        rw [take_snoc er, hurR_app, hh, hqq, hurR, hurR, e]
        rfl
      wtm_at "rd"
      refine Rd.cut (fun σ' H' => σ' = [some nm, some (.ref a), some (.int ((q : Nat) : Int)), some (.ref b), v4] ∧ Kp [] H1 H' ∧ ¬ (n' = "ever" ∧ swFst ps = false)) ?_ ?_
      · wtm_at "rd"
        refine Rd.brD (fun e1 => ?_) (fun e1 => ?_)
        · have e1' := str_inj.mp e1
          obtain ⟨rfl, h2⟩ := hsr.1.ever_ e1'
          obtain ⟨p1, rfl⟩ := len1 h2
          obtain ⟨u1, rfl, g1⟩ := rsAll1 hub
          rw [depP, depP] at hdr
          rw [shpP, shpP] at hsr
          wtm_at "rd"
          refine ⟨u1, p1, rfl, g1, hsr.2.1, by omega, fun H2 k2 => ?_⟩
          cases es : swR p1 with
          | true =>
            wtm_at "rd"
            exact ⟨rfl, k2, fun c => by rw [swFst, es] at c; exact nomatch c.2⟩
          | false =>
            wtm_at "rd"
            refine mkR fun cls d H' hf => kE q (hhur q (by rw [hurL, if_pos ⟨e1', by rw [swFst]; exact es⟩])) cls d H' ?_
            obtain ⟨f1, d0, f2, f3, f4⟩ := hf
            exact ⟨f1, d0, f2, f3, kpT (kpT k1 k2) f4⟩
        · wtm_at "rd"
          exact ⟨rfl, Kp.refl _, fun c => e1 (by rw [c.1])⟩
      rintro σ' H2 ⟨rfl, k2, hne⟩
      have hqb2 := hqb.kp0 k2
      rw [hurL, if_neg hne] at hhur hgood
      wtm_at "rd"
      refine lof_ask (Stt.nil (S := [])) hqb2 hsu fun q1 H5 hq1 k5 s5 => ?_
      have h5 : H5 q1 = some (.lst uu) := s5.get (by wtm_at "mem")
      clear s5
      have hub5 := (hub.kp k2).kp k5
      have k50 : Kp [] H H5 := kpT (kpT k1 k2) k5
      refine Rd.forX (K := K) (xs := uu) (.inl (SqL.of h5)) (fun j σ' H' => (∃ v4 : Option V, σ' = [some nm, some (.ref a), some (.int ((q + 1 + sizeP (ps.take j) : Nat) : Int)), some (.ref b), v4]) ∧ Kp [] H5 H' ∧ hurP (q + 1) (ps.take j) = none) ⟨⟨_, by rw [List.take_zero, sizeP]; rfl⟩, Kp.refl _, by rw [List.take_zero, hurP]⟩ (fun j σ' H' _ h => ⟨[], List.not_mem_nil, h.2.1⟩) ?_ ?_
      · rintro j y σ' H6 hj ⟨⟨v6, rfl⟩, k6, hh6⟩ ey
        obtain ⟨pp, epp, hy⟩ := hub5.at_ ey
        have mpp := List.mem_of_getElem? epp
        have hdp := depP_mem mpp
        have spp := take_split epp
        obtain ⟨m, rfl⟩ : ∃ m, n = m + 1 := ⟨n - 1, by omega⟩
        wtm_at "rd"
        refine h0 _ _ _ _ ⟨m, rfl, nm, y, _, pp, rfl, hy.kp k6, shpP_mem hsr.2 mpp, by omega, fun e0 H' k7 => ?_, fun kk e0 cls d H' hf => ?_⟩
        · have e : q + 1 + sizeP (ps.take j) + sizeR pp = q + 1 + sizeP (ps.take (j + 1)) := by rw [take_snoc epp, sizeP_app, sizeP, sizeP]; omega
          rw [e]
          refine ⟨⟨_, rfl⟩, kpT k6 k7, ?_⟩
          rw [take_snoc epp, hurP_app, hh6, hurP, hurP, e0]
          rfl
        · refine kE kk (hhur kk ?_) cls d H' (hf.kp (S := []) (S' := []) (kpT k50 k6) fun x m => nomatch m)
          rw [spp, hurP_app, hh6, hurP, e0]
          rfl
      · rintro σ' H6 ⟨⟨v6, rfl⟩, k6, hh6⟩
        have etp : ps.take uu.length = ps := List.take_of_length_le (by rw [hub5.len]; exact Nat.le_refl _)
        have e : q + 1 + sizeP ps = p + sizeR (rs.take (i + 1)) := by rw [take_snoc er, sizeR_app, sizeR, sizeR, LRow.size, ← hqq]; omega
        rw [etp] at hh6
        rw [etp, e]
        exact ⟨⟨_, _, rfl⟩, kpT k50 k6, hgood hh6⟩
    · rintro σ' H' ⟨⟨v3, v4, rfl⟩, k1, hh⟩
      rw [List.take_of_length_le (by rw [hu.len]; exact Nat.le_refl _)] at hh
      rw [List.take_of_length_le (by rw [hu.len]; exact Nat.le_refl _)]
      wtm_at "rd"
      exact kQ hh _ k1
theorem ok_waitsO (T : Txt K mg) (D : TxtD K w) : ∀ n, n ≤ 20 → FnOk P w K mg base (L2.CX P w) (2 * n + 4) (He.fAd K ("_check_waits", none)) T.fd_check_waits ["name", "rows", "place"] (spWaitO K n)
  | 0, hn => wait_bodyO T D 0 3 hn (by omega) _ fnok_false fun vs H Q E ⟨m, h, _⟩ => by omega
  | n + 1, hn => (wait_bodyO T D (n + 1) (2 * n + 5) hn (by omega) _ ((ok_waitsO T D n (by omega)).mono (by omega)) fun vs H Q E ⟨m, h1, h2⟩ => by
    cases h1
    exact h2)
end

section
variable {P : Program} {w : World} {K : PySem.W.Frag} {mg : Str → Option Value} {base : Heap}
/-! ### the rows of a task, any objects, checked -/
local macro_rules | `(tactic| wtm_at "ask") => `(tactic| with_reducible refine' mkO ?_)
local macro_rules | `(tactic| wtm_at "ask") => `(tactic| first | with_reducible refine' isNo ?_ | with_reducible refine' notNo ?_)
theorem RcAt.kd {H H' : Hp} {o : Addr} {nm c : V} {p : Nat} (h : RcAt K H o nm c p) (k : Kp [o] H H') : Kd H H' := by
  obtain ⟨dx, fs, h0, _⟩ := h.ex
  exact Kd.of1 k h0
theorem fault_view {cs : List Str} {p : Nat} {o : Ob} (h : faultO cs p o = none) : ∃ n as ps, o.view = some (n, as, ps) := by
  unfold faultO at h
  split at h
  · cases h
  split at h
  · cases h
  exact ⟨_, _, _, by assumption⟩
def oneO (m : Nat) (cs : List Str) (g : Bool) : Bool → Nat → Ob → Nat × Option Str := fun last p o => match whyO cs g last p o with
  | some e => (p, some e)
  | none => runO (fun _ q x => seekO m cs (g || decide (o.nm = "within")) q x) (p + 1) o.parts
theorem seekO_sq {m : Nat} {cs : List Str} {g : Bool} {p : Nat} {xs : List Ob} : seekO (m + 1) cs g p (.sq xs) = runO (oneO m cs g) p xs := rfl
theorem optV_none {r : Option Str} : (optV r = .non) ↔ r = none := by
  cases r with
  | none => exact ⟨fun _ => rfl, fun _ => rfl⟩
  | some z => exact ⟨fun e => (nomatch e), fun e => (nomatch e)⟩
def spCheckO (K : PySem.W.Frag) (n : Nat) : Sp := fun vs H Q E => ∃ (o cn : Addr) (nm : V) (p : Nat) (cs : List Str) (v : V) (ob : Ob) (g : Bool), vs = [.ref o, v, .bl g] ∧ RcAt K H o nm (.ref cn) p ∧ H cn = some (.lst (cs.map V.str)) ∧ ObA H v ob ∧ ob.isSq = true ∧ ob.dep ≤ 2 * n ∧
  (∀ q, seekO n cs g p ob = (q, none) → ∀ H', Kp [o] H H' → RcAt K H' o nm (.ref cn) q → Q .non H') ∧
  (∀ q e, seekO n cs g p ob = (q, some e) → ∀ cls d H', XF K "BadRow" [("reason", .str e), ("place", .int (q : Nat)), ("task", nm)] [o] H cls d H' → E cls d H')
theorem check_bodyO (T : Txt K mg) (D : TxtD K w) (n k : Nat) (hk : k ≤ 60) (hk5 : 5 ≤ k) (sp0 : Sp) (F0 : FnOk P w K mg base (L2.CX P w) k (He.fAd K ("RowCheck", some "check")) T.fd_RowCheck_check ["self", "rows", "guarded"] sp0)
    (h0 : ∀ vs H Q E, (∃ m, m + 1 = n ∧ spCheckO K m vs H Q E) → sp0 vs H Q E) : FnOk P w K mg base (L2.CX P w) (k + 1) (He.fAd K ("RowCheck", some "check")) T.fd_RowCheck_check ["self", "rows", "guarded"] (spCheckO K n) := by
  refine T.F_RowCheck_check.ok sc_RowCheck_check (fun vs H Q E h => ?_) (fun cdv A outer s H vs Q E hr h => ?_)
  · obtain ⟨o, cn, nm, p, cs, v, ob, g, rfl, _⟩ := h
    rfl
  · obtain ⟨o, cn, nm, p, cs, v, ob, g, rfl, hR, hcn, ho, hsq, hd, kQ, kE⟩ := h
    refine ⟨_, (pss_one (ps_for (passes_of rfl) rfl (pi_enumX (by rfl) T.n_enumerate (pa_cons (pv 1) pa_nil)) (pg_seq (by rfl) (pgs_cons (pg_name (i := 3) sc_RowCheck_check.nd rfl (by first | exact Or.inl rfl | exact Or.inr rfl)) (pgs_cons (pg_name (i := 4) sc_RowCheck_check.nd rfl (by first | exact Or.inl rfl | exact Or.inr rfl)) pgs_nil)))
   (pss_cons (ps_asg (pe_meth (pv 0) T.c_RowCheck T.m_RowCheck_fault (ok_RowCheck_faultO T D) (hr.mono (by omega)) T.b_RowCheck_fault .nil pass0 (pa_cons (pv 4) pa_nil)) (pg_name (i := 5) sc_RowCheck_check.nd rfl (by first | exact Or.inl rfl | exact Or.inr rfl)))
  (C8.pss_cut (ps_if (PW.pt (pw_and (pt_cmpR op_isNo (pv 5) pe_non (nomark _)) (pw_and (pt_cmpR op_eq (pe_ix ix_sqX (pv 4) pe_int (fun _ _ => rfl)) pe_str (nomark _)) (pw_and1 (pt_val (pv 2)))))) (pss_one (ps_asg pe_str (pg_name (i := 5) sc_RowCheck_check.nd rfl (by first | exact Or.inl rfl | exact Or.inr rfl))))
   pss_nil)
  (C8.pss_cut (ps_if (PW.pt (pw_and (pt_cmpR op_isNo (pv 5) pe_non (nomark _)) (pw_and (pt_cmpR op_eq (pe_ix ix_sqX (pv 4) pe_int (fun _ _ => rfl)) pe_str (nomark _)) (pw_and1 (pt_cmpR op_lt (pv 3) (pe_op op_sub (pe_callB call_lenQ (by rfl) T.n_len PySem.boot_len (pa_cons (pv 1) pa_nil)) pe_int) (nomark _)))))) (pss_one (ps_asg pe_str (pg_name (i := 5) sc_RowCheck_check.nd rfl (by first | exact Or.inl rfl | exact Or.inr rfl))))
   pss_nil)
  (pss_cons (ps_if (pt_cmpR op_notNo (pv 5) pe_non (nomark _)) (pss_one (ps_raise rfl (takes_of rfl rfl rfl rfl) (pmk_oex T.x_BadRow.oex T.x_BadRow.iC T.x_BadRow.tI (ok_BadRow_init T) (hr.mono (by omega)) T.b_BadRow_init .nil pass0 rfl T.g_BadRow (pa_cons (pe_fld (pv 0) rfl) (pa_cons (pe_fld (pv 0) rfl) (pa_cons (pv 5) pa_nil))))))
   pss_nil)
  (pss_cons (ps_fld (pv 0) (pe_op op_add (pe_fld (pv 0) rfl) pe_int) rfl)
  (pss_one (ps_for (passes_of rfl) rfl (pi_seq (pe_call (ok_lists_of T D) (hr.mono (by omega)) rfl T.g_lists_of T.F_lists_of.kp T.b_lists_of .nil pass0 (pa_cons (pv 4) pa_nil))) (pg_name (i := 6) sc_RowCheck_check.nd rfl (by first | exact Or.inl rfl | exact Or.inr rfl))
   (pss_one (ps_expr (pe_meth (pv 0) T.c_RowCheck T.m_RowCheck_check F0 hr T.b_RowCheck_check .nil (passes_call (takes_of rfl rfl rfl rfl) (fun _ _ _ _ h => h)) (pa_cons (pv 6) (pa_cons (pe_or (pv 2) (pe_one (pe_cmpR op_eq (pe_ix ix_sqX (pv 4) pe_int (fun _ _ => rfl)) pe_str (nomark _)))) pa_nil)))))))))))))), ?_⟩
    wtm_at "k"
    cases ho with
    | sq hraw hz hu =>
      rename_i a us xs
      rw [Ob.dep] at hd
      obtain ⟨m, rfl⟩ : ∃ m, n = m + 1 := ⟨n - 1, by omega⟩
      simp only [seekO_sq] at kQ kE
      have hq : SqX K H a us := sqX_of hraw
      have hao : a ∉ [o] := RcAt.ne hR hraw
      have c1 := T.c_RowCheck
      have c2 := T.a_RowCheck_name
      have c4 := T.a_RowCheck_place
      wtm_at "rd"
      refine Rd.forEnX hq (fun i σ' H' => (∃ v3 v4 v5 v6 : Option V, σ' = [some (.ref o), some (.ref a), some (.bl g), v3, v4, v5, v6]) ∧ Kp [o] H H' ∧ ∃ q : Nat, RcAt K H' o nm (.ref cn) q ∧ runO (oneO m cs g) p xs = runO (oneO m cs g) q (xs.drop i)) ⟨⟨_, _, _, _, rfl⟩, Kp.refl _, p, hR, by rw [List.drop_zero]⟩ (fun i σ' H' _ h => ⟨[o], hao, h.2.1⟩) ?_ ?_
      · rintro i x σ' H1 U hi ⟨⟨v3, v4, v5, v6, rfl⟩, k1, q, hR1, hrun⟩ ex hU
        obtain ⟨ob, er, hx⟩ := hu.at_ ex
        have mr := List.mem_of_getElem? er
        have hdr := depO_mem mr
        have edrop : xs.drop i = ob :: xs.drop (i + 1) := by
          obtain ⟨h, e⟩ := List.getElem?_eq_some_iff.mp er
          rw [← e]
          exact List.drop_eq_getElem_cons h
        have elast : (xs.drop (i + 1)).isEmpty = decide (¬ ((i : Int) < (us.length : Nat) - 1)) := by
          rw [hu.len, Bool.eq_iff_iff, List.isEmpty_iff, decide_eq_true_iff, List.drop_eq_nil_iff]
          omega
        rw [edrop, runO] at hrun
        generalize hlst : (xs.drop (i + 1)).isEmpty = last at elast hrun
        have kU : Kp [] H1 (upd H1 U (.tup [.int (i : Nat), x])) := kp_new hU
        have hU2 : upd H1 U (HO.tup [.int (i : Nat), x]) U = some (.tup [.int (i : Nat), x]) := upd_same
        generalize upd H1 U (HO.tup [.int (i : Nat), x]) = H2 at kU hU2
        have k2 : Kp [o] H H2 := kpT k1 (kp_nil kU)
        have hR2 := hR1.kp kU
        refine Rd.gseqX (.inr (SqT.of hU2)) rfl ?_
        obtain ⟨dx, fs, g0, g1, g2, g3, g4, g5, g6⟩ := hR2.ex
        wtm_at "rd"
        refine methX g0 g6 ?_
        wtm_at "rd"
        refine faultO_ask (Stt.nil (S := [])) hR2 ((hR.kd k2).l _ _ hcn) (hx.kd (hR.kd k2)) fun H3 k3 _ => ?_
        have k30 : Kp [o] H H3 := kpT k2 (kp_nil k3)
        have hR3 := hR2.kp k3
        clear hR2 hR1 g0 g1 g2 g3 g4 g5 g6
        have hx3 := hx.kd (hR.kd k30)
        have sxa : SqX K H3 a us := hq.kp k30 hao
        wtm_at "rd"
        refine Rd.cut (fun σ' H' => σ' = [some (.ref o), some (.ref a), some (.bl g), some (.int (i : Nat)), some x, some (optV ((faultO cs q ob).or (if ob.nm = "within" ∧ g = true then some "nested" else none))), v6] ∧ H' = H3) ?_ ?_
        · cases ef : faultO cs q ob with
          | some z =>
            wtm_at "rd"
            refine Rd.brJ (fun e => by cases e) ?_
            wtm_at "rd"
            exact ⟨rfl, rfl⟩
          | none =>
            obtain ⟨n', as, ps, ev⟩ := fault_view ef
            obtain ⟨b, ws, uu, rfl, hqb, hw, hub, hs⟩ := view_at (K := K) hx3 ev
            have a0 : atI (V.str n' :: (ws ++ uu)) 0 = some (.str n') := atI_nat (j := 0) rfl
            have en : ob.nm = n' := by rw [Ob.nm, ev]
            rw [en]
            wtm_at "rd"
            refine Rd.brI rfl ?_
            wtm_at "rd"
            refine Rd.brD (fun e1 => ?_) (fun e1 => ?_)
            · have e1' := str_inj.mp e1
              wtm_at "rd"
              cases g with
              | true =>
                wtm_at "rd"
                exact ⟨by rw [if_pos ⟨e1', rfl⟩]; rfl, rfl⟩
              | false =>
                wtm_at "rd"
                exact ⟨by rw [if_neg (fun q => nomatch q.2)]; rfl, rfl⟩
            · wtm_at "rd"
              exact ⟨by rw [if_neg (fun q => e1 (by rw [q.1]))]; rfl, rfl⟩
        rintro σ' H4 ⟨rfl, e4⟩
        subst e4
        refine Rd.cut (fun σ' H' => σ' = [some (.ref o), some (.ref a), some (.bl g), some (.int (i : Nat)), some x, some (optV (whyO cs g last q ob)), v6] ∧ H' = H4) ?_ ?_
        · cases ef : (faultO cs q ob).or (if ob.nm = "within" ∧ g = true then some "nested" else none) with
          | some z =>
            have ew : whyO cs g last q ob = some z := by
              unfold whyO
              cases e5 : faultO cs q ob with
              | some z' => rw [e5] at ef; exact ef
              | none =>
                rw [e5, Option.none_or] at ef
                rw [Option.none_or]
                split at ef
                · rename_i c
                  rw [if_pos c]
                  exact ef
                · cases ef
            rw [ew]
            wtm_at "rd"
            refine Rd.brJ (fun e => by cases e) ?_
            wtm_at "rd"
            exact ⟨rfl, rfl⟩
          | none =>
            rw [Option.or_eq_none_iff] at ef
            obtain ⟨n', as, ps, ev⟩ := fault_view ef.1
            obtain ⟨b, ws, uu, rfl, hqb, hw, hub, hs⟩ := view_at (K := K) hx3 ev
            have a0 : atI (V.str n' :: (ws ++ uu)) 0 = some (.str n') := atI_nat (j := 0) rfl
            have en : ob.nm = n' := by rw [Ob.nm, ev]
            have ew : whyO cs g last q ob = (if n' = "ever" ∧ last = false then some ("last" : Str) else none : Option Str) := by
              unfold whyO
              rw [ef.1, Option.none_or, en]
              have e2 := ef.2
              rw [en] at e2
              split at e2
              · cases e2
              · rename_i c
                rw [if_neg c]
            rw [ew]
            wtm_at "rd"
            refine Rd.brI rfl ?_
            wtm_at "rd"
            refine Rd.brD (fun e1 => ?_) (fun e1 => ?_)
            · have e1' := str_inj.mp e1
              wtm_at "rd"
              refine Rd.brD (fun e2 => ?_) (fun e2 => ?_)
              · wtm_at "rd"
                exact ⟨by rw [if_pos ⟨e1', by rw [elast]; exact decide_eq_false (fun c => c e2)⟩]; rfl, rfl⟩
              · wtm_at "rd"
                exact ⟨by rw [if_neg (fun c => by rw [elast, decide_eq_true e2] at c; exact nomatch c.2)] <;> rfl, rfl⟩
            · wtm_at "rd"
              exact ⟨by rw [if_neg (fun q => e1 (by rw [q.1]))] <;> rfl, rfl⟩
        rintro σ' H3 ⟨rfl, e4⟩
        subst e4
        obtain ⟨dx', fs', g0, g1, g2, g3, g4, g5, g6⟩ := hR3.ex
        cases ew : whyO cs g last q ob with
        | some z =>
          rw [oneO, ew] at hrun
          wtm_at "rd"
          refine Rd.brJ (fun e => by cases e) ?_
          wtm_at "rd"
          refine mkR fun cls d H' hf => kE q z hrun cls d H' ?_
          obtain ⟨f1, d0, f2, f3, f4⟩ := hf
          exact ⟨f1, d0, f2, f3, kpT k30 (kp_nil f4)⟩
        | none =>
          obtain ⟨_, n', as, ps, ev, n1, n2, n3, n4, n5, n6⟩ := why_none ew
          have en : ob.nm = n' := by rw [Ob.nm, ev]
          have ep : ob.parts = ps := by rw [Ob.parts, ev]
          have hone : oneO m cs g last q ob = runO (fun _ q x => seekO m cs (g || decide (n' = "within")) q x) (q + 1) ps := by rw [oneO, ew, en, ep]
          rw [hone] at hrun
          wtm_at "rd"
          refine Rd.brI rfl ?_
          wtm_at "rd"
          refine ⟨o, _, dx', fs', rfl, g0, c1, c4, Nat.lt_of_le_of_lt g4 (by decide), ?_⟩
          have hR4 : RcAt K (upd H3 o (.ins (He.ga K "RowCheck") dx' (putF "place" (.int ((q + 1 : Nat) : Int)) fs'))) o nm (.ref cn) (q + 1) := RcAt.put g1 g2 g4 g5 g6 g3
          have k34 : Kp [o] H3 (upd H3 o (.ins (He.ga K "RowCheck") dx' (putF "place" (.int ((q + 1 : Nat) : Int)) fs'))) := kp_upd1 ⟨_, g0⟩
          rw [show ((q : Int) + 1) = ((q + 1 : Nat) : Int) by omega]
          generalize upd H3 o (.ins (He.ga K "RowCheck") dx' (putF "place" (.int ((q + 1 : Nat) : Int)) fs')) = H4 at hR4 k34
          have k40 : Kp [o] H H4 := kpT k30 k34
          have hx4 := hx.kd (hR.kd k40)
          obtain ⟨b, ws, uu, rfl, hqb4, hw, hub, hs⟩ := view_at (K := K) hx4 ev
          have A := as_ok (cs := cs) hs n1 n2 n3 hw
          have hsu : Shp n' ws uu.length := by rw [hub.len]; exact A.s
          have a0' : atI (V.str n' :: (ws ++ uu)) 0 = some (.str n') := atI_nat (j := 0) rfl
          obtain ⟨eob, _⟩ := view_some ev
          have bo : b ∉ [o] := by
            rw [eob] at hx4
            cases hx4 with
            | sq h _ _ => exact hR4.ne h
          have hdp : depO ps + 1 ≤ ob.dep := by
            rw [eob, Ob.dep, depO]
            have : ∀ as : List Ob, depO ps ≤ depO (as ++ ps) := fun as => by
              induction as with
              | nil => exact Nat.le_refl _
              | cons a r ih => rw [List.cons_append, depO]; exact Nat.le_trans ih (Nat.le_max_right _ _)
            have := this as
            omega
          clear g0 g1 g2 g3 g4 g5 g6
          wtm_at "rd"
          refine lof_ask (Stt.nil (S := [])) hqb4 hsu fun q1 H5 hq1 k5 s5 => ?_
          have h5 : H5 q1 = some (.lst uu) := s5.get (by wtm_at "mem")
          clear s5
          have k50 : Kp [o] H H5 := kpT k40 (kp_nil k5)
          have hR5 := hR4.kp k5
          have hq1o : q1 ∉ [o] := hR5.ne (.inl h5)
          have hub5 := hub.kp k5
          have hqb5 := hqb4.kp0 k5
          refine Rd.forX (K := K) (xs := uu) (.inl (SqL.of h5)) (fun j σ' H' => (∃ v6 : Option V, σ' = [some (.ref o), some (.ref a), some (.bl g), some (.int (i : Nat)), some (.ref b), some .non, v6]) ∧ Kp [o] H5 H' ∧ ∃ q' : Nat, RcAt K H' o nm (.ref cn) q' ∧ runO (fun _ q x => seekO m cs (g || decide (n' = "within")) q x) (q + 1) ps = runO (fun _ q x => seekO m cs (g || decide (n' = "within")) q x) q' (ps.drop j)) ⟨⟨_, rfl⟩, Kp.refl _, q + 1, hR5, by rw [List.drop_zero]⟩ (fun j σ' H' _ h => ⟨[o], hq1o, h.2.1⟩) ?_ ?_
          · rintro j y σ' H6 hj ⟨⟨v6, rfl⟩, k6, q', hR6, hrun6⟩ ey
            obtain ⟨pp, epp, hy⟩ := hub5.at_ ey
            have mpp := List.mem_of_getElem? epp
            have edp : ps.drop j = pp :: ps.drop (j + 1) := by
              obtain ⟨h, e⟩ := List.getElem?_eq_some_iff.mp epp
              rw [← e]
              exact List.drop_eq_getElem_cons h
            rw [edp, runO] at hrun6
            have hqb6 : SqX K H6 b (V.str n' :: (ws ++ uu)) := hqb5.kp k6 bo
            have hdpp := depO_mem mpp
            have k60 : Kp [o] H H6 := kpT k50 k6
            obtain ⟨dx6, fs6, g0, g1, g2, g3, g4, g5, g6⟩ := hR6.ex
            have call : ∀ (D : VK), (∀ H' q'', Kp [o] H6 H' → RcAt K H' o nm (.ref cn) q'' → runO (fun _ q x => seekO m cs (g || decide (n' = "within")) q x) (q + 1) ps = runO (fun _ q x => seekO m cs (g || decide (n' = "within")) q x) q'' (ps.drop (j + 1)) → D .non H') → sp0 (V.ref o :: ([y, .bl (g || decide (n' = "within"))] ++ [])) H6 D E := fun D hD => by
              refine h0 _ _ _ _ ⟨m, rfl, o, cn, nm, q', cs, y, pp, _, rfl, hR6, (hR.kd k60).l _ _ hcn, hy.kd (hR5.kd k6), List.all_eq_true.mp n4 pp mpp, by omega, fun q'' e H' k7 hR7 => ?_, fun q'' z e cls d H' hf => ?_⟩
              · rw [e] at hrun6
                exact hD H' q'' k7 hR7 hrun6
              · rw [e] at hrun6
                rw [hrun6] at hrun
                exact kE q'' z hrun cls d H' (hf.kp k60 fun x m => .inl m)
            wtm_at "rd"
            refine methX g0 g5 ?_
            wtm_at "rd"
            refine Rd.br (fun eg => ?_) (fun eg => ?_)
            · rw [eg, Bool.true_or] at call
              rw [eg, Bool.true_or] at hrun
              rw [eg, Bool.true_or]
              wtm_at "rd"
              refine call _ fun H' q'' k7 hR7 hb7 => ?_
              exact ⟨⟨_, rfl⟩, kpT k6 k7, q'', hR7, hb7⟩
            · rw [eg, Bool.false_or] at call
              rw [eg, Bool.false_or]
              wtm_at "rd"
              have ew : decide (V.str n' = V.str "within") = decide (n' = "within") := decide_eq_decide.mpr str_inj
              rw [ew]
              refine call _ fun H' q'' k7 hR7 hb7 => ?_
              exact ⟨⟨_, rfl⟩, kpT k6 k7, q'', hR7, hb7⟩
          · rintro σ' H6 ⟨⟨v6, rfl⟩, k6, q', hR6, hrun6⟩
            rw [List.drop_of_length_le (by rw [hub5.len]; exact Nat.le_refl _), runO] at hrun6
            rw [hrun6] at hrun
            exact ⟨⟨_, _, _, _, rfl⟩, kpT k50 k6, q', hR6, hrun⟩
      · rintro σ' H' ⟨⟨v3, v4, v5, v6, rfl⟩, k1, q, hR1, hrun⟩
        rw [List.drop_of_length_le (by rw [hu.len]; exact Nat.le_refl _), runO] at hrun
        exact kQ q hrun _ k1 hR1
    | _ => cases hsq
theorem ok_checkO (T : Txt K mg) (D : TxtD K w) : ∀ n, n ≤ 20 → FnOk P w K mg base (L2.CX P w) (n + 6) (He.fAd K ("RowCheck", some "check")) T.fd_RowCheck_check ["self", "rows", "guarded"] (spCheckO K n)
  | 0, _ => check_bodyO T D 0 5 (by omega) (by omega) _ fnok_false fun vs H Q E ⟨m, h, _⟩ => by omega
  | n + 1, hn => check_bodyO T D (n + 1) (n + 6) (by omega) (by omega) _ (ok_checkO T D n (by omega)) fun vs H Q E ⟨m, h1, h2⟩ => by
    cases h1
    exact h2
end

section
variable {P : Program} {w : World} {K : PySem.W.Frag} {mg : Str → Option Value} {base : Heap}
/-! ### check_program, any objects -/
theorem ix_K {X : Cx} {r : PySem.W.Frag → R2} (hK : X.K = K) (h : IxR X (r X.K)) : IxR X (r K) := by
  rw [← hK]
  exact h
local macro_rules | `(tactic| wtm_at "ask") => `(tactic| with_reducible refine' mkO ?_)
def DEP : Nat := 5
structure TskOk (cs : List Str) (t : Tsk) : Prop where
  w : WordB t.1 = true
  shp : shpR t.2
  val : valR cs false t.2
  wo : woR t.2
  dep : depR t.2 ≤ 5
  size : sizeR t.2 ≤ 12
/-- the first task with a wrong number -/
def fbad : List Tsk → Option (Str × Nat)
  | [] => none
  | t :: r => match badR 0 t.2 with
    | some k => some (t.1, k)
    | none => fbad r
theorem fbad_at : ∀ {ts : List Tsk} {i : Nat} {t : Tsk}, fbad (ts.take i) = none → ts[i]? = some t → (∀ k, badR 0 t.2 = some k → fbad ts = some (t.1, k)) ∧ (badR 0 t.2 = none → fbad (ts.take (i + 1)) = none)
  | [], i, t, _, e => by simp at e
  | y :: r, 0, t, _, e => by
    simp at e
    subst e
    refine ⟨fun k h => by rw [fbad, h], fun h => ?_⟩
    rw [List.take_succ_cons, List.take_zero, fbad, h, fbad]
  | y :: r, i + 1, t, h, e => by
    rw [List.getElem?_cons_succ] at e
    rw [List.take_succ_cons, fbad] at h
    cases hb : badR 0 y.2 with
    | some k => rw [hb] at h; cases h
    | none =>
      rw [hb] at h
      obtain ⟨h1, h2⟩ := fbad_at h e
      refine ⟨fun k q => by rw [fbad, hb]; exact h1 k q, fun q => ?_⟩
      rw [List.take_succ_cons, fbad, hb]
      exact h2 q
structure ProgOk (ts : List Tsk) (cs : List Ctr) : Prop where
  t1 : 1 ≤ ts.length
  t3 : ts.length ≤ 3
  tn : (ts.map (·.1)).Nodup
  tk : ∀ t ∈ ts, TskOk (cs.map (·.1)) t
  c2 : cs.length ≤ 2
  cn : (cs.map (·.1)).Nodup
  ck : ∀ c ∈ cs, CtrOk c
theorem mk_rc {nm : V} {cn : V} {H : Hp} {Q : VK} {E : XK} (k : ∀ x H', H x = none → Kp [] H H' → RcAt K H' x nm cn 0 → Q (.ref x) H') : Rd.Make (He.ga K "RowCheck") (spRcI K) [] E [nm, cn] H Q := by
  intro x dx hx hdx ne
  have hx' : upd H dx (HO.own x) x = none := by rw [upd_ne (Ne.symm ne)]; exact hx
  have k2 : Kp [] H (upd (upd H dx (.own x)) x (.ins (He.ga K "RowCheck") dx [])) := (kp_new hdx).trans (kp_new hx') fun _ h => nomatch h
  exact ⟨x, dx, nm, cn, rfl, upd_same, fun H' k3 hR => ⟨rfl, k x H' hx (k2.trans k3 fun y m => .inr (by rw [List.mem_singleton.mp m]; exact hx)) hR⟩⟩
/-! ### the refusal that is due -/
inductive Due where
  | made | task (i : Nat) | ctr (i : Nat) | late | row (nm : Str) (k : Nat) (why : Str)
def obItems : Ob → List Ob
  | .sq xs => xs
  | _ => []
/-- the rows of a task -/
def obRows : Ob → Ob
  | .sq [_, r] => r
  | _ => .non
def FU : Nat := 6
def seekAll (cs : List Str) : List Ob → Option (Str × Nat × Str)
  | [] => none
  | x :: r => match seekO FU cs false 0 (obRows x) with
    | (k, some e) => some (obKey x, k, e)
    | (_, none) => seekAll cs r
def hurAll : List Ob → Option (Str × Nat)
  | [] => none
  | x :: r => match hurR 0 (toRs FU (obRows x)) with
    | some k => some (obKey x, k)
    | none => hurAll r
def dueO (ot oc ol : Ob) : Due := match tasksO ot with
  | some i => .task i
  | none => match ctrsO oc with
    | some i => .ctr i
    | none => if ol.btw 0 99 = false then .late else match seekAll ((obItems oc).map obKey) (obItems ot) with
      | some (n, k, e) => .row n k e
      | none => match hurAll (obItems ot) with
        | some (n, k) => .row n k "waits"
        | none => .made
/-- what flies then -/
def DueX (K : PySem.W.Frag) (lt : V) (H : Hp) : Due → XK
  | .made => fun _ _ _ => False
  | .task i => XF K "BadTask" [("index", .int (i : Nat))] [] H
  | .ctr i => XF K "BadCounter" [("index", .int (i : Nat))] [] H
  | .late => XF K "BadLate" [("late", lt)] [] H
  | .row n k e => XF K "BadRow" [("reason", .str e), ("place", .int (k : Nat)), ("task", .str n)] [] H
theorem firstO_at {most : Nat} {f : List Str → Ob → Bool} : ∀ {xs : List Ob} {i : Nat} {seen : List Str}, firstO most f i seen xs = none → ∀ j x, xs[j]? = some x → i + j ≠ most ∧ f (seen ++ (xs.take j).map obKey) x = true
  | [], _, _, _, j, x, e => by simp at e
  | y :: r, i, seen, h, j, x, e => by
    rw [firstO] at h
    split at h
    · cases h
    · rename_i c
      cases j with
      | zero =>
        simp at e
        subst e
        refine ⟨fun q => c (.inl (by omega)), ?_⟩
        rw [List.take_zero, List.map_nil, List.append_nil]
        cases hf : f seen y with
        | true => rfl
        | false => exact absurd (.inr hf) c
      | succ j =>
        rw [List.getElem?_cons_succ] at e
        obtain ⟨h1, h2⟩ := firstO_at h j x e
        rw [List.append_assoc] at h2
        exact ⟨by omega, h2⟩
theorem seekAll_mem {cs : List Str} {x : Ob} : ∀ {xs : List Ob}, seekAll cs xs = none → x ∈ xs → ∃ q, seekO FU cs false 0 (obRows x) = (q, none)
  | y :: r, h, m => by
    rw [seekAll] at h
    split at h
    · cases h
    · rename_i q e
      rcases List.mem_cons.mp m with rfl | m
      · exact ⟨q, e⟩
      · exact seekAll_mem h m
def spChkO (K : PySem.W.Frag) : Sp := fun vs H Q E => ∃ (vt vc vl : V) (ot oc ol : Ob), vs = [vt, vc, vl] ∧ ObA H vt ot ∧ ObA H vc oc ∧ ObA H vl ol ∧ (∀ x ∈ obItems ot, (obRows x).dep ≤ 12) ∧ (dueO ot oc ol = .made → ∀ H', Kp [] H H' → Q .non H') ∧
  (∀ cls d H', DueX K vl H (dueO ot oc ol) cls d H' → E cls d H')
theorem ok_check_programO (T : Txt K mg) (D : TxtD K w) : FnOk P w K mg base (L2.CX P w) 18 (He.fAd K ("check_program", none)) T.fd_check_program ["tasks", "counters", "late"] (spChkO K) := by
  refine T.F_check_program.ok sc_check_program (fun vs H Q E h => ?_) (fun cdv A outer s H vs Q E hr h => ?_)
  · obtain ⟨vt, vc, vl, ot, oc, ol, rfl, _⟩ := h
    rfl
  · obtain ⟨vt, vc, vl, ot, oc, ol, rfl, hot, hoc, hol, hdep, kQ, kE⟩ := h
    refine ⟨_, (pss_cons (ps_expr (pe_call (ok_check_tasksO T) (hr.mono (by decide)) rfl T.g_check_tasks T.F_check_tasks.kp T.b_check_tasks .nil (passes_call (takes_of rfl rfl rfl rfl) (fun _ _ _ _ h => h)) (pa_cons (pv 0) pa_nil)))
  (pss_cons (ps_expr (pe_call (ok_check_countersO T) (hr.mono (by decide)) rfl T.g_check_counters T.F_check_counters.kp T.b_check_counters .nil (passes_call (takes_of rfl rfl rfl rfl) (fun _ _ _ _ h => h)) (pa_cons (pv 1) pa_nil)))
  (pss_cons (ps_if (pt_not (pt_val (pe_call (ok_is_betweenO T) (hr.mono (by decide)) rfl T.g_is_between T.F_is_between.kp T.b_is_between .nil pass0 (pa_cons (pv 2) (pa_cons pe_int (pa_cons (Lt.pe_globI rfl T.g_MOST_TIME) pa_nil)))))) (pss_one (ps_raise rfl (takes_of rfl rfl rfl rfl) (pmk_oex T.x_BadLate.oex T.x_BadLate.iC T.x_BadLate.tI (ok_BadLate_init T) (hr.mono (by decide)) T.b_BadLate_init .nil pass0 rfl T.g_BadLate (pa_cons (pv 2) pa_nil))))
   pss_nil)
  (pss_cons (ps_setLc (i := 3) (own := [("counter", 6)]) (g := gName 6) (tt := tYes) (by rfl) sc_check_program.nd rfl rfl (sw_true rfl rfl rfl (by decide +kernel)) (pi_seq (pv 1)) (blkOk_by (own := [("counter", 6)]) (N := ["tasks", "counters", "late", "names", "name", "rows", "counter"]) (sc := defScope s_check_program) (by decide +kernel)) (fun _ _ _ _ _ => (pg_name (i := 6) sc_check_program.nd rfl (by first | exact Or.inl rfl | exact Or.inr rfl))) (fun _ _ _ _ _ => pts_nil) (fun _ _ _ _ _ => (pe_ix (ix_K (K := K) (r := fun K1 => rIxX K1) rfl ix_sqX) (pv 6) pe_int (fun _ _ => rfl))))
  (C8.pss_cut (ps_for (passes_of rfl) rfl (pi_seq (pv 0)) (pg_seq (by rfl) (pgs_cons (pg_name (i := 4) sc_check_program.nd rfl (by first | exact Or.inl rfl | exact Or.inr rfl)) (pgs_cons (pg_name (i := 5) sc_check_program.nd rfl (by first | exact Or.inl rfl | exact Or.inr rfl)) pgs_nil)))
   (pss_one (ps_expr (pe_meth (pe_make T.k_RowCheck (ok_RowCheck_init T) (hr.mono (by decide)) rfl T.g_RowCheck T.b_RowCheck_init .nil pass0 (pa_cons (pv 4) (pa_cons (pv 3) pa_nil))) T.c_RowCheck T.m_RowCheck_check (ok_checkO T D 6 (by decide)) (hr.mono (by decide)) T.b_RowCheck_check .nil (passes_call (takes_of rfl rfl rfl rfl) (fun _ _ _ _ h => h)) (pa_cons (pv 5) (pa_cons pe_bl pa_nil))))))
  (pss_one (ps_for (passes_of rfl) rfl (pi_seq (pv 0)) (pg_seq (by rfl) (pgs_cons (pg_name (i := 4) sc_check_program.nd rfl (by first | exact Or.inl rfl | exact Or.inr rfl)) (pgs_cons (pg_name (i := 5) sc_check_program.nd rfl (by first | exact Or.inl rfl | exact Or.inr rfl)) pgs_nil)))
   (pss_one (ps_expr (pe_call (ok_waitsO T D 6 (by decide)) (hr.mono (by decide)) rfl T.g_check_waits T.F_check_waits.kp T.b_check_waits .nil (passes_call (takes_of rfl rfl rfl rfl) (fun _ _ _ _ h => h)) (pa_cons (pv 4) (pa_cons (pv 5) (pa_cons pe_int pa_nil))))))))))))), ?_⟩
    wtm_at "k"
    wtm_at "rd"
    refine ⟨vt, ot, rfl, hot, fun e1 H1 k1 => ?_, fun i e1 cls d H' hf => kE cls d H' (by rw [dueO, e1]; exact hf)⟩
    wtm_at "rd"
    refine ⟨vc, oc, rfl, hoc.kp k1, fun e2 H2 k2 => ?_, fun i e2 cls d H' hf => kE cls d H' (by rw [dueO, e1]; simp only [e2]; exact hf.kp (S := []) (S' := []) k1 fun x m => nomatch m)⟩
    have k20 := kpT k1 k2
    wtm_at "rd"
    refine btwO_ask (hol.kp k20) ?_
    cases e3 : ol.btw 0 99 with
    | false =>
      wtm_at "rd"
      refine mkL fun cls d H' hf => kE cls d H' ?_
      rw [dueO, e1]
      simp only [e2]
      rw [if_pos e3]
      exact hf.kp (S := []) (S' := []) k20 fun x m => nomatch m
    | true =>
      have edue : dueO ot oc ol = match seekAll ((obItems oc).map obKey) (obItems ot) with
        | some (n, k, e) => .row n k e
        | none => match hurAll (obItems ot) with
          | some (n, k) => .row n k "waits"
          | none => .made := by
        rw [dueO, e1]
        simp only [e2]
        rw [if_neg (by rw [e3]; exact fun q => nomatch q)]
      rw [edue] at kQ kE
      clear edue
      cases hot with
      | sq hh hz r =>
        rename_i a us xs
        cases hoc with
        | sq hhc hzc rc =>
          rename_i b ws ys
          rw [tasksO] at e1
          rw [ctrsO] at e2
          have hxs : xs ≠ [] := fun q => by rw [if_pos q] at e1; cases e1
          rw [if_neg hxs] at e1
          simp only [obItems] at kQ kE hdep
          have hq : SqX K H a us := sqX_of hh
          have hq2 : SqX K H b ws := sqX_of hhc
          wtm_at "rd"
          have s2 : Stt H [] [] H2 := ⟨k20, List.nodup_nil, fun _ h => nomatch h⟩
          refine Rd.lcX hq2 List.not_mem_nil s2 (fun i acc ex => ex = [] ∧ acc = ((ys.take i).map obKey).map V.str) ⟨rfl, by simp⟩ ?_ ?_
          · rintro D2 hD i x HA acc ex hi ⟨rfl, rfl⟩ hac s3 ex
            obtain ⟨oy, ey, hy⟩ := rc.at_ ex
            obtain ⟨h1, h2⟩ := firstO_at e2 i oy ey
            obtain ⟨d, c, rfl, hd, rfl, _, _⟩ := ctr_head (K := K) (hy.kp s3.keep) h2
            have a0 : atI [V.str c.1, .int c.2.1, .int c.2.2] 0 = some (.str c.1) := atI_nat (j := 0) rfl
            wtm_at "rd"
            refine Rd.lcE s3 hD (by omega) hac ⟨rfl, ?_⟩
            rw [take_snoc ey, List.map_append, List.map_append]
            rfl
          · rintro cn HA acc ex hcn ⟨rfl, rfl⟩ s3
            rw [rc.len, List.take_length] at s3
            have hcnA : HA cn = some (.lst ((ys.map obKey).map V.str)) := s3.get (by wtm_at "mem")
            have kA := s3.keep
            clear s2 s3
            generalize hcs : ys.map obKey = cs at hcnA kQ kE
            wtm_at "rd"
            refine Rd.cut (fun σ' H' => (∃ v4 v5 v6 : Option V, σ' = [some (.ref a), some (.ref b), some vl, some (.ref cn), v4, v5, v6]) ∧ Kp [] H H' ∧ seekAll cs xs = none) ?_ ?_
            · wtm_at "rd"
              refine Rd.forX hq (fun i σ' H' => (∃ v4 v5 v6 : Option V, σ' = [some (.ref a), some (.ref b), some vl, some (.ref cn), v4, v5, v6]) ∧ Kp [] HA H' ∧ seekAll cs xs = seekAll cs (xs.drop i)) ⟨⟨_, _, _, rfl⟩, Kp.refl _, by rw [List.drop_zero]⟩ (fun i σ' H' _ h => ⟨[], List.not_mem_nil, kpT kA h.2.1⟩) ?_ ?_
              · rintro i x σ' H3 hi ⟨⟨v4, v5, v6, rfl⟩, k3, hf⟩ ex
                obtain ⟨ob, eo, hx⟩ := r.at_ ex
                obtain ⟨h1, h2⟩ := firstO_at e1 i ob eo
                have k30 := kpT kA k3
                obtain ⟨d, n, w2, r2, rfl, hd, hw2, rfl, hwd, hns, hrs⟩ := task_head (K := K) (hx.kp k30) h2
                rw [drop_at eo, seekAll] at hf
                refine Rd.gseqX hd rfl ?_
                wtm_at "rd"
                refine mk_rc fun o H4 ho k4 hR => ?_
                obtain ⟨dx, fs, g0, g1, g2, g3, g4, g5, g6⟩ := hR.ex
                wtm_at "rd"
                refine methX g0 g5 ?_
                wtm_at "rd"
                refine ⟨o, cn, .str n, 0, cs, w2, r2, false, rfl, hR, (kpT k3 k4).get List.not_mem_nil hcnA, hw2.kp k4, hrs, hdep _ (List.mem_of_getElem? eo), fun q es H5 k5 _ => ?_, fun q e es cls d H5 hx5 => ?_⟩
                · have k50 : Kp [] H3 H5 := k4.trans k5 fun y m => .inr (by rw [List.mem_singleton.mp m]; exact ho)
                  rw [show seekO FU cs false 0 (obRows (.sq [.str n, r2])) = (q, none) from es] at hf
                  exact ⟨⟨_, _, _, rfl⟩, kpT k3 k50, hf⟩
                · rw [show seekO FU cs false 0 (obRows (.sq [.str n, r2])) = (q, some e) from es] at hf
                  refine kE cls d H5 ?_
                  rw [hf]
                  refine hx5.kp (S := [o]) (S' := []) (kpT k30 k4) fun y m => .inr ?_
                  rw [List.mem_singleton.mp m]
                  exact k30.none ho
              · rintro σ' H3 ⟨⟨v4, v5, v6, rfl⟩, k3, hf⟩
                rw [List.drop_of_length_le (by rw [r.len]; exact Nat.le_refl _), seekAll] at hf
                exact ⟨⟨_, _, _, rfl⟩, kpT kA k3, hf⟩
            · rintro σ' H3 ⟨⟨v4, v5, v6, rfl⟩, k3, hf⟩
              rw [hf] at kQ kE
              wtm_at "rd"
              refine Rd.forX hq (fun i σ' H' => (∃ v4 v5 v6 : Option V, σ' = [some (.ref a), some (.ref b), some vl, some (.ref cn), v4, v5, v6]) ∧ Kp [] H3 H' ∧ hurAll xs = hurAll (xs.drop i)) ⟨⟨_, _, _, rfl⟩, Kp.refl _, by rw [List.drop_zero]⟩ (fun i σ' H' _ h => ⟨[], List.not_mem_nil, kpT k3 h.2.1⟩) ?_ ?_
              · rintro i x σ' H4 hi ⟨⟨v4, v5, v6, rfl⟩, k4, hh⟩ ex
                obtain ⟨ob, eo, hx⟩ := r.at_ ex
                obtain ⟨h1, h2⟩ := firstO_at e1 i ob eo
                have k40 := kpT k3 k4
                obtain ⟨d, n, w2, r2, rfl, hd, hw2, rfl, hwd, hns, hrs⟩ := task_head (K := K) (hx.kp k40) h2
                rw [drop_at eo, hurAll] at hh
                obtain ⟨q, hsk⟩ := seekAll_mem hf (List.mem_of_getElem? eo)
                have hok := seek_ok FU false 0 r2 q w2 hsk hw2 hrs (hdep _ (List.mem_of_getElem? eo))
                refine Rd.gseqX hd rfl ?_
                wtm_at "rd"
                refine ⟨.str n, w2, 0, toRs FU r2, rfl, hok.r, hok.s, Nat.le_of_succ_le hok.d, fun e0 H5 k5 => ?_, fun kk e0 cls d H5 hx5 => ?_⟩
                · rw [show hurR 0 (toRs FU (obRows (.sq [.str n, r2]))) = none from e0] at hh
                  exact ⟨⟨_, _, _, rfl⟩, kpT k4 k5, hh⟩
                · rw [show hurR 0 (toRs FU (obRows (.sq [.str n, r2]))) = some kk from e0] at hh
                  refine kE cls d H5 ?_
                  rw [hh]
                  exact hx5.kp (S := []) (S' := []) k40 fun x m => nomatch m
              · rintro σ' H4 ⟨_, k4, hh⟩
                rw [List.drop_of_length_le (by rw [r.len]; exact Nat.le_refl _), hurAll] at hh
                exact kQ (by rw [hh]) _ (kpT k3 k4)
        | _ => cases e2
      | _ => cases e1
end

section
variable {K : PySem.W.Frag}
/-! ### what a program is made from, when nothing is wrong -/
theorem run_le {f : Bool → Nat → Ob → Nat × Option Str} (hf : ∀ l p x q, f l p x = (q, none) → p ≤ 12 → q ≤ 12) : ∀ {xs : List Ob} {p q : Nat}, runO f p xs = (q, none) → p ≤ 12 → q ≤ 12
  | [], p, q, h, hp => by
    rw [runO] at h
    cases h
    exact hp
  | x :: r, p, q, h, hp => by
    rw [runO] at h
    generalize e : f r.isEmpty p x = z at h
    obtain ⟨q1, ee⟩ := z
    cases ee with
    | some _ => cases h
    | none => exact run_le hf h (hf _ _ _ _ e hp)
theorem seek_le {cs : List Str} : ∀ {n : Nat} {g : Bool} {p : Nat} {o : Ob} {q : Nat}, seekO n cs g p o = (q, none) → p ≤ 12 → q ≤ 12
  | 0, g, p, o, q, h, hp => by
    rw [seekO] at h
    · cases h; exact hp
    · intro n xs e; cases e
  | n + 1, g, p, .sq xs, q, h, hp => by
    rw [seekO_sq] at h
    refine run_le (fun l p x q e hp => ?_) h hp
    unfold oneO at e
    cases ew : whyO cs g l p x with
    | some z => rw [ew] at e; cases e
    | none =>
      rw [ew] at e
      have hp' := (why_none ew).1
      exact run_le (fun l p x q e hp => seek_le e hp) e (by omega)
  | n + 1, g, p, .non, q, h, hp => by cases h; exact hp
  | n + 1, g, p, .bl _, q, h, hp => by cases h; exact hp
  | n + 1, g, p, .num _, q, h, hp => by cases h; exact hp
  | n + 1, g, p, .str _, q, h, hp => by cases h; exact hp
  | n + 1, g, p, .dct, q, h, hp => by cases h; exact hp
def tskOf (x : Ob) : Tsk := (obKey x, toRs FU (obRows x))
def ctrOf : Ob → Ctr
  | .sq [.str n, .num s, .num r] => (n, s, r)
  | _ => ("", 0, 0)
def tsO (o : Ob) : List Tsk := (obItems o).map tskOf
def csO (o : Ob) : List Ctr := (obItems o).map ctrOf
theorem firstO_nodup {most : Nat} {f : List Str → Ob → Bool} (hf : ∀ seen x, f seen x = true → obKey x ∉ seen) : ∀ {xs : List Ob} {i : Nat} {seen : List Str}, firstO most f i seen xs = none → (xs.map obKey).Nodup ∧ ∀ x ∈ xs, obKey x ∉ seen
  | [], _, _, _ => ⟨List.nodup_nil, fun _ m => nomatch m⟩
  | y :: r, i, seen, h => by
    have h0 := firstO_at h 0 y rfl
    rw [List.take_zero, List.map_nil, List.append_nil] at h0
    rw [firstO] at h
    split at h
    · cases h
    · obtain ⟨h1, h2⟩ := firstO_nodup hf h
      refine ⟨?_, fun x m => ?_⟩
      · rw [List.map_cons, List.nodup_cons]
        refine ⟨fun m => ?_, h1⟩
        obtain ⟨x, mx, e⟩ := List.mem_map.mp m
        exact h2 x mx (by rw [e]; exact List.mem_append_right _ (List.mem_singleton_self _))
      · rcases List.mem_cons.mp m with rfl | m
        · exact hf _ _ h0.2
        · exact fun q => h2 x m (List.mem_append_left _ q)
theorem firstO_len {most : Nat} {f : List Str → Ob → Bool} {xs : List Ob} (h : firstO most f 0 [] xs = none) : xs.length ≤ most := by
  refine Nat.le_of_not_lt fun q => ?_
  obtain ⟨h1, _⟩ := firstO_at h most xs[most] (List.getElem?_eq_getElem q)
  omega
theorem taskO_at {seen : List Str} {o : Ob} (h : taskO seen o = true) : ∃ n r, o = .sq [.str n, r] ∧ WordB n = true ∧ n ∉ seen ∧ r.isSq = true := by
  unfold taskO at h
  split at h
  · rename_i n r
    rw [Bool.and_eq_true, Bool.and_eq_true] at h
    obtain ⟨z, rfl, hz⟩ := word_str h.1
    refine ⟨z, r, rfl, hz, fun m => ?_, h.2.2⟩
    have := h.2.1
    rw [Ob.mem, decide_eq_true m] at this
    cases this
  · cases h
theorem ctrO_at {seen : List Str} {o : Ob} (h : ctrO seen o = true) : ∃ n i k, o = .sq [.str n, .num i, .num k] ∧ CtrOk (n, i, k) ∧ n ∉ seen := by
  unfold ctrO at h
  split at h
  · rename_i n s r
    rw [Bool.and_eq_true, Bool.and_eq_true, Bool.and_eq_true] at h
    obtain ⟨z, rfl, hz⟩ := word_str h.1
    obtain ⟨k, rfl, hk⟩ := btw_num h.2.2.1
    obtain ⟨i, rfl, hi⟩ := btw_num (show s.btw 0 k = true from h.2.2.2)
    refine ⟨z, i, k, rfl, ⟨hz, hk, hi⟩, fun m => ?_⟩
    have := h.2.1
    rw [Ob.mem, decide_eq_true m] at this
    cases this
  · cases h
theorem hurAll_mem {x : Ob} : ∀ {xs : List Ob}, hurAll xs = none → x ∈ xs → hurR 0 (toRs FU (obRows x)) = none
  | y :: r, h, m => by
    rw [hurAll] at h
    split at h
    · cases h
    · rename_i e
      rcases List.mem_cons.mp m with rfl | m
      · exact e
      · exact hurAll_mem h m
theorem tasks_all2 {H : Hp} {cs : List Str} : ∀ {us : List V} {xs : List Ob}, ObAll H us xs → (∀ x ∈ xs, (∃ seen, taskO seen x = true) ∧ (obRows x).dep ≤ 12 ∧ ∃ q, seekO FU cs false 0 (obRows x) = (q, none)) → All2 (TaskA .any H) us (xs.map tskOf)
  | _, _, .nil, _ => .nil
  | _, _, .cons (v := v) (o := o) hx ht, h => by
    obtain ⟨⟨seen, h1⟩, h2, q, h3⟩ := h o List.mem_cons_self
    refine .cons ?_ (tasks_all2 ht fun x m => h x (List.mem_cons_of_mem _ m))
    obtain ⟨n, r, rfl, _, _, hs⟩ := taskO_at h1
    cases hx with
    | sq hh hz' z =>
      cases z with
      | cons ha z =>
        cases ha
        cases z with
        | cons hb z =>
          cases z
          exact ⟨_, _, rfl, hh, (seek_ok FU false 0 r q _ h3 hb hs h2).r⟩
theorem ctrs_all2 {H : Hp} : ∀ {us : List V} {xs : List Ob}, ObAll H us xs → (∀ x ∈ xs, ∃ seen, ctrO seen x = true) → All2 (CtA K H) us (xs.map ctrOf)
  | _, _, .nil, _ => .nil
  | _, _, .cons (v := v) (o := o) hx ht, h => by
    obtain ⟨seen, h1⟩ := h o List.mem_cons_self
    refine .cons ?_ (ctrs_all2 ht fun x m => h x (List.mem_cons_of_mem _ m))
    obtain ⟨n, i, k, rfl, _, _⟩ := ctrO_at h1
    cases hx with
    | sq hh hz' z =>
      cases z with
      | cons ha z =>
        cases ha
        cases z with
        | cons hb z =>
          cases hb
          cases z with
          | cons hc z =>
            cases hc
            cases z
            exact ⟨_, rfl, sqX_of hh⟩
theorem fbad_none : ∀ {ts : List Tsk}, (∀ t ∈ ts, badR 0 t.2 = none) → fbad ts = none
  | [], _ => by rw [fbad]
  | t :: r, h => by
    rw [fbad, h t List.mem_cons_self]
    exact fbad_none fun t m => h t (List.mem_cons_of_mem _ m)
structure MadeOk (K : PySem.W.Frag) (H : Hp) (vt vc vl : V) (ot oc ol : Ob) (a : Addr) (us : List V) (b : Addr) (ws : List V) (lt : Int) : Prop where
  et : vt = .ref a
  ec : vc = .ref b
  el : vl = .int lt
  eo : ol = .num lt
  qt : SqX K H a us
  ut : All2 (TaskA .any H) us (tsO ot)
  qc : SqX K H b ws
  uc : All2 (CtA K H) ws (csO oc)
  ok : ProgOk (tsO ot) (csO oc)
  nb : fbad (tsO ot) = none
  lt : 0 ≤ lt ∧ lt ≤ 99
theorem made_ok {H : Hp} {vt vc vl : V} {ot oc ol : Ob} (hot : ObA H vt ot) (hoc : ObA H vc oc) (hol : ObA H vl ol) (hdep : ∀ x ∈ obItems ot, (obRows x).dep ≤ 12) (e : dueO ot oc ol = .made) : ∃ a us b ws lt, MadeOk K H vt vc vl ot oc ol a us b ws lt := by
  unfold dueO at e
  split at e
  · cases e
  rename_i e1
  split at e
  · cases e
  rename_i e2
  split at e
  · cases e
  rename_i e3
  split at e
  · cases e
  rename_i e4
  split at e
  · cases e
  rename_i e5
  cases e
  cases hot with
  | sq hh hz r =>
    cases hoc with
    | sq hhc hzc rc =>
      rename_i a us xs b ws ys
      have e3' : ol.btw 0 99 = true := by simpa using e3
      obtain ⟨lt, rfl, hlt⟩ := btw_num e3'
      cases hol
      rw [tasksO] at e1
      rw [ctrsO] at e2
      have hxs : xs ≠ [] := fun q => by rw [if_pos q] at e1; cases e1
      rw [if_neg hxs] at e1
      have tk : ∀ x ∈ xs, (∃ seen, taskO seen x = true) ∧ (obRows x).dep ≤ 12 ∧ ∃ q, seekO FU (ys.map obKey) false 0 (obRows x) = (q, none) := fun x m => by
        obtain ⟨j, ej⟩ := List.getElem?_of_mem m
        exact ⟨⟨_, (firstO_at e1 j x ej).2⟩, hdep x m, seekAll_mem e4 m⟩
      have ck : ∀ x ∈ ys, ∃ seen, ctrO seen x = true := fun x m => by
        obtain ⟨j, ej⟩ := List.getElem?_of_mem m
        exact ⟨_, (firstO_at e2 j x ej).2⟩
      have ecs : (ys.map ctrOf).map (·.1) = ys.map obKey := by
        rw [List.map_map]
        refine List.map_congr_left fun x m => ?_
        obtain ⟨seen, h⟩ := ck x m
        obtain ⟨n, i, k, rfl, _⟩ := ctrO_at h
        rfl
      have ets : (xs.map tskOf).map (·.1) = xs.map obKey := by
        rw [List.map_map]
        rfl
      have fin : ∀ x ∈ xs, TskOk (ys.map obKey) (tskOf x) ∧ badR 0 (tskOf x).2 = none := fun x m => by
        obtain ⟨⟨seen, h1⟩, h2, q, h3⟩ := tk x m
        obtain ⟨n, rr, rfl, hwd, _, hs⟩ := taskO_at h1
        obtain ⟨i, hi⟩ := List.getElem?_of_mem m
        have : i < us.length := by rw [r.len]; exact (List.getElem?_eq_some_iff.mp hi).1
        obtain ⟨o', eo', hx⟩ := r.at_ (List.getElem?_eq_getElem this)
        rw [hi] at eo'
        cases eo'
        generalize us[i] = v at hx
        cases hx with
        | sq hh' hz' z =>
          cases z with
          | cons ha z =>
            cases z with
            | cons hb z =>
              have k := seek_ok FU false 0 rr q _ h3 hb hs h2
              have hq := seek_le h3 (by decide)
              exact ⟨⟨hwd, k.s, k.v, wo_hurR (hurAll_mem e5 m), by have := k.d; have : FU = 6 := rfl; show depR (toRs FU rr) ≤ 5; omega, by have := k.q; show sizeR (toRs FU rr) ≤ 12; omega⟩, k.b⟩
      refine ⟨a, us, b, ws, lt, rfl, rfl, rfl, rfl, sqX_of hh, tasks_all2 r tk, sqX_of hhc, ctrs_all2 rc ck, ⟨?_, ?_, ?_, ?_, ?_, ?_, ?_⟩, ?_, hlt⟩
      · show 1 ≤ (xs.map tskOf).length
        rw [List.length_map]
        cases xs with
        | nil => exact absurd rfl hxs
        | cons x r => exact Nat.succ_le_succ (Nat.zero_le _)
      · show (xs.map tskOf).length ≤ 3
        rw [List.length_map]
        exact firstO_len e1
      · show ((xs.map tskOf).map (·.1)).Nodup
        rw [ets]
        exact (firstO_nodup (fun seen x h => by obtain ⟨n, r, rfl, _, hn, _⟩ := taskO_at h; exact hn) e1).1
      · intro t m
        obtain ⟨x, mx, rfl⟩ := List.mem_map.mp (show t ∈ xs.map tskOf from m)
        show TskOk ((ys.map ctrOf).map (·.1)) (tskOf x)
        rw [ecs]
        exact (fin x mx).1
      · show (ys.map ctrOf).length ≤ 2
        rw [List.length_map]
        exact firstO_len e2
      · show ((ys.map ctrOf).map (·.1)).Nodup
        rw [ecs]
        exact (firstO_nodup (fun seen x h => by obtain ⟨n, i, k, rfl, _, hn⟩ := ctrO_at h; exact hn) e2).1
      · intro c m
        obtain ⟨x, mx, rfl⟩ := List.mem_map.mp (show c ∈ ys.map ctrOf from m)
        obtain ⟨seen, h⟩ := ck x mx
        obtain ⟨n, i, k, rfl, hc, _⟩ := ctrO_at h
        exact hc
      · refine fbad_none fun t m => ?_
        obtain ⟨x, mx, rfl⟩ := List.mem_map.mp (show t ∈ xs.map tskOf from m)
        exact (fin x mx).2
    | _ => cases e2
  | _ => cases e1
end

section
variable {P : Program} {w : World} {K : PySem.W.Frag} {mg : Str → Option Value} {base : Heap}
/-! ### plans -/
def Kt (H H' : Hp) : Prop := ∀ b xs, H b = some (.tup xs) → H' b = some (.tup xs)
theorem RwA.kt {H H' : Hp} {v : V} {r : LRow} (k : Kt H H') (h : RwA .tup H v r) : RwA .tup H' v r := RwA.map (c := .tup) (c' := .tup) (fun a xs e => k a xs e) (fun a xs e => k a xs e) h
theorem RsA.kt {H H' : Hp} {v : V} {r : List LRow} (k : Kt H H') (h : RsA .tup H v r) : RsA .tup H' v r := RsA.map (c := .tup) (c' := .tup) (fun a xs e => k a xs e) (fun a xs e => k a xs e) h
theorem RwAll.kt {H H' : Hp} {v : List V} {r : List LRow} (k : Kt H H') (h : RwAll .tup H v r) : RwAll .tup H' v r := RwAll.map (c := .tup) (c' := .tup) (fun a xs e => k a xs e) (fun a xs e => k a xs e) h
theorem RsAll.kt {H H' : Hp} {v : List V} {r : List (List LRow)} (k : Kt H H') (h : RsAll .tup H v r) : RsAll .tup H' v r := RsAll.map (c := .tup) (c' := .tup) (fun a xs e => k a xs e) (fun a xs e => k a xs e) h
/-- a plan under way, its four lists -/
structure PlSt (K : PySem.W.Frag) (H : Hp) (o : Addr) (S : List Addr) (n : Nat) : Prop where
  ex : ∃ dx fs fl bh fi gd, S = [fl, bh, fi, gd] ∧ H o = some (.ins (He.ga K "Plan") dx fs) ∧ fs.lookup ("flat" : Str) = some (V.ref fl) ∧ fs.lookup ("behinds" : Str) = some (V.ref bh) ∧ fs.lookup ("firsts" : Str) = some (V.ref fi) ∧ fs.lookup ("guards" : Str) = some (V.ref gd) ∧ fs.lookup ("_lay" : Str) = none ∧ fs.lookup ("_add" : Str) = none
  ls : ∀ x ∈ S, ∃ xs, H x = some (.lst xs) ∧ xs.length ≤ n
theorem PlSt.kp {H H' : Hp} {o : Addr} {S : List Addr} {n : Nat} (k : Kp [] H H') (h : PlSt K H o S n) : PlSt K H' o S n := by
  obtain ⟨dx, fs, fl, bh, fi, gd, e, h0, h1⟩ := h.ex
  exact ⟨⟨dx, fs, fl, bh, fi, gd, e, k.get List.not_mem_nil h0, h1⟩, fun x m => by
    obtain ⟨xs, e, z⟩ := h.ls x m
    exact ⟨xs, k.get List.not_mem_nil e, z⟩⟩
theorem PlSt.app {H : Hp} {o x : Addr} {S : List Addr} {n : Nat} {xs : List V} {y : V} (h : PlSt K H o S n) (m : x ∈ S) (e : H x = some (.lst xs)) : PlSt K (upd H x (.lst (xs ++ [y]))) o S (n + 1) ∧ Kp S H (upd H x (.lst (xs ++ [y]))) ∧ Kt H (upd H x (.lst (xs ++ [y]))) := by
  obtain ⟨dx, fs, fl, bh, fi, gd, e0, h0, h1⟩ := h.ex
  refine ⟨⟨⟨dx, fs, fl, bh, fi, gd, e0, ?_, h1⟩, fun z mz => ?_⟩, fun b u eb => ?_, fun b us eb => ?_⟩
  · rw [upd_ne (fun q => by rw [q, e] at h0; cases h0)]
    exact h0
  · by_cases hz : z = x
    · subst hz
      obtain ⟨ys, ey, hy⟩ := h.ls z mz
      rw [e] at ey
      cases ey
      exact ⟨_, upd_same, by rw [List.length_append]; exact Nat.succ_le_succ hy⟩
    · obtain ⟨ys, ey, hy⟩ := h.ls z mz
      exact ⟨ys, by rw [upd_ne hz]; exact ey, Nat.le_succ_of_le hy⟩
  · by_cases hb : b = x
    · subst hb
      exact .inr ⟨m, _, upd_same⟩
    · exact .inl (by rw [upd_ne hb]; exact eb)
  · rw [upd_ne (fun q => by rw [q, e] at eb; cases eb)]
    exact eb
theorem Kt.of {H H' : Hp} (k : Kp [] H H') : Kt H H' := fun _ _ e => k.get List.not_mem_nil e
theorem ktT {H H1 H2 : Hp} (a : Kt H H1) (b : Kt H1 H2) : Kt H H2 := fun x xs e => b x xs (a x xs e)
/-- places, a tuple of ints -/
def spFp (K : PySem.W.Frag) (n : Nat) : Sp := fun vs H Q _ => ∃ (v : V) (r : LRow) (p b : Int), vs = [v, .int p, .int b] ∧ RwA .tup H v r ∧ r.shp ∧ r.dep ≤ n + 1 ∧ ∀ q H', Kp [] H H' → Q (.ref q) H'
theorem ok_first_places (T : Txt K mg) (D : TxtD K w) (n : Nat) (hn : n ≤ 20) : FnOk P w K mg base CX0 (2 * n + 4) (He.fAd K ("_first_places", none)) T.fd_first_places ["row", "place", "behind"] (spFp K n) := by
  refine T.F_first_places.ok sc_first_places (fun vs H Q E h => ?_) (fun cdv A outer s H vs Q E hr h => ?_)
  · obtain ⟨v, r, p, b, rfl, _⟩ := h
    rfl
  · obtain ⟨v, ⟨n', as, ps⟩, p, b, rfl, hw, hs, hd, kQ⟩ := h
    refine ⟨_, PSs.nox (pss_cons (ps_asg (pe_lst pa_nil) (pg_name (i := 3) sc_first_places.nd rfl (by first | exact Or.inl rfl | exact Or.inr rfl)))
  (pss_cons (ps_asg (pe_op op_add (pv 1) pe_int) (pg_name (i := 1) sc_first_places.nd rfl (by first | exact Or.inl rfl | exact Or.inr rfl)))
  (pss_cons (ps_for PassesOwn.never rfl (pi_seq (pe_call (ok_lists_of T D) (hr.mono (by omega)) rfl T.g_lists_of T.F_lists_of.kp T.b_lists_of .nil pass0 (pa_cons (pv 0) pa_nil))) (pg_name (i := 4) sc_first_places.nd rfl (by first | exact Or.inl rfl | exact Or.inr rfl))
   (pss_cons (ps_expr (pe_bm PySem.F.plainAttrs_list PySem.F.slot_list_append PySem.F.type_list_append mt_append (pv 3) (pa_cons (pe_ifExp (pt_cmpR op_eq (pe_callB call_lenQ (by rfl) T.n_len PySem.boot_len (pa_cons (pv 4) pa_nil)) pe_int (nomark _)) (pv 2) (pv 1)) pa_nil)))
  (pss_one (ps_asg (pe_op op_add (pv 1) (pe_call (ok_sizes T D n hn).2 (hr.mono (by omega)) rfl T.g_size T.F_size.kp T.b_size .nil pass0 (pa_cons (pv 4) pa_nil))) (pg_name (i := 1) sc_first_places.nd rfl (by first | exact Or.inl rfl | exact Or.inr rfl))))))
  (pss_one (ps_ret (pe_callTy call_tuple_of (by rfl) T.n_tuple (by decide +kernel) (pa_cons (pv 3) pa_nil))))))), ?_⟩
    wtm_at "k"
    obtain ⟨a, us, rfl, hq, hu, hz, ha⟩ := rw_sq (K := K) hw
    rw [LRow.shp] at hs
    rw [LRow.dep] at hd
    have hsu : Shp n' as us.length := by rw [hu.len]; exact hs.1
    have s0 : Stt H [] [] H := Stt.nil
    wtm_at "rd"
    rename_i o H1 ho s1
    clear s0
    refine lof_ask s1 (hq.kp0 s1.keep) hsu fun q H2 hq2 k2 s2 => ?_
    have h2 : H2 q = some (.lst us) := s2.get (by wtm_at "mem")
    have k20 := s2.keep
    have s3 : Stt H2 [o] [(o, Is (.lst []))] H2 := s2.base (by wtm_at "subl")
    have hqo : q ≠ o := by
      have n := s2.nd
      simp at n
      exact n
    clear s1 s2
    refine Rd.forX (K := K) (H0 := H2) (xs := us) (.inl (SqL.of h2)) (fun i σ' H' => ∃ (z : Int) (v5 : Option V) (acc : List V), σ' = [some (.ref a), some (.int z), some (.int b), some (.ref o), v5] ∧ Stt H2 [o] [(o, Is (.lst acc))] H' ∧ acc.length = i) ⟨_, _, [], rfl, s3, rfl⟩ (fun i σ' H' _ ⟨z, v5, acc, _, h, _⟩ => ⟨[o], by simp [hqo], h.keep⟩) ?_ ?_
    · rintro i x σ' H3 hi ⟨z, v5, acc, rfl, s4, hl⟩ ex
      have hk : H o = none := by assumption
      obtain ⟨pp, epp, hx⟩ := hu.at_ ex
      have mpp := List.mem_of_getElem? epp
      have hdp := depP_mem mpp
      have kt : Kt H H3 := fun c xs e => by
        rcases s4.keep c _ (k20.get List.not_mem_nil e) with q | ⟨m, _⟩
        · exact q
        · rw [List.mem_singleton.mp m, hk] at e; cases e
      have hx3 := RsA.kt kt hx
      obtain ⟨xa, xu, rfl, hxa, hxu, hxz⟩ := rs_sq (K := K) hx3
      have hz3 : us.length ≤ 100 := by rw [List.length_append] at hz; omega
      have h4 : Stt H2 [o] [(o, Is (.lst acc))] H3 ∧ True := ⟨s4, trivial⟩
      clear s4 s3
      wtm_at "rd"
      refine Rd.bmL h4.1 (by wtm_at "mem") ?_
      wtm_at "rd"
      refine Rd.brD (fun e1 => ?_) (fun e1 => ?_)
      · wtm_at "rd"
        refine Rd.app h4.1 (by wtm_at "mem") (by omega) (by wtm_at "put") (by wtm_at "own") fun H4 s5 => ?_
        have kt4 : Kt H H4 := fun c xs e => by
          rcases s5.keep c _ (k20.get List.not_mem_nil e) with q | ⟨m, _⟩
          · exact q
          · rw [List.mem_singleton.mp m, hk] at e; cases e
        clear h4
        wtm_at "rd"
        refine ⟨_, pp, rfl, (RsA.kt kt4 hx).any, shpP_mem hs.2 mpp, by omega, fun H5 k5 => ?_⟩
        have s6 := s5.after0 k5
        clear s5
        wtm_at "rd"
        exact ⟨_, _, _, rfl, s6, by rw [List.length_append, hl]; rfl⟩
      · wtm_at "rd"
        refine Rd.app h4.1 (by wtm_at "mem") (by omega) (by wtm_at "put") (by wtm_at "own") fun H4 s5 => ?_
        have kt4 : Kt H H4 := fun c xs e => by
          rcases s5.keep c _ (k20.get List.not_mem_nil e) with q | ⟨m, _⟩
          · exact q
          · rw [List.mem_singleton.mp m, hk] at e; cases e
        clear h4
        wtm_at "rd"
        refine ⟨_, pp, rfl, (RsA.kt kt4 hx).any, shpP_mem hs.2 mpp, by omega, fun H5 k5 => ?_⟩
        have s6 := s5.after0 k5
        clear s5
        wtm_at "rd"
        exact ⟨_, _, _, rfl, s6, by rw [List.length_append, hl]; rfl⟩
    · rintro σ' H3 ⟨z, v5, acc, rfl, s4, hl⟩
      have hk : H o = none := by assumption
      clear s3
      wtm_at "rd"
      refine ⟨o, acc, rfl, .inl ⟨s4.sqL List.mem_cons_self, fun p hp => ?_⟩⟩
      have s5 := s4.new hp (.tup acc)
      refine kQ p _ (k20.trans s5.keep fun y m => .inr (by rw [List.mem_singleton.mp m]; exact hk))
/-- _lay and _add, of one another -/
def spLay (K : PySem.W.Frag) (n : Nat) : Sp := fun vs H Q _ => ∃ (o : Addr) (S : List Addr) (m : Nat) (v : V) (rs : List LRow) (b g : Int), vs = [.ref o, v, .int b, .int g] ∧ PlSt K H o S m ∧ RsA .tup H v rs ∧ shpR rs ∧ depR rs ≤ n ∧ m + 4 * sizeR rs ≤ 5000 ∧ ∀ H', Kp S H H' → Kt H H' → PlSt K H' o S (m + 4 * sizeR rs) → Q .non H'
def spAdd (K : PySem.W.Frag) (n : Nat) : Sp := fun vs H Q _ => ∃ (o : Addr) (S : List Addr) (m : Nat) (v : V) (r : LRow) (b g : Int), vs = [.ref o, v, .int b, .int g] ∧ PlSt K H o S m ∧ RwA .tup H v r ∧ r.shp ∧ r.dep ≤ n ∧ m + 4 * r.size ≤ 5000 ∧ ∀ H', Kp S H H' → Kt H H' → PlSt K H' o S (m + 4 * r.size) → Q .non H'
theorem apX {H : Hp} {o x : Addr} {S : List Addr} {n : Nat} {xs : List V} {y : V} {Q : VK} (h : PlSt K H o S n) (m : x ∈ S) (e : H x = some (.lst xs)) (hn : n ≤ 10000) (k : ∀ H', PlSt K H' o S (n + 1) → Kp S H H' → Kt H H' → Q .non H') : rAppend (.ref x) [y] H Q := by
  obtain ⟨ys, ey, hy⟩ := h.ls x m
  rw [e] at ey
  cases ey
  obtain ⟨a, b, c⟩ := h.app (y := y) m e
  exact ⟨x, xs, y, rfl, rfl, e, Nat.lt_of_le_of_lt (Nat.le_trans hy hn) (by decide), k _ a b c⟩
theorem bmX {H : Hp} {x : Addr} {xs : List V} {r : V → List V → Hp → VK → Prop} {t : TA} {σ : L2.St} {Q : VK} (e : H x = some (.lst xs)) (h : t σ H fun ys H2 => r (.ref x) ys H2 Q) : Rd.BM K "list" r t σ (.ref x) H Q := ⟨.inl ⟨rfl, _, SqL.of e⟩, h⟩
theorem add_body (T : Txt K mg) (D : TxtD K w) (n k : Nat) (hn : n ≤ 19) (hk : 2 * n + 4 ≤ k) (sp0 : Sp) (F0 : FnOk P w K mg base CX0 k (He.fAd K ("Plan", some "_lay")) T.fd_Plan_lay ["self", "rows", "behind", "guard"] sp0)
    (h0 : ∀ vs H Q E, (∃ m, m + 1 = n ∧ spLay K m vs H Q E) → sp0 vs H Q E) : FnOk P w K mg base CX0 (k + 1) (He.fAd K ("Plan", some "_add")) T.fd_Plan_add ["self", "row", "behind", "guard"] (spAdd K n) := by
  refine T.F_Plan_add.ok sc_Plan_add (fun vs H Q E h => ?_) (fun cdv A outer s H vs Q E hr h => ?_)
  · obtain ⟨o, S, m, v, r, b, g, rfl, _⟩ := h
    rfl
  · obtain ⟨o, S, m, v, ⟨n', as, ps⟩, b, g, rfl, hS, hw, hs, hd, hm, kQ⟩ := h
    refine ⟨_, PSs.nox (pss_cons (ps_asg (pe_callB call_lenQ (by rfl) T.n_len PySem.boot_len (pa_cons (pe_fld (pv 0) rfl) pa_nil)) (pg_name (i := 4) sc_Plan_add.nd rfl (by first | exact Or.inl rfl | exact Or.inr rfl)))
  (C8.pss_cut (ps_expr (pe_bm PySem.F.plainAttrs_list PySem.F.slot_list_append PySem.F.type_list_append mt_append (pe_fld (pv 0) rfl) (pa_cons (pv 1) pa_nil)))
  (C8.pss_cut (ps_expr (pe_bm PySem.F.plainAttrs_list PySem.F.slot_list_append PySem.F.type_list_append mt_append (pe_fld (pv 0) rfl) (pa_cons (pv 2) pa_nil)))
  (C8.pss_cut (ps_expr (pe_bm PySem.F.plainAttrs_list PySem.F.slot_list_append PySem.F.type_list_append mt_append (pe_fld (pv 0) rfl) (pa_cons (pe_call (ok_first_places T D n (by omega)) (hr.mono (by omega)) rfl T.g_first_places T.F_first_places.kp T.b_first_places .nil pass0 (pa_cons (pv 1) (pa_cons (pv 4) (pa_cons (pv 2) pa_nil)))) pa_nil)))
  (C8.pss_cut (ps_expr (pe_bm PySem.F.plainAttrs_list PySem.F.slot_list_append PySem.F.type_list_append mt_append (pe_fld (pv 0) rfl) (pa_cons (pv 3) pa_nil)))
  (pss_one (ps_if (pt_cmpR op_eq (pe_ix ix_sqX (pv 1) pe_int (fun _ _ => rfl)) pe_str (nomark _)) (pss_one (ps_expr (pe_meth (pv 0) T.c_Plan T.m_Plan_lay F0 hr T.b_Plan_lay .nil pass0 (pa_cons (pe_ix ix_sqX (pv 1) pe_int (fun _ _ => rfl)) (pa_cons (pe_op op_add (pv 4) pe_int) (pa_cons (pv 3) pa_nil))))))
   (pss_one (ps_if (pt_cmpR op_eq (pe_ix ix_sqX (pv 1) pe_int (fun _ _ => rfl)) pe_str (nomark _)) (pss_cons (ps_expr (pe_meth (pv 0) T.c_Plan T.m_Plan_lay F0 hr T.b_Plan_lay .nil pass0 (pa_cons (pe_ix ix_sqX (pv 1) pe_int (fun _ _ => rfl)) (pa_cons (pv 2) (pa_cons (pv 3) pa_nil)))))
  (pss_one (ps_expr (pe_meth (pv 0) T.c_Plan T.m_Plan_lay F0 hr T.b_Plan_lay .nil pass0 (pa_cons (pe_ix ix_sqX (pv 1) pe_int (fun _ _ => rfl)) (pa_cons (pv 2) (pa_cons (pv 3) pa_nil)))))))
   (pss_one (ps_if (pt_cmpR op_eq (pe_ix ix_sqX (pv 1) pe_int (fun _ _ => rfl)) pe_str (nomark _)) (pss_cons (ps_expr (pe_meth (pv 0) T.c_Plan T.m_Plan_lay F0 hr T.b_Plan_lay .nil pass0 (pa_cons (pe_ix ix_sqX (pv 1) pe_int (fun _ _ => rfl)) (pa_cons (pv 2) (pa_cons (pv 4) pa_nil)))))
  (pss_one (ps_expr (pe_meth (pv 0) T.c_Plan T.m_Plan_lay F0 hr T.b_Plan_lay .nil pass0 (pa_cons (pe_ix ix_sqX (pv 1) pe_int (fun _ _ => rfl)) (pa_cons (pv 2) (pa_cons (pv 3) pa_nil)))))))
   pss_nil))))))))))), ?_⟩
    wtm_at "k"
    have c1 := T.c_Plan
    have c2 := T.a_Plan_flat
    have c3 := T.a_Plan_behinds
    have c4 := T.a_Plan_firsts
    have c5 := T.a_Plan_guards
    have hm1 : m + 4 ≤ 5000 := by rw [LRow.size] at hm; omega
    rw [LRow.size] at hm
    obtain ⟨va, vu, rfl, hva, _⟩ := rw_sq (K := K) hw
    obtain ⟨dx, fs, fl, bh, fi, gd, rfl, f0, f1, f2, f3, f4, f5, f6⟩ := hS.ex
    obtain ⟨x1, e1, z1⟩ := hS.ls fl (by simp)
    have q1 : SqX K H fl x1 := .inl (SqL.of e1)
    wtm_at "rd"
    refine Rd.cut (fun σ' H' => σ' = [some (.ref o), some (.ref va), some (.int b), some (.int g), some (.int (x1.length : Int))] ∧ Kp [fl, bh, fi, gd] H H' ∧ Kt H H' ∧ PlSt K H' o [fl, bh, fi, gd] (m + 1)) ?_ ?_
    · wtm_at "rd"
      refine bmX e1 ?_
      wtm_at "rd"
      refine apX hS (by simp) e1 (by omega) fun H' a b c => ?_
      exact ⟨rfl, b, c, a⟩
    clear q1 e1 z1 f0 f1 f2 f3 f4 f5 f6
    rintro σ' H1 ⟨rfl, k1, t1, hS1⟩
    obtain ⟨dx, fs, fl', bh', fi', gd', e, f0, f1, f2, f3, f4, f5, f6⟩ := hS1.ex
    cases e
    obtain ⟨x2, e2, z2⟩ := hS1.ls bh (by simp)
    refine Rd.cut (fun σ' H' => σ' = [some (.ref o), some (.ref va), some (.int b), some (.int g), some (.int (x1.length : Int))] ∧ Kp [fl, bh, fi, gd] H H' ∧ Kt H H' ∧ PlSt K H' o [fl, bh, fi, gd] (m + 2)) ?_ ?_
    · wtm_at "rd"
      refine bmX e2 ?_
      wtm_at "rd"
      refine apX hS1 (by simp) e2 (by omega) fun H' a b c => ?_
      exact ⟨rfl, kpT k1 b, ktT t1 c, a⟩
    clear e2 z2 f0 f1 f2 f3 f4 f5 f6
    rintro σ' H2 ⟨rfl, k2, t2, hS2⟩
    obtain ⟨dx, fs, fl', bh', fi', gd', e, f0, f1, f2, f3, f4, f5, f6⟩ := hS2.ex
    cases e
    obtain ⟨x3, e3, z3⟩ := hS2.ls fi (by simp)
    refine Rd.cut (fun σ' H' => σ' = [some (.ref o), some (.ref va), some (.int b), some (.int g), some (.int (x1.length : Int))] ∧ Kp [fl, bh, fi, gd] H H' ∧ Kt H H' ∧ PlSt K H' o [fl, bh, fi, gd] (m + 3)) ?_ ?_
    · wtm_at "rd"
      refine bmX e3 ?_
      wtm_at "rd"
      refine ⟨_, _, _, _, rfl, RwA.kt t2 hw, hs, Nat.le_succ_of_le hd, fun q H3 k3 => ?_⟩
      have hS3 := hS2.kp k3
      have e3' := k3.get List.not_mem_nil e3
      wtm_at "rd"
      refine apX hS3 (by simp) e3' (by omega) fun H' a b c => ?_
      exact ⟨rfl, kpT k2 (kpT (kp_nil k3) b), ktT t2 (ktT (Kt.of k3) c), a⟩
    clear e3 z3 f0 f1 f2 f3 f4 f5 f6
    rintro σ' H3 ⟨rfl, k3, t3, hS3⟩
    obtain ⟨dx, fs, fl', bh', fi', gd', e, f0, f1, f2, f3, f4, f5, f6⟩ := hS3.ex
    cases e
    obtain ⟨x4, e4, z4⟩ := hS3.ls gd (by simp)
    refine Rd.cut (fun σ' H' => σ' = [some (.ref o), some (.ref va), some (.int b), some (.int g), some (.int (x1.length : Int))] ∧ Kp [fl, bh, fi, gd] H H' ∧ Kt H H' ∧ PlSt K H' o [fl, bh, fi, gd] (m + 4)) ?_ ?_
    · wtm_at "rd"
      refine bmX e4 ?_
      wtm_at "rd"
      refine apX hS3 (by simp) e4 (by omega) fun H' a b c => ?_
      exact ⟨rfl, kpT k3 b, ktT t3 c, a⟩
    clear e4 z4 f0 f1 f2 f3 f4 f5 f6
    rintro σ' H4 ⟨rfl, k4, t4, hS4⟩
    obtain ⟨dx, fs, fl', bh', fi', gd', e, f0, f1, f2, f3, f4, f5, f6⟩ := hS4.ex
    cases e
    rw [LRow.shp] at hs
    rw [LRow.dep] at hd
    obtain ⟨va', us, e, hq, hu, _, _⟩ := rw_sq (K := K) (RwA.kt t4 hw)
    cases e
    have a0 : atI (V.str n' :: (as ++ us)) 0 = some (.str n') := atI_nat (j := 0) rfl
    wtm_at "rd"
    refine Rd.brD (fun g1 => ?_) (fun g1 => ?_)
    · obtain ⟨rfl, h2⟩ := hs.1.ever_ (str_inj.mp g1)
      obtain ⟨p1, rfl⟩ := len1 h2
      obtain ⟨u1, rfl, r1⟩ := rsAll1 hu
      rw [depP, depP] at hd
      rw [shpP, shpP] at hs
      rw [sizeP, sizeP] at hm
      obtain ⟨n0, rfl⟩ : ∃ n0, n = n0 + 1 := ⟨n - 1, by omega⟩
      wtm_at "rd"
      refine methX f0 f5 ?_
      wtm_at "rd"
      refine h0 _ _ _ _ ⟨n0, rfl, o, _, m + 4, u1, p1, _, _, rfl, hS4, r1, hs.2.1, by omega, by omega, fun H5 k5 t5 hS5 => ?_⟩
      refine kQ H5 (kpT k4 k5) (ktT t4 t5) ?_
      rw [LRow.size, sizeP, sizeP, show m + 4 * (1 + (sizeR p1 + 0)) = m + 4 + 4 * sizeR p1 by omega]
      exact hS5
    · have sq5 := fun {H5 : Hp} (t : Kt H4 H5) => rw_sq (K := K) (RwA.kt (ktT t4 t) hw)
      wtm_at "rd"
      refine Rd.brD (fun g2 => ?_) (fun g2 => ?_)
      · obtain ⟨rfl, h2⟩ := hs.1.either_ (str_inj.mp g2)
        obtain ⟨p1, p2, rfl⟩ := len2 h2
        obtain ⟨u1, u2, rfl, r1, r2⟩ := rsAll2 hu
        rw [depP, depP, depP] at hd
        rw [shpP, shpP, shpP] at hs
        rw [sizeP, sizeP, sizeP] at hm
        obtain ⟨n0, rfl⟩ : ∃ n0, n = n0 + 1 := ⟨n - 1, by omega⟩
        wtm_at "rd"
        refine methX f0 f5 ?_
        wtm_at "rd"
        refine h0 _ _ _ _ ⟨n0, rfl, o, _, m + 4, u1, p1, _, _, rfl, hS4, r1, hs.2.1, by omega, by omega, fun H5 k5 t5 hS5 => ?_⟩
        obtain ⟨ww, us', e, hq5, hu5, _, _⟩ := sq5 t5
        cases e
        clear f0 f1 f2 f3 f4 f5 f6 hq
        obtain ⟨dx, fs, fl', bh', fi', gd', e, f0, f1, f2, f3, f4, f5, f6⟩ := hS5.ex
        cases e
        obtain ⟨u3, u4, rfl, r3, r4⟩ := rsAll2 hu5
        wtm_at "rd"
        refine methX f0 f5 ?_
        wtm_at "rd"
        refine h0 _ _ _ _ ⟨n0, rfl, o, _, m + 4 + 4 * sizeR p1, u4, p2, _, _, rfl, hS5, r4, hs.2.2.1, by omega, by omega, fun H6 k6 t6 hS6 => ?_⟩
        refine kQ H6 (kpT k4 (kpT k5 k6)) (ktT t4 (ktT t5 t6)) ?_
        rw [LRow.size, sizeP, sizeP, sizeP, show m + 4 * (1 + (sizeR p1 + (sizeR p2 + 0))) = m + 4 + 4 * sizeR p1 + 4 * sizeR p2 by omega]
        exact hS6
      · wtm_at "rd"
        refine Rd.brD (fun g3 => ?_) (fun g3 => ?_)
        · obtain ⟨⟨kk, rfl⟩, h2⟩ := hs.1.within_ (str_inj.mp g3)
          obtain ⟨p1, p2, rfl⟩ := len2 h2
          obtain ⟨u1, u2, rfl, r1, r2⟩ := rsAll2 hu
          rw [depP, depP, depP] at hd
          rw [shpP, shpP, shpP] at hs
          rw [sizeP, sizeP, sizeP] at hm
          obtain ⟨n0, rfl⟩ : ∃ n0, n = n0 + 1 := ⟨n - 1, by omega⟩
          wtm_at "rd"
          refine methX f0 f5 ?_
          wtm_at "rd"
          refine h0 _ _ _ _ ⟨n0, rfl, o, _, m + 4, u1, p1, _, _, rfl, hS4, r1, hs.2.1, by omega, by omega, fun H5 k5 t5 hS5 => ?_⟩
          obtain ⟨ww, us', e, hq5, hu5, _, _⟩ := sq5 t5
          cases e
          clear f0 f1 f2 f3 f4 f5 f6 hq
          obtain ⟨dx, fs, fl', bh', fi', gd', e, f0, f1, f2, f3, f4, f5, f6⟩ := hS5.ex
          cases e
          obtain ⟨u3, u4, rfl, r3, r4⟩ := rsAll2 hu5
          wtm_at "rd"
          refine methX f0 f5 ?_
          wtm_at "rd"
          refine h0 _ _ _ _ ⟨n0, rfl, o, _, m + 4 + 4 * sizeR p1, u4, p2, _, _, rfl, hS5, r4, hs.2.2.1, by omega, by omega, fun H6 k6 t6 hS6 => ?_⟩
          refine kQ H6 (kpT k4 (kpT k5 k6)) (ktT t4 (ktT t5 t6)) ?_
          rw [LRow.size, sizeP, sizeP, sizeP, show m + 4 * (1 + (sizeR p1 + (sizeR p2 + 0))) = m + 4 + 4 * sizeR p1 + 4 * sizeR p2 by omega]
          exact hS6
        · obtain rfl : ps = [] := List.length_eq_zero_iff.mp (hs.1.none_ (fun z => g2 (congrArg V.str z)) (fun z => g1 (congrArg V.str z)) (fun z => g3 (congrArg V.str z)))
          wtm_at "rd"
          exact kQ H4 k4 t4 hS4
end

section
variable {P : Program} {w : World} {K : PySem.W.Frag} {mg : Str → Option Value} {base : Heap}
/-! ### plans laid -/
theorem PlSt.nin {H : Hp} {o a : Addr} {S : List Addr} {n : Nat} {us : List V} (h : PlSt K H o S n) (e : H a = some (.tup us)) : a ∉ S := fun m => by
  obtain ⟨xs, ex, _⟩ := h.ls a m
  rw [e] at ex
  cases ex
theorem rs_tup {H : Hp} {v : V} {rs : List LRow} (h : RsA .tup H v rs) : ∃ a us, v = .ref a ∧ H a = some (.tup us) ∧ RwAll .tup H us rs ∧ us.length ≤ 100 := by
  cases h with
  | mk h hz r => exact ⟨_, _, rfl, h, r, hz⟩
theorem lay_body (T : Txt K mg) (D : TxtD K w) (n k : Nat) (hn : n ≤ 19) (hk : 2 * n + 3 ≤ k) (F0 : FnOk P w K mg base CX0 k (He.fAd K ("Plan", some "_add")) T.fd_Plan_add ["self", "row", "behind", "guard"] (spAdd K n)) : FnOk P w K mg base CX0 (k + 1) (He.fAd K ("Plan", some "_lay")) T.fd_Plan_lay ["self", "rows", "behind", "guard"] (spLay K n) := by
  refine T.F_Plan_lay.ok sc_Plan_lay (fun vs H Q E h => ?_) (fun cdv A outer s H vs Q E hr h => ?_)
  · obtain ⟨o, S, m, v, r, b, g, rfl, _⟩ := h
    rfl
  · obtain ⟨o, S, m, v, rs, b, g, rfl, hS, hw, hs, hd, hm, kQ⟩ := h
    refine ⟨_, PSs.nox (pss_cons (ps_asg (pe_callB call_lenQ (by rfl) T.n_len PySem.boot_len (pa_cons (pe_fld (pv 0) rfl) pa_nil)) (pg_name (i := 4) sc_Plan_lay.nd rfl (by first | exact Or.inl rfl | exact Or.inr rfl)))
  (pss_one (ps_for PassesOwn.never rfl (pi_enumX (by rfl) T.n_enumerate (pa_cons (pv 1) pa_nil)) (pg_seq (by rfl) (pgs_cons (pg_name (i := 5) sc_Plan_lay.nd rfl (by first | exact Or.inl rfl | exact Or.inr rfl)) (pgs_cons (pg_name (i := 6) sc_Plan_lay.nd rfl (by first | exact Or.inl rfl | exact Or.inr rfl)) pgs_nil)))
   (pss_cons (ps_asg (pe_op op_add (pv 4) (pe_call (ok_sizes T D n (by omega)).2 (hr.mono hk) rfl T.g_size T.F_size.kp T.b_size .nil pass0 (pa_cons (pe_lst (pa_cons (pv 6) pa_nil)) pa_nil))) (pg_name (i := 4) sc_Plan_lay.nd rfl (by first | exact Or.inl rfl | exact Or.inr rfl)))
  (pss_one (ps_expr (pe_meth (pv 0) T.c_Plan T.m_Plan_add F0 hr T.b_Plan_add .nil pass0 (pa_cons (pv 6) (pa_cons (pe_ifExp (pt_cmpR op_eq (pv 5) (pe_op op_sub (pe_callB call_lenQ (by rfl) T.n_len PySem.boot_len (pa_cons (pv 1) pa_nil)) pe_int) (nomark _)) (pv 2) (pv 4)) (pa_cons (pv 3) pa_nil)))))))))), ?_⟩
    wtm_at "k"
    have c1 := T.c_Plan
    have c2 := T.a_Plan_flat
    obtain ⟨a, us, rfl, hraw, hu, hz⟩ := rs_tup hw
    have hq : SqX K H a us := sqX_of (.inr hraw)
    have haS : a ∉ S := hS.nin hraw
    obtain ⟨dx, fs, fl, bh, fi, gd, rfl, f0, f1, f2, f3, f4, f5, f6⟩ := hS.ex
    obtain ⟨x1, e1, z1⟩ := hS.ls fl (by simp)
    have q1 : SqX K H fl x1 := .inl (SqL.of e1)
    wtm_at "rd"
    refine Rd.forEnX hq (fun i σ' H' => (∃ (z : Int) (v5 v6 : Option V), σ' = [some (.ref o), some (.ref a), some (.int b), some (.int g), some (.int z), v5, v6]) ∧ Kp [fl, bh, fi, gd] H H' ∧ Kt H H' ∧ PlSt K H' o [fl, bh, fi, gd] (m + 4 * sizeR (rs.take i))) ⟨⟨_, _, _, rfl⟩, Kp.refl _, fun _ _ e => e, by rw [List.take_zero, sizeR]; exact hS⟩ (fun i σ' H' _ h => ⟨_, haS, h.2.1⟩) ?_ ?_
    · rintro i x σ' H1 U hi ⟨⟨z, v5, v6, rfl⟩, k1, t1, hS1⟩ ex hU
      clear q1 e1 z1 f0 f1 f2 f3 f4 f5 f6
      obtain ⟨r, er, hx⟩ := hu.at_ ex
      have mr := List.mem_of_getElem? er
      have hsr := shpR_mem hs mr
      have hdr := Nat.le_trans (depR_mem mr) hd
      have esz : sizeR (rs.take (i + 1)) = sizeR (rs.take i) + r.size := by rw [take_snoc er, sizeR_app, sizeR, sizeR, Nat.add_zero]
      have esz2 : sizeR rs = sizeR (rs.take i) + (r.size + sizeR (rs.drop (i + 1))) := by
        conv => lhs; rw [take_split er, sizeR_app, sizeR]
      have kU : Kp [] H1 (upd H1 U (.tup [.int (i : Nat), x])) := kp_new hU
      have hU2 : upd H1 U (HO.tup [.int (i : Nat), x]) U = some (.tup [.int (i : Nat), x]) := upd_same
      generalize upd H1 U (HO.tup [.int (i : Nat), x]) = H2 at kU hU2
      refine Rd.gseqX (.inr (SqT.of hU2)) rfl ?_
      have k2 := kpT k1 (kp_nil kU)
      have t2 := ktT t1 (Kt.of kU)
      have hS2 := hS1.kp kU
      clear hS1 hU2
      have s0 : Stt H2 [] [] H2 := Stt.nil
      wtm_at "rd"
      rename_i p H3 hp s1
      clear s0
      have hx3 := (RwA.kt t2 hx).kp s1.keep
      refine ⟨.ref p, [r], rfl, .mk (.inl (s1.get (by wtm_at "mem"))) (by simp) (.cons hx3.any .nil), ?_, ?_, fun H4 k4 => ?_⟩
      · rw [shpR, shpR]
        exact ⟨hsr, trivial⟩
      · rw [depR, depR]
        omega
      have k34 := kpT s1.keep k4
      have hS4 := hS2.kp k34
      have hq4 : SqX K H4 a us := sqX_of (.inr (k34.get List.not_mem_nil (t2 _ _ hraw)))
      have hx4 := hx3.kp k4
      clear s1 hx3 hp
      obtain ⟨dx, fs, fl', bh', fi', gd', e, f0, f1, f2, f3, f4, f5, f6⟩ := hS4.ex
      cases e
      have hx5 : ∀ (d : Int) (H' : Hp), Kp [fl, bh, fi, gd] H4 H' → Kt H4 H' → PlSt K H' o [fl, bh, fi, gd] (m + 4 * sizeR (rs.take i) + 4 * r.size) → Kp [fl, bh, fi, gd] H H' ∧ Kt H H' ∧ PlSt K H' o [fl, bh, fi, gd] (m + 4 * sizeR (rs.take (i + 1))) := fun d H' k5 t5 h5 => ⟨kpT k2 (kpT (kp_nil k34) k5), ktT t2 (ktT (Kt.of k34) t5), by rw [esz, Nat.mul_add, ← Nat.add_assoc]; exact h5⟩
      wtm_at "rd"
      refine methX f0 f6 ?_
      wtm_at "rd"
      refine Rd.brD (fun g1 => ?_) (fun g1 => ?_)
      · wtm_at "rd"
        exact ⟨o, _, m + 4 * sizeR (rs.take i), x, r, _, _, rfl, hS4, hx4, hsr, hdr, by omega, fun H5 k5 t5 h5 => ⟨⟨_, _, _, rfl⟩, hx5 0 H5 k5 t5 h5⟩⟩
      · wtm_at "rd"
        exact ⟨o, _, m + 4 * sizeR (rs.take i), x, r, _, _, rfl, hS4, hx4, hsr, hdr, by omega, fun H5 k5 t5 h5 => ⟨⟨_, _, _, rfl⟩, hx5 0 H5 k5 t5 h5⟩⟩
    · rintro σ' H3 ⟨_, k3, t3, hS3⟩
      rw [hu.len, List.take_length] at hS3
      exact kQ H3 k3 t3 hS3
theorem ok_lays (T : Txt K mg) (D : TxtD K w) : ∀ n, n ≤ 19 → FnOk P w K mg base CX0 (2 * n + 5) (He.fAd K ("Plan", some "_add")) T.fd_Plan_add ["self", "row", "behind", "guard"] (spAdd K n) ∧ FnOk P w K mg base CX0 (2 * n + 6) (He.fAd K ("Plan", some "_lay")) T.fd_Plan_lay ["self", "rows", "behind", "guard"] (spLay K n)
  | 0, _ => by
    have F := add_body (base := base) (P := P) (w := w) T D 0 4 (by omega) (by omega) _ fnok_false fun vs H Q E ⟨m, h, _⟩ => by omega
    exact ⟨F, lay_body T D 0 5 (by omega) (by omega) F⟩
  | n + 1, hn => by
    have F := add_body (base := base) (P := P) (w := w) T D (n + 1) (2 * n + 6) (by omega) (by omega) _ (ok_lays T D n (by omega)).2 fun vs H Q E ⟨m, h1, h2⟩ => by
      cases h1
      exact h2
    exact ⟨F, lay_body T D (n + 1) (2 * n + 7) (by omega) (by omega) F⟩
end

section
variable {P : Program} {w : World} {K : PySem.W.Frag} {mg : Str → Option Value} {base : Heap}
/-! ### plans made -/
structure PlAt (K : PySem.W.Frag) (H : Hp) (o : Addr) (nm : Str) (v : V) (z : Int) : Prop where
  ex : ∃ dx fs, H o = some (.ins (He.ga K "Plan") dx fs) ∧ fs.lookup ("name" : Str) = some (V.str nm) ∧ fs.lookup ("rows" : Str) = some v ∧ fs.lookup ("end" : Str) = some (V.int z)
theorem PlAt.kp {H H' : Hp} {o : Addr} {nm : Str} {v : V} {z : Int} (k : Kp [] H H') (h : PlAt K H o nm v z) : PlAt K H' o nm v z := by
  obtain ⟨dx, fs, h0, h1⟩ := h.ex
  exact ⟨dx, fs, k.get List.not_mem_nil h0, h1⟩
theorem PlSt.nin' {H : Hp} {o a : Addr} {S : List Addr} {n : Nat} {u : HO} (h : PlSt K H o S n) (e : H a = some u) (ne : ∀ xs, u ≠ .lst xs) : a ∉ S := fun m => by
  obtain ⟨xs, ex, _⟩ := h.ls a m
  rw [e] at ex
  cases ex
  exact ne _ rfl
theorem Kt.of1 {H H' : Hp} {o : Addr} {C dx : Addr} {fs : List (Str × V)} (k : Kp [o] H H') (h : H o = some (.ins C dx fs)) : Kt H H' := fun b xs e => by
  rcases k b _ e with q | ⟨m, _⟩
  · exact q
  · rw [List.mem_singleton.mp m, h] at e; cases e
def spPlI (K : PySem.W.Frag) : Sp := fun vs H Q _ => ∃ (o dx : Addr) (nm : Str) (v : V) (rs : List LRow), vs = [.ref o, .str nm, v] ∧ H o = some (.ins (He.ga K "Plan") dx []) ∧ RsA .tup H v rs ∧ shpR rs ∧ depR rs ≤ 5 ∧ sizeR rs ≤ 1000 ∧ ∀ H', Kp [o] H H' → PlAt K H' o nm v (sizeR rs : Nat) → Q .non H'
theorem ok_Plan_init (T : Txt K mg) (D : TxtD K w) : FnOk P w K mg base CX0 17 (He.fAd K ("Plan", some "__init__")) T.fd_Plan_init ["self", "name", "rows"] (spPlI K) := by
  refine T.F_Plan_init.ok sc_Plan_init (fun vs H Q E h => ?_) (fun cdv A outer s H vs Q E hr h => ?_)
  · obtain ⟨o, dx, nm, v, rs, rfl, _⟩ := h
    rfl
  · obtain ⟨o, dx, nm, v, rs, rfl, h0, hw, hs, hd, hz, k⟩ := h
    refine ⟨_, PSs.nox (pss_cons (ps_fld (pv 0) (pv 1) rfl)
  (pss_cons (ps_fld (pv 0) (pv 2) rfl)
  (C8.pss_cut (ps_fld (pv 0) (pe_call (ok_sizes T D 5 (by decide)).2 (hr.mono (by decide)) rfl T.g_size T.F_size.kp T.b_size .nil pass0 (pa_cons (pv 2) pa_nil)) rfl)
  (pss_cons (ps_fld (pv 0) (pe_lst pa_nil) rfl)
  (pss_cons (ps_fld (pv 0) (pe_lst pa_nil) rfl)
  (pss_cons (ps_fld (pv 0) (pe_lst pa_nil) rfl)
  (C8.pss_cut (ps_fld (pv 0) (pe_lst pa_nil) rfl)
  (C8.pss_cut (ps_expr (pe_meth (pv 0) T.c_Plan T.m_Plan_lay (ok_lays T D 5 (by decide)).2 (hr.mono (by decide)) T.b_Plan_lay .nil pass0 (pa_cons (pv 2) (pa_cons (pe_fld (pv 0) rfl) (pa_cons (Lt.pe_globI rfl T.g_UNGUARDED) pa_nil)))))
  (pss_one (ps_expr (pe_bm PySem.F.plainAttrs_list PySem.F.slot_list_append PySem.F.type_list_append mt_append (pe_fld (pv 0) rfl) (pa_cons (Lt.pe_globI rfl T.g_UNGUARDED) pa_nil)))))))))))), ?_⟩
    wtm_at "k"
    have s0 : Stt H [o] [(o, Is (.ins (He.ga K "Plan") dx []))] H := ⟨.refl H, by simp, fun e m => by rw [List.mem_singleton.mp m]; exact ⟨_, h0, rfl⟩⟩
    have c1 := T.c_Plan
    have c2 := T.a_Plan_flat
    have c3 := T.a_Plan_behinds
    have c4 := T.a_Plan_firsts
    have c5 := T.a_Plan_guards
    have c6 := T.a_Plan_name
    have c7 := T.a_Plan_rows
    have c8 := T.a_Plan_end
    wtm_at "rd"
    rename_i H1 s1
    clear s0
    refine Rd.cut (fun σ' H' => σ' = [some (.ref o), some (.str nm), some v] ∧ Stt H [o] [(o, Is (.ins (He.ga K "Plan") dx (putF "end" (.int (sizeR rs : Nat)) (putF "rows" v (putF "name" (.str nm) [])))))] H') ?_ ?_
    · wtm_at "rd"
      refine ⟨v, rs, rfl, RsA.any (RsA.kt (Kt.of1 s1.keep h0) hw), hs, hd, fun H2 k2 => ?_⟩
      have s2 := s1.after0 k2
      clear s1
      wtm_at "rd"
      rename_i H3 s3
      exact ⟨rfl, s3⟩
    clear s1
    rintro σ' H1 ⟨rfl, s1⟩
    wtm_at "rd"
    rename_i fl Ha n1 sa Hb sb bh Hc n2 sc Hd sd fi He' n3 se Hf sf
    clear s1 sa sb sc sd se
    refine Rd.cut (fun σ' H' => σ' = [some (.ref o), some (.str nm), some v] ∧ Kp [o] H H' ∧ ∃ fs fl bh fi gd, H' o = some (.ins (He.ga K "Plan") dx fs) ∧ fs.lookup ("name" : Str) = some (V.str nm) ∧ fs.lookup ("rows" : Str) = some v ∧ fs.lookup ("end" : Str) = some (V.int (sizeR rs : Nat)) ∧ fs.lookup ("guards" : Str) = some (V.ref gd) ∧ fs.lookup ("_lay" : Str) = none ∧ PlSt K H' o [fl, bh, fi, gd] 0 ∧ ∀ x ∈ [fl, bh, fi, gd], H x = none) ?_ ?_
    · wtm_at "rd"
      rename_i gd Hg n4 sg Hh sh
      have ho := sh.get (a := o) (by wtm_at "mem")
      have h1 := sh.get (a := fl) (by wtm_at "mem")
      have h2 := sh.get (a := bh) (by wtm_at "mem")
      have h3 := sh.get (a := fi) (by wtm_at "mem")
      have h4 := sh.get (a := gd) (by wtm_at "mem")
      refine ⟨rfl, sh.keep, _, fl, bh, fi, gd, ho, ?_, ?_, ?_, ?_, ?_, ⟨⟨dx, _, fl, bh, fi, gd, rfl, ho, ?_, ?_, ?_, ?_, ?_, ?_⟩, ?_⟩, ?_⟩
      · exact lk_ne (by decide +kernel) (lk_ne (by decide +kernel) (lk_ne (by decide +kernel) (lk_ne (by decide +kernel) (lk_ne (by decide +kernel) (lk_ne (by decide +kernel) lk_same)))))
      · exact lk_ne (by decide +kernel) (lk_ne (by decide +kernel) (lk_ne (by decide +kernel) (lk_ne (by decide +kernel) (lk_ne (by decide +kernel) lk_same))))
      · exact lk_ne (by decide +kernel) (lk_ne (by decide +kernel) (lk_ne (by decide +kernel) (lk_ne (by decide +kernel) lk_same)))
      · exact lk_same
      · exact lk_ne (by decide +kernel) (lk_ne (by decide +kernel) (lk_ne (by decide +kernel) (lk_ne (by decide +kernel) (lk_ne (by decide +kernel) (lk_ne (by decide +kernel) (lk_ne (by decide +kernel) rfl))))))
      · exact lk_ne (by decide +kernel) (lk_ne (by decide +kernel) (lk_ne (by decide +kernel) lk_same))
      · exact lk_ne (by decide +kernel) (lk_ne (by decide +kernel) lk_same)
      · exact lk_ne (by decide +kernel) lk_same
      · exact lk_same
      · exact lk_ne (by decide +kernel) (lk_ne (by decide +kernel) (lk_ne (by decide +kernel) (lk_ne (by decide +kernel) (lk_ne (by decide +kernel) (lk_ne (by decide +kernel) (lk_ne (by decide +kernel) rfl))))))
      · exact lk_ne (by decide +kernel) (lk_ne (by decide +kernel) (lk_ne (by decide +kernel) (lk_ne (by decide +kernel) (lk_ne (by decide +kernel) (lk_ne (by decide +kernel) (lk_ne (by decide +kernel) rfl))))))
      · intro x m
        simp only [List.mem_cons, List.not_mem_nil, or_false] at m
        rcases m with rfl | rfl | rfl | rfl
        · exact ⟨[], h1, Nat.le_refl _⟩
        · exact ⟨[], h2, Nat.le_refl _⟩
        · exact ⟨[], h3, Nat.le_refl _⟩
        · exact ⟨[], h4, Nat.le_refl _⟩
      · intro x m
        simp only [List.mem_cons, List.not_mem_nil, or_false] at m
        rcases m with rfl | rfl | rfl | rfl <;> assumption
    clear sf
    rintro σ' H2 ⟨rfl, k2, fs, fl, bh, fi, gd, g0, g1, g2, g3, g4, g5, hS, hN⟩
    refine Rd.cut (fun σ' H' => σ' = [some (.ref o), some (.str nm), some v] ∧ Kp [o] H H' ∧ PlSt K H' o [fl, bh, fi, gd] (4 * sizeR rs) ∧ H' o = some (.ins (He.ga K "Plan") dx fs)) ?_ ?_
    · wtm_at "rd"
      refine methX g0 g5 ?_
      wtm_at "rd"
      refine ⟨o, _, 0, v, rs, _, _, rfl, hS, RsA.kt (Kt.of1 k2 h0) hw, hs, hd, by omega, fun H3 k3 t3 hS3 => ⟨rfl, k2.trans k3 fun y m => .inr (hN y m), by rw [Nat.zero_add] at hS3; exact hS3, ?_⟩⟩
      exact k3.get (hS.nin' g0 (fun _ q => nomatch q)) g0
    · rintro σ' H3 ⟨rfl, k3, hS3, e3⟩
      obtain ⟨xs, ex, hl⟩ := hS3.ls gd (by simp)
      wtm_at "rd"
      refine bmX ex ?_
      wtm_at "rd"
      refine apX hS3 (by simp) ex (by omega) fun H4 hS4 k4 t4 => ?_
      refine k H4 (k3.trans k4 fun y m => .inr (hN y m)) ⟨dx, fs, k4.get (hS3.nin' e3 (fun _ q => nomatch q)) e3, g1, g2, g3⟩
end

section
variable {X : Cx} {CX : CXT} {k n : Nat} {f C : Addr} {fd : FuncData} {ps ks : List Str} {sp : Sp} {E : XK} {x : Str} {p pos : Pos} {e : Expr} {es : List Expr} {kws : List Keyword} {t tk : TA} {gV : List V → List V → List V}
/-- C(e, .., k = v, ..) -/
theorem pe_makeKX (M : Mk X.K C f) (F : FnOk X.prog X.w X.K X.mg X.base CX k f fd ps sp) (hr : Room (k + 1) X.A) (hg : Gl X x) (hm : X.mg x = some (.ref C)) (hb : ∃ g, KBn X.K fd ps (n + 1) ks g gV) (hx : Passes CX X E) (ha : PA X (e :: es) t) (hkw : PK X kws tk)
    (hall : (backToKw pos (keywordEach kws X.env)).all (·.1.isSome) = true := by rfl) (hks : (backToKw pos (keywordEach kws X.env)).filterMap (·.1) = ks := by rfl) (hdb : (x == ("__debug__" : Str)) = false := by decide)
    (he : starEach (e :: es) X.env = (false, eval e X.env) :: starEach es X.env := by rfl) (hpl : ((backTo pos (starEach (e :: es) X.env)).any (·.1) || (backToKw pos (keywordEach kws X.env)).any (·.1.isNone)) = false := by rfl) :
    PE X (.Call (.Name x p) (e :: es) kws pos) (tMakeK C n ks.length sp gV E t tk) := by
  obtain ⟨g, hb⟩ := hb
  exact pe_makeK M F hr hg hm hb hx ha hkw hall hks hdb he hpl
end
section
variable {P : Program} {w : World} {K : PySem.W.Frag} {mg : Str → Option Value} {base : Heap}
/-! ### programs made -/
theorem kb_Program_init_late (T : Txt K mg) : ∃ g, KBn K T.fd_Program_init ["self", "tasks", "counters", "late"] 3 ["late"] g (fun vs zs => vs ++ zs) := by
  obtain ⟨its, h⟩ := FunD.kbindsD (ps := ["self", "tasks", "counters", "late"]) T.F_Program_init 3 ["late"] (fun us _ zs => us ++ zs) (fun z => by cases z) (fun r1 _ r3 => r1.append r3) (fun T kV doc pm an cdv ct us its ws hu hi hw => match us, hu, its, hi, ws, hw with | [_, _, _], _, [_], _, [_], _ => ⟨_, rfl, rfl⟩)
  exact ⟨_, h⟩
theorem depT_app : ∀ {a b : List Tr}, depT (a ++ b) = max (depT a) (depT b)
  | [], b => by rw [List.nil_append, depT, Nat.zero_max]
  | x :: r, b => by rw [List.cons_append, depT, depT, depT_app, Nat.max_assoc]
theorem depT_atm : ∀ {as : List V}, depT (as.map Tr.atm) = 0
  | [] => rfl
  | x :: r => by rw [List.map_cons, depT, depT_atm, Tr.dep]; rfl
mutual
theorem tr_dep : ∀ r : LRow, r.tr.dep ≤ 2 * r.dep + 1
  | .mk n as ps => by
    have := trP_dep ps
    rw [LRow.tr, Tr.dep, depT, Tr.dep, depT_app, depT_atm, LRow.dep]
    omega
theorem trP_dep : ∀ ps : List (List LRow), depT (trP ps) ≤ 2 * depP ps
  | [] => by rw [trP, depT]; exact Nat.zero_le _
  | p :: r => by
    have := trR_dep p
    have := trP_dep r
    rw [trP, depT, Tr.dep, depP]
    omega
theorem trR_dep : ∀ rs : List LRow, depT (trR rs) ≤ 2 * depR rs + 1
  | [] => by rw [trR, depT]; exact Nat.zero_le _
  | x :: r => by
    have := tr_dep x
    have := trR_dep r
    rw [trR, depT, depR]
    omega
end
/-- all but lists stays -/
def Kn (H H' : Hp) : Prop := ∀ b u, H b = some u → (∀ xs, u ≠ .lst xs) → H' b = some u
theorem Kn.kp {H H' : Hp} (k : Kp [] H H') : Kn H H' := fun _ _ e _ => k.get List.not_mem_nil e
theorem Kn.updL {H : Hp} {D : Addr} {xs ys : List V} (e : H D = some (.lst xs)) : Kn H (upd H D (.lst ys)) := fun b u eb ne => by
  rw [upd_ne (fun q => by rw [q, e] at eb; cases eb; exact ne _ rfl)]
  exact eb
theorem Kn.kt {H H' : Hp} (k : Kn H H') : Kt H H' := fun b xs e => k b _ e fun _ q => nomatch q
theorem PlAt.kn {H H' : Hp} {o : Addr} {nm : Str} {v : V} {z : Int} (k : Kn H H') (h : PlAt K H o nm v z) : PlAt K H' o nm v z := by
  obtain ⟨dx, fs, h0, h1⟩ := h.ex
  exact ⟨dx, fs, k _ _ h0 (fun _ q => nomatch q), h1⟩
theorem SqX.of1 {H H' : Hp} {o a C dx : Addr} {fs : List (Str × V)} {xs : List V} (k : Kp [o] H H') (h0 : H o = some (.ins C dx fs)) (h : SqX K H a xs) : SqX K H' a xs := by
  have g : ∀ {b : Addr} {u : HO}, H b = some u → (∀ C dx fs, u ≠ .ins C dx fs) → H' b = some u := fun e ne => k.get (fun m => by rw [List.mem_singleton.mp m, h0] at e; cases e; exact ne _ _ _ rfl) e
  rcases h with ((h | ⟨u, h⟩) | h) | ((h | ⟨u, h⟩) | h)
  · exact .inl (.inl (.inl (g h fun _ _ _ q => nomatch q)))
  · exact .inl (.inl (.inr ⟨u, g h fun _ _ _ q => nomatch q⟩))
  · exact .inl (.inr h)
  · exact .inr (.inl (.inl (g h fun _ _ _ q => nomatch q)))
  · exact .inr (.inl (.inr ⟨u, g h fun _ _ _ q => nomatch q⟩))
  · exact .inr (.inr h)
structure PlnAt (K : PySem.W.Frag) (H : Hp) (v : V) (t : Tsk) : Prop where
  ex : ∃ q r, v = .ref q ∧ PlAt K H q t.1 r (sizeR t.2 : Nat) ∧ RsA .tup H r t.2
theorem PlnAt.kn {H H' : Hp} {v : V} {t : Tsk} (k : Kn H H') (h : PlnAt K H v t) : PlnAt K H' v t := by
  obtain ⟨q, r, e, h1, h2⟩ := h.ex
  exact ⟨q, r, e, h1.kn k, RsA.kt k.kt h2⟩
theorem CtA.of1 {H H' : Hp} {o C dx : Addr} {fs : List (Str × V)} {v : V} {t : Ctr} (k : Kp [o] H H') (h0 : H o = some (.ins C dx fs)) (h : CtA K H v t) : CtA K H' v t := by
  obtain ⟨a, h1, h2⟩ := h.ex
  exact ⟨a, h1, SqX.of1 k h0 h2⟩
def ctTr (c : Ctr) : Tr := .sq [.atm (.str c.1), .atm (.int c.2.1), .atm (.int c.2.2)]
/-- the methods that are called on an instance: none of them is a field -/
def progMs : List Str := ["names", "counters", "text", "_plan", "_plan_with", "row", "with_row", "with_late"]
structure PgAt (K : PySem.W.Frag) (H : Hp) (o : Addr) (ts : List Tsk) (cs : List Ctr) (lt : Int) : Prop where
  ex : ∃ dx fs pl ps ct, H o = some (.ins (He.ga K "Program") dx fs) ∧ fs.lookup ("late" : Str) = some (V.int lt) ∧ fs.lookup ("plans" : Str) = some (V.ref pl) ∧ fs.lookup ("_counters" : Str) = some ct ∧ H pl = some (.tup ps) ∧ All2 (PlnAt K H) ps ts ∧ TrT H ct (.sq (cs.map ctTr)) ∧ fs.lookup ("slower" : Str) = none ∧ fs.lookup ("_whole" : Str) = none ∧ ∀ f ∈ progMs, fs.lookup f = none
theorem PgAt.kn {H H' : Hp} {o : Addr} {ts : List Tsk} {cs : List Ctr} {lt : Int} (k : Kn H H') (h : PgAt K H o ts cs lt) : PgAt K H' o ts cs lt := by
  obtain ⟨dx, fs, pl, ps, ct, h0, h1, h2, h3, h4, h5, h6, h7⟩ := h.ex
  exact ⟨dx, fs, pl, ps, ct, k _ _ h0 (fun _ q => nomatch q), h1, h2, h3, k _ _ h4 (fun _ q => nomatch q), h5.imp fun _ _ h => h.kn k, h6.ext (fun b xs e => k b _ e fun _ q => nomatch q), h7⟩
theorem mk_plan {nm : Str} {v : V} {rs : List LRow} {H : Hp} {Q : VK} {E : XK} (hw : RsA .tup H v rs) (hs : shpR rs) (hd : depR rs ≤ 5) (hz : sizeR rs ≤ 1000) (k : ∀ x H', H x = none → Kp [] H H' → PlAt K H' x nm v (sizeR rs : Nat) → Q (.ref x) H') : Rd.Make (He.ga K "Plan") (spPlI K) [] E [.str nm, v] H Q := by
  intro x dx hx hdx ne
  have hx' : upd H dx (HO.own x) x = none := by rw [upd_ne (Ne.symm ne)]; exact hx
  have k2 : Kp [] H (upd (upd H dx (.own x)) x (.ins (He.ga K "Plan") dx [])) := (kp_new hdx).trans (kp_new hx') fun _ h => nomatch h
  exact ⟨x, dx, nm, v, rs, rfl, upd_same, hw.kp k2, hs, hd, hz, fun H' k3 hR => ⟨rfl, k x H' hx (k2.trans k3 fun y m => .inr (by rw [List.mem_singleton.mp m]; exact hx)) hR⟩⟩
theorem ct_trX {H : Hp} : ∀ {ws : List V} {cs : List Ctr}, All2 (CtA K H) ws cs → TrXs K H ws (cs.map ctTr)
  | _, _, .nil => .nil
  | _, _, .cons h t => .cons (by
    obtain ⟨a, rfl, hq⟩ := h.ex
    exact .sq hq (by simp) (.cons (.atm (.inr ⟨_, rfl⟩)) (.cons (.atm (.inl ⟨_, rfl⟩)) (.cons (.atm (.inl ⟨_, rfl⟩)) .nil)))) (ct_trX t)
theorem ct_dep : ∀ {cs : List Ctr}, depT (cs.map ctTr) ≤ 1
  | [] => by decide
  | c :: r => by
    have := ct_dep (cs := r)
    rw [List.map_cons, depT, ctTr, Tr.dep, depT, depT, depT, depT, Tr.dep, Tr.dep, Tr.dep]
    omega
theorem PlnAt.updO {H : Hp} {o : Addr} {v : V} {t : Tsk} {C dx : Addr} {fs : List (Str × V)} {u : HO} (e : H o = some (.ins C dx fs)) (ne : fs.lookup ("name" : Str) = none) (h : PlnAt K H v t) : PlnAt K (upd H o u) v t := by
  obtain ⟨q, r, e1, ⟨dx', fs', h0, h1, h2⟩, h3⟩ := h.ex
  refine ⟨q, r, e1, ⟨dx', fs', ?_, h1, h2⟩, RsA.kt (fun b xs eb => ?_) h3⟩
  · rw [upd_ne (fun z => by rw [z, e] at h0; cases h0; rw [ne] at h1; cases h1)]
    exact h0
  · rw [upd_ne (fun z => by rw [z, e] at eb; cases eb)]
    exact eb
def spPgIO (K : PySem.W.Frag) : Sp := fun vs H Q E => ∃ (o dx : Addr) (vt vc vl : V) (ot oc ol : Ob), vs = [.ref o, vt, vc, vl] ∧ H o = some (.ins (He.ga K "Program") dx []) ∧ vt ≠ .ref o ∧ ObA H vt ot ∧ ObA H vc oc ∧ ObA H vl ol ∧ (∀ x ∈ obItems ot, (obRows x).dep ≤ 12) ∧
  (dueO ot oc ol = .made → ∀ lt, ol = .num lt → ∀ H', Kp [o] H H' → PgAt K H' o (tsO ot) (csO oc) lt → Q .non H') ∧
  (∀ cls d H', DueX K vl H (dueO ot oc ol) cls d H' → E cls d H')
theorem ok_Program_initO (T : Txt K mg) (D : TxtD K w) : FnOk P w K mg base (L2.CX P w) 20 (He.fAd K ("Program", some "__init__")) T.fd_Program_init ["self", "tasks", "counters", "late"] (spPgIO K) := by
  refine T.F_Program_init.ok sc_Program_init (fun vs H Q E h => ?_) (fun cdv A outer s H vs Q E hr h => ?_)
  · obtain ⟨o, dx, vt, vc, vl, ot, oc, ol, rfl, _⟩ := h
    rfl
  · obtain ⟨o, dx, vt, vc, vl, ot, oc, ol, rfl, h0, ha0, hot, hoc, hol, hdep, kQ, kE⟩ := h
    refine ⟨_, (C8.pss_cut (ps_expr (pe_call (ok_check_programO T D) (hr.mono (by decide)) rfl T.g_check_program T.F_check_program.kp T.b_check_program .nil (passes_call (takes_of rfl rfl rfl rfl) (fun _ _ _ _ h => h)) (pa_cons (pv 1) (pa_cons (pv 2) (pa_cons (pv 3) pa_nil)))))
  (pss_cons (ps_fld (pv 0) (pv 3) rfl)
  (C8.pss_cut (ps_fld (pv 0) (pe_callTy call_tuple_of (by rfl) T.n_tuple (by decide +kernel) (pa_cons (pe_lc (own := [("name", 4), ("rows", 5)]) (g := gSeq K 2 (gCons (gName 4) (gCons (gName 5) (gNil)))) (tt := tYes) (by rfl) sc_Program_init.nd (pi_seq (pv 1)) (blkOk_by (own := [("name", 4), ("rows", 5)]) (N := ["self", "tasks", "counters", "late", "name", "rows"]) (sc := defScope s_Program_init) (by decide +kernel)) (fun _ _ _ _ _ => (pg_seq (by rfl) (pgs_cons (pg_name (i := 4) sc_Program_init.nd rfl (by first | exact Or.inl rfl | exact Or.inr rfl)) (pgs_cons (pg_name (i := 5) sc_Program_init.nd rfl (by first | exact Or.inl rfl | exact Or.inr rfl)) pgs_nil)))) (fun _ _ _ _ _ => pts_nil) (fun _ _ _ _ _ => (pe_make T.k_Plan (ok_Plan_init T D) (hr.mono (by decide)) rfl T.g_Plan T.b_Plan_init .nil pass0 (pa_cons (pv 4) (pa_cons (pe_call (ok_frozen T 11 (by decide)) (hr.mono (by decide)) rfl T.g_frozen T.F_frozen.kp T.b_frozen .nil pass0 (pa_cons (pv 5) pa_nil)) pa_nil))))) pa_nil)) rfl)
  (pss_one (ps_fld (pv 0) (pe_call (ok_frozen T 11 (by decide)) (hr.mono (by decide)) rfl T.g_frozen T.F_frozen.kp T.b_frozen .nil pass0 (pa_cons (pv 2) pa_nil)) rfl))))), ?_⟩
    wtm_at "k"
    have c1 := T.c_Program
    have c2 := T.a_Program_late
    have c3 := T.a_Program_plans
    have c4 := T.a_Program_counters
    refine Rd.cut (fun σ' H' => σ' = [some (.ref o), some vt, some vc, some vl, none, none] ∧ Kp [] H H' ∧ dueO ot oc ol = .made) ?_ ?_
    · wtm_at "rd"
      exact ⟨vt, vc, vl, ot, oc, ol, rfl, hot, hoc, hol, hdep, fun e H1 k1 => ⟨rfl, k1, e⟩, kE⟩
    rintro σ' H1 ⟨rfl, k1, edue⟩
    obtain ⟨a, us, b, ws, lt, M⟩ := made_ok (K := K) hot hoc hol hdep edue
    obtain ⟨rfl, rfl, rfl, eol, hq, hu, hq2, hw, hP, e2, e1⟩ := M
    have hao : a ∉ [o] := fun m => ha0 (by rw [List.mem_singleton.mp m])
    have kQ' : ∀ H', Kp [o] H H' → PgAt K H' o (tsO ot) (csO oc) lt → Q .non H' := kQ edue lt eol
    clear kQ kE hot hoc hol
    generalize tsO ot = ts at hu hP e2 kQ'
    generalize csO oc = cs at hw hP kQ'
    have s1 : Stt H [o] [(o, Is (.ins (He.ga K "Program") dx []))] H1 := ⟨kp_nil k1, by simp, fun e m => by rw [List.mem_singleton.mp m]; exact ⟨_, k1.get List.not_mem_nil h0, rfl⟩⟩
    wtm_at "rd"
    rename_i H2 s2
    clear s1
    have hk2 := s2.keep
    refine Rd.cut (fun σ' H' => σ' = [some (.ref o), some (.ref a), some (.ref b), some (.int lt), none, none] ∧ ∃ pl ps, Stt H [o] [(pl, Is (.tup ps)), (o, Is (.ins (He.ga K "Program") dx (putF "plans" (.ref pl) (putF "late" (.int lt) []))))] H' ∧ All2 (PlnAt K H') ps ts) ?_ ?_
    · wtm_at "rd"
      refine Rd.lcXH hq hao s2 (fun D i acc H1 => All2 (PlnAt K H1) acc (ts.take i)) (fun D hD => by rw [List.take_zero]; exact .nil) ?_ ?_
      · rintro D hD i x HA acc hi hg hac s3 ex
        obtain ⟨t, et, hx⟩ := hu.at_ ex
        have hT := hP.tk t (List.mem_of_getElem? et)
        have hul := hu.len
        have ht3 := hP.t3
        obtain ⟨d, r, rfl, hd, hr'⟩ := (hx.ks (Ks.of1 s3.keep h0)).ex
        refine Rd.gseqX (sqX_of hd) rfl ?_
        wtm_at "rd"
        obtain ⟨ra, ru, rfl, hrq, hru, hrz⟩ := rs_sq (K := K) hr'
        have hdp : depT (trR t.2) ≤ 11 := Nat.le_trans (trR_dep t.2) (by have := hT.dep; omega)
        refine ⟨ra, ru, _, rfl, hrq, RwAll.trX hru, by omega, hdp, fun p HB hp kB hTr => ?_⟩
        have s4 := s3.after0 kB
        wtm_at "rd"
        refine mk_plan (RsA.ofTr (RsA.nar hr') hTr) hT.shp hT.dep (Nat.le_trans hT.size (by decide)) fun x HC hx kC hpl => ?_
        have s5 := s4.after0 kC
        have kn := Kn.updL (ys := acc ++ [.ref x]) (s5.get (a := D) List.mem_cons_self)
        refine Rd.lcHE s5 hD (by omega) hac ?_
        rw [take_snoc et]
        exact (hg.imp fun _ _ h => h.kn (fun b u eb ne => kn b u (kC.get List.not_mem_nil (kB.get List.not_mem_nil eb)) ne)).app (.cons ⟨x, _, rfl, hpl.kn kn, RsA.kt kn.kt ((RsA.ofTr (RsA.nar hr') hTr).kp kC)⟩ .nil)
      · rintro D HA acc hD hD0 hac hg s3
        rw [hu.len, List.take_length] at hg
        wtm_at "rd"
        refine ⟨D, acc, rfl, .inl ⟨s3.sqL List.mem_cons_self, fun p hp => ?_⟩⟩
        have s4 := s3.new hp (.tup acc)
        have hg4 : All2 (PlnAt K (upd HA p (.tup acc))) acc ts := hg.imp fun _ _ h => h.kn (Kn.kp (kp_new hp))
        have s4' : Stt H [o] [(p, Is (.tup acc)), (D, Is (.lst acc)), (o, Is (.ins (He.ga K "Program") dx (putF "late" (.int lt) [])))] (upd HA p (.tup acc)) ∧ True := ⟨s4, trivial⟩
        clear s4 s3 s2
        wtm_at "rd"
        refine ⟨_, _, _, _, rfl, s4'.1.get (a := o) (by wtm_at "mem"), c1, c3, by wtm_at "plen", ?_⟩
        exact ⟨rfl, p, acc, (s4'.1.set (by wtm_at "put") (by wtm_at "own")).sub (by wtm_at "subl"), hg4.imp fun _ _ h => h.updO (s4'.1.get (a := o) (by wtm_at "mem")) (lk_ne (by decide +kernel) rfl)⟩
    · rintro σ' H3 ⟨rfl, pl, pls, s3, hg⟩
      clear s2
      wtm_at "rd"
      refine ⟨b, ws, _, rfl, SqX.of1 s3.keep h0 hq2, ct_trX (hw.imp fun _ _ h => CtA.of1 s3.keep h0 h), ?_, Nat.le_trans ct_dep (by decide), fun p HB hp kB hTr => ?_⟩
      · have := hw.len
        have := hP.c2
        omega
      have s4 := s3.after0 kB
      have hg4 := hg.imp fun _ _ h => h.kn (Kn.kp kB)
      have s4' : Stt H [o] [(pl, Is (.tup pls)), (o, Is (.ins (He.ga K "Program") dx (putF "plans" (.ref pl) (putF "late" (.int lt) []))))] HB ∧ True := ⟨s4, trivial⟩
      clear s4 s3
      wtm_at "rd"
      have ho := s4'.1.get (a := o) (by wtm_at "mem")
      refine ⟨_, _, _, _, rfl, ho, c1, c4, by wtm_at "plen", ?_⟩
      have s5 := s4'.1.set (a := o) (o := .ins (He.ga K "Program") dx (putF "_counters" (.ref p) (putF "plans" (.ref pl) (putF "late" (.int lt) [])))) (by wtm_at "put") (by wtm_at "own")
      refine kQ' _ s5.keep ⟨dx, _, pl, pls, .ref p, upd_same, ?_, ?_, ?_, ?_, hg4.imp fun _ _ h => h.updO ho (lk_ne (by decide +kernel) (lk_ne (by decide +kernel) rfl)), hTr.ext (fun b xs e => ?_), ?_, ?_, fun f m => ?_⟩
      · exact lk_ne (by decide +kernel) (lk_ne (by decide +kernel) lk_same)
      · exact lk_ne (by decide +kernel) lk_same
      · exact lk_same
      · exact s5.get (a := pl) (by wtm_at "mem")
      · rw [upd_ne (fun z => by rw [z, ho] at e; cases e)]
        exact e
      · exact lk_ne (by decide +kernel) (lk_ne (by decide +kernel) (lk_ne (by decide +kernel) rfl))
      · exact lk_ne (by decide +kernel) (lk_ne (by decide +kernel) (lk_ne (by decide +kernel) rfl))
      · have ne : ∀ f ∈ progMs, ((f == "_counters") = false ∧ (f == "plans") = false) ∧ (f == "late") = false := by decide +kernel
        exact lk_ne (ne f m).1.1 (lk_ne (ne f m).1.2 (lk_ne (ne f m).2 rfl))
theorem pe_fldK {X : Cx} {e : Expr} {ta : TE} {f : Str} {pos : Pos} (hK : X.K = K) (he : PE X e ta) (hb : attributeBase e f X.env (eval e X.env) = eval e X.env) : PE X (.Attribute e f pos) (tFld K ta f) := by
  rw [← hK]
  exact pe_fld he hb
structure TaskT (H : Hp) (v : V) (t : Tsk) : Prop where
  ex : ∃ a r, v = .ref a ∧ H a = some (.tup [.str t.1, r]) ∧ RsA .tup H r t.2
theorem TaskT.kn {H H' : Hp} {v : V} {t : Tsk} (k : Kn H H') (h : TaskT H v t) : TaskT H' v t := by
  obtain ⟨a, r, e, h1, h2⟩ := h.ex
  exact ⟨a, r, e, k _ _ h1 (fun _ q => nomatch q), RsA.kt k.kt h2⟩
theorem TaskT.any {H : Hp} {v : V} {t : Tsk} (h : TaskT H v t) : TaskA .any H v t := by
  obtain ⟨a, r, e, h1, h2⟩ := h.ex
  exact ⟨a, r, e, .inr h1, h2.any⟩
theorem trts_ct {H : Hp} : ∀ {cs : List Ctr} {ws : List V}, TrTs H ws (cs.map ctTr) → All2 (CtA K H) ws cs
  | [], _, h => by cases h; exact .nil
  | c :: r, _, h => by
    rw [List.map_cons] at h
    cases h with
    | cons h t =>
      refine .cons ?_ (trts_ct t)
      unfold ctTr at h
      cases h with
      | sq e hz q =>
        cases q with
        | cons q1 q =>
          cases q with
          | cons q2 q =>
            cases q with
            | cons q3 q =>
              cases q
              cases q1
              cases q2
              cases q3
              exact ⟨_, rfl, .inr (SqT.of e)⟩
end

section
variable {X : Cx}
def rEqP (K : PySem.W.Frag) : R2 := fun x y H Q => ∃ d e, Dp K H x d ∧ Dp K H y e ∧ PyData.plain d = true ∧ PyData.plain e = true ∧ d.depth ≤ 64 ∧ Q (.bl (PyData.eqv d e)) H
theorem op_eqP (hu : X.A.units + 64 < cLine) : OpR X (compareOp .Eq) (rEqP X.K) := by
  intro pins s σ H x y v u Q I rx ry h
  obtain ⟨d, e, hd, he, sd, se, hz, q⟩ := h
  obtain ⟨as, r1⟩ := Dp.reads I d x v hd rx
  obtain ⟨bs, r2⟩ := Dp.reads I e y u he ry
  exact PySem.SeqAt.eq_plain r1 r2 sd se (by have := Nat.min_le_left d.depth e.depth; omega) ⟨.bl _, H, I, rfl, q⟩
end
section
variable {P : Program} {w : World} {K : PySem.W.Frag} {mg : Str → Option Value} {base : Heap}
/-! ### programs beside one another -/
theorem trTs_atm {H : Hp} : ∀ {as : List V}, (∀ v ∈ as, Atm v) → ∀ {vs : List V} {ts : List Tr}, TrTs H vs ts → TrTs H (as ++ vs) (as.map Tr.atm ++ ts)
  | [], _, _, _, h => h
  | a :: r, ha, _, _, h => .cons (.atm (ha a List.mem_cons_self)) (trTs_atm (fun v m => ha v (List.mem_cons_of_mem _ m)) h)
mutual
theorem RwA.trT {H : Hp} : ∀ {v : V} {r : LRow}, RwA .tup H v r → TrT H v r.tr
  | _, _, .mk (as := as) h ha hz r => .sq h (by rw [List.length_cons]; omega) (.cons (.atm (.inr ⟨_, rfl⟩)) (trTs_atm ha (RsAll.trT r)))
theorem RwAll.trT {H : Hp} : ∀ {v : List V} {r : List LRow}, RwAll .tup H v r → TrTs H v (trR r)
  | _, _, .nil => .nil
  | _, _, .cons h t => .cons (RwA.trT h) (RwAll.trT t)
theorem RsA.trT {H : Hp} : ∀ {v : V} {r : List LRow}, RsA .tup H v r → TrT H v (.sq (trR r))
  | _, _, .mk h hz r => .sq h (by omega) (RwAll.trT r)
theorem RsAll.trT {H : Hp} : ∀ {v : List V} {r : List (List LRow)}, RsAll .tup H v r → TrTs H v (trP r)
  | _, _, .nil => .nil
  | _, _, .cons h t => .cons (RsA.trT h) (RsAll.trT t)
end
def vPd : V → PyData
  | .int i => .int i
  | .str z => .str z
  | _ => .none
theorem vPd_plain (v : V) : (vPd v).plain = true := by cases v <;> rfl
theorem vPd_dep (v : V) : (vPd v).depth = 0 := by cases v <;> rfl
mutual
def trPd : Tr → PyData
  | .atm v => vPd v
  | .sq ts => .tuple (trPds ts)
def trPds : List Tr → List PyData
  | [] => []
  | t :: r => trPd t :: trPds r
end
mutual
theorem trPd_plain : ∀ t : Tr, (trPd t).plain = true
  | .atm v => by rw [trPd]; exact vPd_plain v
  | .sq ts => by rw [trPd, PyData.plain]; exact trPds_plain ts
theorem trPds_plain : ∀ ts : List Tr, PyData.plainAll (trPds ts) = true
  | [] => by rw [trPds]; rfl
  | t :: r => by rw [trPds, PyData.plainAll, trPd_plain t, trPds_plain r]; rfl
end
mutual
theorem trPd_dep : ∀ t : Tr, (trPd t).depth ≤ t.dep
  | .atm v => by rw [trPd, vPd_dep]; exact Nat.zero_le _
  | .sq ts => by
    have := trPds_dep ts
    rw [trPd, PyData.depth, Tr.dep]
    omega
theorem trPds_dep : ∀ ts : List Tr, PyData.depthAll (trPds ts) ≤ depT ts
  | [] => by rw [trPds]; exact Nat.zero_le _
  | t :: r => by
    have := trPd_dep t
    have := trPds_dep r
    rw [trPds, PyData.depthAll, depT]
    omega
end
mutual
theorem trT_dp {H : Hp} : ∀ {t : Tr} {v : V}, TrT H v t → Dp K H v (trPd t)
  | .atm v, _, .atm h => by
    rw [trPd]
    rcases h with ⟨i, rfl⟩ | ⟨z, rfl⟩
    · exact .int i
    · exact .str z
  | .sq ts, _, .sq h _ r => by rw [trPd]; exact .tup (SqT.of h) (trTs_dp r)
theorem trTs_dp {H : Hp} : ∀ {ts : List Tr} {vs : List V}, TrTs H vs ts → DpAll K H vs (trPds ts)
  | [], _, .nil => by rw [trPds]; exact .nil
  | t :: r, _, .cons h q => by rw [trPds]; exact .cons (trT_dp h) (trTs_dp q)
end
def tskPd (t : Tsk) : PyData := .tuple [.str t.1, trPd (.sq (trR t.2))]
def pgPd (ts : List Tsk) (cs : List Ctr) (lt : Int) : PyData := .tuple [.list (ts.map tskPd), trPd (.sq (cs.map ctTr)), .int lt]
theorem tsk_dp {H : Hp} : ∀ {ts : List Tsk} {vs : List V}, All2 (TaskT H) vs ts → DpAll K H vs (ts.map tskPd)
  | _, _, .nil => .nil
  | _, _, .cons h t => .cons (by
    obtain ⟨a, r, rfl, h1, h2⟩ := h.ex
    exact .tup (SqT.of h1) (.cons (.str _) (.cons (trT_dp (RsA.trT h2)) .nil))) (tsk_dp t)
theorem tsk_plain : ∀ ts : List Tsk, PyData.plainAll (ts.map tskPd) = true
  | [] => rfl
  | t :: r => by rw [List.map_cons, PyData.plainAll, tskPd, PyData.plain, PyData.plainAll, PyData.plainAll, PyData.plainAll, trPd_plain, tsk_plain r]; rfl
theorem tsk_depth : ∀ {ts : List Tsk}, (∀ t ∈ ts, depR t.2 ≤ 5) → PyData.depthAll (ts.map tskPd) ≤ 13
  | [], _ => Nat.zero_le _
  | t :: r, h => by
    have h1 := h t List.mem_cons_self
    have h2 := tsk_depth (ts := r) fun t m => h t (List.mem_cons_of_mem _ m)
    have h3 := trPd_dep (.sq (trR t.2))
    have h4 := trR_dep t.2
    rw [Tr.dep] at h3
    rw [List.map_cons, PyData.depthAll, tskPd, PyData.depth, PyData.depthAll, PyData.depthAll, PyData.depthAll, PyData.depth]
    omega
theorem pg_plain (ts : List Tsk) (cs : List Ctr) (lt : Int) : (pgPd ts cs lt).plain = true := by
  rw [pgPd, PyData.plain, PyData.plainAll, PyData.plainAll, PyData.plainAll, PyData.plainAll, trPd_plain]
  simp only [PyData.plain, tsk_plain]
  rfl
theorem pg_depth {ts : List Tsk} {cs : List Ctr} {lt : Int} (h : ∀ t ∈ ts, depR t.2 ≤ 5) : (pgPd ts cs lt).depth ≤ 64 := by
  have h1 := tsk_depth h
  have h2 := trPd_dep (.sq (cs.map ctTr))
  have h3 := ct_dep (cs := cs)
  rw [Tr.dep] at h2
  rw [pgPd, PyData.depth, PyData.depthAll, PyData.depthAll, PyData.depthAll, PyData.depthAll, PyData.depth, PyData.depth]
  omega
end

section
variable {P : Program} {w : World} {K : PySem.W.Frag} {mg : Str → Option Value} {base : Heap}
/-! ### words drawn -/
/-- a word, and not the law's own other one -/
def WordS (z : Str) : Bool := WordB z && decide (z ≠ "other")
theorem wordS {z : Str} (h : WordS z = true) : WordB z = true ∧ z ≠ "other" := by
  unfold WordS at h
  rw [Bool.and_eq_true] at h
  exact ⟨h.1, of_decide_eq_true h.2⟩
def words10 : List Str := ["a", "b", "k", "q", "zz", "xyz", "abcdefgh", "qrstuvwx", "yzyzyzyz", "w"]
def spAllW (K : PySem.W.Frag) : Sp := fun vs H Q _ => vs = [] ∧ ∀ (p : Addr) (ws : List Str) (H' : Hp), H p = none → Stt H [] [(p, Is (.lst (ws.map V.str)))] H' → ws.length = 70 → ws.Nodup → (∀ z ∈ ws, WordS z = true) → Q (.ref p) H'
def gpL : List Nat := ("ghijklmnop" : Str).cps.toList
def afL : List Nat := ("abcdef" : Str).cps.toList
def wordsOf (a : Nat) : List Str := gpL.map fun b => SX.S [a, b]
def allW (i : Nat) : List Str := words10 ++ ((afL.take i).map wordsOf).flatten
theorem allW_len : (allW 6).length = 70 := by decide +kernel
theorem allW_nd : (allW 6).Nodup := by decide +kernel
theorem allW_ok : ∀ z ∈ allW 6, WordS z = true := by
  have h : (allW 6).all WordS = true := by decide +kernel
  exact fun z m => List.all_eq_true.mp h z m
theorem ok_l_all_words (T : Txt K mg) : FnOk P w K mg base CX0 1 (He.fAd K ("_law_all_words", none)) T.fd_l_all_words [] (spAllW K) := by
  refine T.F_l_all_words.ok sc_l_all_words (fun vs H Q E h => ?_) (fun cdv A outer s H vs Q E hr h => ?_)
  · obtain ⟨rfl, _⟩ := h
    rfl
  · obtain ⟨rfl, k⟩ := h
    refine ⟨_, PSs.nox (pss_cons (ps_asg (pe_lst (pa_cons pe_str (pa_cons pe_str (pa_cons pe_str (pa_cons pe_str (pa_cons pe_str (pa_cons pe_str (pa_cons pe_str (pa_cons pe_str (pa_cons pe_str (pa_cons pe_str pa_nil))))))))))) (pg_name (i := 0) sc_l_all_words.nd rfl (by first | exact Or.inl rfl | exact Or.inr rfl)))
  (pss_cons (ps_for PassesOwn.never rfl (pi_str pe_str) (pg_name (i := 1) sc_l_all_words.nd rfl (by first | exact Or.inl rfl | exact Or.inr rfl))
   (pss_one (ps_expr (pe_bm PySem.F.plainAttrs_list PySem.F.slot_list_extend PySem.F.type_list_extend mt_extend (pv 0) (pa_cons (pe_lc (own := [("_law_y", 2)]) (g := gName 2) (tt := tYes) (by rfl) sc_l_all_words.nd (pi_str pe_str) (blkOk_by (own := [("_law_y", 2)]) (N := ["_law_found", "_law_x", "_law_y"]) (sc := defScope s_l_all_words) (by decide +kernel)) (fun _ _ _ _ _ => (pg_name (i := 2) sc_l_all_words.nd rfl (by first | exact Or.inl rfl | exact Or.inr rfl))) (fun _ _ _ _ _ => pts_nil) (fun _ _ _ _ _ => (pe_op op_addS (pv 1) (pv 2)))) pa_nil)))))
  (pss_one (ps_ret (pv 0))))), ?_⟩
    wtm_at "k"
    have s0 : Stt H [] [] H := Stt.nil
    wtm_at "rd"
    rename_i o H1 ho s1
    clear s0
    refine Rd.wS ?_
    wtm_at "rd"
    refine Rd.wSL ?_
    refine Rd.loop (walk_str (z := "abcdef")) (fun i σ' H' => ∃ v1 v2 : Option V, σ' = [some (.ref o), v1, v2] ∧ Stt H [] [(o, Is (.lst ((allW i).map V.str)))] H') ⟨_, _, rfl, s1⟩ (fun _ _ _ _ _ => trivial) ?_ ?_
    · rintro i x σ' H2 H3 hi ⟨v1, v2, rfl, s2⟩ ⟨rfl, a, ha, rfl⟩
      have hlen : ((allW i).map V.str).length ≤ 70 := by
        have : ∀ j < 6, ((allW j).map V.str).length ≤ 70 := by decide +kernel
        exact this i hi
      have ha' : afL[i]? = some a := by
        rw [afL, ← Array.getElem?_toList] at *
        exact ha
      wtm_at "rd"
      refine Rd.wS ?_
      wtm_at "rd"
      refine Rd.wSL ?_
      refine Rd.lcG (walk_str (z := "ghijklmnop")) s2 (fun i acc ex => ex = [] ∧ acc = (gpL.take i).map fun b => V.str (SX.S [a, b])) ⟨rfl, rfl⟩ (fun _ _ _ _ _ _ => trivial) ?_ ?_
      · rintro D hD j x HA HB acc ex hj ⟨rfl, rfl⟩ hac s3 ⟨rfl, c, hc, rfl⟩
        have hc' : gpL[j]? = some c := by
          rw [gpL, Array.getElem?_toList]
          exact hc
        have hj' : j < 10 := hj
        wtm_at "rd"
        refine Rd.addS (a := [a]) (b := [c]) (by simp) ?_
        wtm_at "rd"
        refine Rd.lcE s3 hD (by omega) hac ⟨rfl, ?_⟩
        rw [List.take_add_one, hc', List.map_append]
        rfl
      · rintro D HA acc ex hD ⟨rfl, rfl⟩ s3
        replace s3 : Stt H [] [(D, _), (o, _)] HA := s3
        have hD1 := s3.get (a := D) (by wtm_at "mem")
        have ho1 := s3.get (a := o) (by wtm_at "mem")
        refine ⟨o, D, _, _, rfl, rfl, ho1, hD1, ?_, ?_⟩
        · rw [List.length_map (as := List.take _ _)]
          refine Nat.le_trans (Nat.add_le_add hlen (Nat.le_trans (List.length_take_le _ _) (show _ ≤ 10 by decide +kernel))) (by decide)
        · have s4 := s3.set (a := o) (o := .lst ((allW (i + 1)).map V.str)) (by wtm_at "put") (by wtm_at "own")
          refine ⟨_, _, rfl, ?_⟩
          have e : (allW i).map V.str ++ (gpL.take ("ghijklmnop" : Str).cps.size).map (fun b => V.str (SX.S [a, b])) = (allW (i + 1)).map V.str := by
            rw [show gpL.take ("ghijklmnop" : Str).cps.size = gpL by decide +kernel, allW, allW, List.take_add_one, ha']
            simp [wordsOf, List.map_map]
          rw [e]
          exact s4.sub (by wtm_at "subl")
    · rintro σ' H2 ⟨v1, v2, rfl, s2⟩
      wtm_at "rd"
      exact k o _ H2 ho s2 allW_len allW_nd allW_ok
theorem pop_at {H0 H : Hp} {S : List Addr} {l l' : Led} {p : Addr} {xs : List V} {j : Nat} {y : V} {Q : VK} (s : Stt H0 S l H) (m : (p, Is (.lst xs)) ∈ l) (hz : xs.length ≤ 1000) (hy : xs[j]? = some y) (u : Put l p (Is (.lst (xs.eraseIdx j))) l') (ha : p ∈ S ∨ H0 p = none) (k : ∀ H', Stt H0 S l' H' → Kp [p] H H' → (∀ b, b ≠ p → H' b = H b) → Q y H') : rPopAt (.ref p) [.int (j : Nat)] H Q := by
  have hj : j < xs.length := by
    by_cases h : j < xs.length
    · exact h
    · rw [List.getElem?_eq_none (by omega)] at hy; cases hy
  refine ⟨p, xs, j, j, y, rfl, rfl, s.get m, by omega, by omega, ?_, hy, k _ (s.set u ha) ?_ fun b hb => upd_ne hb⟩
  · unfold seqIndex?
    rw [if_neg (by omega : ¬ ((j : Int) < 0)), if_pos (by simp; omega)]
    simp
  · exact kp_upd1 ⟨_, s.get m⟩
theorem allw_ask {H0 H : Hp} {S : List Addr} {l : Led} {Q : VK} {E : XK} (st : Stt H0 S l H) (k : ∀ (p : Addr) (ws : List Str) (H' : Hp), H0 p = none → Stt H0 S ((p, Is (.lst (ws.map V.str))) :: l) H' → ws.length = 70 → ws.Nodup → (∀ z ∈ ws, WordS z = true) → Q (.ref p) H') : spAllW K ([] ++ []) H Q E :=
  ⟨rfl, fun p ws H' hp s h1 h2 h3 => k p ws H' (st.none hp) ((st.after0 s.keep).add (s.pick List.mem_cons_self) (st.fresh hp)) h1 h2 h3⟩
theorem erase_map {α β : Type} {f : α → β} {xs : List α} {j : Nat} : (xs.map f).eraseIdx j = (xs.eraseIdx j).map f := by
  rw [List.eraseIdx_eq_take_drop_succ, List.eraseIdx_eq_take_drop_succ, List.map_append, List.map_take, List.map_drop]
theorem erase_perm {α : Type} : ∀ {xs : List α} {j : Nat} {z : α}, xs[j]? = some z → (z :: xs.eraseIdx j).Perm xs
  | [], j, z, h => by simp at h
  | x :: r, 0, z, h => by simp at h; subst h; exact List.Perm.refl _
  | x :: r, j + 1, z, h => by
    rw [List.getElem?_cons_succ] at h
    rw [List.eraseIdx_cons_succ]
    exact (List.Perm.swap x z _).trans ((erase_perm h).cons x)
def spSomeW : Sp := fun vs H Q _ => ∃ (st c : Addr) (ns : List Int) (m : Nat), vs = [.ref st, .int (m : Nat)] ∧ Stt H [st] (dled st c ns) H ∧ ns.length ≤ 63 ∧ m ≤ 5 ∧ ∀ (p : Addr) (ws : List Str) (H' : Hp), H p = none → Stt H [st] ((p, Is (.lst (ws.map V.str))) :: dled st c ns) H' → ws.length = m → ws.Nodup → (∀ z ∈ ws, WordS z = true) → Q (.ref p) H'
theorem ok_l_some_words (T : Txt K mg) : FnOk P w K mg base CX0 3 (He.fAd K ("_law_some_words", none)) T.fd_l_some_words ["_law_state", "_law_many"] spSomeW := by
  refine T.F_l_some_words.ok sc_l_some_words (fun vs H Q E h => ?_) (fun cdv A outer s H vs Q E hr h => ?_)
  · obtain ⟨st, c, ns, m, rfl, _⟩ := h
    rfl
  · obtain ⟨st, c, ns, m, rfl, s0, hn, hm, k⟩ := h
    refine ⟨_, PSs.nox (pss_cons (ps_par (i := 2) (j := 3) (by rfl) sc_l_some_words.nd rfl rfl (by decide) rfl rfl (pa_cons (pe_call0 (ok_l_all_words T) (hr.mono (by decide)) rfl T.g_l_all_words T.F_l_all_words.kp T.b_l_all_words .nil pass0) (pa_cons (pe_lst pa_nil) pa_nil)) (by rfl))
  (pss_cons (ps_for PassesOwn.never rfl (pi_range1 rfl T.n_range (pa_cons (pv 1) pa_nil)) (pg_name (i := 4) sc_l_some_words.nd rfl (by first | exact Or.inl rfl | exact Or.inr rfl))
   (pss_one (ps_expr (pe_bm PySem.F.plainAttrs_list PySem.F.slot_list_append PySem.F.type_list_append mt_append (pv 3) (pa_cons (pe_bm PySem.F.plainAttrs_list PySem.F.slot_list_pop PySem.F.type_list_pop mt_popAt (pv 2) (pa_cons (pe_call (ok_l_take T) (hr.mono (by decide)) rfl T.g_l_take T.F_l_take.kp T.b_l_take .nil pass0 (pa_cons (pv 0) (pa_cons (pe_callB call_lenQ (by rfl) T.n_len PySem.boot_len (pa_cons (pv 2) pa_nil)) pa_nil))) pa_nil)) pa_nil)))))
  (pss_one (ps_ret (pv 3))))), ?_⟩
    wtm_at "k"
    wtm_at "rd"
    refine allw_ask s0 fun pl ws H1 hpl s1 hl hnd hok => ?_
    clear s0
    wtm_at "rd"
    rename_i pf H2 hpf s2
    clear s1
    refine Rd.loop (walk_range (lo := 0) (n := Int.toNat (m : Int))) (fun i σ' H' => ∃ (left found : List Str) (v : Option V), σ' = [some (.ref st), some (.int (m : Nat)), some (.ref pl), some (.ref pf), v] ∧ Stt H [st] ((pf, Is (.lst (found.map V.str))) :: (pl, Is (.lst (left.map V.str))) :: dled st c ns) H' ∧ found.length = i ∧ left.length = 70 - i ∧ (found ++ left).Nodup ∧ ∀ z ∈ found ++ left, WordS z = true) ⟨ws, [], _, rfl, s2, rfl, hl, hnd, hok⟩ (fun _ _ _ _ _ => trivial) ?_ ?_
    · rintro i x σ' H3 H4 hi ⟨left, found, v, rfl, s3, hf, hl3, hnd3, hok3⟩ ⟨rfl, rfl⟩
      have hi5 : i < 5 := by simp at hi; omega
      clear s2
      wtm_at "rd"
      have hlen : (left.map V.str).length = left.length := List.length_map ..
      refine take_ask s3 (by wtm_at "mem") (by wtm_at "mem") hn (by wtm_at "own") (by rw [hlen]; omega) fun d H5 hd s4 => ?_
      rw [hlen] at hd
      obtain ⟨j, rfl⟩ := Int.eq_ofNat_of_zero_le hd.1
      have hj : j < left.length := by omega
      obtain ⟨z, ez⟩ : ∃ z, left[j]? = some z := ⟨left[j], by simp [hj]⟩
      wtm_at "rd"
      refine pop_at s4 (by wtm_at "mem") (by omega) (by rw [List.getElem?_map, ez]; rfl) (by wtm_at "put") (by wtm_at "own") fun H6 s5 _ _ => ?_
      rw [erase_map] at s5
      clear s4 s3
      wtm_at "rd"
      refine Rd.app s5 (by wtm_at "mem") (by rw [List.length_map]; omega) (by wtm_at "put") (by wtm_at "own") fun H7 s6 => ?_
      have pm : (found ++ [z] ++ left.eraseIdx j).Perm (found ++ left) := by
        rw [List.append_assoc]
        exact (erase_perm ez).append_left found
      refine ⟨left.eraseIdx j, found ++ [z], _, rfl, by rw [List.map_append]; exact s6, by rw [List.length_append, hf]; rfl, by rw [List.length_eraseIdx_of_lt hj]; omega, pm.nodup_iff.mpr hnd3, fun y my => hok3 y (pm.mem_iff.mp my)⟩
    · rintro σ' H3 ⟨left, found, v, rfl, s3, hf, hl3, hnd3, hok3⟩
      clear s2
      wtm_at "rd"
      exact k pf found H3 hpf (s3.sub (by wtm_at "subl")) (by rw [hf]; simp) (List.nodup_append.mp hnd3).1 (fun z m => hok3 z (List.mem_append_left _ m))
theorem somew_ask {H0 H : Hp} {S : List Addr} {l : Led} {st c : Addr} {ns : List Int} {m : Nat} {mi : Int} {Q : VK} {E : XK} (s : Stt H0 S l H) (m1 : (st, DrS c) ∈ l) (m2 : (c, Is (.lst (ns.map V.int))) ∈ l) (hn : ns.length ≤ 63) (hs : st ∈ S ∨ H0 st = none) (em : mi = (m : Nat)) (hm : m ≤ 5)
    (k : ∀ (p : Addr) (ws : List Str) (H' : Hp), H0 p = none → Stt H0 S ((p, Is (.lst (ws.map V.str))) :: l) H' → ws.length = m → ws.Nodup → (∀ z ∈ ws, WordS z = true) → Q (.ref p) H') : spSomeW ([.ref st, .int mi] ++ []) H Q E :=
  ⟨st, c, ns, m, by rw [em]; rfl, s.drawn m1 m2, hn, hm, fun p ws H' hp q h1 h2 h3 => k p ws H' (s.none hp) ((s.after1 m1 q.keep hs (q.pick (by wtm_at "mem"))).add (q.pick (by wtm_at "mem")) (s.fresh hp)) h1 h2 h3⟩
end

section
variable {P : Program} {w : World} {K : PySem.W.Frag} {mg : Str → Option Value} {base : Heap}
/-! ### rows drawn -/
structure TillAt (H : Hp) (v : V) (c : Ctr) : Prop where
  ex : ∃ a, v = .ref a ∧ H a = some (.tup [.str c.1, .int c.2.1, .int c.2.2])
theorem TillAt.kt {H H' : Hp} {v : V} {c : Ctr} (k : Kt H H') (h : TillAt H v c) : TillAt H' v c := by
  obtain ⟨a, e, h⟩ := h.ex
  exact ⟨a, e, k _ _ h⟩
structure FlatA (cs : List Str) (n : Str) (as : List V) : Prop where
  shp : Shp n as 0
  num : numB n as = true
  sml : ∀ i, V.int i ∈ as → i.natAbs < 2 ^ 60
  say : n = "say" → ∀ z, as = [.str z] → WordS z = true
  tak : n = "take" ∨ n = "give" → ∀ c, as = [.str c] → c ∈ cs
theorem all2_mem {α β : Type} {R : α → β → Prop} : ∀ {xs : List α} {ys : List β} {x : α}, All2 R xs ys → x ∈ xs → ∃ y ∈ ys, R x y
  | _, _, _, .nil, m => nomatch m
  | _, _, _, .cons h t, m => by
    rcases List.mem_cons.mp m with e | m
    · subst e; exact ⟨_, List.mem_cons_self, h⟩
    · obtain ⟨y, my, hy⟩ := all2_mem t m
      exact ⟨y, List.mem_cons_of_mem _ my, hy⟩
theorem kt_st {H H' : Hp} {st : Addr} {ys : List V} (k : Kp [st] H H') (e : H st = some (.lst ys)) : Kt H H' := fun b xs eb => k.get (fun m => by rw [List.mem_singleton.mp m, e] at eb; cases eb) eb
theorem st_lst {H0 H : Hp} {S : List Addr} {l : Led} {st c : Addr} (s : Stt H0 S l H) (m : (st, DrS c) ∈ l) : ∃ ys, H st = some (.lst ys) := by
  obtain ⟨o, e, h⟩ := s.at_ _ m
  unfold DrS at h
  obtain ⟨_, _, _, rfl⟩ := h
  exact ⟨_, e⟩
abbrev tled (p : Addr) (xs : List V) (st c : Addr) (ns : List Int) : Led := (p, Is (.lst xs)) :: dled st c ns
def tillPd (c : Ctr) : PyData := .tuple [.str c.1, .int c.2.1, .int c.2.2]
theorem till_dp {H : Hp} : ∀ {xs : List V} {cs : List Ctr}, All2 (TillAt H) xs cs → DpAll K H xs (cs.map tillPd)
  | _, _, .nil => .nil
  | _, _, .cons h t => .cons (by
    obtain ⟨a, rfl, h1⟩ := h.ex
    exact .tup (SqT.of h1) (.cons (.str _) (.cons (.int _) (.cons (.int _) .nil)))) (till_dp t)
theorem till_plain : ∀ cs : List Ctr, PyData.plain (.list (cs.map tillPd)) = true
  | [] => rfl
  | c :: r => by
    have h := till_plain r
    rw [PyData.plain] at h
    rw [List.map_cons, PyData.plain, PyData.plainAll, h]
    rfl
theorem till_dep : ∀ cs : List Ctr, PyData.depth (.list (cs.map tillPd)) ≤ 2
  | [] => by decide
  | c :: r => by
    have h := till_dep r
    rw [PyData.depth] at h
    rw [List.map_cons, PyData.depth, PyData.depthAll, tillPd]
    simp only [PyData.depth, PyData.depthAll]
    omega
def spRow0 (K : PySem.W.Frag) : Sp := fun vs H Q _ => ∃ (st c p : Addr) (ns : List Int) (xs : List V) (cs : List Ctr), vs = [.ref st, .int 0, .ref p, .bl true] ∧ Stt H [st] (tled p xs st c ns) H ∧ ns.length ≤ 63 ∧ All2 (TillAt H) xs cs ∧ xs.length ≤ 2 ∧
  ∀ (a : Addr) (n : Str) (as : List V) (H' : Hp), H a = none → FlatA (cs.map (·.1)) n as → Stt H [st] ((a, Is (.tup (.str n :: as))) :: tled p xs st c ns) H' → Q (.ref a) H'
theorem row0_body (T : Txt K mg) (F0 : FnOk P w K mg base CX0 3 (He.fAd K ("_law_rows", none)) T.fd_l_rows ["_law_state", "_law_many", "_law_tills"] (fun _ _ _ _ => False)) : FnOk P w K mg base CX0 4 (He.fAd K ("_law_row", none)) T.fd_l_row ["_law_state", "_law_deep", "_law_tills", "_law_is_inside"] (spRow0 K) := by
  refine T.F_l_row.ok sc_l_row (fun vs H Q E h => ?_) (fun cdv A outer s H vs Q E hr h => ?_)
  · obtain ⟨st, c, p, ns, xs, cs, rfl, _⟩ := h
    rfl
  · obtain ⟨st, c, p, ns, xs, cs, rfl, s0, hn, ht, hz, k⟩ := h
    refine ⟨_, PSs.nox (pss_cons (ps_asg (pe_call (ok_l_take T) (hr.mono (by decide)) rfl T.g_l_take T.F_l_take.kp T.b_l_take .nil pass0 (pa_cons (pv 0) (pa_cons (pe_ifExp (pt_cmpR op_gt (pv 1) pe_int (nomark _)) pe_int pe_int) pa_nil))) (pg_name (i := 4) sc_l_row.nd rfl (by first | exact Or.inl rfl | exact Or.inr rfl)))
  (pss_cons (ps_if (pt_cmpR op_lt (pv 4) pe_int (nomark _)) (pss_cons (ps_asg (pe_call (ok_l_take T) (hr.mono (by decide)) rfl T.g_l_take T.F_l_take.kp T.b_l_take .nil pass0 (pa_cons (pv 0) (pa_cons pe_int pa_nil))) (pg_name (i := 5) sc_l_row.nd rfl (by first | exact Or.inl rfl | exact Or.inr rfl)))
  (pss_one (ps_ret (pe_tup (pa_cons pe_str (pa_cons (pv 5) (pa_cons (pe_op op_add (pv 5) (pe_call (ok_l_take T) (hr.mono (by decide)) rfl T.g_l_take T.F_l_take.kp T.b_l_take .nil pass0 (pa_cons (pv 0) (pa_cons pe_int pa_nil)))) pa_nil)))))))
   pss_nil)
  (pss_cons (ps_if (PW.pt (pw_or (pt_cmpR op_lt (pv 4) pe_int (nomark _)) (pw_or1 (PW.pt (pw_and (pt_cmpR op_in_seq (pv 4) (pe_tup (pa_cons pe_int (pa_cons pe_int pa_nil))) (by rfl)) (pw_and1 (pt_cmpR (op_eqP hr.units) (pv 2) (pe_lst pa_nil) (nomark _)))))))) (pss_one (ps_ret (pe_tup (pa_cons pe_str (pa_cons (pe_call (ok_l_one T) (hr.mono (by decide)) rfl T.g_l_one T.F_l_one.kp T.b_l_one .nil pass0 (pa_cons (pv 0) (pa_cons (pe_lst (pa_cons pe_str (pa_cons pe_str (pa_cons pe_str pa_nil)))) pa_nil))) pa_nil)))))
   pss_nil)
  (pss_cons (ps_if (pt_cmpR op_lt (pv 4) pe_int (nomark _)) (pss_one (ps_ret (pe_ifExp (pt_cmpR op_eq (pv 4) pe_int (nomark _)) (pe_tup (pa_cons pe_str (pa_cons (pe_op op_add pe_int (pe_call (ok_l_take T) (hr.mono (by decide)) rfl T.g_l_take T.F_l_take.kp T.b_l_take .nil pass0 (pa_cons (pv 0) (pa_cons pe_int pa_nil)))) pa_nil))) (pe_tup (pa_cons pe_str pa_nil)))))
   pss_nil)
  (pss_cons (ps_if (pt_cmpR op_lt (pv 4) pe_int (nomark _)) (pss_one (ps_ret (pe_tup (pa_cons (pe_ifExp (pt_cmpR op_eq (pv 4) pe_int (nomark _)) pe_str pe_str) (pa_cons (pe_ix ix_tup (pe_call (ok_l_one T) (hr.mono (by decide)) rfl T.g_l_one T.F_l_one.kp T.b_l_one .nil pass0 (pa_cons (pv 0) (pa_cons (pv 2) pa_nil))) pe_int (fun _ _ => rfl)) pa_nil)))))
   pss_nil)
  (pss_cons (ps_par (i := 6) (j := 7) (by rfl) sc_l_row.nd rfl rfl (by decide) rfl rfl (pa_cons (pe_call F0 hr rfl T.g_l_rows T.F_l_rows.kp T.b_l_rows .nil pass0 (pa_cons (pv 0) (pa_cons pe_int (pa_cons (pv 2) pa_nil)))) (pa_cons (pe_call F0 hr rfl T.g_l_rows T.F_l_rows.kp T.b_l_rows .nil pass0 (pa_cons (pv 0) (pa_cons pe_int (pa_cons (pv 2) pa_nil)))) pa_nil)) (by rfl))
  (pss_cons (ps_if (PW.pt (pw_or (pt_cmpR op_eq (pv 4) pe_int (nomark _)) (pw_or1 (pt_val (pv 3))))) (pss_one (ps_ret (pe_tup (pa_cons pe_str (pa_cons (pe_slice sl_list (pv 6) po_none (po_some pe_int)) (pa_cons (pv 7) pa_nil))))))
   pss_nil)
  (pss_one (ps_ret (pe_tup (pa_cons pe_str (pa_cons (pe_op op_add pe_int (pe_call (ok_l_take T) (hr.mono (by decide)) rfl T.g_l_take T.F_l_take.kp T.b_l_take .nil pass0 (pa_cons (pv 0) (pa_cons pe_int pa_nil)))) (pa_cons (pv 6) (pa_cons (pv 7) pa_nil)))))))))))))), ?_⟩
    wtm_at "k"
    have htl := ht.len
    obtain ⟨sty, hst⟩ := st_lst s0 (by wtm_at "mem")
    wtm_at "rd"
    refine Rd.brD (fun e => absurd e (by decide)) (fun _ => ?_)
    wtm_at "rd"
    refine take_ask s0 (by wtm_at "mem") (by wtm_at "mem") hn (by wtm_at "own") (by decide) fun way H1 hw s1 => ?_
    clear s0
    wtm_at "rd"
    refine Rd.brD (fun e => ?_) (fun e1 => ?_)
    · wtm_at "rd"
      refine take_ask s1 (by wtm_at "mem") (by wtm_at "mem") hn (by wtm_at "own") (by decide) fun lo H2 hlo s2 => ?_
      clear s1
      wtm_at "rd"
      refine take_ask s2 (by wtm_at "mem") (by wtm_at "mem") hn (by wtm_at "own") (by decide) fun d H3 hd s3 => ?_
      clear s2
      wtm_at "rd"
      rename_i a H4 ha s4
      refine k a "work" [.int lo, .int (lo + d)] H4 ha ⟨.work _ _, ?_, ?_, fun e => absurd e (by decide +kernel), fun e => absurd e (by decide +kernel)⟩ s4
      · rw [numB_work]
        simp
        omega
      · intro i m
        simp at m
        rcases m with rfl | rfl <;> omega
    · have done : ∀ (a : Addr) (n : Str) (as : List V) (H' : Hp), H a = none → FlatA (cs.map (·.1)) n as → Stt H [st] ((a, Is (.tup (.str n :: as))) :: tled p xs st c ns) H' → Q (.ref a) H' := k
      clear k
      wtm_at "rd"
      refine Rd.brD (fun e2 => ?_) (fun e2 => ?_)
      · wtm_at "rd"
        rename_i qq Hq hqq sq
        clear s1
        refine one_ask sq (by wtm_at "subl") hn (by wtm_at "own") (by simp) fun v Hv mv sv => ?_
        clear sq
        obtain ⟨z, rfl, hz1⟩ : ∃ z, v = .str z ∧ WordS z = true := by
          simp only [List.mem_cons, List.not_mem_nil, or_false] at mv
          rcases mv with rfl | rfl | rfl
          · exact ⟨_, rfl, by decide +kernel⟩
          · exact ⟨_, rfl, by decide +kernel⟩
          · exact ⟨_, rfl, by decide +kernel⟩
        wtm_at "rd"
        rename_i a Ha ha sa
        exact done a "say" [.str z] Ha ha ⟨.say z, by simp [numB], fun i m => by simp at m, fun _ y ey => by cases ey; exact hz1, fun e => by rcases e with e | e <;> exact absurd e (by decide +kernel)⟩ (sa.sub (by wtm_at "subl"))
      · wtm_at "rd"
        rename_i qt Ht hqt st1
        clear s1
        have h4 : way = 4 ∨ way = 5 ∨ way = 6 ∨ way = 7 := by omega
        clear hw e1 e2
        rcases h4 with rfl | rfl | rfl | rfl
        · refine Rd.inT st1 (by wtm_at "mem") rfl rfl ?_
          rw [show inV (V.int 4) [V.int 6, V.int 7] = false by decide +kernel]
          wtm_at "rd"
          refine Rd.brI (by decide) ?_
          wtm_at "rd"
          refine take_ask st1 (by wtm_at "mem") (by wtm_at "mem") hn (by wtm_at "own") (by decide) fun d H3 hd s3 => ?_
          clear st1
          wtm_at "rd"
          rename_i a Ha ha sa
          refine done a "sleep" [.int (1 + d)] Ha ha ⟨.sleep _, ?_, fun i m => ?_, fun e => absurd e (by decide +kernel), fun e => by rcases e with e | e <;> exact absurd e (by decide +kernel)⟩ (sa.sub (by wtm_at "subl"))
          · rw [numB_slp (by decide +kernel)]
            simp
            omega
          · simp at m
            omega
        · refine Rd.inT st1 (by wtm_at "mem") rfl rfl ?_
          rw [show inV (V.int 5) [V.int 6, V.int 7] = false by decide +kernel]
          wtm_at "rd"
          refine Rd.brI (by decide) ?_
          wtm_at "rd"
          refine Rd.brD (fun e => absurd e (by decide)) (fun _ => ?_)
          wtm_at "rd"
          rename_i a Ha ha sa
          exact done a "pass" [] Ha ha ⟨.pass, rfl, fun i m => by simp at m, fun e => absurd e (by decide +kernel), fun e => by rcases e with e | e <;> exact absurd e (by decide +kernel)⟩ (sa.sub (by wtm_at "subl"))
        · refine Rd.inT st1 (by wtm_at "mem") rfl rfl ?_
          rw [show inV (V.int 6) [V.int 6, V.int 7] = true by decide +kernel]
          wtm_at "rd"
          rename_i qe He hqe se
          clear st1
          refine ⟨.list (cs.map tillPd), .list [], .lst (SqL.of (se.get (a := p) (by wtm_at "mem"))) (till_dp (ht.imp fun _ _ h => h.kt (kt_st se.keep hst))), .lst (SqL.of (se.get (a := qe) (by wtm_at "mem"))) .nil, till_plain cs, rfl, Nat.le_trans (till_dep cs) (by decide), ?_⟩
          cases ht with
          | nil =>
            rw [show PyData.eqv (.list (([] : List Ctr).map tillPd)) (.list []) = true by decide +kernel]
            wtm_at "rd"
            rename_i qq Hq hqq sq
            clear se
            refine one_ask sq (by wtm_at "subl") hn (by wtm_at "own") (by simp) fun v Hv mv sv => ?_
            clear sq
            obtain ⟨z, rfl, hz1⟩ : ∃ z, v = .str z ∧ WordS z = true := by
              simp only [List.mem_cons, List.not_mem_nil, or_false] at mv
              rcases mv with rfl | rfl | rfl
              · exact ⟨_, rfl, by decide +kernel⟩
              · exact ⟨_, rfl, by decide +kernel⟩
              · exact ⟨_, rfl, by decide +kernel⟩
            wtm_at "rd"
            rename_i a Ha ha sa
            exact done a "say" [.str z] Ha ha ⟨.say z, by simp [numB], fun i m => by simp at m, fun _ y ey => by cases ey; exact hz1, fun e => by rcases e with e | e <;> exact absurd e (by decide +kernel)⟩ (sa.sub (by wtm_at "subl"))
          | @cons v0 c0 vs0 cs0 h0 t0 =>
            rw [show PyData.eqv (.list ((c0 :: cs0).map tillPd)) (.list []) = false by rw [List.map_cons, PyData.eqv, PyData.eqvAll]]
            wtm_at "rd"
            refine Rd.brD (fun e => absurd e (by decide)) (fun _ => ?_)
            wtm_at "rd"
            refine Rd.brI (by decide) ?_
            wtm_at "rd"
            refine one_ask se (by wtm_at "subl") hn (by wtm_at "own") (by simp at hz ⊢; omega) fun v Hv mv sv => ?_
            clear se
            obtain ⟨c1, mc1, hc1⟩ := all2_mem (All2.cons h0 t0) mv
            obtain ⟨ta, rfl, hta⟩ := (hc1.kt (kt_st sv.keep hst)).ex
            wtm_at "rd"
            refine ⟨ta, _, 0, .str c1.1, rfl, rfl, SqT.of hta, atI_nat (j := 0) rfl, ?_⟩
            wtm_at "rd"
            rename_i a Ha ha sa
            exact done a "take" [.str c1.1] Ha ha ⟨.take _, by simp [numB], fun i m => by simp at m, fun e => absurd e (by decide +kernel), fun _ y ey => by cases ey; exact List.mem_map.mpr ⟨c1, mc1, rfl⟩⟩ (sa.sub (by wtm_at "subl"))
        · refine Rd.inT st1 (by wtm_at "mem") rfl rfl ?_
          rw [show inV (V.int 7) [V.int 6, V.int 7] = true by decide +kernel]
          wtm_at "rd"
          rename_i qe He hqe se
          clear st1
          refine ⟨.list (cs.map tillPd), .list [], .lst (SqL.of (se.get (a := p) (by wtm_at "mem"))) (till_dp (ht.imp fun _ _ h => h.kt (kt_st se.keep hst))), .lst (SqL.of (se.get (a := qe) (by wtm_at "mem"))) .nil, till_plain cs, rfl, Nat.le_trans (till_dep cs) (by decide), ?_⟩
          cases ht with
          | nil =>
            rw [show PyData.eqv (.list (([] : List Ctr).map tillPd)) (.list []) = true by decide +kernel]
            wtm_at "rd"
            rename_i qq Hq hqq sq
            clear se
            refine one_ask sq (by wtm_at "subl") hn (by wtm_at "own") (by simp) fun v Hv mv sv => ?_
            clear sq
            obtain ⟨z, rfl, hz1⟩ : ∃ z, v = .str z ∧ WordS z = true := by
              simp only [List.mem_cons, List.not_mem_nil, or_false] at mv
              rcases mv with rfl | rfl | rfl
              · exact ⟨_, rfl, by decide +kernel⟩
              · exact ⟨_, rfl, by decide +kernel⟩
              · exact ⟨_, rfl, by decide +kernel⟩
            wtm_at "rd"
            rename_i a Ha ha sa
            exact done a "say" [.str z] Ha ha ⟨.say z, by simp [numB], fun i m => by simp at m, fun _ y ey => by cases ey; exact hz1, fun e => by rcases e with e | e <;> exact absurd e (by decide +kernel)⟩ (sa.sub (by wtm_at "subl"))
          | @cons v0 c0 vs0 cs0 h0 t0 =>
            rw [show PyData.eqv (.list ((c0 :: cs0).map tillPd)) (.list []) = false by rw [List.map_cons, PyData.eqv, PyData.eqvAll]]
            wtm_at "rd"
            refine Rd.brD (fun e => absurd e (by decide)) (fun _ => ?_)
            wtm_at "rd"
            refine Rd.brI (by decide) ?_
            wtm_at "rd"
            refine Rd.brD (fun e => absurd e (by decide)) (fun _ => ?_)
            wtm_at "rd"
            refine one_ask se (by wtm_at "subl") hn (by wtm_at "own") (by simp at hz ⊢; omega) fun v Hv mv sv => ?_
            clear se
            obtain ⟨c1, mc1, hc1⟩ := all2_mem (All2.cons h0 t0) mv
            obtain ⟨ta, rfl, hta⟩ := (hc1.kt (kt_st sv.keep hst)).ex
            wtm_at "rd"
            refine ⟨ta, _, 0, .str c1.1, rfl, rfl, SqT.of hta, atI_nat (j := 0) rfl, ?_⟩
            wtm_at "rd"
            rename_i a Ha ha sa
            exact done a "give" [.str c1.1] Ha ha ⟨.give _, by simp [numB], fun i m => by simp at m, fun e => absurd e (by decide +kernel), fun _ y ey => by cases ey; exact List.mem_map.mpr ⟨c1, mc1, rfl⟩⟩ (sa.sub (by wtm_at "subl"))
end

section
variable {P : Program} {w : World} {K : PySem.W.Frag} {mg : Str → Option Value} {base : Heap}
structure FlatV (cs : List Str) (H : Hp) (v : V) (r : LRow) : Prop where
  ex : ∃ a n as, v = .ref a ∧ r = .mk n as [] ∧ H a = some (.tup (.str n :: as)) ∧ FlatA cs n as
theorem FlatV.kt {cs : List Str} {H H' : Hp} {v : V} {r : LRow} (k : Kt H H') (h : FlatV cs H v r) : FlatV cs H' v r := by
  obtain ⟨a, n, as, e1, e2, e3, e4⟩ := h.ex
  exact ⟨a, n, as, e1, e2, k _ _ e3, e4⟩
theorem kt_upd {H : Hp} {D : Addr} {xs ys : List V} (e : H D = some (.lst xs)) : Kt H (upd H D (.lst ys)) := (Kn.updL e).kt
theorem row0_ask {H0 H : Hp} {S : List Addr} {l : Led} {st c p : Addr} {ns : List Int} {xs : List V} {cs : List Ctr} {Q : VK} {E : XK} (s : Stt H0 S l H) (sb : List.Sublist (tled p xs st c ns) l) (hn : ns.length ≤ 63) (hs : st ∈ S ∨ H0 st = none) (ht : All2 (TillAt H) xs cs) (hz : xs.length ≤ 2)
    (k : ∀ v r H', FlatV (cs.map (·.1)) H' v r → Kp [st] H H' → Stt H0 S l H' → Q v H') : spRow0 K ([.ref st, .int 0, .ref p, .bl true] ++ []) H Q E :=
  ⟨st, c, p, ns, xs, cs, rfl, s.base sb, hn, ht, hz, fun a n as H' ha hf q => k _ (.mk n as []) H' ⟨a, n, as, rfl, rfl, q.get (a := a) List.mem_cons_self, hf⟩ q.keep (s.after1 (f := DrS c) (sb.subset (by simp)) q.keep hs (q.pick (by wtm_at "mem")))⟩
def spRows (K : PySem.W.Frag) : Sp := fun vs H Q _ => ∃ (st c p : Addr) (ns : List Int) (xs : List V) (cs : List Ctr) (m : Nat), vs = [.ref st, .int (m : Nat), .ref p] ∧ Stt H [st] (tled p xs st c ns) H ∧ ns.length ≤ 63 ∧ All2 (TillAt H) xs cs ∧ xs.length ≤ 2 ∧ m ≤ 5 ∧
  ∀ (D : Addr) (us : List V) (rs : List LRow) (H' : Hp), H D = none → Stt H [st] ((D, Is (.lst us)) :: tled p xs st c ns) H' → All2 (FlatV (cs.map (·.1)) H') us rs → us.length ≤ m → Q (.ref D) H'
theorem ok_l_rows0 (T : Txt K mg) : FnOk P w K mg base CX0 5 (He.fAd K ("_law_rows", none)) T.fd_l_rows ["_law_state", "_law_many", "_law_tills"] (spRows K) := by
  refine T.F_l_rows.ok sc_l_rows (fun vs H Q E h => ?_) (fun cdv A outer s H vs Q E hr h => ?_)
  · obtain ⟨st, c, p, ns, xs, cs, m, rfl, _⟩ := h
    rfl
  · obtain ⟨st, c, p, ns, xs, cs, m, rfl, s0, hn, ht, hz, hm, k⟩ := h
    refine ⟨_, PSs.nox (pss_one (ps_ret (pe_lc (own := [("_law_k", 3)]) (g := gName 3) (tt := tYes) (by rfl) sc_l_rows.nd (pi_range1 rfl T.n_range (pa_cons (pe_call (ok_l_take T) (hr.mono (by decide)) rfl T.g_l_take T.F_l_take.kp T.b_l_take .nil pass0 (pa_cons (pv 0) (pa_cons (pe_op op_add (pv 1) pe_int) pa_nil))) pa_nil)) (blkOk_by (own := [("_law_k", 3)]) (N := ["_law_state", "_law_many", "_law_tills", "_law_k"]) (sc := defScope s_l_rows) (by decide +kernel)) (fun _ _ _ _ _ => (pg_name (i := 3) sc_l_rows.nd rfl (by first | exact Or.inl rfl | exact Or.inr rfl))) (fun _ _ _ _ _ => pts_nil) (fun _ _ _ _ _ => (pe_call (row0_body T fnok_false) (hr.mono (by decide)) rfl T.g_l_row T.F_l_row.kp T.b_l_row .nil pass0 (pa_cons (pv 0) (pa_cons pe_int (pa_cons (pv 2) (pa_cons pe_bl pa_nil))))))))), ?_⟩
    wtm_at "k"
    obtain ⟨sty, hst⟩ := st_lst s0 (by wtm_at "mem")
    wtm_at "rd"
    refine take_ask s0 (by wtm_at "mem") (by wtm_at "mem") hn (by wtm_at "own") (by omega) fun d H1 hd s1 => ?_
    clear s0
    have ht1 : All2 (TillAt H1) xs cs := ht.imp fun _ _ h => h.kt (kt_st s1.keep hst)
    wtm_at "rd"
    refine Rd.lcH (walk_range (lo := 0) (n := d.toNat)) s1 (fun D i acc H' => ∃ rs, All2 (FlatV (cs.map (·.1)) H') acc rs) (fun D hD => ⟨[], .nil⟩) (fun _ _ _ _ _ => trivial) ?_ ?_
    · rintro D hD i x HA HB acc hi ⟨rs, hg⟩ hac s2 ⟨rfl, rfl⟩
      have ht2 : All2 (TillAt HB) xs cs := ht.imp fun _ _ h => h.kt (kt_st s2.keep hst)
      obtain ⟨sty2, hst2⟩ := st_lst s2 (by wtm_at "mem")
      have s2' : Stt H [st] ((D, Is (.lst acc)) :: tled p xs st c ns) HB ∧ True := ⟨s2, trivial⟩
      clear s1 s2
      wtm_at "rd"
      refine row0_ask s2'.1 (by wtm_at "subl") hn (by wtm_at "own") ht2 hz fun v r HC hv kC s3 => ?_
      refine Rd.lcHE s3 hD (by omega) hac ⟨rs ++ [r], ?_⟩
      have kn := kt_upd (ys := acc ++ [v]) (s3.get (a := D) List.mem_cons_self)
      exact (hg.imp fun _ _ h => (h.kt (kt_st kC hst2)).kt kn).app (.cons (hv.kt kn) .nil)
    · rintro D HA acc hD hD0 hac ⟨rs, hg⟩ s2
      clear s1
      wtm_at "rd"
      exact k D acc rs HA hD0 s2 hg (by omega)
theorem rows_ask {H0 H : Hp} {S : List Addr} {l : Led} {st c p : Addr} {ns : List Int} {xs : List V} {cs : List Ctr} {m : Nat} {mi : Int} {Q : VK} {E : XK} (s : Stt H0 S l H) (sb : List.Sublist (tled p xs st c ns) l) (hn : ns.length ≤ 63) (hs : st ∈ S ∨ H0 st = none) (ht : All2 (TillAt H) xs cs) (hz : xs.length ≤ 2) (em : mi = (m : Nat)) (hm : m ≤ 5)
    (k : ∀ (D : Addr) us rs H', H0 D = none → H D = none → All2 (FlatV (cs.map (·.1)) H') us rs → us.length ≤ m → Kp [st] H H' → Stt H0 S ((D, Is (.lst us)) :: l) H' → Q (.ref D) H') : spRows K ([.ref st, .int mi, .ref p] ++ []) H Q E :=
  ⟨st, c, p, ns, xs, cs, m, by rw [em]; rfl, s.base sb, hn, ht, hz, hm, fun D us rs H' hD q h1 h2 => k D us rs H' (s.none hD) hD h1 h2 q.keep ((s.after1 (f := DrS c) (sb.subset (by simp)) q.keep hs (q.pick (by wtm_at "mem"))).add (q.pick (by wtm_at "mem")) (s.fresh hD))⟩
end

section
/-! ### rows that keep the rules -/
structure RowG (cs : List Str) (g : Bool) (d z : Nat) (r : LRow) : Prop where
  shp : r.shp
  val : r.val cs g
  wo : r.wo
  dep : r.dep ≤ d
  size : r.size ≤ z
  bad : ∀ q, r.bad q = none
  sml : r.sml
  noo : r ≠ .mk "say" [.str "other"] []
structure RowsG (cs : List Str) (g : Bool) (d z : Nat) (rs : List LRow) : Prop where
  shp : shpR rs
  val : valR cs g rs
  wo : woR rs
  dep : depR rs ≤ d
  size : sizeR rs ≤ z
  bad : ∀ q, badR q rs = none
  sml : smlR rs
  noo : ∀ r ∈ rs, r ≠ .mk "say" [.str "other"] []
variable {cs : List Str} {g : Bool} {d d' z z' : Nat}
theorem RowG.mono {r : LRow} (h : RowG cs g d z r) (hd : d ≤ d') (hz : z ≤ z') : RowG cs g d' z' r := ⟨h.shp, h.val, h.wo, Nat.le_trans h.dep hd, Nat.le_trans h.size hz, h.bad, h.sml, h.noo⟩
theorem RowsG.mono {r : List LRow} (h : RowsG cs g d z r) (hd : d ≤ d') (hz : z ≤ z') : RowsG cs g d' z' r := ⟨h.shp, h.val, h.wo, Nat.le_trans h.dep hd, Nat.le_trans h.size hz, h.bad, h.sml, h.noo⟩
theorem RowsG.nil : RowsG cs g d z [] := ⟨by rw [shpR]; trivial, by rw [valR]; trivial, by rw [woR]; trivial, by rw [depR]; omega, by rw [sizeR]; omega, fun q => by rw [badR], by rw [smlR]; trivial, fun _ m => nomatch m⟩
theorem RowsG.cons {r : LRow} {rs : List LRow} (h : RowG cs g d z r) (ne : r.nm = "ever" → rs = []) (t : RowsG cs g d z' rs) : RowsG cs g d (z + z') (r :: rs) :=
  ⟨by rw [shpR]; exact ⟨h.shp, t.shp⟩, by rw [valR]; exact ⟨h.val, ne, t.val⟩, by rw [woR]; exact ⟨h.wo, t.wo⟩, by rw [depR]; exact Nat.max_le.mpr ⟨h.dep, t.dep⟩, by rw [sizeR]; exact Nat.add_le_add h.size t.size, fun q => by rw [badR, h.bad, t.bad]; rfl, by rw [smlR]; exact ⟨h.sml, t.sml⟩, fun x m => (List.mem_cons.mp m).elim (fun e => e ▸ h.noo) (t.noo x)⟩
theorem RowsG.app : ∀ {as bs : List LRow} {y : Nat}, (∀ r ∈ as, RowG cs g d z r ∧ r.nm ≠ "ever") → RowsG cs g d y bs → RowsG cs g d (as.length * z + y) (as ++ bs)
  | [], bs, y, _, h => by rw [List.nil_append]; exact h.mono (Nat.le_refl _) (by omega)
  | x :: r, bs, y, h, t => by
    have h1 := h x List.mem_cons_self
    rw [List.cons_append]
    exact (RowsG.cons h1.1 (fun e => absurd e h1.2) (RowsG.app (fun r m => h r (List.mem_cons_of_mem _ m)) t)).mono (Nat.le_refl _) (by rw [List.length_cons, Nat.add_mul]; omega)
theorem RowsG.all {as : List LRow} (h : ∀ r ∈ as, RowG cs g d z r ∧ r.nm ≠ "ever") : RowsG cs g d (as.length * z) as := by
  have := RowsG.app h (RowsG.nil (z := 0))
  rw [List.append_nil] at this
  exact this.mono (Nat.le_refl _) (by omega)
theorem FlatA.good {n : Str} {as : List V} (h : FlatA cs n as) : RowG cs g d 1 (.mk n as []) ∧ (LRow.mk n as []).nm ≠ "ever" := by
  refine ⟨⟨?_, ?_, ?_, ?_, ?_, fun q => ?_, ?_, fun e => ?_⟩, fun e => ?_⟩
  · rw [LRow.shp, shpP]; exact ⟨h.shp, trivial⟩
  · rw [LRow.val, valP]
    refine ⟨fun e z ez => (wordS (h.say e z ez)).1, h.tak, fun e => ?_, trivial⟩
    obtain ⟨_, h2⟩ := h.shp.within_ e
    cases h2
  · rw [LRow.wo, woP]
    refine ⟨fun e => ?_, trivial⟩
    obtain ⟨_, h2⟩ := h.shp.ever_ e
    cases h2
  · rw [LRow.dep, depP]; omega
  · rw [LRow.size, sizeP]; exact Nat.le_refl _
  · rw [LRow.bad, if_pos h.num, badP]
  · rw [LRow.sml, smlP]; exact ⟨h.sml, trivial⟩
  · cases e; exact (wordS (h.say rfl _ rfl)).2 rfl
  · obtain ⟨_, h2⟩ := h.shp.ever_ e
    cases h2
theorem either_good {p q : List LRow} (h1 : RowsG cs g d z p) (h2 : RowsG cs g d z' q) : RowG cs g (d + 1) (1 + (z + z')) (.mk "either" [] [p, q]) := by
  refine ⟨?_, ?_, ?_, ?_, ?_, fun k => ?_, ?_, fun e => by injection e with _ _ e3; cases e3⟩
  · rw [LRow.shp, shpP, shpP, shpP]; exact ⟨.either, h1.shp, h2.shp, trivial⟩
  · rw [LRow.val, valP, valP, valP, decide_eq_false (by decide +kernel), Bool.or_false]
    exact ⟨fun e => absurd e (by decide +kernel), fun e => by rcases e with e | e <;> exact absurd e (by decide +kernel), fun e => absurd e (by decide +kernel), h1.val, h2.val, trivial⟩
  · rw [LRow.wo, woP, woP, woP]; exact ⟨fun e => absurd e (by decide +kernel), h1.wo, h2.wo, trivial⟩
  · have := h1.dep
    have := h2.dep
    rw [LRow.dep, depP, depP, depP]; omega
  · have := h1.size
    have := h2.size
    rw [LRow.size, sizeP, sizeP, sizeP]; omega
  · rw [LRow.bad, if_pos (by rfl), badP, badP, badP, h1.bad, h2.bad]; rfl
  · rw [LRow.sml, smlP, smlP, smlP]; exact ⟨fun i m => by simp at m, h1.sml, h2.sml, trivial⟩
theorem within_good {k : Int} {p q : List LRow} (hk : 1 ≤ k ∧ k ≤ 99) (h1 : RowsG cs true d z p) (h2 : RowsG cs true d z' q) : RowG cs false (d + 1) (1 + (z + z')) (.mk "within" [.int k] [p, q]) := by
  refine ⟨?_, ?_, ?_, ?_, ?_, fun k => ?_, ?_, fun e => by injection e with _ _ e3; cases e3⟩
  · rw [LRow.shp, shpP, shpP, shpP]; exact ⟨.within _, h1.shp, h2.shp, trivial⟩
  · rw [LRow.val, valP, valP, valP, decide_eq_true rfl, Bool.or_true]
    exact ⟨fun e => absurd e (by decide +kernel), fun e => by rcases e with e | e <;> exact absurd e (by decide +kernel), fun _ => rfl, h1.val, h2.val, trivial⟩
  · rw [LRow.wo, woP, woP, woP]; exact ⟨fun e => absurd e (by decide +kernel), h1.wo, h2.wo, trivial⟩
  · have := h1.dep
    have := h2.dep
    rw [LRow.dep, depP, depP, depP]; omega
  · have := h1.size
    have := h2.size
    rw [LRow.size, sizeP, sizeP, sizeP]; omega
  · rw [LRow.bad, if_pos (by rw [numB_slp (by decide +kernel)]; exact decide_eq_true hk), badP, badP, badP, h1.bad, h2.bad]; rfl
  · rw [LRow.sml, smlP, smlP, smlP]
    refine ⟨fun i m => ?_, h1.sml, h2.sml, trivial⟩
    simp at m
    omega
theorem ever_good {p : List LRow} (h1 : RowsG cs g d z p) (hw : swR p = true) : RowG cs g (d + 1) (1 + z) (.mk "ever" [] [p]) := by
  refine ⟨?_, ?_, ?_, ?_, ?_, fun k => ?_, ?_, fun e => by injection e with _ _ e3; cases e3⟩
  · rw [LRow.shp, shpP, shpP]; exact ⟨.ever, h1.shp, trivial⟩
  · rw [LRow.val, valP, valP, decide_eq_false (by decide +kernel), Bool.or_false]
    exact ⟨fun e => absurd e (by decide +kernel), fun e => by rcases e with e | e <;> exact absurd e (by decide +kernel), fun e => absurd e (by decide +kernel), h1.val, trivial⟩
  · rw [LRow.wo, woP, woP, swFst]; exact ⟨fun _ => hw, h1.wo, trivial⟩
  · have := h1.dep
    rw [LRow.dep, depP, depP]; omega
  · have := h1.size
    rw [LRow.size, sizeP, sizeP]; omega
  · rw [LRow.bad, if_pos (by rfl), badP, badP, h1.bad]; rfl
  · rw [LRow.sml, smlP, smlP]; exact ⟨fun i m => by simp at m, h1.sml, trivial⟩
theorem sw_mem {r : LRow} {rs : List LRow} (m : r ∈ rs) (h : r.sw = true) : swR rs = true := by
  rw [swR_any]
  exact List.any_eq_true.mpr ⟨r, m, h⟩
/-! ### what is new, and the tuples -/
def nw (H0 H : Hp) : Hp := fun a => match H a with
  | some (.tup xs) => some (.tup xs)
  | o => match H0 a with
    | none => o
    | some _ => none
theorem nw_t {H0 H : Hp} {a : Addr} {xs : List V} (h : H a = some (.tup xs)) : nw H0 H a = some (.tup xs) := by
  unfold nw
  rw [h]
theorem nw_n {H0 H : Hp} {a : Addr} {o : HO} (h0 : H0 a = none) (h : H a = some o) : nw H0 H a = some o := by
  unfold nw
  rw [h, h0]
  split <;> simp_all
theorem nw_of {H0 H : Hp} {a : Addr} {o : HO} (h : nw H0 H a = some o) : H a = some o ∧ ((∃ xs, o = .tup xs) ∨ H0 a = none) := by
  unfold nw at h
  split at h
  · rename_i xs e
    cases h
    exact ⟨e, .inl ⟨_, rfl⟩⟩
  · split at h
    · rename_i e
      exact ⟨h, .inr e⟩
    · cases h
theorem nw_step {H0 H1 H2 H3 : Hp} (a : ∀ b, H1 b = none → H0 b = none) (k : ∀ b o, H2 b = some o → ((∃ xs, o = .tup xs) ∨ H1 b = none) → H3 b = some o) : ∀ b o, nw H1 H2 b = some o → nw H0 H3 b = some o := fun b o h => by
  obtain ⟨e, h2⟩ := nw_of h
  have e3 := k b o e h2
  rcases h2 with ⟨xs, rfl⟩ | h2
  · exact nw_t e3
  · exact nw_n (a b h2) e3
theorem kp_dom {S : List Addr} {H H' : Hp} (k : Kp S H H') : ∀ b, H' b = none → H b = none := fun b h => by
  cases e : H b with
  | none => rfl
  | some o =>
    rcases k b o e with q | ⟨_, u, q⟩ <;> rw [h] at q <;> cases q
theorem RwA.of_nw {H0 H : Hp} {v : V} {r : LRow} (h : RwA .told (nw H0 H) v r) : RwA .any H v r := h.any.ext fun b o e => (nw_of e).1
theorem RsA.of_nw {H0 H : Hp} {v : V} {r : List LRow} (h : RsA .told (nw H0 H) v r) : RsA .any H v r := h.any.ext fun b o e => (nw_of e).1
end

section
variable {P : Program} {w : World} {K : PySem.W.Frag} {mg : Str → Option Value} {base : Heap}
theorem Shp.atm {n : Str} {as : List V} {m : Nat} (h : Shp n as m) : ∀ v ∈ as, Atm v := by
  cases h <;> intro v m <;> simp at m
  · rcases m with rfl | rfl
    · exact .inl ⟨_, rfl⟩
    · exact .inl ⟨_, rfl⟩
  · subst m; exact .inr ⟨_, rfl⟩
  · subst m; exact .inl ⟨_, rfl⟩
  · subst m; exact .inr ⟨_, rfl⟩
  · subst m; exact .inr ⟨_, rfl⟩
  · subst m; exact .inl ⟨_, rfl⟩
theorem FlatA.atm {cs : List Str} {n : Str} {as : List V} (h : FlatA cs n as) {v : V} (m : v ∈ as) : Atm v := Shp.atm h.shp v m
theorem FlatA.few {cs : List Str} {n : Str} {as : List V} (h : FlatA cs n as) : as.length ≤ 2 := h.shp.few.1
theorem flat_told {cs : List Str} {H0 H : Hp} : ∀ {us : List V} {rs : List LRow}, All2 (FlatV cs H) us rs → RwAll .told (nw H0 H) us rs
  | _, _, .nil => .nil
  | _, _, .cons h t => .cons (by
    obtain ⟨a, n, as, rfl, rfl, e3, e4⟩ := h.ex
    exact .mk (vs := []) (nw_t (by rw [List.append_nil]; exact e3)) (fun v m => e4.atm m) (by have := e4.few; simp; omega) .nil) (flat_told t)
theorem flat_good {cs : List Str} {H : Hp} {g : Bool} : ∀ {us : List V} {rs : List LRow}, All2 (FlatV cs H) us rs → ∀ r ∈ rs, RowG cs g 0 1 r ∧ r.nm ≠ "ever"
  | _, _, .nil, _, m => nomatch m
  | _, _, .cons h t, r, m => by
    rcases List.mem_cons.mp m with e | m
    · obtain ⟨a, n, as, _, e2, _, e4⟩ := h.ex
      rw [e, e2]
      exact e4.good
    · exact flat_good t r m
theorem all2_take {α β : Type} {R : α → β → Prop} : ∀ {n : Nat} {xs : List α} {ys : List β}, All2 R xs ys → All2 R (xs.take n) (ys.take n)
  | 0, _, _, _ => by rw [List.take_zero, List.take_zero]; exact .nil
  | n + 1, _, _, .nil => .nil
  | n + 1, _, _, .cons h t => by rw [List.take_succ_cons, List.take_succ_cons]; exact .cons h (all2_take t)
theorem cut1 {us : List V} : cutV us none (some 1) = us.take 1 := by
  cases us with
  | nil => rfl
  | cons x r =>
    unfold cutV
    have h0 : HT.sIx (x :: r).length 0 none = 0 := rfl
    have h1 : HT.sIx (x :: r).length (x :: r).length (some 1) = 1 := by
      simp [HT.sIx]
    rw [h0, h1]
    rfl
def spRow1 (K : PySem.W.Frag) : Sp := fun vs H Q _ => ∃ (st c p : Addr) (ns : List Int) (xs : List V) (cs : List Ctr), vs = [.ref st, .int 1, .ref p, .bl false] ∧ Stt H [st] (tled p xs st c ns) H ∧ ns.length ≤ 63 ∧ All2 (TillAt H) xs cs ∧ xs.length ≤ 2 ∧
  ∀ (v : V) (r : LRow) (H' : Hp), RowG (cs.map (·.1)) false 1 4 r → r.nm ≠ "ever" → RwA .told (nw H H') v r → Stt H [st] (tled p xs st c ns) H' → Q v H'
theorem ok_l_row1 (T : Txt K mg) : FnOk P w K mg base CX0 6 (He.fAd K ("_law_row", none)) T.fd_l_row ["_law_state", "_law_deep", "_law_tills", "_law_is_inside"] (spRow1 K) := by
  refine T.F_l_row.ok sc_l_row (fun vs H Q E h => ?_) (fun cdv A outer s H vs Q E hr h => ?_)
  · obtain ⟨st, c, p, ns, xs, cs, rfl, _⟩ := h
    rfl
  · obtain ⟨st, c, p, ns, xs, cs, rfl, s0, hn, ht, hz, k⟩ := h
    refine ⟨_, PSs.nox (pss_cons (ps_asg (pe_call (ok_l_take T) (hr.mono (by decide)) rfl T.g_l_take T.F_l_take.kp T.b_l_take .nil pass0 (pa_cons (pv 0) (pa_cons (pe_ifExp (pt_cmpR op_gt (pv 1) pe_int (nomark _)) pe_int pe_int) pa_nil))) (pg_name (i := 4) sc_l_row.nd rfl (by first | exact Or.inl rfl | exact Or.inr rfl)))
  (pss_cons (ps_if (pt_cmpR op_lt (pv 4) pe_int (nomark _)) (pss_cons (ps_asg (pe_call (ok_l_take T) (hr.mono (by decide)) rfl T.g_l_take T.F_l_take.kp T.b_l_take .nil pass0 (pa_cons (pv 0) (pa_cons pe_int pa_nil))) (pg_name (i := 5) sc_l_row.nd rfl (by first | exact Or.inl rfl | exact Or.inr rfl)))
  (pss_one (ps_ret (pe_tup (pa_cons pe_str (pa_cons (pv 5) (pa_cons (pe_op op_add (pv 5) (pe_call (ok_l_take T) (hr.mono (by decide)) rfl T.g_l_take T.F_l_take.kp T.b_l_take .nil pass0 (pa_cons (pv 0) (pa_cons pe_int pa_nil)))) pa_nil)))))))
   pss_nil)
  (pss_cons (ps_if (PW.pt (pw_or (pt_cmpR op_lt (pv 4) pe_int (nomark _)) (pw_or1 (PW.pt (pw_and (pt_cmpR op_in_seq (pv 4) (pe_tup (pa_cons pe_int (pa_cons pe_int pa_nil))) (by rfl)) (pw_and1 (pt_cmpR (op_eqP hr.units) (pv 2) (pe_lst pa_nil) (nomark _)))))))) (pss_one (ps_ret (pe_tup (pa_cons pe_str (pa_cons (pe_call (ok_l_one T) (hr.mono (by decide)) rfl T.g_l_one T.F_l_one.kp T.b_l_one .nil pass0 (pa_cons (pv 0) (pa_cons (pe_lst (pa_cons pe_str (pa_cons pe_str (pa_cons pe_str pa_nil)))) pa_nil))) pa_nil)))))
   pss_nil)
  (pss_cons (ps_if (pt_cmpR op_lt (pv 4) pe_int (nomark _)) (pss_one (ps_ret (pe_ifExp (pt_cmpR op_eq (pv 4) pe_int (nomark _)) (pe_tup (pa_cons pe_str (pa_cons (pe_op op_add pe_int (pe_call (ok_l_take T) (hr.mono (by decide)) rfl T.g_l_take T.F_l_take.kp T.b_l_take .nil pass0 (pa_cons (pv 0) (pa_cons pe_int pa_nil)))) pa_nil))) (pe_tup (pa_cons pe_str pa_nil)))))
   pss_nil)
  (pss_cons (ps_if (pt_cmpR op_lt (pv 4) pe_int (nomark _)) (pss_one (ps_ret (pe_tup (pa_cons (pe_ifExp (pt_cmpR op_eq (pv 4) pe_int (nomark _)) pe_str pe_str) (pa_cons (pe_ix ix_tup (pe_call (ok_l_one T) (hr.mono (by decide)) rfl T.g_l_one T.F_l_one.kp T.b_l_one .nil pass0 (pa_cons (pv 0) (pa_cons (pv 2) pa_nil))) pe_int (fun _ _ => rfl)) pa_nil)))))
   pss_nil)
  (pss_cons (ps_par (i := 6) (j := 7) (by rfl) sc_l_row.nd rfl rfl (by decide) rfl rfl (pa_cons (pe_call (ok_l_rows0 T) (hr.mono (by decide)) rfl T.g_l_rows T.F_l_rows.kp T.b_l_rows .nil pass0 (pa_cons (pv 0) (pa_cons pe_int (pa_cons (pv 2) pa_nil)))) (pa_cons (pe_call (ok_l_rows0 T) (hr.mono (by decide)) rfl T.g_l_rows T.F_l_rows.kp T.b_l_rows .nil pass0 (pa_cons (pv 0) (pa_cons pe_int (pa_cons (pv 2) pa_nil)))) pa_nil)) (by rfl))
  (pss_cons (ps_if (PW.pt (pw_or (pt_cmpR op_eq (pv 4) pe_int (nomark _)) (pw_or1 (pt_val (pv 3))))) (pss_one (ps_ret (pe_tup (pa_cons pe_str (pa_cons (pe_slice sl_list (pv 6) po_none (po_some pe_int)) (pa_cons (pv 7) pa_nil))))))
   pss_nil)
  (pss_one (ps_ret (pe_tup (pa_cons pe_str (pa_cons (pe_op op_add pe_int (pe_call (ok_l_take T) (hr.mono (by decide)) rfl T.g_l_take T.F_l_take.kp T.b_l_take .nil pass0 (pa_cons (pv 0) (pa_cons pe_int pa_nil)))) (pa_cons (pv 6) (pa_cons (pv 7) pa_nil)))))))))))))), ?_⟩
    wtm_at "k"
    have htl := ht.len
    obtain ⟨sty, hst⟩ := st_lst s0 (by wtm_at "mem")
    wtm_at "rd"
    have done : ∀ (a : Addr) (n : Str) (as : List V) (H' : Hp), H a = none → FlatA (cs.map (·.1)) n as → Stt H [st] ((a, Is (.tup (.str n :: as))) :: tled p xs st c ns) H' → Q (.ref a) H' := fun a n as H' ha hf s => by
      have h1 := s.get (a := a) List.mem_cons_self
      have h2 := hf.good (g := false) (d := 1)
      refine k (.ref a) (.mk n as []) H' (h2.1.mono (Nat.le_refl _) (by decide)) h2.2 (.mk (vs := []) (nw_t (by rw [List.append_nil]; exact h1)) (fun v m => hf.atm m) (by have := hf.few; simp; omega) .nil) (s.sub (by wtm_at "subl"))
    refine Rd.brI (by decide) ?_
    wtm_at "rd"
    refine take_ask s0 (by wtm_at "mem") (by wtm_at "mem") hn (by wtm_at "own") (by decide) fun way H1 hw s1 => ?_
    clear s0
    wtm_at "rd"
    refine Rd.brD (fun e => ?_) (fun e1 => ?_)
    · wtm_at "rd"
      refine take_ask s1 (by wtm_at "mem") (by wtm_at "mem") hn (by wtm_at "own") (by decide) fun lo H2 hlo s2 => ?_
      clear s1
      wtm_at "rd"
      refine take_ask s2 (by wtm_at "mem") (by wtm_at "mem") hn (by wtm_at "own") (by decide) fun d H3 hd s3 => ?_
      clear s2
      wtm_at "rd"
      rename_i a H4 ha s4
      refine done a "work" [.int lo, .int (lo + d)] H4 ha ⟨.work _ _, ?_, ?_, fun e => absurd e (by decide +kernel), fun e => absurd e (by decide +kernel)⟩ s4
      · rw [numB_work]
        simp
        omega
      · intro i m
        simp at m
        rcases m with rfl | rfl <;> omega
    · wtm_at "rd"
      refine Rd.brD (fun e2 => ?_) (fun e2 => ?_)
      · wtm_at "rd"
        rename_i qq Hq hqq sq
        clear s1
        refine one_ask sq (by wtm_at "subl") hn (by wtm_at "own") (by simp) fun v Hv mv sv => ?_
        clear sq
        obtain ⟨z, rfl, hz1⟩ : ∃ z, v = .str z ∧ WordS z = true := by
          simp only [List.mem_cons, List.not_mem_nil, or_false] at mv
          rcases mv with rfl | rfl | rfl
          · exact ⟨_, rfl, by decide +kernel⟩
          · exact ⟨_, rfl, by decide +kernel⟩
          · exact ⟨_, rfl, by decide +kernel⟩
        wtm_at "rd"
        rename_i a Ha ha sa
        exact done a "say" [.str z] Ha ha ⟨.say z, by simp [numB], fun i m => by simp at m, fun _ y ey => by cases ey; exact hz1, fun e => by rcases e with e | e <;> exact absurd e (by decide +kernel)⟩ (sa.sub (by wtm_at "subl"))
      · wtm_at "rd"
        rename_i qt Ht hqt st1
        clear s1
        by_cases h8 : way < 8
        · have h4 : way = 4 ∨ way = 5 ∨ way = 6 ∨ way = 7 := by omega
          clear hw e1 e2 h8 k
          rcases h4 with rfl | rfl | rfl | rfl
          · refine Rd.inT st1 (by wtm_at "mem") rfl rfl ?_
            rw [show inV (V.int 4) [V.int 6, V.int 7] = false by decide +kernel]
            wtm_at "rd"
            refine Rd.brI (by decide) ?_
            wtm_at "rd"
            refine take_ask st1 (by wtm_at "mem") (by wtm_at "mem") hn (by wtm_at "own") (by decide) fun d H3 hd s3 => ?_
            clear st1
            wtm_at "rd"
            rename_i a Ha ha sa
            refine done a "sleep" [.int (1 + d)] Ha ha ⟨.sleep _, ?_, fun i m => ?_, fun e => absurd e (by decide +kernel), fun e => by rcases e with e | e <;> exact absurd e (by decide +kernel)⟩ (sa.sub (by wtm_at "subl"))
            · rw [numB_slp (by decide +kernel)]
              simp
              omega
            · simp at m
              omega
          · refine Rd.inT st1 (by wtm_at "mem") rfl rfl ?_
            rw [show inV (V.int 5) [V.int 6, V.int 7] = false by decide +kernel]
            wtm_at "rd"
            refine Rd.brI (by decide) ?_
            wtm_at "rd"
            refine Rd.brD (fun e => absurd e (by decide)) (fun _ => ?_)
            wtm_at "rd"
            rename_i a Ha ha sa
            exact done a "pass" [] Ha ha ⟨.pass, rfl, fun i m => by simp at m, fun e => absurd e (by decide +kernel), fun e => by rcases e with e | e <;> exact absurd e (by decide +kernel)⟩ (sa.sub (by wtm_at "subl"))
          · refine Rd.inT st1 (by wtm_at "mem") rfl rfl ?_
            rw [show inV (V.int 6) [V.int 6, V.int 7] = true by decide +kernel]
            wtm_at "rd"
            rename_i qe He hqe se
            clear st1
            refine ⟨.list (cs.map tillPd), .list [], .lst (SqL.of (se.get (a := p) (by wtm_at "mem"))) (till_dp (ht.imp fun _ _ h => h.kt (kt_st se.keep hst))), .lst (SqL.of (se.get (a := qe) (by wtm_at "mem"))) .nil, till_plain cs, rfl, Nat.le_trans (till_dep cs) (by decide), ?_⟩
            cases ht with
            | nil =>
              rw [show PyData.eqv (.list (([] : List Ctr).map tillPd)) (.list []) = true by decide +kernel]
              wtm_at "rd"
              rename_i qq Hq hqq sq
              clear se
              refine one_ask sq (by wtm_at "subl") hn (by wtm_at "own") (by simp) fun v Hv mv sv => ?_
              clear sq
              obtain ⟨z, rfl, hz1⟩ : ∃ z, v = .str z ∧ WordS z = true := by
                simp only [List.mem_cons, List.not_mem_nil, or_false] at mv
                rcases mv with rfl | rfl | rfl
                · exact ⟨_, rfl, by decide +kernel⟩
                · exact ⟨_, rfl, by decide +kernel⟩
                · exact ⟨_, rfl, by decide +kernel⟩
              wtm_at "rd"
              rename_i a Ha ha sa
              exact done a "say" [.str z] Ha ha ⟨.say z, by simp [numB], fun i m => by simp at m, fun _ y ey => by cases ey; exact hz1, fun e => by rcases e with e | e <;> exact absurd e (by decide +kernel)⟩ (sa.sub (by wtm_at "subl"))
            | @cons v0 c0 vs0 cs0 h0 t0 =>
              rw [show PyData.eqv (.list ((c0 :: cs0).map tillPd)) (.list []) = false by rw [List.map_cons, PyData.eqv, PyData.eqvAll]]
              wtm_at "rd"
              refine Rd.brD (fun e => absurd e (by decide)) (fun _ => ?_)
              wtm_at "rd"
              refine Rd.brI (by decide) ?_
              wtm_at "rd"
              refine one_ask se (by wtm_at "subl") hn (by wtm_at "own") (by simp at hz ⊢; omega) fun v Hv mv sv => ?_
              clear se
              obtain ⟨c1, mc1, hc1⟩ := all2_mem (All2.cons h0 t0) mv
              obtain ⟨ta, rfl, hta⟩ := (hc1.kt (kt_st sv.keep hst)).ex
              wtm_at "rd"
              refine ⟨ta, _, 0, .str c1.1, rfl, rfl, SqT.of hta, atI_nat (j := 0) rfl, ?_⟩
              wtm_at "rd"
              rename_i a Ha ha sa
              exact done a "take" [.str c1.1] Ha ha ⟨.take _, by simp [numB], fun i m => by simp at m, fun e => absurd e (by decide +kernel), fun _ y ey => by cases ey; exact List.mem_map.mpr ⟨c1, mc1, rfl⟩⟩ (sa.sub (by wtm_at "subl"))
          · refine Rd.inT st1 (by wtm_at "mem") rfl rfl ?_
            rw [show inV (V.int 7) [V.int 6, V.int 7] = true by decide +kernel]
            wtm_at "rd"
            rename_i qe He hqe se
            clear st1
            refine ⟨.list (cs.map tillPd), .list [], .lst (SqL.of (se.get (a := p) (by wtm_at "mem"))) (till_dp (ht.imp fun _ _ h => h.kt (kt_st se.keep hst))), .lst (SqL.of (se.get (a := qe) (by wtm_at "mem"))) .nil, till_plain cs, rfl, Nat.le_trans (till_dep cs) (by decide), ?_⟩
            cases ht with
            | nil =>
              rw [show PyData.eqv (.list (([] : List Ctr).map tillPd)) (.list []) = true by decide +kernel]
              wtm_at "rd"
              rename_i qq Hq hqq sq
              clear se
              refine one_ask sq (by wtm_at "subl") hn (by wtm_at "own") (by simp) fun v Hv mv sv => ?_
              clear sq
              obtain ⟨z, rfl, hz1⟩ : ∃ z, v = .str z ∧ WordS z = true := by
                simp only [List.mem_cons, List.not_mem_nil, or_false] at mv
                rcases mv with rfl | rfl | rfl
                · exact ⟨_, rfl, by decide +kernel⟩
                · exact ⟨_, rfl, by decide +kernel⟩
                · exact ⟨_, rfl, by decide +kernel⟩
              wtm_at "rd"
              rename_i a Ha ha sa
              exact done a "say" [.str z] Ha ha ⟨.say z, by simp [numB], fun i m => by simp at m, fun _ y ey => by cases ey; exact hz1, fun e => by rcases e with e | e <;> exact absurd e (by decide +kernel)⟩ (sa.sub (by wtm_at "subl"))
            | @cons v0 c0 vs0 cs0 h0 t0 =>
              rw [show PyData.eqv (.list ((c0 :: cs0).map tillPd)) (.list []) = false by rw [List.map_cons, PyData.eqv, PyData.eqvAll]]
              wtm_at "rd"
              refine Rd.brD (fun e => absurd e (by decide)) (fun _ => ?_)
              wtm_at "rd"
              refine Rd.brI (by decide) ?_
              wtm_at "rd"
              refine Rd.brD (fun e => absurd e (by decide)) (fun _ => ?_)
              wtm_at "rd"
              refine one_ask se (by wtm_at "subl") hn (by wtm_at "own") (by simp at hz ⊢; omega) fun v Hv mv sv => ?_
              clear se
              obtain ⟨c1, mc1, hc1⟩ := all2_mem (All2.cons h0 t0) mv
              obtain ⟨ta, rfl, hta⟩ := (hc1.kt (kt_st sv.keep hst)).ex
              wtm_at "rd"
              refine ⟨ta, _, 0, .str c1.1, rfl, rfl, SqT.of hta, atI_nat (j := 0) rfl, ?_⟩
              wtm_at "rd"
              rename_i a Ha ha sa
              exact done a "give" [.str c1.1] Ha ha ⟨.give _, by simp [numB], fun i m => by simp at m, fun e => absurd e (by decide +kernel), fun _ y ey => by cases ey; exact List.mem_map.mpr ⟨c1, mc1, rfl⟩⟩ (sa.sub (by wtm_at "subl"))
        · clear done
          refine Rd.inT st1 (by wtm_at "mem") rfl rfl ?_
          have e8 : way = 8 ∨ way = 9 ∨ way = 10 := by omega
          rw [show inV (V.int way) [V.int 6, V.int 7] = false by rcases e8 with rfl | rfl | rfl <;> decide +kernel]
          wtm_at "rd"
          refine Rd.brD (fun e => absurd e (by omega)) (fun _ => ?_)
          wtm_at "rd"
          refine Rd.brD (fun e => absurd e (by omega)) (fun _ => ?_)
          wtm_at "rd"
          refine rows_ask (m := 2) st1 (by wtm_at "subl") hn (by wtm_at "own") (ht.imp fun _ _ h => h.kt (kt_st st1.keep hst)) hz rfl (by decide) fun D1 us1 rs1 H2 hD1 hD1' hf1 hl1 k12 s2 => ?_
          clear st1
          wtm_at "rd"
          refine rows_ask (m := 1) s2 (by wtm_at "subl") hn (by wtm_at "own") (ht.imp fun _ _ h => h.kt (kt_st s2.keep hst)) hz rfl (by decide) fun D2 us2 rs2 H3 hD2 hD2' hf2 hl2 k23 s3 => ?_
          obtain ⟨sty2, hst2⟩ := st_lst s2 (by wtm_at "mem")
          have hf1' := hf1.imp fun _ _ h => h.kt (kt_st k23 hst2)
          have hf1l := hf1.len
          have hf2l := hf2.len
          clear s2
          have g1 : ∀ g, RowsG (cs.map (·.1)) g 0 2 rs1 := fun g => (RowsG.all (flat_good hf1)).mono (Nat.le_refl _) (by omega)
          have g2 : ∀ g, RowsG (cs.map (·.1)) g 0 1 rs2 := fun g => (RowsG.all (flat_good hf2)).mono (Nat.le_refl _) (by omega)
          obtain ⟨sty3, hst3⟩ := st_lst s3 (by wtm_at "mem")
          have t3 : Stt H3 [st] ((D2, Is (.lst us2)) :: (D1, Is (.lst us1)) :: (qt, Is (.tup [.int 6, .int 7])) :: tled p xs st c ns) H3 := ⟨.refl H3, s3.nd, s3.at_⟩
          have kH3 := s3.keep
          clear s3
          wtm_at "rd"
          refine Rd.brD (fun e => ?_) (fun e => ?_)
          · wtm_at "rd"
            refine ⟨D1, us1, rfl, SqL.of (t3.get (a := D1) (by wtm_at "mem")), fun q hq => ?_⟩
            rw [show cutV us1 none (some 1) = us1.take 1 from cut1]
            have t4 := t3.new hq (.lst (us1.take 1))
            clear t3
            wtm_at "rd"
            rename_i a Ha ha sa
            have kt := kt_st sa.keep hst3
            have s' : Stt H [st] _ Ha := ⟨kpT kH3 sa.keep, sa.nd, sa.at_⟩
            have hf3 := all2_take (n := 1) (hf1'.imp fun _ _ h => h.kt kt)
            have hf4 := hf2.imp fun _ _ h => h.kt kt
            refine k (.ref a) (.mk "either" [] [rs1.take 1, rs2]) Ha (either_good ((RowsG.all (flat_good hf3)).mono (z' := 1) (Nat.le_refl _) (by rw [List.length_take]; omega)) (g2 false) |>.mono (Nat.le_refl _) (by omega)) (show ("either" : Str) ≠ "ever" by decide +kernel) ?_ (s'.sub (by wtm_at "subl"))
            have ea := sa.get (a := a) (by wtm_at "mem")
            have eq := sa.get (a := q) (by wtm_at "mem")
            have e2 := sa.get (a := D2) (by wtm_at "mem")
            refine .mk (as := []) (vs := [.ref q, .ref D2]) (nw_t ea) (fun v m => nomatch m) (by simp) (.cons (.mk (nw_n (kp_dom kH3 q hq) eq) (by rw [List.length_take]; omega) (flat_told hf3)) (.cons (.mk (nw_n hD2 e2) (by omega) (flat_told hf4)) .nil))
          · wtm_at "rd"
            refine take_ask t3 (by wtm_at "mem") (by wtm_at "mem") hn (by wtm_at "own") (by decide) fun d H4 hd t4 => ?_
            clear t3
            wtm_at "rd"
            rename_i a Ha ha sa
            have kt := kt_st sa.keep hst3
            have s' : Stt H [st] _ Ha := ⟨kpT kH3 sa.keep, sa.nd, sa.at_⟩
            have hf3 := hf1'.imp fun _ _ h => h.kt kt
            have hf4 := hf2.imp fun _ _ h => h.kt kt
            refine k (.ref a) (.mk "within" [.int (1 + d)] [rs1, rs2]) Ha (within_good (by omega) (g1 true) (g2 true) |>.mono (Nat.le_refl _) (by omega)) (show ("within" : Str) ≠ "ever" by decide +kernel) ?_ (s'.sub (by wtm_at "subl"))
            have ea := sa.get (a := a) (by wtm_at "mem")
            have e1 := sa.get (a := D1) (by wtm_at "mem")
            have e2 := sa.get (a := D2) (by wtm_at "mem")
            refine .mk (as := [.int (1 + d)]) (vs := [.ref D1, .ref D2]) (nw_t ea) (fun v m => by rw [List.mem_singleton.mp m]; exact .inl ⟨_, rfl⟩) (by simp) (.cons (.mk (nw_n hD1 e1) (by omega) (flat_told hf3)) (.cons (.mk (nw_n hD2 e2) (by omega) (flat_told hf4)) .nil))
end

section
variable {X : Cx}
def rNeP (K : PySem.W.Frag) : R2 := fun x y H Q => ∃ d e, Dp K H x d ∧ Dp K H y e ∧ PyData.plain d = true ∧ PyData.plain e = true ∧ d.depth ≤ 64 ∧ Q (.bl (!PyData.eqv d e)) H
theorem op_neP (hu : X.A.units + 64 < cLine) : OpR X (compareOp .NotEq) (rNeP X.K) := by
  intro pins s σ H x y v u Q I rx ry h
  obtain ⟨d, e, hd, he, sd, se, hz, q⟩ := h
  obtain ⟨as, r1⟩ := Dp.reads I d x v hd rx
  obtain ⟨bs, r2⟩ := Dp.reads I e y u he ry
  exact PySem.SeqAt.ne_plain r1 r2 sd se (by have := Nat.min_le_left d.depth e.depth; omega) ⟨.bl _, H, I, rfl, q⟩
end
section
variable {P : Program} {w : World} {K : PySem.W.Frag} {mg : Str → Option Value} {base : Heap}
/-! ### rows in another order -/
def flatPd (r : LRow) : PyData := .tuple (.str r.nm :: r.ats.map vPd)
theorem atm_dp {H : Hp} : ∀ {as : List V}, (∀ v ∈ as, Atm v) → DpAll K H as (as.map vPd)
  | [], _ => .nil
  | a :: r, h => .cons (by
    rcases h a List.mem_cons_self with ⟨i, rfl⟩ | ⟨z, rfl⟩
    · exact .int i
    · exact .str z) (atm_dp fun v m => h v (List.mem_cons_of_mem _ m))
theorem vs_plain : ∀ as : List V, PyData.plainAll (as.map vPd) = true
  | [] => rfl
  | a :: r => by rw [List.map_cons, PyData.plainAll, vPd_plain, vs_plain r]; rfl
theorem vs_dep : ∀ as : List V, PyData.depthAll (as.map vPd) = 0
  | [] => rfl
  | a :: r => by rw [List.map_cons, PyData.depthAll, vPd_dep, vs_dep r]; rfl
theorem flat_dp {cs : List Str} {H : Hp} : ∀ {us : List V} {rs : List LRow}, All2 (FlatV cs H) us rs → DpAll K H us (rs.map flatPd)
  | _, _, .nil => .nil
  | _, _, .cons h t => .cons (by
    obtain ⟨a, n, as, rfl, rfl, e3, e4⟩ := h.ex
    exact .tup (SqT.of e3) (.cons (.str _) (atm_dp fun v m => e4.atm m))) (flat_dp t)
theorem flats_plain : ∀ rs : List LRow, PyData.plainAll (rs.map flatPd) = true
  | [] => rfl
  | r :: t => by rw [List.map_cons, PyData.plainAll, flatPd, PyData.plain, PyData.plainAll, vs_plain, flats_plain t]; rfl
theorem flats_dep : ∀ rs : List LRow, PyData.depthAll (rs.map flatPd) ≤ 1
  | [] => by decide
  | r :: t => by
    have := flats_dep t
    rw [List.map_cons, PyData.depthAll, flatPd, PyData.depth, PyData.depthAll, vs_dep, PyData.depth]
    omega
theorem all2_erase {α β : Type} {R : α → β → Prop} : ∀ {j : Nat} {xs : List α} {ys : List β}, All2 R xs ys → All2 R (xs.eraseIdx j) (ys.eraseIdx j)
  | _, _, _, .nil => by rw [List.eraseIdx_nil, List.eraseIdx_nil]; exact .nil
  | 0, _, _, .cons h t => t
  | j + 1, _, _, .cons h t => .cons h (all2_erase t)
theorem kt_ls {S : List Addr} {H H' : Hp} (k : Kp S H H') (h : ∀ x ∈ S, ∃ ys, H x = some (.lst ys)) : Kt H H' := fun b xs e => k.get (fun m => by
  obtain ⟨ys, q⟩ := h b m
  rw [e] at q
  cases q) e
def spMix (K : PySem.W.Frag) : Sp := fun vs H Q _ => ∃ (st c p : Addr) (ns : List Int) (xs : List V) (rs : List LRow) (cs : List Str), vs = [.ref st, .ref p] ∧ Stt H [st] (tled p xs st c ns) H ∧ ns.length ≤ 63 ∧ All2 (FlatV cs H) xs rs ∧ xs.length ≤ 10 ∧
  ∀ (D : Addr) (us : List V) (ts : List LRow) (H' : Hp), H D = none → Stt H [st] ((D, Is (.lst us)) :: tled p xs st c ns) H' → All2 (FlatV cs H') us ts → ts.Perm rs → Q (.ref D) H'
theorem ok_l_mix (T : Txt K mg) : FnOk P w K mg base CX0 3 (He.fAd K ("_law_mix", none)) T.fd_l_mix ["_law_state", "_law_things"] (spMix K) := by
  refine T.F_l_mix.ok sc_l_mix (fun vs H Q E h => ?_) (fun cdv A outer s H vs Q E hr h => ?_)
  · obtain ⟨st, c, p, ns, xs, rs, cs, rfl, _⟩ := h
    rfl
  · obtain ⟨st, c, p, ns, xs, rs, cs, rfl, s0, hn, hx, hz, k⟩ := h
    refine ⟨_, PSs.nox (pss_cons (ps_par (i := 2) (j := 3) (by rfl) sc_l_mix.nd rfl rfl (by decide) rfl rfl (pa_cons (pe_callTy call_listX (by rfl) T.n_list (by decide +kernel) (pa_cons (pv 1) pa_nil)) (pa_cons (pe_lst pa_nil) pa_nil)) (by rfl))
  (pss_cons (ps_while PassesOwn.never (pt_cmpR (op_neP hr.units) (pv 2) (pe_lst pa_nil) (nomark _)) (pss_one (ps_expr (pe_bm PySem.F.plainAttrs_list PySem.F.slot_list_append PySem.F.type_list_append mt_append (pv 3) (pa_cons (pe_bm PySem.F.plainAttrs_list PySem.F.slot_list_pop PySem.F.type_list_pop mt_popAt (pv 2) (pa_cons (pe_call (ok_l_take T) (hr.mono (by decide)) rfl T.g_l_take T.F_l_take.kp T.b_l_take .nil pass0 (pa_cons (pv 0) (pa_cons (pe_callB call_lenQ (by rfl) T.n_len PySem.boot_len (pa_cons (pv 2) pa_nil)) pa_nil))) pa_nil)) pa_nil)))))
  (pss_one (ps_ret (pv 3))))), ?_⟩
    wtm_at "k"
    obtain ⟨sty, hst⟩ := st_lst s0 (by wtm_at "mem")
    wtm_at "rd"
    refine Rd.lstX s0 (SqX.l (SqL.of (s0.get (a := p) (by wtm_at "mem")))) fun pl H1 hpl s1 => ?_
    have kt1 := kt_st s1.keep hst
    clear s0
    wtm_at "rd"
    rename_i pf H2 hpf s2
    have hx2 := hx.imp fun _ _ h => h.kt (kt_st s2.keep hst)
    clear s1
    refine Rd.whileS (fun n σ' H' => ∃ (left found : List V) (rl rf : List LRow), σ' = [some (.ref st), some (.ref p), some (.ref pl), some (.ref pf)] ∧ Stt H [st] ((pf, Is (.lst found)) :: (pl, Is (.lst left)) :: tled p xs st c ns) H' ∧ All2 (FlatV cs H') left rl ∧ All2 (FlatV cs H') found rf ∧ (rf ++ rl).Perm rs ∧ found.length + left.length ≤ 10 ∧ n = left.length) xs.length ⟨xs, [], rs, [], rfl, s2, hx2, .nil, List.Perm.refl _, by simp; omega, rfl⟩ ?_
    clear s2 hx2
    rintro m σ' H' ⟨left, found, rl, rf, rfl, s3, hl, hf, hp, h10, rfl⟩
    obtain ⟨sty3, hst3⟩ := st_lst s3 (by wtm_at "mem")
    have t3 : Stt H' [st, pl, pf] ((pf, Is (.lst found)) :: (pl, Is (.lst left)) :: tled p xs st c ns) H' := ⟨.refl H', s3.nd, s3.at_⟩
    have kH := s3.keep
    have hS : ∀ x ∈ [st, pl, pf], ∃ ys, H' x = some (.lst ys) := fun x m => by
      simp only [List.mem_cons, List.not_mem_nil, or_false] at m
      rcases m with rfl | rfl | rfl
      · exact ⟨_, hst3⟩
      · exact ⟨_, s3.get (by wtm_at "mem")⟩
      · exact ⟨_, s3.get (by wtm_at "mem")⟩
    have back : ∀ {l : Led} {H'' : Hp}, Stt H' [st, pl, pf] l H'' → Stt H [st] l H'' := fun t => ⟨kH.trans t.keep fun x m => by
      simp only [List.mem_cons, List.not_mem_nil, or_false] at m
      rcases m with rfl | rfl | rfl
      · exact .inl (List.mem_singleton_self _)
      · exact .inr hpl
      · exact .inr hpf, t.nd, t.at_⟩
    clear s3
    wtm_at "rd"
    rename_i qe He hqe s4
    clear t3
    have kt4 := kt_ls s4.keep hS
    refine ⟨.list (rl.map flatPd), .list [], .lst (SqL.of (s4.get (a := pl) (by wtm_at "mem"))) (flat_dp (hl.imp fun _ _ h => h.kt kt4)), .lst (SqL.of (s4.get (a := qe) (by wtm_at "mem"))) .nil, by rw [PyData.plain]; exact flats_plain rl, rfl, by rw [PyData.depth]; have := flats_dep rl; omega, ?_⟩
    cases hl with
    | nil =>
      rw [show PyData.eqv (.list (([] : List LRow).map flatPd)) (.list []) = true by decide +kernel]
      wtm_at "rd"
      exact k pf found rf _ hpf ((back s4).sub (by wtm_at "subl")) (hf.imp fun _ _ h => h.kt kt4) (by rw [List.append_nil] at hp; exact hp)
    | @cons v0 r0 vs0 rs0 h0 t0 =>
      rw [show PyData.eqv (.list ((r0 :: rs0).map flatPd)) (.list []) = false by rw [List.map_cons, PyData.eqv, PyData.eqvAll]]
      have hl := All2.cons h0 t0
      have hll := hl.len
      wtm_at "rd"
      refine ⟨fun σ' H' => ∃ n, n < (v0 :: vs0).length ∧ ∃ (left found : List V) (rl rf : List LRow), σ' = [some (.ref st), some (.ref p), some (.ref pl), some (.ref pf)] ∧ Stt H [st] ((pf, Is (.lst found)) :: (pl, Is (.lst left)) :: tled p xs st c ns) H' ∧ All2 (FlatV cs H') left rl ∧ All2 (FlatV cs H') found rf ∧ (rf ++ rl).Perm rs ∧ found.length + left.length ≤ 10 ∧ n = left.length, fun _ _ h => h, ?_⟩
      wtm_at "rd"
      have hz4 : (v0 :: vs0).length ≤ 10 := by omega
      refine take_ask s4 (by wtm_at "mem") (by wtm_at "mem") hn (by wtm_at "own") (by simp only [List.length_cons] at hz4 ⊢; omega) fun d H5 hd s5 => ?_
      clear s4
      obtain ⟨j, rfl⟩ := Int.eq_ofNat_of_zero_le hd.1
      have hj : j < (v0 :: vs0).length := by omega
      obtain ⟨z, ez⟩ : ∃ z, (v0 :: vs0)[j]? = some z := ⟨(v0 :: vs0)[j], by simp [hj]⟩
      obtain ⟨r, er, hr⟩ := hl.at_ ez
      wtm_at "rd"
      refine pop_at s5 (by wtm_at "mem") (by omega) ez (by wtm_at "put") (by wtm_at "own") fun H6 s6 _ _ => ?_
      clear s5
      have s6' : Stt H' [st, pl, pf] ((qe, Is (.lst [])) :: (pf, Is (.lst found)) :: (pl, Is (.lst ((v0 :: vs0).eraseIdx j))) :: tled p xs st c ns) H6 ∧ True := ⟨s6, trivial⟩
      clear s6
      wtm_at "rd"
      refine Rd.app s6'.1 (by wtm_at "mem") (by omega) (by wtm_at "put") (by wtm_at "own") fun H7 s7 => ?_
      have kt7 := kt_ls s7.keep hS
      have pm : (rf ++ [r] ++ (r0 :: rs0).eraseIdx j).Perm rs := by
        rw [List.append_assoc]
        exact ((erase_perm er).append_left rf).trans hp
      refine ⟨_, ?_, (v0 :: vs0).eraseIdx j, found ++ [z], (r0 :: rs0).eraseIdx j, rf ++ [r], rfl, (back s7).sub (by wtm_at "subl"), (all2_erase hl).imp fun _ _ h => h.kt kt7, (hf.imp fun _ _ h => h.kt kt7).app (.cons (hr.kt kt7) .nil), pm, ?_, rfl⟩
      · rw [List.length_eraseIdx_of_lt hj]; omega
      · rw [List.length_eraseIdx_of_lt hj, List.length_append, List.length_singleton]; omega
theorem mix_ask {H0 H : Hp} {S : List Addr} {l : Led} {st c p : Addr} {ns : List Int} {xs : List V} {rs : List LRow} {cs : List Str} {Q : VK} {E : XK} (s : Stt H0 S l H) (sb : List.Sublist (tled p xs st c ns) l) (hn : ns.length ≤ 63) (hs : st ∈ S ∨ H0 st = none) (ht : All2 (FlatV cs H) xs rs) (hz : xs.length ≤ 10)
    (k : ∀ (D : Addr) us ts H', H0 D = none → H D = none → All2 (FlatV cs H') us ts → ts.Perm rs → Kp [st] H H' → Stt H0 S ((D, Is (.lst us)) :: l) H' → Q (.ref D) H') : spMix K ([.ref st, .ref p] ++ []) H Q E :=
  ⟨st, c, p, ns, xs, rs, cs, rfl, s.base sb, hn, ht, hz, fun D us ts H' hD q h1 h2 => k D us ts H' (s.none hD) hD h1 h2 q.keep ((s.after1 (f := DrS c) (sb.subset (by simp)) q.keep hs (q.pick (by wtm_at "mem"))).add (q.pick (by wtm_at "mem")) (s.fresh hD))⟩
end

section
variable {P : Program} {w : World} {K : PySem.W.Frag} {mg : Str → Option Value} {base : Heap}
/-! ### sheets drawn -/
def ex (D : Addr) (X : Hp) : Hp := fun a => if a = D then none else X a
theorem ex_of {D a : Addr} {X : Hp} {o : HO} (h : ex D X a = some o) : a ≠ D ∧ X a = some o := by
  unfold ex at h
  split at h
  · cases h
  · rename_i n
    exact ⟨n, h⟩
theorem ex_mk {D a : Addr} {X : Hp} {o : HO} (n : a ≠ D) (h : X a = some o) : ex D X a = some o := by
  unfold ex
  rw [if_neg n]
  exact h
theorem exnw_step {D : Addr} {H0 H2 H3 : Hp} (k : ∀ b o, b ≠ D → H2 b = some o → ((∃ xs, o = .tup xs) ∨ H0 b = none) → H3 b = some o) : ∀ b o, ex D (nw H0 H2) b = some o → ex D (nw H0 H3) b = some o := fun b o h => by
  obtain ⟨n, h1⟩ := ex_of h
  obtain ⟨e, h2⟩ := nw_of h1
  have e3 := k b o n e h2
  rcases h2 with ⟨xs, rfl⟩ | h2
  · exact ex_mk n (nw_t e3)
  · exact ex_mk n (nw_n h2 e3)
/-- a call that changes but st, then D -/
theorem old_step {D st : Addr} {H0 H2 H3 : Hp} {sty : List V} (hst : H2 st = some (.lst sty)) (h0 : ∃ o, H0 st = some o) (k : Kp [st] H2 H3) : ∀ b o, ex D (nw H0 H2) b = some o → ex D (nw H0 H3) b = some o := exnw_step fun b o _ e h => k.get (fun m => by
  rw [List.mem_singleton.mp m] at e h
  rcases h with ⟨xs, rfl⟩ | h
  · rw [hst] at e; cases e
  · obtain ⟨u, q⟩ := h0
    rw [h] at q; cases q) e
theorem upd_step {D : Addr} {H0 H2 : Hp} {u : HO} : ∀ b o, ex D (nw H0 H2) b = some o → ex D (nw H0 (upd H2 D u)) b = some o := exnw_step fun b o n e _ => by
  rw [upd_ne n]
  exact e
theorem new_step {D : Addr} {H0 HA HB : Hp} {ys zs : List V} (hA : HA D = some (.lst ys)) (hB : HB D = some (.lst zs)) (d : ∀ b, HA b = none → H0 b = none) : ∀ b o, nw HA HB b = some o → ex D (nw H0 HB) b = some o := fun b o h => by
  obtain ⟨e, h2⟩ := nw_of h
  rcases h2 with ⟨xs, rfl⟩ | h2
  · exact ex_mk (fun q => by rw [q, hB] at e; cases e) (nw_t e)
  · exact ex_mk (fun q => by rw [q, hA] at h2; cases h2) (nw_n (d b h2) e)
theorem flat_toldX {cs : List Str} {H X : Hp} (f : ∀ a xs, H a = some (.tup xs) → X a = some (.tup xs)) : ∀ {us : List V} {rs : List LRow}, All2 (FlatV cs H) us rs → RwAll .told X us rs
  | _, _, .nil => .nil
  | _, _, .cons h t => .cons (by
    obtain ⟨a, n, as, rfl, rfl, e3, e4⟩ := h.ex
    exact .mk (vs := []) (f _ _ (by rw [List.append_nil]; exact e3)) (fun v m => e4.atm m) (by have := e4.few; simp; omega) .nil) (flat_toldX f t)
theorem rwall_take {c : Cf} {H : Hp} : ∀ {n : Nat} {us : List V} {rs : List LRow}, RwAll c H us rs → RwAll c H (us.take n) (rs.take n)
  | 0, _, _, _ => by rw [List.take_zero, List.take_zero]; exact .nil
  | n + 1, _, _, .nil => .nil
  | n + 1, _, _, .cons h t => by rw [List.take_succ_cons, List.take_succ_cons]; exact .cons h (rwall_take t)
theorem rwall_app {c : Cf} {H : Hp} : ∀ {us vs : List V} {rs ts : List LRow}, RwAll c H us rs → RwAll c H vs ts → RwAll c H (us ++ vs) (rs ++ ts)
  | _, _, _, _, .nil, h => h
  | _, _, _, _, .cons h t, q => .cons h (rwall_app t q)
theorem tup_ex {D : Addr} {H0 H : Hp} {zs : List V} (e : H D = some (.lst zs)) : ∀ a xs, H a = some (.tup xs) → ex D (nw H0 H) a = some (.tup xs) := fun a xs h => ex_mk (fun q => by rw [q, e] at h; cases h) (nw_t h)
theorem sttRb {H0 H : Hp} {S : List Addr} {l : Led} (s : Stt H0 S l H) : Stt H S l H := ⟨.refl H, s.nd, s.at_⟩
theorem row1_ask {H0 H : Hp} {S : List Addr} {l : Led} {st c p : Addr} {ns : List Int} {xs : List V} {cs : List Ctr} {Q : VK} {E : XK} (s : Stt H0 S l H) (sb : List.Sublist (tled p xs st c ns) l) (hn : ns.length ≤ 63) (hs : st ∈ S ∨ H0 st = none) (ht : All2 (TillAt H) xs cs) (hz : xs.length ≤ 2)
    (k : ∀ v r H', RowG (cs.map (·.1)) false 1 4 r → r.nm ≠ "ever" → RwA .told (nw H H') v r → Kp [st] H H' → Stt H0 S l H' → Q v H') : spRow1 K ([.ref st, .int 1, .ref p, .bl false] ++ []) H Q E :=
  ⟨st, c, p, ns, xs, cs, rfl, s.base sb, hn, ht, hz, fun v r H' h1 h2 h3 q => k v r H' h1 h2 h3 q.keep (s.after1 (f := DrS c) (sb.subset (by simp)) q.keep hs (q.pick (by wtm_at "mem")))⟩
def spSheet (K : PySem.W.Frag) : Sp := fun vs H Q _ => ∃ (st c p : Addr) (ns : List Int) (xs : List V) (cs : List Ctr), vs = [.ref st, .ref p] ∧ Stt H [st] (tled p xs st c ns) H ∧ ns.length ≤ 63 ∧ All2 (TillAt H) xs cs ∧ xs.length ≤ 2 ∧
  ∀ (v : V) (rs : List LRow) (H' : Hp), RowsG (cs.map (·.1)) false 3 12 rs → RsA .told (nw H H') v rs → Stt H [st] (tled p xs st c ns) H' → Q v H'
theorem ok_l_sheet (T : Txt K mg) : FnOk P w K mg base CX0 8 (He.fAd K ("_law_sheet", none)) T.fd_l_sheet ["_law_state", "_law_tills"] (spSheet K) := by
  refine T.F_l_sheet.ok sc_l_sheet (fun vs H Q E h => ?_) (fun cdv A outer s H vs Q E hr h => ?_)
  · obtain ⟨st, c, p, ns, xs, cs, rfl, _⟩ := h
    rfl
  · obtain ⟨st, c, p, ns, xs, cs, rfl, s0, hn, ht, hz, k⟩ := h
    refine ⟨_, PSs.nox (C8.pss_cut (ps_setLc (i := 2) (own := [("_law_k", 7)]) (g := gName 7) (tt := tYes) (by rfl) sc_l_sheet.nd rfl rfl (sw_true rfl rfl rfl (by decide +kernel)) (pi_range1 rfl T.n_range (pa_cons (pe_call (ok_l_take T) (hr.mono (by decide)) rfl T.g_l_take T.F_l_take.kp T.b_l_take .nil pass0 (pa_cons (pv 0) (pa_cons pe_int pa_nil))) pa_nil)) (blkOk_by (own := [("_law_k", 7)]) (N := ["_law_state", "_law_tills", "_law_rows_here", "_law_way", "_law_wait", "_law_inner_here", "_law_around", "_law_k"]) (sc := defScope s_l_sheet) (by decide +kernel)) (fun _ _ _ _ _ => (pg_name (i := 7) sc_l_sheet.nd rfl (by first | exact Or.inl rfl | exact Or.inr rfl))) (fun _ _ _ _ _ => pts_nil) (fun _ _ _ _ _ => (pe_call (ok_l_row1 T) (hr.mono (by decide)) rfl T.g_l_row T.F_l_row.kp T.b_l_row .nil pass0 (pa_cons (pv 0) (pa_cons pe_int (pa_cons (pv 1) (pa_cons pe_bl pa_nil)))))))
  (C8.pss_cut (ps_par (i := 3) (j := 4) (by rfl) sc_l_sheet.nd rfl rfl (by decide) rfl rfl (pa_cons (pe_call (ok_l_take T) (hr.mono (by decide)) rfl T.g_l_take T.F_l_take.kp T.b_l_take .nil pass0 (pa_cons (pv 0) (pa_cons pe_int pa_nil))) (pa_cons (pe_ifExp (pt_cmpR op_gt (pe_call (ok_l_take T) (hr.mono (by decide)) rfl T.g_l_take T.F_l_take.kp T.b_l_take .nil pass0 (pa_cons (pv 0) (pa_cons pe_int pa_nil))) pe_int (nomark _)) (pe_tup (pa_cons pe_str (pa_cons (pe_op op_add pe_int (pe_call (ok_l_take T) (hr.mono (by decide)) rfl T.g_l_take T.F_l_take.kp T.b_l_take .nil pass0 (pa_cons (pv 0) (pa_cons pe_int pa_nil)))) pa_nil))) (pe_tup (pa_cons pe_str pa_nil))) pa_nil)) (by rfl))
  (pss_cons (ps_if (pt_cmpR op_lt (pv 3) pe_int (nomark _)) (pss_one (ps_expr (pe_bm PySem.F.plainAttrs_list PySem.F.slot_list_append PySem.F.type_list_append mt_append (pv 2) (pa_cons (pe_tup (pa_cons pe_str (pa_cons (pe_call (ok_l_mix T) (hr.mono (by decide)) rfl T.g_l_mix T.F_l_mix.kp T.b_l_mix .nil pass0 (pa_cons (pv 0) (pa_cons (pe_op op_cat (pe_call (ok_l_rows0 T) (hr.mono (by decide)) rfl T.g_l_rows T.F_l_rows.kp T.b_l_rows .nil pass0 (pa_cons (pv 0) (pa_cons pe_int (pa_cons (pv 1) pa_nil)))) (pe_lst (pa_cons (pv 4) pa_nil))) pa_nil))) pa_nil))) pa_nil))))
   pss_nil)
  (pss_cons (ps_if (pt_cmpR op_eq (pv 3) pe_int (nomark _)) (pss_cons (ps_asg (pe_lst (pa_cons (pe_tup (pa_cons pe_str (pa_cons (pe_call (ok_l_rows0 T) (hr.mono (by decide)) rfl T.g_l_rows T.F_l_rows.kp T.b_l_rows .nil pass0 (pa_cons (pv 0) (pa_cons pe_int (pa_cons (pv 1) pa_nil)))) (pa_cons (pe_call (ok_l_rows0 T) (hr.mono (by decide)) rfl T.g_l_rows T.F_l_rows.kp T.b_l_rows .nil pass0 (pa_cons (pv 0) (pa_cons pe_int (pa_cons (pv 1) pa_nil)))) pa_nil)))) pa_nil)) (pg_name (i := 5) sc_l_sheet.nd rfl (by first | exact Or.inl rfl | exact Or.inr rfl)))
  (pss_one (ps_asg (pe_op op_cat (pe_slice sl_list (pv 2) po_none (po_some pe_int)) (pe_lst (pa_cons (pe_tup (pa_cons pe_str (pa_cons (pv 5) (pa_cons (pe_lst (pa_cons (pe_tup (pa_cons pe_str (pa_cons (pe_lst (pa_cons (pv 4) pa_nil)) pa_nil))) pa_nil)) pa_nil)))) pa_nil))) (pg_name (i := 2) sc_l_sheet.nd rfl (by first | exact Or.inl rfl | exact Or.inr rfl)))))
   pss_nil)
  (pss_cons (ps_if (pt_cmpR op_eq (pv 3) pe_int (nomark _)) (pss_cons (ps_asg (pe_lst (pa_cons (pe_tup (pa_cons pe_str (pa_cons (pe_op op_cat (pe_call (ok_l_rows0 T) (hr.mono (by decide)) rfl T.g_l_rows T.F_l_rows.kp T.b_l_rows .nil pass0 (pa_cons (pv 0) (pa_cons pe_int (pa_cons (pv 1) pa_nil)))) (pe_lst (pa_cons (pv 4) pa_nil))) pa_nil))) pa_nil)) (pg_name (i := 6) sc_l_sheet.nd rfl (by first | exact Or.inl rfl | exact Or.inr rfl)))
  (pss_one (ps_asg (pe_op op_cat (pe_slice sl_list (pv 2) po_none (po_some pe_int)) (pe_lst (pa_cons (pe_tup (pa_cons pe_str (pa_cons (pe_op op_add pe_int (pe_call (ok_l_take T) (hr.mono (by decide)) rfl T.g_l_take T.F_l_take.kp T.b_l_take .nil pass0 (pa_cons (pv 0) (pa_cons pe_int pa_nil)))) (pa_cons (pv 6) (pa_cons (pe_call (ok_l_rows0 T) (hr.mono (by decide)) rfl T.g_l_rows T.F_l_rows.kp T.b_l_rows .nil pass0 (pa_cons (pv 0) (pa_cons pe_int (pa_cons (pv 1) pa_nil)))) pa_nil))))) pa_nil))) (pg_name (i := 2) sc_l_sheet.nd rfl (by first | exact Or.inl rfl | exact Or.inr rfl)))))
   pss_nil)
  (pss_one (ps_ret (pv 2)))))))), ?_⟩
    wtm_at "k"
    obtain ⟨sty, hst⟩ := st_lst s0 (by wtm_at "mem")
    have tl : ∀ {l : Led} {H' : Hp}, Stt H [st] l H' → All2 (TillAt H') xs cs := fun s => ht.imp fun _ _ h => h.kt (kt_st s.keep hst)
    refine Rd.cut (fun σ' H' => ∃ (D : Addr) (us : List V) (rs : List LRow), σ' = [some (.ref st), some (.ref p), some (.ref D), none, none, none, none, none] ∧ H D = none ∧ Stt H [st] ((D, Is (.lst us)) :: tled p xs st c ns) H' ∧ RwAll .told (ex D (nw H H')) us rs ∧ (∀ r ∈ rs, RowG (cs.map (·.1)) false 1 4 r ∧ r.nm ≠ "ever") ∧ us.length ≤ 2) ?_ ?_
    · wtm_at "rd"
      refine take_ask s0 (by wtm_at "mem") (by wtm_at "mem") hn (by wtm_at "own") (by decide) fun d H1 hd s1 => ?_
      clear s0
      wtm_at "rd"
      refine Rd.lcH (walk_range (lo := 0) (n := d.toNat)) s1 (fun D i acc H' => ∃ rs, RwAll .told (ex D (nw H H')) acc rs ∧ ∀ r ∈ rs, RowG (cs.map (·.1)) false 1 4 r ∧ r.nm ≠ "ever") (fun D hD => ⟨[], .nil, fun r m => nomatch m⟩) (fun _ _ _ _ _ => trivial) ?_ ?_
      · rintro D hD i x HA HB acc hi ⟨rs, hg, hgg⟩ hac s2 ⟨rfl, rfl⟩
        obtain ⟨sty2, hst2⟩ := st_lst s2 (by wtm_at "mem")
        have hDB := s2.get (a := D) List.mem_cons_self
        have dom := kp_dom s2.keep
        have ht2 := tl s2
        have s2' : Stt H [st] ((D, Is (.lst acc)) :: tled p xs st c ns) HB ∧ True := ⟨s2, trivial⟩
        clear s1 s2
        wtm_at "rd"
        refine row1_ask s2'.1 (by wtm_at "subl") hn (by wtm_at "own") ht2 hz fun v r HC hv hne hr kC s3 => ?_
        refine Rd.lcHE s3 hD (by omega) hac ⟨rs ++ [r], ?_, fun q m => ?_⟩
        · have hDC := s3.get (a := D) List.mem_cons_self
          exact rwall_app (RwAll.ext (fun b o h => upd_step b o (old_step hst2 ⟨_, hst⟩ kC b o h)) hg) (.cons (RwA.ext (fun b o h => upd_step b o (new_step hDB hDC dom b o h)) hr) .nil)
        · rcases List.mem_append.mp m with m | m
          · exact hgg q m
          · rw [List.mem_singleton.mp m]; exact ⟨hv, hne⟩
      · rintro D HA acc hD hD0 hac ⟨rs, hg, hgg⟩ s2
        clear s1
        wtm_at "rd"
        exact ⟨D, acc, rs, rfl, hD0, s2, hg, hgg, by omega⟩
    clear s0
    rintro σ' H1 ⟨D, us, rs, rfl, hD, s1, hus, hrs, hl2⟩
    refine Rd.cut (fun σ' H' => ∃ (way : Int) (wv : V) (rw : LRow), σ' = [some (.ref st), some (.ref p), some (.ref D), some (.int way), some wv, none, none, none] ∧ (0 ≤ way ∧ way < 6) ∧ Stt H [st] ((D, Is (.lst us)) :: tled p xs st c ns) H' ∧ RwAll .told (ex D (nw H H')) us rs ∧ FlatV (cs.map (·.1)) H' wv rw ∧ rw.sw = true) ?_ ?_
    · obtain ⟨sty1, hst1⟩ := st_lst s1 (by wtm_at "mem")
      have k01 := s1.keep
      have u1 := sttRb s1
      clear s1
      have fin : ∀ (way : Int) (a : Addr) (n : Str) (as : List V) (H' : Hp), 0 ≤ way ∧ way < 6 → FlatA (cs.map (·.1)) n as → sleepy n = true → Stt H1 [st] ((a, Is (.tup (.str n :: as))) :: (D, Is (.lst us)) :: tled p xs st c ns) H' → ∃ (way' : Int) (wv : V) (rw : LRow), [some (.ref st), some (.ref p), some (.ref D), some (.int way), some (.ref a), none, none, none] = [some (.ref st), some (.ref p), some (.ref D), some (.int way'), some wv, none, none, none] ∧ (0 ≤ way' ∧ way' < 6) ∧ Stt H [st] ((D, Is (.lst us)) :: tled p xs st c ns) H' ∧ RwAll .told (ex D (nw H H')) us rs ∧ FlatV (cs.map (·.1)) H' wv rw ∧ rw.sw = true := fun way a n as H' hw hf hs s =>
        ⟨way, .ref a, .mk n as [], rfl, hw, Stt.sub ⟨kpT k01 s.keep, s.nd, s.at_⟩ (by wtm_at "subl"), RwAll.ext (fun b o h => old_step hst1 ⟨_, hst⟩ s.keep b o h) hus, ⟨a, n, as, rfl, rfl, s.get (a := a) List.mem_cons_self, hf⟩, by rw [LRow.sw, hs]; rfl⟩
      wtm_at "rd"
      refine take_ask u1 (by wtm_at "mem") (by wtm_at "mem") hn (by wtm_at "own") (by decide) fun way H3 hway s3 => ?_
      clear u1
      wtm_at "rd"
      refine take_ask s3 (by wtm_at "mem") (by wtm_at "mem") hn (by wtm_at "own") (by decide) fun e4 H4 he4 s4 => ?_
      clear s3
      wtm_at "rd"
      refine Rd.brD (fun g1 => ?_) (fun g1 => ?_)
      · wtm_at "rd"
        refine take_ask s4 (by wtm_at "mem") (by wtm_at "mem") hn (by wtm_at "own") (by decide) fun d H5 hd s5 => ?_
        clear s4
        wtm_at "rd"
        rename_i a Ha ha sa
        refine fin way a "sleep" [.int (1 + d)] Ha hway ⟨.sleep _, ?_, fun i m => ?_, fun e => absurd e (by decide +kernel), fun e => by rcases e with e | e <;> exact absurd e (by decide +kernel)⟩ (by decide +kernel) sa
        · rw [numB_slp (by decide +kernel)]
          simp
          omega
        · simp at m
          omega
      · wtm_at "rd"
        rename_i a Ha ha sa
        exact fin way a "pass" [] Ha hway ⟨.pass, rfl, fun i m => by simp at m, fun e => absurd e (by decide +kernel), fun e => by rcases e with e | e <;> exact absurd e (by decide +kernel)⟩ (by decide +kernel) sa
    clear s1 hus
    rintro σ' H2 ⟨way, wv, rw, rfl, hway, s2, hus2, hw, hsw⟩
    obtain ⟨sty2, hst2⟩ := st_lst s2 (by wtm_at "mem")
    have kH2 := s2.keep
    have u2 : Stt H2 [st, D] ((D, Is (.lst us)) :: tled p xs st c ns) H2 := ⟨.refl H2, s2.nd, s2.at_⟩
    have eD2 := s2.get (a := D) List.mem_cons_self
    clear s2
    have lsS : ∀ {H' : Hp} {ys zs : List V}, H' st = some (.lst ys) → H' D = some (.lst zs) → ∀ x ∈ [st, D], ∃ ys, H' x = some (.lst ys) := fun a b x m => by
      simp only [List.mem_cons, List.not_mem_nil, or_false] at m
      rcases m with rfl | rfl
      · exact ⟨_, a⟩
      · exact ⟨_, b⟩
    have kt2 : ∀ {H' : Hp}, Kp [st, D] H2 H' → Kt H2 H' := fun k => kt_ls k (lsS hst2 eD2)
    have toH : ∀ {H' : Hp}, Kp [st, D] H2 H' → Kp [st] H H' := fun k' => kH2.trans k' fun x m => by
      simp only [List.mem_cons, List.not_mem_nil, or_false] at m
      rcases m with rfl | rfl
      · exact .inl (List.mem_singleton_self _)
      · exact .inr hD
    have t2 : ∀ {H' : Hp}, Kp [st, D] H2 H' → All2 (TillAt H') xs cs := fun k' => ht.imp fun _ _ h => (h.kt (kt_st kH2 hst)).kt (kt2 k')
    have late : ∀ {H' : Hp}, Kp [st, D] H2 H' → RwAll .told (ex D (nw H H')) us rs := fun k' => RwAll.ext (exnw_step fun b o n e h => k'.get (fun m => by
      simp only [List.mem_cons, List.not_mem_nil, or_false] at m
      rcases m with rfl | rfl
      · rcases h with ⟨ys, rfl⟩ | h
        · rw [hst2] at e; cases e
        · rw [hst] at h; cases h
      · exact n rfl) e) hus2
    have fin : ∀ (H' : Hp) (E : Addr) (vs : List V) (ts : List LRow) (l : Led), H E = none → H' E = some (.lst vs) → RwAll .told (nw H H') vs ts → RowsG (cs.map (·.1)) false 3 12 ts → vs.length ≤ 100 → Kp [st, D] H2 H' → Stt H2 [st, D] l H' → List.Sublist (tled p xs st c ns) l → Q (.ref E) H' := fun H' E vs ts l hE e h1 h2 hz' k' s' sb => k _ _ _ h2 (.mk (nw_n hE e) hz' h1) (Stt.sub ⟨toH k', s'.nd, s'.at_⟩ sb)
    have hrl : us.length = rs.length := hus2.len
    have ewe : ∀ {x : Addr}, H x = none → True := fun _ => trivial
    clear ewe
    wtm_at "rd"
    refine Rd.brD (fun e1 => ?_) (fun e1 => ?_)
    · wtm_at "rd"
      refine rows_ask (m := 2) u2 (by wtm_at "subl") hn (by wtm_at "own") (t2 u2.keep) hz rfl (by decide) fun D1 us1 rs1 H3 hD1 hD1' hf1 hl1 _ s3 => ?_
      clear u2
      have k23 := s3.keep
      obtain ⟨sty3, hst3⟩ := st_lst s3 (by wtm_at "mem")
      have eD3 := s3.get (a := D) (by wtm_at "mem")
      have u3 := sttRb s3
      have hw3 := hw.kt (kt2 k23)
      clear s3
      wtm_at "rd"
      rename_i q1 H4 hq1 s4 q2 H5 hq2 s5
      clear u3 s4
      have kt5 := kt_ls s5.keep (lsS hst3 eD3)
      have hf5 : All2 (FlatV (cs.map (·.1)) _) (us1 ++ [wv]) (rs1 ++ [rw]) := (hf1.imp fun _ _ h => h.kt kt5).app (.cons (hw3.kt kt5) .nil)
      refine mix_ask s5 (by wtm_at "subl") hn (by wtm_at "own") hf5 (by simp; omega) fun DM um tm H6 hDM hDM' hfm pm _ s6 => ?_
      clear hf5 kt5 s5
      have k26 := kpT k23 s6.keep
      obtain ⟨sty6, hst6⟩ := st_lst s6 (by wtm_at "mem")
      have eD6 := s6.get (a := D) (by wtm_at "mem")
      have u6 := sttRb s6
      clear s6
      wtm_at "rd"
      rename_i T7 H7 hT7 s7
      clear u6
      refine Rd.app s7 (by wtm_at "mem") (by omega) (by wtm_at "put") (by wtm_at "own") fun H8 s8 => ?_
      clear s7
      have k68 := s8.keep
      have k28 := kpT k26 k68
      have kt8 := kt_ls k68 (lsS hst6 eD6)
      have s8' : Stt H2 [st, D] _ H8 := ⟨k28, s8.nd, s8.at_⟩
      have eD := s8.get (a := D) (by wtm_at "mem")
      have eT := s8.get (a := T7) (by wtm_at "mem")
      have eM := s8.get (a := DM) (by wtm_at "mem")
      have hm8 := hfm.imp fun _ _ h => h.kt kt8
      have hml := hfm.len
      have hMH : H DM = none := kp_dom (toH k23) DM hDM
      have hlen : tm.length = rs1.length + 1 := by rw [pm.length_eq, List.length_append]; rfl
      have hf1l := hf1.len
      have gm : RowsG (cs.map (·.1)) false 0 3 tm := (RowsG.all (flat_good hm8)).mono (Nat.le_refl _) (by omega)
      have gE : RowG (cs.map (·.1)) false 3 4 (.mk "ever" [] [tm]) := (ever_good gm (sw_mem (pm.mem_iff.mpr (List.mem_append_right _ List.mem_cons_self)) hsw)).mono (by omega) (by omega)
      have told : RwAll .told (nw H H8) (us ++ [.ref T7]) (rs ++ [.mk "ever" [] [tm]]) := by
        refine rwall_app (RwAll.ext (fun b o h => (ex_of h).2) (late k28)) (.cons (.mk (as := []) (vs := [.ref DM]) (nw_t eT) (fun v m => nomatch m) (by simp) (.cons (.mk (nw_n hMH eM) (by omega) (flat_told hm8)) .nil)) .nil)
      have good : RowsG (cs.map (·.1)) false 3 12 (rs ++ [.mk "ever" [] [tm]]) := by
        refine (RowsG.app (z := 4) (y := 4) (fun r m => ⟨((hrs r m).1).mono (by omega) (by omega), (hrs r m).2⟩) ((RowsG.cons gE (fun _ => rfl) (RowsG.nil (z := 0))).mono (Nat.le_refl _) (by omega))).mono (Nat.le_refl _) (by omega)
      wtm_at "rd"
      refine Rd.brD (fun e => absurd (V.int.inj e) (by omega)) (fun _ => ?_)
      wtm_at "rd"
      refine Rd.brD (fun e => absurd (V.int.inj e) (by omega)) (fun _ => ?_)
      wtm_at "rd"
      exact fin H8 D _ _ _ hD eD told good (by simp; omega) k28 s8' (by wtm_at "subl")
    · wtm_at "rd"
      refine Rd.brD (fun e2 => ?_) (fun e2 => ?_)
      · have e2 := V.int.inj e2
        subst e2
        wtm_at "rd"
        refine rows_ask (m := 1) u2 (by wtm_at "subl") hn (by wtm_at "own") (t2 u2.keep) hz rfl (by decide) fun D1 us1 rs1 H3 hD1 hD1' hf1 hl1 _ s3 => ?_
        clear u2
        wtm_at "rd"
        refine rows_ask (m := 1) s3 (by wtm_at "subl") hn (by wtm_at "own") (t2 s3.keep) hz rfl (by decide) fun D2 us2 rs2 H4 hD2 hD2' hf2 hl2 k34 s4 => ?_
        obtain ⟨sty3, hst3⟩ := st_lst s3 (by wtm_at "mem")
        have hf1' := hf1.imp fun _ _ h => h.kt (kt_st k34 hst3)
        clear s3
        obtain ⟨sty4, hst4⟩ := st_lst s4 (by wtm_at "mem")
        have k24 := s4.keep
        have eD4 := s4.get (a := D) (by wtm_at "mem")
        have u4 := sttRb s4
        have hw4 := hw.kt (kt2 k24)
        clear s4
        wtm_at "rd"
        rename_i T1 Ha hT1 sa L1 Hb hL1 sb
        clear sa u4
        refine ⟨D, us, rfl, SqL.of (sb.get (a := D) (by wtm_at "mem")), fun q hq => ?_⟩
        rw [cut1]
        have sc := sb.new hq (.lst (us.take 1))
        have hqH4 := sb.none hq
        have htk : (us.take 1).length ≤ 1 := by rw [List.length_take]; omega
        clear sb
        wtm_at "rd"
        rename_i L2 Hc hL2 sd T2 Hd hT2 se L3 He hL3 sf T3 Hf hT3 sg L4 Hg hL4 sh R Hh hR si
        clear sc sd se sf sg sh
        refine Rd.brD (fun e => absurd (V.int.inj e) (by decide)) (fun _ => ?_)
        wtm_at "rd"
        have nn : ∀ {x : Addr}, H4 x = none → H x = none := fun {x} h => kp_dom (toH k24) x h
        have kt4 := kt_ls si.keep (lsS hst4 eD4)
        have f1 := hf1'.imp fun _ _ h => h.kt kt4
        have f2 := hf2.imp fun _ _ h => h.kt kt4
        have w4 := hw4.kt kt4
        have l1 := f1.len
        have l2 := f2.len
        have k2h := kpT k24 si.keep
        have eD1 := si.get (a := D1) (by wtm_at "mem")
        have eD2' := si.get (a := D2) (by wtm_at "mem")
        have eT1 := si.get (a := T1) (by wtm_at "mem")
        have eL1 := si.get (a := L1) (by wtm_at "mem")
        have eL2 := si.get (a := L2) (by wtm_at "mem")
        have eT2 := si.get (a := T2) (by wtm_at "mem")
        have eL3 := si.get (a := L3) (by wtm_at "mem")
        have eT3 := si.get (a := T3) (by wtm_at "mem")
        have eR := si.get (a := R) (by wtm_at "mem")
        have s' : Stt H2 [st, D] _ Hh := ⟨k2h, si.nd, si.at_⟩
        have told : RwAll .told (nw H Hh) (us.take 1 ++ [.ref T3]) (rs.take 1 ++ [.mk "either" [] [[.mk "either" [] [rs1, rs2]], [.mk "ever" [] [[rw]]]]]) := by
          refine rwall_app (rwall_take (RwAll.ext (fun b o h => (ex_of h).2) (late k2h))) (.cons (.mk (as := []) (vs := [.ref L1, .ref L3]) (nw_t eT3) (fun v m => nomatch m) (by simp) (.cons (.mk (nw_n (nn hL1) eL1) (by simp) (.cons (.mk (as := []) (vs := [.ref D1, .ref D2]) (nw_t eT1) (fun v m => nomatch m) (by simp) (.cons (.mk (nw_n (kp_dom kH2 D1 hD1) eD1) (by omega) (flat_told f1)) (.cons (.mk (nw_n (kp_dom kH2 D2 hD2) eD2') (by omega) (flat_told f2)) .nil))) .nil)) (.cons (.mk (nw_n (nn hL3) eL3) (by simp) (.cons (.mk (as := []) (vs := [.ref L2]) (nw_t eT2) (fun v m => nomatch m) (by simp) (.cons (.mk (nw_n (nn hL2) eL2) (by simp) (flat_told (.cons w4 .nil))) .nil)) .nil)) .nil))) .nil)
        have g1 : RowsG (cs.map (·.1)) false 0 1 rs1 := (RowsG.all (flat_good f1)).mono (Nat.le_refl _) (by omega)
        have g2 : RowsG (cs.map (·.1)) false 0 1 rs2 := (RowsG.all (flat_good f2)).mono (Nat.le_refl _) (by omega)
        have gw : RowsG (cs.map (·.1)) false 0 1 [rw] := (RowsG.all (flat_good (.cons w4 .nil))).mono (Nat.le_refl _) (by simp)
        have ge : RowG (cs.map (·.1)) false 1 2 (.mk "ever" [] [[rw]]) := (ever_good gw (sw_mem List.mem_cons_self hsw)).mono (by omega) (by omega)
        have gi : RowG (cs.map (·.1)) false 1 3 (.mk "either" [] [rs1, rs2]) := (either_good g1 g2).mono (by omega) (by omega)
        have g3 : RowG (cs.map (·.1)) false 3 6 (.mk "either" [] [[.mk "either" [] [rs1, rs2]], [.mk "ever" [] [[rw]]]]) := (either_good (RowsG.cons gi (fun _ => rfl) (RowsG.nil (z := 0))) (RowsG.cons ge (fun _ => rfl) (RowsG.nil (z := 0)))).mono (by omega) (by omega)
        have good : RowsG (cs.map (·.1)) false 3 12 (rs.take 1 ++ [.mk "either" [] [[.mk "either" [] [rs1, rs2]], [.mk "ever" [] [[rw]]]]]) := by
          refine (RowsG.app (z := 4) (y := 6) (fun r m => ⟨((hrs r (List.mem_of_mem_take m)).1).mono (by omega) (by omega), (hrs r (List.mem_of_mem_take m)).2⟩) ((RowsG.cons g3 (fun _ => rfl) (RowsG.nil (z := 0))).mono (Nat.le_refl _) (by omega))).mono (Nat.le_refl _) ?_
          rw [List.length_take]
          omega
        exact fin Hh R _ _ _ (nn hR) eR told good (by simp; omega) k2h s' (by wtm_at "subl")
      · have u2' : Stt H2 [st, D] ((D, Is (.lst us)) :: tled p xs st c ns) H2 ∧ True := ⟨u2, trivial⟩
        clear u2
        wtm_at "rd"
        refine Rd.brD (fun e3 => ?_) (fun e3 => ?_)
        · have e3 := V.int.inj e3
          subst e3
          wtm_at "rd"
          refine rows_ask (m := 1) u2'.1 (by wtm_at "subl") hn (by wtm_at "own") (t2 u2'.1.keep) hz rfl (by decide) fun D1 us1 rs1 H3 hD1 hD1' hf1 hl1 _ s3 => ?_
          have k23 := s3.keep
          obtain ⟨sty3, hst3⟩ := st_lst s3 (by wtm_at "mem")
          have eD3 := s3.get (a := D) (by wtm_at "mem")
          have u3 := sttRb s3
          have hw3 := hw.kt (kt2 k23)
          clear s3
          wtm_at "rd"
          rename_i L2 Hc hL2 sc R1 Hd hR1 sd T1 He hT1 se L1 Hf hL1 sf
          clear sc sd se u3
          refine ⟨D, us, rfl, SqL.of (sf.get (a := D) (by wtm_at "mem")), fun q hq => ?_⟩
          rw [cut1]
          have sg := sf.new hq (.lst (us.take 1))
          have hqH3 := sf.none hq
          have htk : (us.take 1).length ≤ 1 := by rw [List.length_take]; omega
          clear sf
          wtm_at "rd"
          refine take_ask sg (by wtm_at "mem") (by wtm_at "mem") hn (by wtm_at "own") (by decide) fun d H4 hd sh => ?_
          clear sg
          wtm_at "rd"
          refine rows_ask (m := 1) sh (by wtm_at "subl") hn (by wtm_at "own") (t2 (kpT k23 sh.keep)) hz rfl (by decide) fun D2 us2 rs2 H5 hD2 hD2' hf2 hl2 _ s5 => ?_
          clear sh
          have k35 := s5.keep
          have k25 := kpT k23 k35
          obtain ⟨sty5, hst5⟩ := st_lst s5 (by wtm_at "mem")
          have eD5 := s5.get (a := D) (by wtm_at "mem")
          have kt35 := kt_ls k35 (lsS hst3 eD3)
          have u5 := sttRb s5
          clear s5
          wtm_at "rd"
          rename_i T2 Hi hT2 si L3 Hj hL3 sj R Hk hR sk
          clear u5 si sj
          have nn : ∀ {x : Addr}, H3 x = none → H x = none := fun {x} h => kp_dom (toH k23) x h
          have kt5 := kt_ls sk.keep (lsS hst5 eD5)
          have f1 := hf1.imp fun _ _ h => (h.kt kt35).kt kt5
          have f2 := hf2.imp fun _ _ h => h.kt kt5
          have w4 := (hw3.kt kt35).kt kt5
          have l1 := f1.len
          have l2 := f2.len
          have k2h := kpT k25 sk.keep
          have eR1 := sk.get (a := R1) (by wtm_at "mem")
          have eT1 := sk.get (a := T1) (by wtm_at "mem")
          have eL1 := sk.get (a := L1) (by wtm_at "mem")
          have eD2' := sk.get (a := D2) (by wtm_at "mem")
          have eT2 := sk.get (a := T2) (by wtm_at "mem")
          have eR := sk.get (a := R) (by wtm_at "mem")
          have s' : Stt H2 [st, D] _ Hk := ⟨k2h, sk.nd, sk.at_⟩
          have hD2H : H D2 = none := nn hD2
          have hRH : H R = none := kp_dom (toH k25) R hR
          have told : RwAll .told (nw H Hk) (us.take 1 ++ [.ref T2]) (rs.take 1 ++ [.mk "within" [.int (1 + d)] [[.mk "ever" [] [rs1 ++ [rw]]], rs2]]) := by
            refine rwall_app (rwall_take (RwAll.ext (fun b o h => (ex_of h).2) (late k2h))) (.cons (.mk (as := [.int (1 + d)]) (vs := [.ref L1, .ref D2]) (nw_t eT2) (fun v m => by rw [List.mem_singleton.mp m]; exact .inl ⟨_, rfl⟩) (by simp) (.cons (.mk (nw_n (nn hL1) eL1) (by simp) (.cons (.mk (as := []) (vs := [.ref R1]) (nw_t eT1) (fun v m => nomatch m) (by simp) (.cons (.mk (nw_n (nn hR1) eR1) (by simp; omega) (flat_told (f1.app (.cons w4 .nil)))) .nil)) .nil)) (.cons (.mk (nw_n hD2H eD2') (by omega) (flat_told f2)) .nil))) .nil)
          have g1 : RowsG (cs.map (·.1)) true 0 2 (rs1 ++ [rw]) := (RowsG.all (flat_good (f1.app (.cons w4 .nil)))).mono (Nat.le_refl _) (by simp; omega)
          have g2 : RowsG (cs.map (·.1)) true 1 1 rs2 := (RowsG.all (flat_good f2)).mono (by omega) (by omega)
          have ge : RowG (cs.map (·.1)) true 1 3 (.mk "ever" [] [rs1 ++ [rw]]) := (ever_good g1 (sw_mem (List.mem_append_right _ List.mem_cons_self) hsw)).mono (by omega) (by omega)
          have g3 : RowG (cs.map (·.1)) false 3 5 (.mk "within" [.int (1 + d)] [[.mk "ever" [] [rs1 ++ [rw]]], rs2]) := (within_good (by omega) (RowsG.cons ge (fun _ => rfl) (RowsG.nil (z := 0))) g2).mono (by omega) (by omega)
          have good : RowsG (cs.map (·.1)) false 3 12 (rs.take 1 ++ [.mk "within" [.int (1 + d)] [[.mk "ever" [] [rs1 ++ [rw]]], rs2]]) := by
            refine (RowsG.app (z := 4) (y := 5) (fun r m => ⟨((hrs r (List.mem_of_mem_take m)).1).mono (by omega) (by omega), (hrs r (List.mem_of_mem_take m)).2⟩) ((RowsG.cons g3 (fun _ => rfl) (RowsG.nil (z := 0))).mono (Nat.le_refl _) (by omega))).mono (Nat.le_refl _) ?_
            rw [List.length_take]
            omega
          exact fin Hk R _ _ _ hRH eR told good (by simp; omega) k2h s' (by wtm_at "subl")
        · wtm_at "rd"
          exact fin H2 D _ _ _ hD eD2 (RwAll.ext (fun b o h => (ex_of h).2) (late (Kp.refl _))) ((RowsG.all (z := 4) (fun r m => ⟨((hrs r m).1).mono (by omega) (by omega), (hrs r m).2⟩)).mono (Nat.le_refl _) (by omega)) (by omega) (Kp.refl _) u2'.1 (by wtm_at "subl")
end

section
variable {P : Program} {w : World} {K : PySem.W.Frag} {mg : Str → Option Value} {base : Heap}
/-! ### the law's own surely -/
def spLSw (n : Nat) : Sp := fun vs H Q _ => ∃ (v : V) (rs : List LRow), vs = [v] ∧ RsA .any H v rs ∧ shpR rs ∧ depR rs ≤ n ∧ ∀ H', Kp [] H H' → Q (.bl (swR rs)) H'
theorem shO_of {n : Str} {as : List V} {m : Nat} (h : Shp n as m) : ∃ os ps : List Ob, ShO n os ps ∧ os.length = as.length ∧ ps.length = m := by
  cases h
  · exact ⟨_, _, .work .non .non, rfl, rfl⟩
  · exact ⟨_, _, .say .non, rfl, rfl⟩
  · exact ⟨_, _, .pass, rfl, rfl⟩
  · exact ⟨_, _, .sleep .non, rfl, rfl⟩
  · exact ⟨_, _, .take .non, rfl, rfl⟩
  · exact ⟨_, _, .give .non, rfl, rfl⟩
  · exact ⟨_, _, .either .non .non, rfl, rfl⟩
  · exact ⟨_, _, .ever .non, rfl, rfl⟩
  · exact ⟨_, _, .within .non .non .non, rfl, rfl⟩
theorem swR_take {rs : List LRow} {i : Nat} {r : LRow} (e : rs[i]? = some r) (h : swR (rs.take i) = false) : (r.sw = true → swR rs = true) ∧ (r.sw = false → swR (rs.take (i + 1)) = false) := by
  refine ⟨fun q => sw_mem (List.mem_of_getElem? e) q, fun q => ?_⟩
  rw [take_snoc e, swR_any, List.any_append, ← swR_any, h, List.any_cons, q]
  rfl
theorem swAll_map : ∀ ps : List (List LRow), swAll ps = (ps.map swR).all id
  | [] => by rw [swAll]; rfl
  | p :: r => by rw [swAll, List.map_cons, List.all_cons, swAll_map r]; rfl
theorem lsw_body (T : Txt K mg) (n k : Nat) (hk : k ≤ 60) (hk1 : 1 ≤ k) (sp0 : Sp) (F0 : FnOk P w K mg base CX0 k (He.fAd K ("_law_surely", none)) T.fd_l_surely ["_law_rows_here"] sp0)
    (h0 : ∀ vs H Q E, (∃ m, m + 1 = n ∧ spLSw m vs H Q E) → sp0 vs H Q E) : FnOk P w K mg base CX0 (k + 1) (He.fAd K ("_law_surely", none)) T.fd_l_surely ["_law_rows_here"] (spLSw n) := by
  refine T.F_l_surely.ok sc_l_surely (fun vs H Q E h => ?_) (fun cdv A outer s H vs Q E hr h => ?_)
  · obtain ⟨v, r, rfl, _⟩ := h
    rfl
  · obtain ⟨v, rs, rfl, hw, hs, hd, kQ⟩ := h
    refine ⟨_, PSs.nox (pss_cons (ps_for PassesOwn.never rfl (pi_seq (pv 0)) (pg_name (i := 1) sc_l_surely.nd rfl (by first | exact Or.inl rfl | exact Or.inr rfl))
   (pss_cons (ps_setLc (i := 2) (own := [("_law_x", 3)]) (g := gName 3) (tt := tYes) (by rfl) sc_l_surely.nd rfl rfl (sw_true rfl rfl rfl (by decide +kernel)) (pi_seq (pe_call (ok_l_inner T) (hr.mono hk1) rfl T.g_l_inner T.F_l_inner.kp T.b_l_inner .nil pass0 (pa_cons (pv 1) pa_nil))) (blkOk_by (own := [("_law_x", 3)]) (N := ["_law_rows_here", "_law_row_here", "_law_parts", "_law_x"]) (sc := defScope s_l_surely) (by decide +kernel)) (fun _ _ _ _ _ => (pg_name (i := 3) sc_l_surely.nd rfl (by first | exact Or.inl rfl | exact Or.inr rfl))) (fun _ _ _ _ _ => pts_nil) (fun _ _ _ _ _ => (pe_call F0 hr rfl T.g_l_surely T.F_l_surely.kp T.b_l_surely .nil pass0 (pa_cons (pv 3) pa_nil))))
  (pss_cons (ps_if (pt_cmpR op_in_seq (pe_ix (ix_K7 (K := K) (r := fun K1 => rIxX K1) rfl ix_sqX) (pv 1) pe_int (fun _ _ => rfl)) (pe_tup (pa_cons pe_str (pa_cons pe_str (pa_cons pe_str pa_nil)))) (by rfl)) (pss_one (ps_ret pe_bl))
   pss_nil)
  (pss_one (ps_if (PW.pt (pw_or (PW.pt (pw_and (pt_cmpR op_eq (pe_ix (ix_K7 (K := K) (r := fun K1 => rIxX K1) rfl ix_sqX) (pv 1) pe_int (fun _ _ => rfl)) pe_str (nomark _)) (pw_and1 (pt_val (pe_ix ix_sqX (pv 2) pe_int (fun _ _ => rfl)))))) (pw_or1 (PW.pt (pw_and (pt_cmpR op_eq (pe_ix (ix_K7 (K := K) (r := fun K1 => rIxX K1) rfl ix_sqX) (pv 1) pe_int (fun _ _ => rfl)) pe_str (nomark _)) (pw_and1 (pt_val (pe_callB (cr_all rfl) (by rfl) T.n_all (by decide +kernel) (pa_cons (pv 2) pa_nil))))))))) (pss_one (ps_ret pe_bl))
   pss_nil)))))
  (pss_one (ps_ret pe_bl))), ?_⟩
    wtm_at "k"
    obtain ⟨a, us, rfl, hq, hu, hz⟩ := rs_sq (K := K) hw
    wtm_at "rd"
    refine Rd.forX hq (fun i σ' H' => (∃ v1 v2 v3 : Option V, σ' = [some (.ref a), v1, v2, v3]) ∧ Kp [] H H' ∧ swR (rs.take i) = false) ⟨⟨_, _, _, rfl⟩, Kp.refl _, by rw [List.take_zero, swR]⟩ (fun i σ' H' _ h => ⟨[], List.not_mem_nil, h.2.1⟩) ?_ ?_
    · rintro i x σ' H1 hi ⟨⟨v1, v2, v3, rfl⟩, k1, hsw⟩ ex'
      obtain ⟨⟨nm, as, ps⟩, er, hx⟩ := hu.at_ ex'
      have mr := List.mem_of_getElem? er
      have hsr := shpR_mem hs mr
      have hdr := Nat.le_trans (depR_mem mr) hd
      obtain ⟨hT1, hT2⟩ := swR_take er hsw
      rw [LRow.shp] at hsr
      rw [LRow.dep] at hdr
      have hx2 := hx.kp k1
      obtain ⟨ra, ru, rfl, hra, hru, hrz, hrat⟩ := rw_sq (K := K) hx2
      obtain ⟨os, pso, ho1, ho2, ho3⟩ := shO_of hsr.1
      have a0 : atI (V.str nm :: (as ++ ru)) 0 = some (.str nm) := atI_nat (j := 0) rfl
      wtm_at "rd"
      refine ⟨ra, nm, as, ru, os, pso, rfl, hra, ho1, ho2, by rw [ho3, hru.len], fun p H2 hp s2 => ?_⟩
      have k12 := s2.keep
      have ep := s2.get (a := p) List.mem_cons_self
      have u2 := sttRb s2
      have hru2 := hru.kp k12
      clear s2
      wtm_at "rd"
      refine Rd.lcX (SqX.l (SqL.of ep)) List.not_mem_nil u2 (fun i acc ex => ex = [] ∧ acc = (ps.take i).map fun q => V.bl (swR q)) ⟨rfl, rfl⟩ ?_ ?_
      · rintro D hD j y HA acc ex hj ⟨rfl, rfl⟩ hac s3 ey
        obtain ⟨q, eq', hq'⟩ := hru2.at_ ey
        have mq := List.mem_of_getElem? eq'
        have hdep := depP_mem mq
        obtain ⟨m, rfl⟩ : ∃ m, n = m + 1 := ⟨n - 1, by omega⟩
        have hrul : ru.length ≤ 100 := by rw [List.length_append] at hrz; omega
        wtm_at "rd"
        refine h0 _ _ _ _ ⟨m, rfl, y, q, rfl, hq'.kp s3.keep, shpP_mem hsr.2 mq, by omega, fun HB kB => ?_⟩
        refine Rd.lcE (s3.after0 kB) hD (by omega) hac ⟨rfl, ?_⟩
        rw [take_map eq']
      · rintro D HA acc ex hD ⟨rfl, rfl⟩ s3
        rw [hru2.len, List.take_length] at s3
        clear u2 a0
        have kA := s3.keep
        have hraA : SqX K HA ra (.str nm :: (as ++ ru)) := (hra.kp0 k12).kp0 kA
        have kA0 : Kp [] H HA := kpT k1 (kpT k12 kA)
        replace s3 : Stt HA [] [(D, Is (.lst (ps.map fun q => V.bl (swR q)))), (p, Is (.lst ru))] HA := ⟨.refl HA, s3.nd, s3.at_⟩
        have ixA : ∀ {H' : Hp}, Kp [] HA H' → SqX K H' ra (.str nm :: (as ++ ru)) := fun k' => hraA.kp0 k'
        have rt1 : ∀ {H' : Hp}, Kp [] HA H' → (LRow.mk nm as ps).sw = true → Q (.bl true) H' := fun k' e => by
          have := kQ _ (kpT kA0 k')
          rw [hT1 e] at this
          exact this
        have nx1 : ∀ {H' : Hp} {v1 v2 v3 : Option V}, Kp [] HA H' → (LRow.mk nm as ps).sw = false → (∃ w1 w2 w3 : Option V, [some (V.ref a), v1, v2, v3] = [some (V.ref a), w1, w2, w3]) ∧ Kp [] H H' ∧ swR (rs.take (i + 1)) = false := fun k' e => ⟨⟨_, _, _, rfl⟩, kpT kA0 k', hT2 e⟩
        rw [LRow.sw] at rt1 nx1
        wtm_at "rd"
        refine ⟨ra, _, 0, .str nm, rfl, rfl, ixA s3.keep, atI_nat (j := 0) rfl, ?_⟩
        wtm_at "rd"
        rename_i tq H4 htq s4
        clear s3
        refine inS (ys := ["sleep", "pass", "ever"]) (.inr (s4.sqT (xs := [.str "sleep", .str "pass", .str "ever"]) (by wtm_at "mem"))) ?_
        have es : (if false = true then !decide (nm ∈ (["sleep", "pass", "ever"] : List Str)) else decide (nm ∈ (["sleep", "pass", "ever"] : List Str))) = sleepy nm := sleepy_mem
        rw [es]
        wtm_at "rd"
        refine Rd.br (fun e1 => ?_) (fun e1 => ?_)
        · wtm_at "rd"
          exact rt1 s4.keep (by rw [e1]; rfl)
        · rw [e1, Bool.false_or] at rt1 nx1
          wtm_at "rd"
          refine ⟨ra, _, 0, .str nm, rfl, rfl, ixA s4.keep, atI_nat (j := 0) rfl, ?_⟩
          wtm_at "rd"
          refine Rd.brD (fun e2 => ?_) (fun e2 => ?_)
          · have e3 := str_inj.mp e2
            subst e3
            obtain ⟨_, h2⟩ := hsr.1.within_ rfl
            obtain ⟨p1, p2, rfl⟩ := len2 h2
            rw [show decide ((("within" : Str)) = "either") = false by decide +kernel, Bool.false_and, Bool.false_or, decide_eq_true rfl, Bool.true_and, swFst] at rt1 nx1
            wtm_at "rd"
            refine Rd.br (fun e4 => ?_) (fun e4 => ?_)
            · wtm_at "rd"
              exact rt1 s4.keep e4
            · wtm_at "rd"
              refine ⟨ra, _, 0, .str "within", rfl, rfl, ixA s4.keep, atI_nat (j := 0) rfl, ?_⟩
              wtm_at "rd"
              refine Rd.brD (fun e5 => absurd (str_inj.mp e5) (by decide +kernel)) (fun _ => ?_)
              wtm_at "rd"
              exact nx1 s4.keep e4
          · have n3 : decide (nm = "within") = false := decide_eq_false fun z => e2 (congrArg V.str z)
            rw [n3, Bool.false_and, Bool.or_false] at rt1 nx1
            wtm_at "rd"
            refine ⟨ra, _, 0, .str nm, rfl, rfl, ixA s4.keep, atI_nat (j := 0) rfl, ?_⟩
            wtm_at "rd"
            refine Rd.brD (fun e5 => ?_) (fun e5 => ?_)
            · have e6 := str_inj.mp e5
              rw [decide_eq_true e6, Bool.true_and, swAll_map] at rt1 nx1
              have s5 : Stt HA [] [(tq, Is (.tup [.str "sleep", .str "pass", .str "ever"])), (D, Is (.lst ((ps.map swR).map V.bl))), (p, Is (.lst ru))] H4 := by
                rw [List.map_map]
                exact s4
              clear s4
              wtm_at "rd"
              refine Rd.allL s5 (by wtm_at "mem") ?_
              wtm_at "rd"
              refine Rd.br (fun e7 => ?_) (fun e7 => ?_)
              · wtm_at "rd"
                exact rt1 s5.keep e7
              · wtm_at "rd"
                exact nx1 s5.keep e7
            · rw [decide_eq_false (fun z => e5 (congrArg V.str z)), Bool.false_and] at rt1 nx1
              wtm_at "rd"
              exact nx1 s4.keep rfl
    · rintro σ' H1 ⟨_, k1, hsw⟩
      rw [hu.len, List.take_length] at hsw
      wtm_at "rd"
      rw [← hsw]
      exact kQ H1 k1
theorem ok_l_surely (T : Txt K mg) : ∀ n, n ≤ 20 → FnOk P w K mg base CX0 (n + 2) (He.fAd K ("_law_surely", none)) T.fd_l_surely ["_law_rows_here"] (spLSw n)
  | 0, _ => lsw_body T 0 1 (by omega) (by omega) _ fnok_false fun vs H Q E ⟨m, h, _⟩ => by omega
  | n + 1, hn => lsw_body T (n + 1) (n + 2) (by omega) (by omega) _ (ok_l_surely T n (by omega)) fun vs H Q E ⟨m, h1, h2⟩ => by
    cases h1
    exact h2
end

section
variable {P : Program} {w : World} {K : PySem.W.Frag} {mg : Str → Option Value} {base : Heap}
/-! ### the law's own hurried: the place -/
def hurV : Option Nat → Nat → List V
  | some q, _ => [.int (q : Nat), .bl true]
  | none, e => [.int (e : Nat), .bl false]
def spLHurO (n : Nat) : Sp := fun vs H Q _ => ∃ (v : V) (rs : List LRow) (k : Nat), vs = [v, .int (k : Nat)] ∧ RsA .any H v rs ∧ shpR rs ∧ depR rs ≤ n ∧ ∀ p H', Kp [] H H' → H' p = some (.tup (hurV (hurR k rs) (k + sizeR rs))) → Q (.ref p) H'
theorem lhur_bodyO (T : Txt K mg) (n k : Nat) (hn : n ≤ 6) (hk : k ≤ 60) (hk1 : 8 ≤ k) (sp0 : Sp) (F0 : FnOk P w K mg base CX0 k (He.fAd K ("_law_hurried", none)) T.fd_l_hurried ["_law_rows_here", "_law_k"] sp0)
    (h0 : ∀ vs H Q E, (∃ m, m + 1 = n ∧ spLHurO m vs H Q E) → sp0 vs H Q E) : FnOk P w K mg base CX0 (k + 1) (He.fAd K ("_law_hurried", none)) T.fd_l_hurried ["_law_rows_here", "_law_k"] (spLHurO n) := by
  refine T.F_l_hurried.ok sc_l_hurried (fun vs H Q E h => ?_) (fun cdv A outer s H vs Q E hr h => ?_)
  · obtain ⟨v, r, kk, rfl, _⟩ := h
    rfl
  · obtain ⟨v, rs, kk, rfl, hw, hs, hd, kQ⟩ := h
    refine ⟨_, PSs.nox (pss_cons (ps_for PassesOwn.never rfl (pi_seq (pv 0)) (pg_name (i := 2) sc_l_hurried.nd rfl (by first | exact Or.inl rfl | exact Or.inr rfl))
   (C8.pss_cut (ps_if (PW.pt (pw_and (pt_cmpR op_eq (pe_ix (ix_K7 (K := K) (r := fun K1 => rIxX K1) rfl ix_sqX) (pv 2) pe_int (fun _ _ => rfl)) pe_str (nomark _)) (pw_and1 (pt_not (pt_val (pe_call (ok_l_surely T 6 (by decide)) (hr.mono hk1) rfl T.g_l_surely T.F_l_surely.kp T.b_l_surely .nil pass0 (pa_cons (pe_ix (ix_K7 (K := K) (r := fun K1 => rIxX K1) rfl ix_sqX) (pv 2) pe_int (fun _ _ => rfl)) pa_nil))))))) (pss_one (ps_ret (pe_tup (pa_cons (pv 1) (pa_cons pe_bl pa_nil)))))
   pss_nil)
  (pss_cons (ps_aug (i := 1) sc_l_hurried.nd rfl (by first | exact Or.inl rfl | exact Or.inr rfl) pe_int ip_add)
  (pss_one (ps_for PassesOwn.never rfl (pi_seq (pe_call (ok_l_inner T) (hr.mono (Nat.le_trans (by decide) hk1)) rfl T.g_l_inner T.F_l_inner.kp T.b_l_inner .nil pass0 (pa_cons (pv 2) pa_nil))) (pg_name (i := 3) sc_l_hurried.nd rfl (by first | exact Or.inl rfl | exact Or.inr rfl))
   (pss_cons (ps_asg (pe_call F0 hr rfl T.g_l_hurried T.F_l_hurried.kp T.b_l_hurried .nil pass0 (pa_cons (pv 3) (pa_cons (pv 1) pa_nil))) (pg_seq (by rfl) (pgs_cons (pg_name (i := 1) sc_l_hurried.nd rfl (by first | exact Or.inl rfl | exact Or.inr rfl)) (pgs_cons (pg_name (i := 4) sc_l_hurried.nd rfl (by first | exact Or.inl rfl | exact Or.inr rfl)) pgs_nil))))
  (pss_one (ps_if (pt_val (pv 4)) (pss_one (ps_ret (pe_tup (pa_cons (pv 1) (pa_cons pe_bl pa_nil)))))
   pss_nil))))))))
  (pss_one (ps_ret (pe_tup (pa_cons (pv 1) (pa_cons pe_bl pa_nil)))))), ?_⟩
    wtm_at "k"
    obtain ⟨a, us, rfl, hq, hu, hz⟩ := rs_sq (K := K) hw
    wtm_at "rd"
    refine Rd.forX hq (fun i σ' H' => (∃ v2 v3 v4 : Option V, σ' = [some (.ref a), some (.int ((kk + sizeR (rs.take i) : Nat) : Int)), v2, v3, v4]) ∧ Kp [] H H' ∧ hurR kk (rs.take i) = none) ⟨⟨_, _, _, by rw [List.take_zero, sizeR]; rfl⟩, Kp.refl _, by rw [List.take_zero, hurR]⟩ (fun i σ' H' _ h => ⟨[], List.not_mem_nil, h.2.1⟩) ?_ ?_
    · rintro i x σ' H1 hi ⟨⟨v2, v3, v4, rfl⟩, k1, hh⟩ ex'
      obtain ⟨⟨nm, as, ps⟩, er, hx⟩ := hu.at_ ex'
      have mr := List.mem_of_getElem? er
      have hsr := shpR_mem hs mr
      have hdr := Nat.le_trans (depR_mem mr) hd
      have esp := take_split er
      generalize hA : kk + sizeR (rs.take i) = A0
      have hhur : ∀ q, hurL A0 (.mk nm as ps) = some q → hurR kk rs = some q := fun q e => by
        rw [esp, hurR_app, hh, hA, hurR, e]
        rfl
      have hgood : hurL A0 (.mk nm as ps) = none → hurR kk (rs.take (i + 1)) = none := fun e => by
        rw [take_snoc er, hurR_app, hh, hA, hurR, hurR, e]
        rfl
      rw [LRow.shp] at hsr
      rw [LRow.dep] at hdr
      obtain ⟨ra, ru, rfl, hra, hru, hrz, hrat⟩ := rw_sq (K := K) (hx.kp k1)
      obtain ⟨os, pso, ho1, ho2, ho3⟩ := shO_of hsr.1
      have a0 : atI (V.str nm :: (as ++ ru)) 0 = some (.str nm) := atI_nat (j := 0) rfl
      wtm_at "rd"
      refine Rd.cut (fun σ' H' => (∃ v3 v4 : Option V, σ' = [some (.ref a), some (.int (A0 : Nat)), some (.ref ra), v3, v4]) ∧ Kp [] H1 H' ∧ ¬ (nm = "ever" ∧ swFst ps = false)) ?_ ?_
      · wtm_at "rd"
        refine Rd.brD (fun e2 => ?_) (fun e2 => ?_)
        · have e3 := str_inj.mp e2
          obtain ⟨rfl, h2⟩ := hsr.1.ever_ e3
          obtain ⟨p1, rfl⟩ := len1 h2
          obtain ⟨u1, rfl, r1⟩ := rsAll1 hru
          rw [depP, depP] at hdr
          have a1 : atI (V.str nm :: ([] ++ [u1])) 1 = some u1 := atI_nat (j := 1) rfl
          wtm_at "rd"
          refine ⟨u1, p1, rfl, r1, shpP_mem hsr.2 List.mem_cons_self, by omega, fun H2 k2 => ?_⟩
          have s2 : Stt H2 [] [] H2 := Stt.nil
          cases e5 : swR p1 with
          | true =>
            wtm_at "rd"
            exact ⟨⟨_, _, rfl⟩, k2, fun c => by rw [swFst, e5] at c; exact nomatch c.2⟩
          | false =>
            wtm_at "rd"
            rename_i p H3 hp s3
            rw [hhur A0 (by rw [hurL, if_pos ⟨e3, by rw [swFst]; exact e5⟩])] at kQ
            exact kQ p H3 (kpT k1 (kpT k2 s3.keep)) (s3.get (o := .tup [.int (A0 : Nat), .bl true]) (by wtm_at "mem"))
        · wtm_at "rd"
          exact ⟨⟨_, _, rfl⟩, Kp.refl _, fun c => e2 (by rw [c.1])⟩
      · rintro σ' H2 ⟨⟨v3, v4, rfl⟩, k2, hne⟩
        rw [hurL, if_neg hne] at hhur hgood
        wtm_at "rd"
        refine ⟨ra, nm, as, ru, os, pso, rfl, hra.kp0 k2, ho1, ho2, by rw [ho3, hru.len], fun p H3 hp s3 => ?_⟩
        have k23 := s3.keep
        have ep := s3.get (a := p) List.mem_cons_self
        have hru3 := hru.kp (kpT k2 k23)
        have k13 := kpT k1 (kpT k2 k23)
        clear s3
        wtm_at "rd"
        refine Rd.forX (K := K) (H0 := H3) (SqX.l (SqL.of ep)) (fun j σ' H' => (∃ v3 v4 : Option V, σ' = [some (.ref a), some (.int ((A0 + 1 + sizeP (ps.take j) : Nat) : Int)), some (.ref ra), v3, v4]) ∧ Kp [] H3 H' ∧ hurP (A0 + 1) (ps.take j) = none) ⟨⟨v3, v4, by rw [List.take_zero, sizeP]; rfl⟩, Kp.refl _, by rw [List.take_zero, hurP]⟩ (fun i σ' H' _ h => ⟨[], List.not_mem_nil, h.2.1⟩) ?_ ?_
        · rintro j y σ' H4 hj ⟨⟨v3, v4, rfl⟩, k4, hh6⟩ ey
          obtain ⟨q, eq', hq'⟩ := hru3.at_ ey
          have mq := List.mem_of_getElem? eq'
          have hdep := depP_mem mq
          have spp := take_split eq'
          obtain ⟨m, rfl⟩ : ∃ m, n = m + 1 := ⟨n - 1, by omega⟩
          wtm_at "rd"
          refine h0 _ _ _ _ ⟨m, rfl, y, q, A0 + 1 + sizeP (ps.take j), rfl, hq'.kp k4, shpP_mem hsr.2 mq, by omega, fun t H5 k5 et => ?_⟩
          have s5 : Stt H5 [] [] H5 := Stt.nil
          cases eh : hurR (A0 + 1 + sizeP (ps.take j)) q with
          | none =>
            rw [eh, hurV] at et
            refine Rd.gseqX (.inr (SqT.of et)) rfl ?_
            wtm_at "rd"
            have e : A0 + 1 + sizeP (ps.take j) + sizeR q = A0 + 1 + sizeP (ps.take (j + 1)) := by rw [take_snoc eq', sizeP_app, sizeP, sizeP]; omega
            rw [← e]
            refine ⟨⟨_, _, rfl⟩, kpT k4 k5, ?_⟩
            rw [take_snoc eq', hurP_app, hh6, hurP, hurP, eh]
            rfl
          | some z =>
            rw [eh, hurV] at et
            refine Rd.gseqX (.inr (SqT.of et)) rfl ?_
            wtm_at "rd"
            rename_i p7 H7 hp7 s7
            rw [hhur z (by rw [spp, hurP_app, hh6, hurP, eh]; rfl)] at kQ
            exact kQ p7 H7 (kpT k13 (kpT k4 (kpT k5 s7.keep))) (s7.get (o := .tup [.int (z : Nat), .bl true]) (by wtm_at "mem"))
        · rintro σ' H4 ⟨⟨v3, v4, rfl⟩, k4, hh6⟩
          rw [hru.len, List.take_length] at hh6 ⊢
          have e : A0 + 1 + sizeP ps = kk + sizeR (rs.take (i + 1)) := by rw [take_snoc er, sizeR_app, sizeR, sizeR, LRow.size, ← hA]; omega
          rw [e]
          exact ⟨⟨_, _, _, rfl⟩, kpT k13 k4, hgood hh6⟩
    · rintro σ' H1 ⟨⟨v2, v3, v4, rfl⟩, k1, hh⟩
      rw [hu.len, List.take_length] at hh ⊢
      rw [hh] at kQ
      have s0 : Stt H1 [] [] H1 := Stt.nil
      wtm_at "rd"
      rename_i p H2 hp s1
      exact kQ p H2 (kpT k1 s1.keep) (s1.get (o := .tup [.int ((kk + sizeR rs : Nat) : Int), .bl false]) (by wtm_at "mem"))
theorem ok_l_hurriedO (T : Txt K mg) : ∀ n, n ≤ 6 → FnOk P w K mg base CX0 (n + 9) (He.fAd K ("_law_hurried", none)) T.fd_l_hurried ["_law_rows_here", "_law_k"] (spLHurO n)
  | 0, _ => lhur_bodyO T 0 8 (by omega) (by omega) (by omega) _ fnok_false fun vs H Q E ⟨m, h, _⟩ => by omega
  | n + 1, hn => lhur_bodyO T (n + 1) (n + 9) (by omega) (by omega) (by omega) _ (ok_l_hurriedO T n (by omega)) fun vs H Q E ⟨m, h1, h2⟩ => by
    cases h1
    exact h2
end

section
variable {P : Program} {w : World} {K : PySem.W.Frag} {mg : Str → Option Value} {base : Heap}
/-! ### the law's own reason -/
theorem isi_K9T {X : Cx} (hK : X.K = K) : CallR X (.builtin "isinstance") (rIsiT K) := by
  rw [← hK]
  exact call_isiT
theorem pairs_const {σ : L2.St} {H : Hp} : ∀ (ps : List (Str × Int)) {Q : List (V × V) → Hp → Prop}, Q (ps.map fun q => (V.str q.1, V.int q.2)) H → tPairs (ps.map fun q => (tC (.str q.1), tC (.int q.2))) σ H Q
  | [], _, h => h
  | (z, i) :: r, Q, h => by
    rw [List.map_cons, tPairs]
    exact pairs_const r h
/-- a written dict of texts and numbers -/
theorem disp_const {σ : L2.St} {H : Hp} {Q : VK} (ps : List (Str × Int)) (hl : ps.length ≤ 15) (hm : mergeK [] (ps.map fun q => ((.inr q.1 : L2.Key), V.int q.2)) = ps.map fun q => ((.inr q.1 : L2.Key), V.int q.2))
    (h : ∀ p, H p = none → Q (.ref p) (upd H p (.dK (ps.map fun q => ((.inr q.1 : L2.Key), V.int q.2))))) : tDisp (ps.map fun q => (tC (.str q.1), tC (.int q.2))) σ H Q := by
  intro p hp
  refine pairs_const ps ⟨upd_same, ps.map fun q => ((.inr q.1 : L2.Key), V.int q.2), ?_, by rw [List.length_map]; exact hl, ?_⟩
  · rw [List.map_map]
    rfl
  · rw [hm, upd_upd]
    exact h p hp
def sizesL : List (Str × Int) := [("work", 3), ("say", 2), ("pass", 1), ("sleep", 2), ("take", 2), ("give", 2), ("either", 3), ("ever", 2), ("within", 4)]
def sizesD : List (L2.Key × V) := sizesL.map fun q => ((.inr q.1 : L2.Key), V.int q.2)
theorem sizes_merge : mergeK [] sizesD = sizesD := by decide +kernel
theorem sizes_tab : ∀ z ∈ sizesL, valV sizesD (.inr z.1) = some (.int z.2) := by decide +kernel
theorem valV_sizes (n : Str) : valV sizesD (.inr n) = Option.map (fun (k : Nat) => V.int ((k : Nat) : Int)) (rlen n) := by
  unfold rlen
  split
  · rename_i h; subst h; exact sizes_tab ("work", 3) (by simp [sizesL])
  split
  · rename_i h; subst h; exact sizes_tab ("say", 2) (by simp [sizesL])
  split
  · rename_i h; subst h; exact sizes_tab ("pass", 1) (by simp [sizesL])
  split
  · rename_i h; subst h; exact sizes_tab ("sleep", 2) (by simp [sizesL])
  split
  · rename_i h; subst h; exact sizes_tab ("take", 2) (by simp [sizesL])
  split
  · rename_i h; subst h; exact sizes_tab ("give", 2) (by simp [sizesL])
  split
  · rename_i h; subst h; exact sizes_tab ("either", 3) (by simp [sizesL])
  split
  · rename_i h; subst h; exact sizes_tab ("ever", 2) (by simp [sizesL])
  split
  · rename_i h; subst h; exact sizes_tab ("within", 4) (by simp [sizesL])
  · rename_i h1 h2 h3 h4 h5 h6 h7 h8 h9
    unfold valV sizesD sizesL
    simp [List.find?_cons, Ne.symm h1, Ne.symm h2, Ne.symm h3, Ne.symm h4, Ne.symm h5, Ne.symm h6, Ne.symm h7, Ne.symm h8, Ne.symm h9]
def startO7 (s : Ob) : Ob → Bool
  | .num k => s.btw 0 k
  | _ => false
def whyV (cs : List Str) (g l : Bool) (n : Str) (as ps : List Ob) : Option Str := if numO n as = false then some ("number" : Str) else if n = "say" ∧ (argO as).word = false then some ("word" : Str) else if (n = "take" ∨ n = "give") ∧ (argO as).mem cs = false then some ("counter" : Str) else if ps.all Ob.isSq = false then some ("rows" : Str) else if n = "within" ∧ g = true then some ("nested" : Str) else if n = "ever" ∧ l = false then some ("last" : Str) else none
theorem why_row {cs : List Str} {g l : Bool} {q : Nat} {o : Ob} (hq : q ≠ 12) (h : o.view = none) : whyO cs g l q o = some ("row" : Str) := by
  unfold whyO faultO
  rw [if_neg hq, h]
  rfl
theorem why_v {cs : List Str} {g l : Bool} {q : Nat} {o : Ob} {n : Str} {as ps : List Ob} (hq : q ≠ 12) (h : o.view = some (n, as, ps)) : whyO cs g l q o = whyV cs g l n as ps := by
  unfold whyO faultO whyV
  rw [if_neg hq, Ob.nm, h]
  simp only []
  repeat' split
  all_goals first | rfl | simp_all
theorem whyV_work {cs : List Str} {g l : Bool} (a b : Ob) : whyV cs g l "work" [a, b] [] = (if b.btw 0 99 = true then (if startO7 a b = true then none else some ("number" : Str)) else some "number") := by
  simp only [whyV, numO_work, show ¬ (("work" : Str) = "say") from by decide +kernel, show ¬ (("work" : Str) = "take") from by decide +kernel, show ¬ (("work" : Str) = "give") from by decide +kernel, show ¬ (("work" : Str) = "within") from by decide +kernel, show ¬ (("work" : Str) = "ever") from by decide +kernel, false_and, or_false, false_or, true_and, or_true, true_or, if_false, argO, List.headD_cons, List.headD_nil, List.all_cons, List.all_nil, Bool.and_true]
  cases b with
  | num i => cases h1 : Ob.btw 0 99 (.num i) <;> cases h2 : Ob.btw 0 i a <;> simp_all [startO7]
  | _ => simp [startO7, Ob.btw]
theorem whyV_say {cs : List Str} {g l : Bool} (a : Ob) : whyV cs g l "say" [a] [] = (if a.word = true then none else some ("word" : Str)) := by
  simp only [whyV, show numO "say" [a] = true from rfl, show ¬ (("say" : Str) = "take") from by decide +kernel, show ¬ (("say" : Str) = "give") from by decide +kernel, show ¬ (("say" : Str) = "within") from by decide +kernel, show ¬ (("say" : Str) = "ever") from by decide +kernel, false_and, or_false, false_or, true_and, or_true, true_or, if_false, argO, List.headD_cons, List.headD_nil, List.all_cons, List.all_nil, Bool.and_true]
  cases h1 : a.word <;> simp_all
theorem whyV_pass {cs : List Str} {g l : Bool}  : whyV cs g l "pass" [] [] = (none) := by
  simp only [whyV, show numO "pass" [] = true from rfl, show ¬ (("pass" : Str) = "say") from by decide +kernel, show ¬ (("pass" : Str) = "take") from by decide +kernel, show ¬ (("pass" : Str) = "give") from by decide +kernel, show ¬ (("pass" : Str) = "within") from by decide +kernel, show ¬ (("pass" : Str) = "ever") from by decide +kernel, false_and, or_false, false_or, true_and, or_true, true_or, if_false, argO, List.headD_cons, List.headD_nil, List.all_cons, List.all_nil, Bool.and_true]
  simp
theorem whyV_sleep {cs : List Str} {g l : Bool} (a : Ob) : whyV cs g l "sleep" [a] [] = (if a.btw 1 99 = true then none else some ("number" : Str)) := by
  simp only [whyV, show numO "sleep" [a] = a.btw 1 99 from rfl, show ¬ (("sleep" : Str) = "say") from by decide +kernel, show ¬ (("sleep" : Str) = "take") from by decide +kernel, show ¬ (("sleep" : Str) = "give") from by decide +kernel, show ¬ (("sleep" : Str) = "within") from by decide +kernel, show ¬ (("sleep" : Str) = "ever") from by decide +kernel, false_and, or_false, false_or, true_and, or_true, true_or, if_false, argO, List.headD_cons, List.headD_nil, List.all_cons, List.all_nil, Bool.and_true]
  cases h1 : a.btw 1 99 <;> simp_all
theorem whyV_take {cs : List Str} {g l : Bool} (a : Ob) : whyV cs g l "take" [a] [] = (if a.mem cs = true then none else some ("counter" : Str)) := by
  simp only [whyV, show numO "take" [a] = true from rfl, show ¬ (("take" : Str) = "say") from by decide +kernel, show ¬ (("take" : Str) = "give") from by decide +kernel, show ¬ (("take" : Str) = "within") from by decide +kernel, show ¬ (("take" : Str) = "ever") from by decide +kernel, false_and, or_false, false_or, true_and, or_true, true_or, if_false, argO, List.headD_cons, List.headD_nil, List.all_cons, List.all_nil, Bool.and_true]
  cases h1 : a.mem cs <;> simp_all
theorem whyV_give {cs : List Str} {g l : Bool} (a : Ob) : whyV cs g l "give" [a] [] = (if a.mem cs = true then none else some ("counter" : Str)) := by
  simp only [whyV, show numO "give" [a] = true from rfl, show ¬ (("give" : Str) = "say") from by decide +kernel, show ¬ (("give" : Str) = "take") from by decide +kernel, show ¬ (("give" : Str) = "within") from by decide +kernel, show ¬ (("give" : Str) = "ever") from by decide +kernel, false_and, or_false, false_or, true_and, or_true, true_or, if_false, argO, List.headD_cons, List.headD_nil, List.all_cons, List.all_nil, Bool.and_true]
  cases h1 : a.mem cs <;> simp_all
theorem whyV_either {cs : List Str} {g l : Bool} (a b : Ob) : whyV cs g l "either" [] [a, b] = (if (a.isSq && b.isSq) = true then none else some ("rows" : Str)) := by
  simp only [whyV, show numO "either" [] = true from rfl, show ¬ (("either" : Str) = "say") from by decide +kernel, show ¬ (("either" : Str) = "take") from by decide +kernel, show ¬ (("either" : Str) = "give") from by decide +kernel, show ¬ (("either" : Str) = "within") from by decide +kernel, show ¬ (("either" : Str) = "ever") from by decide +kernel, false_and, or_false, false_or, true_and, or_true, true_or, if_false, argO, List.headD_cons, List.headD_nil, List.all_cons, List.all_nil, Bool.and_true]
  cases h1 : a.isSq <;> cases h2 : b.isSq <;> simp_all
theorem whyV_ever {cs : List Str} {g l : Bool} (a : Ob) : whyV cs g l "ever" [] [a] = (if a.isSq = true then (if l = true then none else some ("last" : Str)) else some "rows") := by
  simp only [whyV, show numO "ever" [] = true from rfl, show ¬ (("ever" : Str) = "say") from by decide +kernel, show ¬ (("ever" : Str) = "take") from by decide +kernel, show ¬ (("ever" : Str) = "give") from by decide +kernel, show ¬ (("ever" : Str) = "within") from by decide +kernel, false_and, or_false, false_or, true_and, or_true, true_or, if_false, argO, List.headD_cons, List.headD_nil, List.all_cons, List.all_nil, Bool.and_true]
  cases h1 : a.isSq <;> cases l <;> simp_all
theorem whyV_within {cs : List Str} {g l : Bool} (a b c : Ob) : whyV cs g l "within" [c] [a, b] = (if c.btw 1 99 = true then (if (a.isSq && b.isSq) = true then (if g = true then some ("nested" : Str) else none) else some "rows") else some "number") := by
  simp only [whyV, show numO "within" [c] = c.btw 1 99 from rfl, show ¬ (("within" : Str) = "say") from by decide +kernel, show ¬ (("within" : Str) = "take") from by decide +kernel, show ¬ (("within" : Str) = "give") from by decide +kernel, show ¬ (("within" : Str) = "ever") from by decide +kernel, false_and, or_false, false_or, true_and, or_true, true_or, if_false, argO, List.headD_cons, List.headD_nil, List.all_cons, List.all_nil, Bool.and_true]
  cases h0 : c.btw 1 99 <;> cases h1 : a.isSq <;> cases h2 : b.isSq <;> cases g <;> simp_all
def whyS (r : Option Str) : Str := r.getD ""
def spLReaO (K : PySem.W.Frag) : Sp := fun vs H Q _ => ∃ (v : V) (o : Ob) (kn : Addr) (q : Nat) (cs : List Str) (g last : Bool), vs = [v, .int (q : Nat), .ref kn, .bl g, .bl last] ∧ ObA H v o ∧ H kn = some (.lst (cs.map V.str)) ∧
  ∀ H', Kp [] H H' → Q (.str (whyS (whyO cs g last q o))) H'
def DN (y x : V) (H : Hp) (Q : VK) : Prop := ∃ a o, x = .ref a ∧ DGet H a y o ∧ Q (.bl (!o.isSome)) H
def DG (x y : V) (H : Hp) (Q : VK) : Prop := ∃ a v, x = .ref a ∧ DGet H a y (some v) ∧ Q v H
theorem dnotin {σ : L2.St} {H : Hp} {Q : VK} {ty td : TE} (h : ty σ H fun y H1 => td σ H1 fun x H2 => DN y x H2 Q) : tDNotIn ty td σ H Q := h
theorem dget {σ : L2.St} {H : Hp} {Q : VK} {ty td : TE} (h : td σ H fun x H1 => ty σ H1 fun y H2 => DG x y H2 Q) : tDGet td ty σ H Q := h
theorem dnK {H0 H : Hp} {S : List Addr} {l : Led} {Q : VK} {p : Addr} {z : Str} {v : V} {kvs : List (L2.Key × V)} (e : valV kvs (.inr z) = some v) (st : Stt H0 S l H) (m : (p, Is (.dK kvs)) ∈ l) (h : Q (.bl false) H) : DN (.str z) (.ref p) H Q := by
  refine ⟨p, _, rfl, DGet.k (k := .inr z) (st.get m), ?_⟩
  rw [e]
  exact h
theorem dgK {H0 H : Hp} {S : List Addr} {l : Led} {Q : VK} {p : Addr} {z : Str} {v : V} {kvs : List (L2.Key × V)} (e : valV kvs (.inr z) = some v) (st : Stt H0 S l H) (m : (p, Is (.dK kvs)) ∈ l) (h : Q v H) : DG (.ref p) (.str z) H Q := by
  refine ⟨p, v, rfl, ?_, h⟩
  rw [← e]
  exact DGet.k (k := .inr z) (st.get m)
theorem linnerO_ask {H0 H : Hp} {S : List Addr} {l : Led} {a : Addr} {n : Str} {as us : List V} {os ps : List Ob} {Q : VK} {E : XK} (hs : ShO n os ps) (h1 : os.length = as.length) (h2 : ps.length = us.length) (s : Stt H0 S l H) (hq : SqX K H a (.str n :: (as ++ us)))
    (k : ∀ p H', Stt H0 S ((p, Is (.lst us)) :: l) H' → Q (.ref p) H') : spInner K ([.ref a] ++ []) H Q E :=
  ⟨a, n, as, us, os, ps, rfl, hq, hs, h1, h2, fun p H' hp s' => k p H' ((s.after0 s'.keep).add (s'.pick List.mem_cons_self) (s.fresh hp))⟩
local macro_rules | `(tactic| wtm_at "ask") => `(tactic| with_reducible refine' dnotin ?_)
local macro_rules | `(tactic| wtm_at "ask") => `(tactic| with_reducible refine' dget ?_)
local macro_rules | `(tactic| wtm_at "ask") => `(tactic| refine' Rd.brF (by decide +kernel) ?_)
local macro_rules | `(tactic| wtm_at "ask") => `(tactic| refine' inS (ys := ["sleep", "within"]) (.inr (Stt.sqT (xs := [.str "sleep", .str "within"]) (by assumption) (by wtm_at "mem"))) ?_)
local macro_rules | `(tactic| wtm_at "ask") => `(tactic| refine' inS (ys := ["take", "give"]) (.inr (Stt.sqT (xs := [.str "take", .str "give"]) (by assumption) (by wtm_at "mem"))) ?_)
local macro_rules | `(tactic| wtm_at "ask") => `(tactic| refine' Rd.brT (by decide +kernel) ?_)

local macro_rules | `(tactic| wtm_at "pairs") => `(tactic| repeat (rw [tPairs]; wtm_at "rd"))
theorem seqN {t1 t2 : TS} {D : Ends} {σ : L2.St} {H : Hp} (h : ∀ N : L2.St → Hp → Prop, N = t2 D → t1 { D with nx := N } σ H) : tSeq t1 t2 D σ H := h _ rfl
theorem unN {N t : L2.St → Hp → Prop} {σ : L2.St} {H : Hp} (e : N = t) (h : t σ H) : N σ H := by
  rw [e]
  exact h

local macro_rules | `(tactic| wtm_at "pre") => `(tactic| ((with_reducible refine' unN ?v1 ?_); (case v1 => assumption)))
local macro_rules | `(tactic| wtm_at "pre") => `(tactic| ((with_reducible refine' seqN ?_); intro _ _))
local macro_rules | `(tactic| wtm_at "at") => `(tactic| first | exact atI_nat (j := 0) rfl | exact atI_nat (j := 1) rfl | exact atI_nat (j := 2) rfl | exact atI_nat (j := 3) rfl)

theorem rea_allO {H H1 : Hp} {l : Led} {v1 v2 v3 v4 v5 v6 : Option V} {a : Addr} {n : Str} {as us : List V} {os ps : List Ob} {b : Bool} {Q' : VK} (hs : ShO n os ps) (h1 : os.length = as.length) (hu : ObAll H us ps) (hb : ps.all Ob.isSq = b) (hq : SqX K H a (.str n :: (as ++ us))) (s : Stt H [] l H1)
    (k : ∀ H2, Stt H [] l H2 → Q' (.bl b) H2) : tCB (rAll K) (tCons (tLc (iSeq K (tCall (spInner K) [] E0 (tCons (tVar 0) tNil))) (gName 6) tYes (tCB (rIsiT K) (tCons (tVar 6) (tCons (tTup (tCons (tC (V.ty "list")) (tCons (tC (V.ty "tuple")) tNil))) tNil))) [6]) tNil) [some (.ref a), v1, v2, v3, v4, v5, v6] H1 Q' := by
  wtm_at "rd"
  refine linnerO_ask hs h1 (by rw [hu.len]) s (hq.kp0 s.keep) fun p H2 s2 => ?_
  have s3 : Stt H2 [] [] H2 := Stt.nil
  have hu2 : us.length ≤ 2 := by rw [hu.len]; exact hs.few.2
  wtm_at "rd"
  refine Rd.lcX (SqX.l (SqL.of (s2.get List.mem_cons_self))) List.not_mem_nil s3 (fun i acc ex => ex = [] ∧ acc = ((ps.take i).map Ob.isSq).map V.bl) ⟨rfl, by simp⟩ ?_ ?_
  · rintro D hD i x HA acc ex hi ⟨rfl, rfl⟩ hac s4 ey
    obtain ⟨y, eo, hy⟩ := hu.at_ ey
    have hy2 := hy.kp s2.keep
    clear s3
    wtm_at "rd"
    rename_i q H3 hq s5
    obtain ⟨t, ty, kt, _⟩ := (hy2.kp s5.keep).ty (K := K)
    refine Rd.isiT s5 (by wtm_at "mem") ty (.cons (.ty _) (.cons (.ty _) .nil)) kt ?_
    refine Rd.lcE (s5.sub (by wtm_at "subl")) hD (by omega) hac ⟨rfl, ?_⟩
    rw [take_snoc eo, List.map_append, List.map_append]
    rfl
  · rintro D HA acc ex hD ⟨rfl, rfl⟩ s4
    rw [List.append_nil] at s4
    rw [List.take_of_length_le (by rw [hu.len]; exact Nat.le_refl _)] at s4
    wtm_at "rd"
    refine Rd.allL s4 (by wtm_at "mem") ?_
    rw [all_map_id, hb]
    exact k _ (s2.sub (List.sublist_cons_self _ _) |>.after0 s4.keep)
local macro_rules | `(tactic| wtm_at "pre") => `(tactic| ((with_reducible show tCB (rAll _) _ _ _ _); refine' rea_allO (by assumption) (by assumption) (by assumption) (by assumption) (by assumption) (by assumption) ?_; intro _ _))
theorem ok_l_reasonO (T : Txt K mg) : FnOk P w K mg base CX0 2 (He.fAd K ("_law_reason", none)) T.fd_l_reason ["_law_row_here", "_law_k", "_law_known", "_law_is_inside", "_law_is_last"] (spLReaO K) := by
  refine T.F_l_reason.ok sc_l_reason (fun vs H Q E h => ?_) (fun cdv A outer s H vs Q E hr h => ?_)
  · obtain ⟨v, o, kn, q, cs, g, l, rfl, _⟩ := h
    rfl
  · obtain ⟨v, o, kn, q, cs, g, l, rfl, ho, hkn, k⟩ := h
    refine ⟨_, PSs.nox (pss_cons (ps_asg (pe_disp (pps_cons pe_str pe_int (pps_cons pe_str pe_int (pps_cons pe_str pe_int (pps_cons pe_str pe_int (pps_cons pe_str pe_int (pps_cons pe_str pe_int (pps_cons pe_str pe_int (pps_cons pe_str pe_int (pps_cons pe_str pe_int pps_nil))))))))) rfl rfl (by simp) (by decide)) (pg_name (i := 5) sc_l_reason.nd rfl (by first | exact Or.inl rfl | exact Or.inr rfl)))
  (pss_cons (ps_if (pt_cmpR op_eq (pv 1) pe_int (nomark _)) (pss_one (ps_ret pe_str))
   pss_nil)
  (pss_cons (ps_if (PW.pt (pw_or (pt_not (pt_val (pe_callB call_isiT (by rfl) T.n_isinstance (by decide +kernel) (pa_cons (pv 0) (pa_cons (pe_tup (pa_cons (pe_bltn (v := .ty "list") (by rfl) T.n_list (by decide +kernel) (show RelV (.ty "list") (.type "list") from rfl)) (pa_cons (pe_bltn (v := .ty "tuple") (by rfl) T.n_tuple (by decide +kernel) (show RelV (.ty "tuple") (.type "tuple") from rfl)) pa_nil))) pa_nil))))) (pw_or (pt_cmpR op_eq (pe_callB call_lenQ (by rfl) T.n_len PySem.boot_len (pa_cons (pv 0) pa_nil)) pe_int (nomark _)) (pw_or1 (pt_not (pt_val (pe_callB call_isi (by rfl) T.n_isinstance (by decide +kernel) (pa_cons (pe_ix (ix_K7 (K := K) (r := fun K1 => rIxX K1) rfl ix_sqX) (pv 0) pe_int (fun _ _ => rfl)) (pa_cons (pe_bltn (v := .ty "str") (by rfl) T.n_str (by decide +kernel) (show RelV (.ty "str") (.type "str") from rfl)) pa_nil))))))))) (pss_one (ps_ret pe_str))
   pss_nil)
  (pss_cons (ps_if (PW.pt (pw_or (pt_cmp (pc_dnotin (Nat.lt_of_le_of_lt (Nat.add_le_add_left (by decide : 1 ≤ 64) _) hr.units) (pe_ix (ix_K7 (K := K) (r := fun K1 => rIxX K1) rfl ix_sqX) (pv 0) pe_int (fun _ _ => rfl)) (pv 5))) (pw_or1 (pt_cmpR op_ne (pe_callB call_lenQ (by rfl) T.n_len PySem.boot_len (pa_cons (pv 0) pa_nil)) (pe_dget (Nat.lt_of_le_of_lt (Nat.add_le_add_left (by decide : 1 ≤ 64) _) hr.units) (pv 5) (pe_ix (ix_K7 (K := K) (r := fun K1 => rIxX K1) rfl ix_sqX) (pv 0) pe_int (fun _ _ => rfl)) (fun _ _ => rfl)) (nomark _))))) (pss_one (ps_ret pe_str))
   pss_nil)
  (pss_cons (ps_if (PW.pt (pw_and (pt_cmpR op_eq (pe_ix (ix_K7 (K := K) (r := fun K1 => rIxX K1) rfl ix_sqX) (pv 0) pe_int (fun _ _ => rfl)) pe_str (nomark _)) (pw_and1 (pt_not (pt_val (pe_call (ok_l_is_numberO T) (hr.mono (by decide)) rfl T.g_l_is_number T.F_l_is_number.kp T.b_l_is_number .nil pass0 (pa_cons (pe_ix (ix_K7 (K := K) (r := fun K1 => rIxX K1) rfl ix_sqX) (pv 0) pe_int (fun _ _ => rfl)) (pa_cons pe_int (pa_cons pe_int pa_nil))))))))) (pss_one (ps_ret pe_str))
   pss_nil)
  (pss_cons (ps_if (PW.pt (pw_and (pt_cmpR op_eq (pe_ix (ix_K7 (K := K) (r := fun K1 => rIxX K1) rfl ix_sqX) (pv 0) pe_int (fun _ _ => rfl)) pe_str (nomark _)) (pw_and1 (pt_not (pt_val (pe_call (ok_l_is_numberO T) (hr.mono (by decide)) rfl T.g_l_is_number T.F_l_is_number.kp T.b_l_is_number .nil pass0 (pa_cons (pe_ix (ix_K7 (K := K) (r := fun K1 => rIxX K1) rfl ix_sqX) (pv 0) pe_int (fun _ _ => rfl)) (pa_cons pe_int (pa_cons (pe_ix (ix_K7 (K := K) (r := fun K1 => rIxX K1) rfl ix_sqX) (pv 0) pe_int (fun _ _ => rfl)) pa_nil))))))))) (pss_one (ps_ret pe_str))
   pss_nil)
  (pss_cons (ps_if (PW.pt (pw_and (pt_cmpR op_in_seq (pe_ix (ix_K7 (K := K) (r := fun K1 => rIxX K1) rfl ix_sqX) (pv 0) pe_int (fun _ _ => rfl)) (pe_tup (pa_cons pe_str (pa_cons pe_str pa_nil))) (by rfl)) (pw_and1 (pt_not (pt_val (pe_call (ok_l_is_numberO T) (hr.mono (by decide)) rfl T.g_l_is_number T.F_l_is_number.kp T.b_l_is_number .nil pass0 (pa_cons (pe_ix (ix_K7 (K := K) (r := fun K1 => rIxX K1) rfl ix_sqX) (pv 0) pe_int (fun _ _ => rfl)) (pa_cons pe_int (pa_cons pe_int pa_nil))))))))) (pss_one (ps_ret pe_str))
   pss_nil)
  (pss_cons (ps_if (PW.pt (pw_and (pt_cmpR op_eq (pe_ix (ix_K7 (K := K) (r := fun K1 => rIxX K1) rfl ix_sqX) (pv 0) pe_int (fun _ _ => rfl)) pe_str (nomark _)) (pw_and1 (pt_not (pt_val (pe_call (ok_l_is_wordO T) (hr.mono (by decide)) rfl T.g_l_is_word T.F_l_is_word.kp T.b_l_is_word .nil pass0 (pa_cons (pe_ix (ix_K7 (K := K) (r := fun K1 => rIxX K1) rfl ix_sqX) (pv 0) pe_int (fun _ _ => rfl)) pa_nil))))))) (pss_one (ps_ret pe_str))
   pss_nil)
  (pss_cons (ps_if (PW.pt (pw_and (pt_cmpR op_in_seq (pe_ix (ix_K7 (K := K) (r := fun K1 => rIxX K1) rfl ix_sqX) (pv 0) pe_int (fun _ _ => rfl)) (pe_tup (pa_cons pe_str (pa_cons pe_str pa_nil))) (by rfl)) (pw_and1 (pt_cmpR (op_notInOb (room1o hr)) (pe_ix (ix_K7 (K := K) (r := fun K1 => rIxX K1) rfl ix_sqX) (pv 0) pe_int (fun _ _ => rfl)) (pv 2) (by rfl))))) (pss_one (ps_ret pe_str))
   pss_nil)
  (pss_cons (ps_if (pt_not (pt_val (pe_callB (cr_all rfl) (by rfl) T.n_all (by decide +kernel) (pa_cons (pe_lc (own := [("_law_x", 6)]) (g := gName 6) (tt := tYes) (by rfl) sc_l_reason.nd (pi_seq (pe_call (ok_l_inner T) (hr.mono (by decide)) rfl T.g_l_inner T.F_l_inner.kp T.b_l_inner .nil pass0 (pa_cons (pv 0) pa_nil))) (blkOk_by (own := [("_law_x", 6)]) (N := ["_law_row_here", "_law_k", "_law_known", "_law_is_inside", "_law_is_last", "_law_sizes", "_law_x"]) (sc := defScope s_l_reason) (by decide +kernel)) (fun _ _ _ _ _ => (pg_name (i := 6) sc_l_reason.nd rfl (by first | exact Or.inl rfl | exact Or.inr rfl))) (fun _ _ _ _ _ => pts_nil) (fun _ _ _ _ _ => (pe_callB (isi_K9T (K := K) rfl) (by rfl) T.n_isinstance (by decide +kernel) (pa_cons (pv 6) (pa_cons (pe_tup (pa_cons (pe_bltn (v := .ty "list") (by rfl) T.n_list (by decide +kernel) (show RelV (.ty "list") (.type "list") from rfl)) (pa_cons (pe_bltn (v := .ty "tuple") (by rfl) T.n_tuple (by decide +kernel) (show RelV (.ty "tuple") (.type "tuple") from rfl)) pa_nil))) pa_nil))))) pa_nil)))) (pss_one (ps_ret pe_str))
   pss_nil)
  (pss_cons (ps_if (PW.pt (pw_and (pt_cmpR op_eq (pe_ix (ix_K7 (K := K) (r := fun K1 => rIxX K1) rfl ix_sqX) (pv 0) pe_int (fun _ _ => rfl)) pe_str (nomark _)) (pw_and1 (pt_val (pv 3))))) (pss_one (ps_ret pe_str))
   pss_nil)
  (pss_one (ps_ret (pe_ifExp (PW.pt (pw_and (pt_cmpR op_eq (pe_ix (ix_K7 (K := K) (r := fun K1 => rIxX K1) rfl ix_sqX) (pv 0) pe_int (fun _ _ => rfl)) pe_str (nomark _)) (pw_and1 (pt_not (pt_val (pv 4)))))) pe_str pe_str)))))))))))))), ?_⟩
    wtm_at "k"
    have s0 : Stt H [] [] H := Stt.nil
    wtm_at "rd"
    intro p hp
    have s1 := s0.new hp (.dK [])
    generalize upd H p (.dK []) = H1 at s1
    clear s0
    wtm_at "pairs"
    refine ⟨s1.get (by wtm_at "mem"), sizesD, by simp only [sizesD, sizesL, List.map_cons, List.map_nil, L2.kV], by decide +kernel, ?_⟩
    rw [sizes_merge]
    have s2 := s1.set (a := p) (o := .dK sizesD) (by wtm_at "put") (.inr hp)
    generalize upd H1 p (HO.dK sizesD) = H2 at s2
    clear s1
    have k2 := s2.keep
    have ho2 := ho.kp k2
    wtm_at "rd"
    refine Rd.brD (fun e => ?_) (fun e => ?_)
    · have e1 : q = 12 := by have := V.int.inj e; omega
      have := k H2 k2
      rw [whyO, faultO, if_pos e1] at this
      wtm_at "rd"
      exact this
    have e1 : q ≠ 12 := fun z => e (by rw [z]; rfl)
    have kS : ∀ r, whyO cs g l q o = r → ∀ {l' : Led} {H' : Hp}, Stt H [] l' H' → Q (.str (whyS r)) H' := fun r e {_ _} s => by
      have := k _ s.keep
      rw [e] at this
      exact this
    wtm_at "rd"
    rename_i pt Ht hpt st
    obtain ⟨tv, tyv, ktv, _⟩ := (ho.kp st.keep).ty (K := K)
    refine Rd.isiT st (by wtm_at "mem") tyv (.cons (.ty _) (.cons (.ty _) .nil)) ktv ?_
    clear ho2 s2
    cases e2 : o.isSq with
    | false =>
      wtm_at "rd"
      exact kS _ (why_row e1 (by cases o <;> first | rfl | cases e2)) st
    | true =>
      cases ho with
      | @sq a vs xs hh hz r =>
        have hq : SqX K H a vs := sqX_of hh
        wtm_at "rd"
        cases r with
        | nil =>
          refine Rd.brI rfl ?_
          wtm_at "rd"
          exact kS _ (why_row e1 rfl) st
        | @cons v0 vr x xr hx r =>
          have a0 : atI (v0 :: vr) 0 = some v0 := atI_nat (j := 0) rfl
          refine Rd.brJ (fun e => absurd (V.int.inj e) (by rw [List.length_cons]; omega)) ?_
          clear tyv ktv
          obtain ⟨t0, ty, _, kt, _⟩ := (hx.kp st.keep).ty (K := K)
          wtm_at "rd"
          cases e3 : x.isStr with
          | false =>
            wtm_at "rd"
            exact kS _ (why_row e1 (by cases x <;> first | rfl | cases e3)) st
          | true =>
            cases hx with
            | str n hn =>
              clear ty kt
              wtm_at "rd"
              refine ⟨p, _, rfl, DGet.k (k := .inr n) (st.get (by wtm_at "mem")), ?_⟩
              rw [valV_sizes]
              cases e4 : rlen n with
              | none =>
                rw [Option.map_none, Option.isSome_none]
                wtm_at "rd"
                refine kS _ (why_row e1 ?_) st
                have := view_no (r := xr) e4
                exact Option.not_isSome_iff_eq_none.mp (by rw [this]; exact Bool.false_ne_true)
              | some m =>
                rw [Option.map_some, Option.isSome_some]
                wtm_at "rd"
                refine ⟨p, .int (m : Nat), rfl, ?_, ?_⟩
                · have z := DGet.k (k := .inr n) (st.get (a := p) (by wtm_at "mem"))
                  rw [valV_sizes, e4, Option.map_some] at z
                  exact z
                wtm_at "rd"
                refine Rd.brD (fun e5 => ?_) (fun e5 => ?_)
                · have e6 : xr.length + 1 = m := by have := V.int.inj e5; rw [List.length_cons, r.len] at this; omega
                  have ev1 := view_len (r := xr) e4
                  rw [decide_eq_true e6] at ev1
                  obtain ⟨⟨n', as, ps⟩, ev⟩ := Option.isSome_iff_exists.mp ev1
                  obtain ⟨eo, hs⟩ := view_some ev
                  injection eo with eo
                  injection eo with en exr
                  injection en with en
                  subst en exr
                  obtain ⟨ws, us, rfl, hw, hu⟩ := r.split
                  have kV : ∀ R, whyV cs g l n as ps = R → ∀ {l' : Led} {H' : Hp}, Stt H [] l' H' → Q (.str (whyS R)) H' := fun R e {_ _} s => kS R ((why_v e1 ev).trans e) s
                  clear kS e4 e5 e6 k
                  cases hall : ps.all Ob.isSq with
                  | true =>
                     cases hs with
                    | work xa xb =>
                      cases hw with
                      | @cons va _ _ _ ha hw =>
                      cases hw with
                      | @cons vb _ _ _ hb hw =>
                      cases hw
                      cases hu
                      have hu0 : ObAll H [] [] := .nil
                      have hs0 : ShO "work" [xa, xb] [] := .work xa xb
                      have hz1 : [xa, xb].length = ([va, vb] : List V).length := rfl
                      have a1 : atI (V.str "work" :: ([va, vb] ++ [])) 1 = some va := atI_nat (j := 1) rfl
                      have a2 : atI (V.str "work" :: ([va, vb] ++ [])) 2 = some vb := atI_nat (j := 2) rfl
                      wtm_at "rd"
                      refine lnumO_ask (ObA.kp (Stt.keep (by assumption)) hb) ?_
                      cases c1 : xb.btw 0 99 with
                      | false =>
                        wtm_at "rd"
                        exact kV (some ("number" : Str)) (by rw [whyV_work, c1]; rfl) (by assumption)
                      | true =>
                        obtain ⟨i, rfl, _⟩ := btw_num c1
                        cases hb
                        wtm_at "rd"
                        refine lnumO_ask (ObA.kp (Stt.keep (by assumption)) ha) ?_
                        cases c2 : xa.btw 0 i with
                        | false =>
                          wtm_at "rd"
                          exact kV (some ("number" : Str)) (by rw [whyV_work, c1, startO7, c2]; rfl) (by assumption)
                        | true =>
                          wtm_at "rd"
                          exact kV none (by rw [whyV_work, c1, startO7, c2]; rfl) (by assumption)
                    | say xa =>
                      cases hw with
                      | @cons va _ _ _ ha hw =>
                      cases hw
                      cases hu
                      have hu0 : ObAll H [] [] := .nil
                      have hs0 : ShO "say" [xa] [] := .say xa
                      have hz1 : [xa].length = ([va] : List V).length := rfl
                      have a1 : atI (V.str "say" :: ([va] ++ [])) 1 = some va := atI_nat (j := 1) rfl
                      wtm_at "rd"
                      refine lwordO_ask (by assumption) (ObA.kp (Stt.keep (by assumption)) ha) fun H' k' s' => ?_
                      cases c1 : xa.word with
                      | false =>
                        wtm_at "rd"
                        exact kV (some ("word" : Str)) (by rw [whyV_say, c1]; rfl) (by assumption)
                      | true =>
                        wtm_at "rd"
                        exact kV none (by rw [whyV_say, c1]; rfl) (by assumption)
                    | pass  =>
                      cases hw
                      cases hu
                      have hu0 : ObAll H [] [] := .nil
                      have hs0 : ShO "pass" [] [] := .pass 
                      have hz1 : ([] : List Ob).length = ([] : List V).length := rfl
                      wtm_at "rd"
                      exact kV none whyV_pass (by assumption)
                    | sleep xa =>
                      cases hw with
                      | @cons va _ _ _ ha hw =>
                      cases hw
                      cases hu
                      have hu0 : ObAll H [] [] := .nil
                      have hs0 : ShO "sleep" [xa] [] := .sleep xa
                      have hz1 : [xa].length = ([va] : List V).length := rfl
                      have a1 : atI (V.str "sleep" :: ([va] ++ [])) 1 = some va := atI_nat (j := 1) rfl
                      wtm_at "rd"
                      refine lnumO_ask (ObA.kp (Stt.keep (by assumption)) ha) ?_
                      cases c1 : xa.btw 1 99 with
                      | false =>
                        wtm_at "rd"
                        exact kV (some ("number" : Str)) (by rw [whyV_sleep, c1]; rfl) (by assumption)
                      | true =>
                        wtm_at "rd"
                        exact kV none (by rw [whyV_sleep, c1]; rfl) (by assumption)
                    | take xa =>
                      cases hw with
                      | @cons va _ _ _ ha hw =>
                      cases hw
                      cases hu
                      have hu0 : ObAll H [] [] := .nil
                      have hs0 : ShO "take" [xa] [] := .take xa
                      have hz1 : [xa].length = ([va] : List V).length := rfl
                      have a1 : atI (V.str "take" :: ([va] ++ [])) 1 = some va := atI_nat (j := 1) rfl
                      wtm_at "rd"
                      refine ⟨xa, kn, cs, (ObA.kp (Stt.keep (by assumption)) ha), rfl, Kp.get (Stt.keep (by assumption)) List.not_mem_nil hkn, ?_⟩
                      cases c1 : xa.mem cs with
                      | false =>
                        rw [Bool.not_false]
                        wtm_at "rd"
                        exact kV (some ("counter" : Str)) (by rw [whyV_take, c1]; rfl) (by assumption)
                      | true =>
                        rw [Bool.not_true]
                        wtm_at "rd"
                        exact kV none (by rw [whyV_take, c1]; rfl) (by assumption)
                    | give xa =>
                      cases hw with
                      | @cons va _ _ _ ha hw =>
                      cases hw
                      cases hu
                      have hu0 : ObAll H [] [] := .nil
                      have hs0 : ShO "give" [xa] [] := .give xa
                      have hz1 : [xa].length = ([va] : List V).length := rfl
                      have a1 : atI (V.str "give" :: ([va] ++ [])) 1 = some va := atI_nat (j := 1) rfl
                      wtm_at "rd"
                      refine ⟨xa, kn, cs, (ObA.kp (Stt.keep (by assumption)) ha), rfl, Kp.get (Stt.keep (by assumption)) List.not_mem_nil hkn, ?_⟩
                      cases c1 : xa.mem cs with
                      | false =>
                        rw [Bool.not_false]
                        wtm_at "rd"
                        exact kV (some ("counter" : Str)) (by rw [whyV_give, c1]; rfl) (by assumption)
                      | true =>
                        rw [Bool.not_true]
                        wtm_at "rd"
                        exact kV none (by rw [whyV_give, c1]; rfl) (by assumption)
                    | either xa xb =>
                      cases hw
                      have hs0 : ShO "either" [] [xa, xb] := .either xa xb
                      have hz1 : ([] : List Ob).length = ([] : List V).length := rfl
                      have hall2 : (xa.isSq && xb.isSq) = true := by simpa using hall
                      wtm_at "rd"
                      exact kV none (by rw [whyV_either, hall2]; rfl) (by assumption)
                    | ever xa =>
                      cases hw
                      have hs0 : ShO "ever" [] [xa] := .ever xa
                      have hz1 : ([] : List Ob).length = ([] : List V).length := rfl
                      have hall2 : xa.isSq = true := by simpa using hall
                      cases l with
                      | true =>
                        wtm_at "rd"
                        exact kV none (by rw [whyV_ever, hall2]; rfl) (by assumption)
                      | false =>
                        wtm_at "rd"
                        exact kV (some ("last" : Str)) (by rw [whyV_ever, hall2]; rfl) (by assumption)
                    | within xc xa xb =>
                      cases hw with
                      | @cons vc _ _ _ hc hw =>
                      cases hw
                      have hs0 : ShO "within" [xc] [xa, xb] := .within xc xa xb
                      have hz1 : [xc].length = ([vc] : List V).length := rfl
                      have a1 : atI (V.str "within" :: ([vc] ++ us)) 1 = some vc := atI_nat (j := 1) rfl
                      have hall2 : (xa.isSq && xb.isSq) = true := by simpa using hall
                      wtm_at "rd"
                      refine lnumO_ask (ObA.kp (Stt.keep (by assumption)) hc) ?_
                      cases c1 : xc.btw 1 99 with
                      | false =>
                        wtm_at "rd"
                        exact kV (some ("number" : Str)) (by rw [whyV_within, c1]; rfl) (by assumption)
                      | true =>
                        cases g with
                        | true =>
                          wtm_at "rd"
                          exact kV (some ("nested" : Str)) (by rw [whyV_within, c1, hall2]; rfl) (by assumption)
                        | false =>
                          wtm_at "rd"
                          exact kV none (by rw [whyV_within, c1, hall2]; rfl) (by assumption)
                  | false =>
                     cases hs with
                    | work xa xb =>
                      cases hall
                    | say xa =>
                      cases hall
                    | pass  =>
                      cases hall
                    | sleep xa =>
                      cases hall
                    | take xa =>
                      cases hall
                    | give xa =>
                      cases hall
                    | either xa xb =>
                      cases hw
                      have hs0 : ShO "either" [] [xa, xb] := .either xa xb
                      have hz1 : ([] : List Ob).length = ([] : List V).length := rfl
                      have hall2 : (xa.isSq && xb.isSq) = false := by simpa using hall
                      wtm_at "rd"
                      exact kV (some ("rows" : Str)) (by rw [whyV_either, hall2]; rfl) (by assumption)
                    | ever xa =>
                      cases hw
                      have hs0 : ShO "ever" [] [xa] := .ever xa
                      have hz1 : ([] : List Ob).length = ([] : List V).length := rfl
                      have hall2 : xa.isSq = false := by simpa using hall
                      wtm_at "rd"
                      exact kV (some ("rows" : Str)) (by rw [whyV_ever, hall2]; rfl) (by assumption)
                    | within xc xa xb =>
                      cases hw with
                      | @cons vc _ _ _ hc hw =>
                      cases hw
                      have hs0 : ShO "within" [xc] [xa, xb] := .within xc xa xb
                      have hz1 : [xc].length = ([vc] : List V).length := rfl
                      have a1 : atI (V.str "within" :: ([vc] ++ us)) 1 = some vc := atI_nat (j := 1) rfl
                      have hall2 : (xa.isSq && xb.isSq) = false := by simpa using hall
                      wtm_at "rd"
                      refine lnumO_ask (ObA.kp (Stt.keep (by assumption)) hc) ?_
                      cases c1 : xc.btw 1 99 with
                      | false =>
                        wtm_at "rd"
                        exact kV (some ("number" : Str)) (by rw [whyV_within, c1]; rfl) (by assumption)
                      | true =>
                        wtm_at "rd"
                        exact kV (some ("rows" : Str)) (by rw [whyV_within, c1, hall2]; rfl) (by assumption)
                · wtm_at "rd"
                  refine kS _ (why_row e1 ?_) st
                  have := view_len (r := xr) e4
                  rw [decide_eq_false (fun q => e5 (by rw [List.length_cons, r.len, q]))] at this
                  exact Option.not_isSome_iff_eq_none.mp (by rw [this]; exact Bool.false_ne_true)
            | _ => cases e3
      | _ => cases e2
end

section
variable {P : Program} {w : World} {K : PySem.W.Frag} {mg : Str → Option Value} {base : Heap}
/-! ### the law's own seek, any objects -/
theorem why_ne {cs : List Str} {g l : Bool} {p : Nat} {o : Ob} {e : Str} (h : whyO cs g l p o = some e) : e ≠ "" := by
  unfold whyO faultO at h
  cases ev : o.view with
  | none =>
    rw [ev] at h
    split at h
    · injection h with h; subst h; decide +kernel
    · injection h with h; subst h; decide +kernel
  | some w =>
    obtain ⟨n, as, ps⟩ := w
    rw [ev] at h
    simp only [] at h
    repeat' split at h
    all_goals first | (cases h; done) | (injection h with h; subst h; decide +kernel)
theorem run_ne {f : Bool → Nat → Ob → Nat × Option Str} (hf : ∀ l p x q e, f l p x = (q, some e) → e ≠ "") : ∀ {xs : List Ob} {p q : Nat} {e : Str}, runO f p xs = (q, some e) → e ≠ ""
  | [], p, q, e, h => by rw [runO] at h; cases h
  | x :: r, p, q, e, h => by
    rw [runO] at h
    generalize e1 : f r.isEmpty p x = z at h
    obtain ⟨q1, ee⟩ := z
    cases ee with
    | some _ => cases h; exact hf _ _ _ _ _ e1
    | none => exact run_ne hf h
theorem seek_ne {cs : List Str} : ∀ {n : Nat} {g : Bool} {p : Nat} {o : Ob} {q : Nat} {e : Str}, seekO n cs g p o = (q, some e) → e ≠ ""
  | 0, g, p, o, q, e, h => by
    rw [seekO] at h
    · cases h
    · intro n xs e; cases e
  | n + 1, g, p, .sq xs, q, e, h => by
    rw [seekO_sq] at h
    refine run_ne (fun l p x q e e2 => ?_) h
    unfold oneO at e2
    cases ew : whyO cs g l p x with
    | some z => rw [ew] at e2; cases e2; exact why_ne ew
    | none =>
      rw [ew] at e2
      exact run_ne (fun l p x q e e2 => seek_ne e2) e2
  | n + 1, g, p, .non, q, e, h => by cases h
  | n + 1, g, p, .bl _, q, e, h => by cases h
  | n + 1, g, p, .num _, q, e, h => by cases h
  | n + 1, g, p, .str _, q, e, h => by cases h
  | n + 1, g, p, .dct, q, e, h => by cases h
def spLSekO (n : Nat) : Sp := fun vs H Q _ => ∃ (v : V) (ob : Ob) (k : Nat) (kn : Addr) (cs : List Str) (g : Bool), vs = [v, .int (k : Nat), .ref kn, .bl g] ∧ ObA H v ob ∧ ob.isSq = true ∧ ob.dep ≤ 2 * n ∧ H kn = some (.lst (cs.map V.str)) ∧
  ∀ p H' q e, seekO n cs g k ob = (q, e) → Kp [] H H' → H' p = some (.tup [.int (q : Nat), .str (whyS e)]) → Q (.ref p) H'
local macro_rules | `(tactic| wtm_at "pre") => `(tactic| ((with_reducible refine' unN ?v1 ?_); (case v1 => assumption)))
local macro_rules | `(tactic| wtm_at "pre") => `(tactic| ((with_reducible refine' seqN ?_); intro _ _))
local macro_rules | `(tactic| wtm_at "at") => `(tactic| first | exact atI_nat (j := 0) rfl | exact atI_nat (j := 1) rfl | exact atI_nat (j := 2) rfl | exact atI_nat (j := 3) rfl)

theorem lsek_bodyO (T : Txt K mg) (n k : Nat) (hn : n ≤ 20) (hk : k ≤ 60) (hk1 : 7 ≤ k) (sp0 : Sp) (F0 : FnOk P w K mg base CX0 k (He.fAd K ("_law_seek", none)) T.fd_l_seek ["_law_rows_here", "_law_k", "_law_known", "_law_is_inside"] sp0)
    (h0 : ∀ vs H Q E, (∃ m, m + 1 = n ∧ spLSekO m vs H Q E) → sp0 vs H Q E) : FnOk P w K mg base CX0 (k + 1) (He.fAd K ("_law_seek", none)) T.fd_l_seek ["_law_rows_here", "_law_k", "_law_known", "_law_is_inside"] (spLSekO n) := by
  refine T.F_l_seek.ok sc_l_seek (fun vs H Q E h => ?_) (fun cdv A outer s H vs Q E hr h => ?_)
  · obtain ⟨v, r, kk, kn, cs, g, rfl, _⟩ := h
    rfl
  · obtain ⟨v, ob, kk, kn, cs, g, rfl, ho, hsq, hd, hkn, kQ⟩ := h
    refine ⟨_, PSs.nox (pss_cons (ps_for PassesOwn.never rfl (pi_enumX (by rfl) T.n_enumerate (pa_cons (pv 0) pa_nil)) (pg_seq (by rfl) (pgs_cons (pg_name (i := 4) sc_l_seek.nd rfl (by first | exact Or.inl rfl | exact Or.inr rfl)) (pgs_cons (pg_name (i := 5) sc_l_seek.nd rfl (by first | exact Or.inl rfl | exact Or.inr rfl)) pgs_nil)))
   (pss_cons (ps_asg (pe_call (ok_l_reasonO T) (hr.mono (Nat.le_trans (by decide) hk1)) rfl T.g_l_reason T.F_l_reason.kp T.b_l_reason .nil pass0 (pa_cons (pv 5) (pa_cons (pv 1) (pa_cons (pv 2) (pa_cons (pv 3) (pa_cons (pe_cmpR op_eq (pv 4) (pe_op op_sub (pe_callB call_lenQ (by rfl) T.n_len PySem.boot_len (pa_cons (pv 0) pa_nil)) pe_int) (nomark _)) pa_nil)))))) (pg_name (i := 6) sc_l_seek.nd rfl (by first | exact Or.inl rfl | exact Or.inr rfl)))
  (pss_cons (ps_if (pt_cmpR op_ne (pv 6) pe_str (nomark _)) (pss_one (ps_ret (pe_tup (pa_cons (pv 1) (pa_cons (pv 6) pa_nil)))))
   pss_nil)
  (pss_cons (ps_aug (i := 1) sc_l_seek.nd rfl (by first | exact Or.inl rfl | exact Or.inr rfl) pe_int ip_add)
  (pss_one (ps_for PassesOwn.never rfl (pi_seq (pe_call (ok_l_inner T) (hr.mono (Nat.le_trans (by decide) hk1)) rfl T.g_l_inner T.F_l_inner.kp T.b_l_inner .nil pass0 (pa_cons (pv 5) pa_nil))) (pg_name (i := 7) sc_l_seek.nd rfl (by first | exact Or.inl rfl | exact Or.inr rfl))
   (pss_cons (ps_asg (pe_call F0 hr rfl T.g_l_seek T.F_l_seek.kp T.b_l_seek .nil pass0 (pa_cons (pv 7) (pa_cons (pv 1) (pa_cons (pv 2) (pa_cons (pe_or (pv 3) (pe_one (pe_cmpR op_eq (pe_ix (ix_K7 (K := K) (r := fun K1 => rIxX K1) rfl ix_sqX) (pv 5) pe_int (fun _ _ => rfl)) pe_str (nomark _)))) pa_nil))))) (pg_seq (by rfl) (pgs_cons (pg_name (i := 1) sc_l_seek.nd rfl (by first | exact Or.inl rfl | exact Or.inr rfl)) (pgs_cons (pg_name (i := 6) sc_l_seek.nd rfl (by first | exact Or.inl rfl | exact Or.inr rfl)) pgs_nil))))
  (pss_one (ps_if (pt_cmpR op_ne (pv 6) pe_str (nomark _)) (pss_one (ps_ret (pe_tup (pa_cons (pv 1) (pa_cons (pv 6) pa_nil)))))
   pss_nil)))))))))
  (pss_one (ps_ret (pe_tup (pa_cons (pv 1) (pa_cons pe_str pa_nil)))))), ?_⟩
    wtm_at "k"
    cases ho with
    | @sq a us xs hh hz hu =>
      rw [Ob.dep] at hd
      obtain ⟨m, rfl⟩ : ∃ m, n = m + 1 := ⟨n - 1, by omega⟩
      simp only [seekO_sq] at kQ
      have hq : SqX K H a us := sqX_of hh
      have hul := hu.len
      wtm_at "rd"
      refine Rd.forEnX hq (fun i σ' H' => ∃ q : Nat, (∃ v4 v5 v6 v7 : Option V, σ' = [some (.ref a), some (.int (q : Nat)), some (.ref kn), some (.bl g), v4, v5, v6, v7]) ∧ Kp [] H H' ∧ runO (oneO m cs g) kk xs = runO (oneO m cs g) q (xs.drop i)) ⟨kk, ⟨_, _, _, _, rfl⟩, Kp.refl _, by rw [List.drop_zero]⟩ (fun i σ' H' _ ⟨q, h⟩ => ⟨[], List.not_mem_nil, h.2.1⟩) ?_ ?_
      · rintro i x σ' H1 tp hi ⟨q, ⟨v4, v5, v6, v7, rfl⟩, k1, hrun⟩ ex' htp
        have s1 : Stt H1 [] [(tp, Is (.tup [.int (i : Nat), x]))] (upd H1 tp (.tup [.int (i : Nat), x])) := (Stt.nil (H := H1) (S := [])).new htp _
        generalize upd H1 tp (.tup [.int (i : Nat), x]) = H2 at s1
        obtain ⟨ob, er, hx⟩ := hu.at_ ex'
        have mr := List.mem_of_getElem? er
        have hdr := depO_mem mr
        have edrop : xs.drop i = ob :: xs.drop (i + 1) := by
          obtain ⟨h, e⟩ := List.getElem?_eq_some_iff.mp er
          rw [← e]
          exact List.drop_eq_getElem_cons h
        have elast : (xs.drop (i + 1)).isEmpty = decide (V.int (i : Nat) = V.int ((us.length : Nat) - 1)) := by
          rw [hul, Bool.eq_iff_iff, List.isEmpty_iff, decide_eq_true_iff, List.drop_eq_nil_iff, V.int.injEq]
          omega
        rw [edrop, runO] at hrun
        have k12 := kpT k1 s1.keep
        have hkn2 := k12.get List.not_mem_nil hkn
        wtm_at "rd"
        refine Rd.lenX (hq.kp0 k12) ?_
        wtm_at "rd"
        refine ⟨x, ob, kn, q, cs, g, _, rfl, hx.kp k12, hkn2, fun H3 k3 => ?_⟩
        rw [← elast]
        generalize (xs.drop (i + 1)).isEmpty = last at hrun
        have k13 := kpT k12 k3
        have s3 : Stt H3 [] [] H3 := Stt.nil
        clear s1
        cases ew : whyO cs g last q ob with
        | some z =>
          rw [oneO, ew] at hrun
          rw [show whyS (some z) = z from rfl]
          wtm_at "rd"
          refine Rd.brJ (fun e => why_ne ew (V.str.inj e)) ?_
          wtm_at "rd"
          rename_i p H4 hp s4
          exact kQ p H4 q (some z) hrun (kpT k13 s4.keep) (s4.get (o := .tup [.int (q : Nat), .str z]) (by wtm_at "mem"))
        | none =>
          obtain ⟨_, n', as, ps, ev, n1, n2, n3, n4, n5, n6⟩ := why_none ew
          have en : ob.nm = n' := by rw [Ob.nm, ev]
          have ep' : ob.parts = ps := by rw [Ob.parts, ev]
          have hone : oneO m cs g last q ob = runO (fun _ q x => seekO m cs (g || decide (n' = "within")) q x) (q + 1) ps := by rw [oneO, ew, en, ep']
          rw [hone] at hrun
          rw [show whyS none = "" from rfl]
          obtain ⟨ra, ws, ru, rfl, hqb, hw, hub, hs⟩ := view_at (K := K) (hx.kp k13) ev
          obtain ⟨eob, _⟩ := view_some ev
          have hdp : depO ps + 1 ≤ ob.dep := by
            rw [eob, Ob.dep, depO]
            have : ∀ as : List Ob, depO ps ≤ depO (as ++ ps) := fun as => by
              induction as with
              | nil => exact Nat.le_refl _
              | cons a r ih => rw [List.cons_append, depO]; exact Nat.le_trans ih (Nat.le_max_right _ _)
            have := this as
            omega
          wtm_at "rd"
          refine ⟨ra, n', ws, ru, as, ps, rfl, hqb, hs, by rw [hw.len], by rw [hub.len], fun p H4 hp s4 => ?_⟩
          have k34 := s4.keep
          have ep := s4.get (a := p) List.mem_cons_self
          have hub4 := hub.kp k34
          have hqb4 := hqb.kp0 k34
          have k14 := kpT k13 k34
          have hkn4 := k14.get List.not_mem_nil hkn
          have a0 : atI (V.str n' :: (ws ++ ru)) 0 = some (.str n') := atI_nat (j := 0) rfl
          clear s4 s3
          wtm_at "rd"
          refine Rd.forX (K := K) (H0 := H4) (SqX.l (SqL.of ep)) (fun j σ' H' => ∃ q' : Nat, (∃ v4 v6 v7 : Option V, σ' = [some (.ref a), some (.int (q' : Nat)), some (.ref kn), some (.bl g), v4, some (.ref ra), v6, v7]) ∧ Kp [] H4 H' ∧ runO (fun _ q x => seekO m cs (g || decide (n' = "within")) q x) (q + 1) ps = runO (fun _ q x => seekO m cs (g || decide (n' = "within")) q x) q' (ps.drop j)) ⟨q + 1, ⟨_, _, _, rfl⟩, Kp.refl _, by rw [List.drop_zero]⟩ (fun i σ' H' _ ⟨_, h⟩ => ⟨[], List.not_mem_nil, h.2.1⟩) ?_ ?_
          · rintro j y σ' H5 hj ⟨q', ⟨v4, v6, v7, rfl⟩, k5, hrun6⟩ ey
            obtain ⟨pp, epp, hy⟩ := hub4.at_ ey
            have mpp := List.mem_of_getElem? epp
            have hdpp := depO_mem mpp
            have edp : ps.drop j = pp :: ps.drop (j + 1) := by
              obtain ⟨h, e⟩ := List.getElem?_eq_some_iff.mp epp
              rw [← e]
              exact List.drop_eq_getElem_cons h
            rw [edp, runO] at hrun6
            have hqb5 := hqb4.kp0 k5
            have go : ∀ {Q' : VK} {H6 : Hp} (b : Bool), b = (g || decide (n' = "within")) → Kp [] H5 H6 → (∀ p H' q2 e2, seekO m cs (g || decide (n' = "within")) q' pp = (q2, e2) → Kp [] H6 H' → H' p = some (.tup [.int (q2 : Nat), .str (whyS e2)]) → Q' (.ref p) H') → sp0 [y, .int (q' : Nat), .ref kn, .bl b] H6 Q' E0 := fun b eb k6 hQ =>
              h0 _ _ _ _ ⟨m, rfl, y, pp, q', kn, cs, b, rfl, (hy.kp k5).kp k6, List.all_eq_true.mp n4 pp mpp, by omega, k6.get List.not_mem_nil (k5.get List.not_mem_nil hkn4), fun p H' q2 e2 es => hQ p H' q2 e2 (by rw [← eb]; exact es)⟩
            wtm_at "rd"
            refine Rd.br (fun e => ?_) (fun e => ?_)
            · wtm_at "rd"
              refine go true (by rw [e]; rfl) (Kp.refl _) fun p H6 q2 e2 es k6 ep6 => ?_
              rw [es] at hrun6
              refine Rd.gseqX (.inr (SqT.of ep6)) rfl ?_
              cases e2 with
              | none =>
                rw [show whyS none = "" from rfl]
                wtm_at "rd"
                exact ⟨q2, ⟨_, _, _, rfl⟩, kpT k5 k6, hrun6⟩
              | some z =>
                rw [show whyS (some z) = z from rfl]
                have s6 : Stt H6 [] [] H6 := Stt.nil
                wtm_at "rd"
                refine Rd.brJ (fun e => seek_ne es (V.str.inj e)) ?_
                wtm_at "rd"
                rename_i p7 H7 hp7 s7
                rw [hrun6] at hrun
                exact kQ p7 H7 q2 (some z) hrun (kpT k14 (kpT k5 (kpT k6 s7.keep))) (s7.get (o := .tup [.int (q2 : Nat), .str z]) (by wtm_at "mem"))
            · wtm_at "rd"
              refine go _ (by rw [e]; rw [decide_eq_decide.mpr str_inj]; rfl) (Kp.refl _) fun p H6 q2 e2 es k6 ep6 => ?_
              rw [es] at hrun6
              refine Rd.gseqX (.inr (SqT.of ep6)) rfl ?_
              cases e2 with
              | none =>
                rw [show whyS none = "" from rfl]
                wtm_at "rd"
                exact ⟨q2, ⟨_, _, _, rfl⟩, kpT k5 k6, hrun6⟩
              | some z =>
                rw [show whyS (some z) = z from rfl]
                have s6 : Stt H6 [] [] H6 := Stt.nil
                wtm_at "rd"
                refine Rd.brJ (fun e => seek_ne es (V.str.inj e)) ?_
                wtm_at "rd"
                rename_i p7 H7 hp7 s7
                rw [hrun6] at hrun
                exact kQ p7 H7 q2 (some z) hrun (kpT k14 (kpT k5 (kpT k6 s7.keep))) (s7.get (o := .tup [.int (q2 : Nat), .str z]) (by wtm_at "mem"))
          · rintro σ' H5 ⟨q', ⟨v4, v6, v7, rfl⟩, k5, hrun6⟩
            rw [List.drop_of_length_le (by rw [hub.len]; exact Nat.le_refl _), runO] at hrun6
            rw [hrun6] at hrun
            exact ⟨q', ⟨_, _, _, _, rfl⟩, kpT k14 k5, hrun⟩
      · rintro σ' H1 ⟨q, ⟨v4, v5, v6, v7, rfl⟩, k1, hrun⟩
        rw [List.drop_of_length_le (by rw [hul]; exact Nat.le_refl _), runO] at hrun
        have s0 : Stt H1 [] [] H1 := Stt.nil
        wtm_at "rd"
        rename_i p H2 hp s1
        exact kQ p H2 q none hrun (kpT k1 s1.keep) (s1.get (o := .tup [.int (q : Nat), .str ""]) (by wtm_at "mem"))
    | _ => cases hsq
theorem ok_l_seekO (T : Txt K mg) : ∀ n, n ≤ 20 → FnOk P w K mg base CX0 (n + 8) (He.fAd K ("_law_seek", none)) T.fd_l_seek ["_law_rows_here", "_law_k", "_law_known", "_law_is_inside"] (spLSekO n)
  | 0, _ => lsek_bodyO T 0 7 (by omega) (by omega) (by omega) _ fnok_false fun vs H Q E ⟨m, h, _⟩ => by omega
  | n + 1, hn => lsek_bodyO T (n + 1) (n + 8) (by omega) (by omega) (by omega) _ (ok_l_seekO T n (by omega)) fun vs H Q E ⟨m, h1, h2⟩ => by
    cases h1
    exact h2
end

section
variable {P : Program} {w : World} {K : PySem.W.Frag} {mg : Str → Option Value} {base : Heap}
/-! ### the law's own row_due, any rows -/
def rowDue (cs : List Str) (xs : List Ob) : List V := match seekAll cs xs with
  | some (n, k, e) => [.str "row", .str n, .int (k : Nat), .str e]
  | none => match hurAll xs with
    | some (n, k) => [.str "row", .str n, .int (k : Nat), .str "waits"]
    | none => [.str "made"]
def spRDueO (K : PySem.W.Frag) : Sp := fun vs H Q _ => ∃ (a kn : Addr) (us : List V) (xs : List Ob) (cs : List Str), vs = [.ref a, .ref kn] ∧ SqX K H a us ∧ H kn = some (.lst (cs.map V.str)) ∧ ObAll H us xs ∧ (∀ x ∈ xs, (∃ seen, taskO seen x = true) ∧ (obRows x).dep ≤ 12) ∧
  ∀ p H', Kp [] H H' → H' p = some (.tup (rowDue cs xs)) → Q (.ref p) H'
local macro_rules | `(tactic| wtm_at "pre") => `(tactic| ((with_reducible refine' unN ?v1 ?_); (case v1 => assumption)))
local macro_rules | `(tactic| wtm_at "pre") => `(tactic| ((with_reducible refine' seqN ?_); intro _ _))
local macro_rules | `(tactic| wtm_at "at") => `(tactic| first | exact atI_nat (j := 0) rfl | exact atI_nat (j := 1) rfl | exact atI_nat (j := 2) rfl | exact atI_nat (j := 3) rfl)

theorem ok_l_row_dueO (T : Txt K mg) : FnOk P w K mg base CX0 16 (He.fAd K ("_law_row_due", none)) T.fd_l_row_due ["_law_tasks", "_law_known"] (spRDueO K) := by
  refine T.F_l_row_due.ok sc_l_row_due (fun vs H Q E h => ?_) (fun cdv A outer s H vs Q E hr h => ?_)
  · obtain ⟨a, kn, us, ts, cs, rfl, _⟩ := h
    rfl
  · obtain ⟨a, kn, us, xs, cs, rfl, hq, hkn, hu, ht, kQ⟩ := h
    refine ⟨_, PSs.nox (C8.pss_cut (ps_for PassesOwn.never rfl (pi_seq (pv 0)) (pg_seq (by rfl) (pgs_cons (pg_name (i := 2) sc_l_row_due.nd rfl (by first | exact Or.inl rfl | exact Or.inr rfl)) (pgs_cons (pg_name (i := 3) sc_l_row_due.nd rfl (by first | exact Or.inl rfl | exact Or.inr rfl)) pgs_nil)))
   (pss_cons (ps_asg (pe_call (ok_l_seekO T 6 (by decide)) (hr.mono (by decide)) rfl T.g_l_seek T.F_l_seek.kp T.b_l_seek .nil pass0 (pa_cons (pv 3) (pa_cons pe_int (pa_cons (pv 1) (pa_cons pe_bl pa_nil))))) (pg_seq (by rfl) (pgs_cons (pg_name (i := 4) sc_l_row_due.nd rfl (by first | exact Or.inl rfl | exact Or.inr rfl)) (pgs_cons (pg_name (i := 5) sc_l_row_due.nd rfl (by first | exact Or.inl rfl | exact Or.inr rfl)) pgs_nil))))
  (pss_one (ps_if (pt_cmpR op_ne (pv 5) pe_str (nomark _)) (pss_one (ps_ret (pe_tup (pa_cons pe_str (pa_cons (pv 2) (pa_cons (pv 4) (pa_cons (pv 5) pa_nil)))))))
   pss_nil))))
  (C8.pss_cut (ps_for PassesOwn.never rfl (pi_seq (pv 0)) (pg_seq (by rfl) (pgs_cons (pg_name (i := 2) sc_l_row_due.nd rfl (by first | exact Or.inl rfl | exact Or.inr rfl)) (pgs_cons (pg_name (i := 3) sc_l_row_due.nd rfl (by first | exact Or.inl rfl | exact Or.inr rfl)) pgs_nil)))
   (pss_cons (ps_asg (pe_call (ok_l_hurriedO T 6 (by decide)) (hr.mono (by decide)) rfl T.g_l_hurried T.F_l_hurried.kp T.b_l_hurried .nil pass0 (pa_cons (pv 3) (pa_cons pe_int pa_nil))) (pg_seq (by rfl) (pgs_cons (pg_name (i := 4) sc_l_row_due.nd rfl (by first | exact Or.inl rfl | exact Or.inr rfl)) (pgs_cons (pg_name (i := 6) sc_l_row_due.nd rfl (by first | exact Or.inl rfl | exact Or.inr rfl)) pgs_nil))))
  (pss_one (ps_if (pt_val (pv 6)) (pss_one (ps_ret (pe_tup (pa_cons pe_str (pa_cons (pv 2) (pa_cons (pv 4) (pa_cons pe_str pa_nil)))))))
   pss_nil))))
  (pss_one (ps_ret (pe_tup (pa_cons pe_str pa_nil)))))), ?_⟩
    wtm_at "k"
    refine Rd.cut (fun σ' H' => (∃ v2 v3 v4 v5 v6 : Option V, σ' = [some (.ref a), some (.ref kn), v2, v3, v4, v5, v6]) ∧ Kp [] H H' ∧ seekAll cs xs = none) ?_ ?_
    · wtm_at "rd"
      refine Rd.forX hq (fun i σ' H' => (∃ v2 v3 v4 v5 v6 : Option V, σ' = [some (.ref a), some (.ref kn), v2, v3, v4, v5, v6]) ∧ Kp [] H H' ∧ seekAll cs xs = seekAll cs (xs.drop i)) ⟨⟨_, _, _, _, _, rfl⟩, Kp.refl _, by rw [List.drop_zero]⟩ (fun i σ' H' _ h => ⟨[], List.not_mem_nil, h.2.1⟩) ?_ ?_
      · rintro i x σ' H1 hi ⟨⟨v2, v3, v4, v5, v6, rfl⟩, k1, hb⟩ ex'
        obtain ⟨ob, eo, hx⟩ := hu.at_ ex'
        obtain ⟨⟨seen, h1⟩, hdp⟩ := ht ob (List.mem_of_getElem? eo)
        obtain ⟨d, n, w2, r2, rfl, hd, hw2, rfl, hwd, hns, hrs⟩ := task_head (K := K) (hx.kp k1) h1
        rw [drop_at eo, seekAll] at hb
        refine Rd.gseqX hd rfl ?_
        wtm_at "rd"
        refine ⟨w2, r2, 0, kn, cs, false, rfl, hw2, hrs, hdp, k1.get List.not_mem_nil hkn, fun p H2 q e es k2 ep => ?_⟩
        have s2 : Stt H2 [] [] H2 := Stt.nil
        rw [show seekO FU cs false 0 (obRows (.sq [.str n, r2])) = (q, e) from es] at hb
        refine Rd.gseqX (.inr (SqT.of ep)) rfl ?_
        cases e with
        | none =>
          rw [show whyS none = "" from rfl]
          wtm_at "rd"
          exact ⟨⟨_, _, _, _, _, rfl⟩, kpT k1 k2, hb⟩
        | some z =>
          rw [show whyS (some z) = z from rfl]
          wtm_at "rd"
          refine Rd.brJ (fun e => seek_ne es (V.str.inj e)) ?_
          wtm_at "rd"
          rename_i p7 H7 hp7 s7
          refine kQ p7 H7 (kpT k1 (kpT k2 s7.keep)) ?_
          rw [rowDue, hb]
          exact s7.get (o := .tup [.str "row", .str n, .int (q : Nat), .str z]) (by wtm_at "mem")
      · rintro σ' H1 ⟨⟨v2, v3, v4, v5, v6, rfl⟩, k1, hb⟩
        rw [List.drop_of_length_le (by rw [hu.len]; exact Nat.le_refl _), seekAll] at hb
        exact ⟨⟨_, _, _, _, _, rfl⟩, k1, hb⟩
    · rintro σ' H1 ⟨⟨v2, v3, v4, v5, v6, rfl⟩, k1, hb⟩
      rw [rowDue, hb] at kQ
      simp only [] at kQ
      refine Rd.cut (fun σ' H' => (∃ v2 v3 v4 v5 v6 : Option V, σ' = [some (.ref a), some (.ref kn), v2, v3, v4, v5, v6]) ∧ Kp [] H H' ∧ hurAll xs = none) ?_ ?_
      · wtm_at "rd"
        refine Rd.forX hq (fun i σ' H' => (∃ v2 v3 v4 v5 v6 : Option V, σ' = [some (.ref a), some (.ref kn), v2, v3, v4, v5, v6]) ∧ Kp [] H H' ∧ hurAll xs = hurAll (xs.drop i)) ⟨⟨_, _, _, _, _, rfl⟩, k1, by rw [List.drop_zero]⟩ (fun i σ' H' _ h => ⟨[], List.not_mem_nil, h.2.1⟩) ?_ ?_
        · rintro i x σ' H2 hi ⟨⟨v2, v3, v4, v5, v6, rfl⟩, k2, hh⟩ ex'
          obtain ⟨ob, eo, hx⟩ := hu.at_ ex'
          have mo := List.mem_of_getElem? eo
          obtain ⟨⟨seen, h1⟩, hdp⟩ := ht ob mo
          obtain ⟨q, hsk⟩ := seekAll_mem hb mo
          obtain ⟨d, n, w2, r2, rfl, hd, hw2, rfl, hwd, hns, hrs⟩ := task_head (K := K) (hx.kp k2) h1
          have hok := seek_ok FU false 0 r2 q w2 hsk hw2 hrs hdp
          rw [drop_at eo, hurAll] at hh
          refine Rd.gseqX hd rfl ?_
          wtm_at "rd"
          refine ⟨w2, toRs FU r2, 0, rfl, hok.r, hok.s, Nat.le_of_succ_le hok.d, fun p H3 k3 ep => ?_⟩
          have s2 : Stt H3 [] [] H3 := Stt.nil
          cases eh : hurR 0 (toRs FU r2) with
          | none =>
            rw [eh, hurV] at ep
            rw [show hurR 0 (toRs FU (obRows (.sq [.str n, r2]))) = none from eh] at hh
            refine Rd.gseqX (.inr (SqT.of ep)) rfl ?_
            wtm_at "rd"
            exact ⟨⟨_, _, _, _, _, rfl⟩, kpT k2 k3, hh⟩
          | some z =>
            rw [eh, hurV] at ep
            rw [show hurR 0 (toRs FU (obRows (.sq [.str n, r2]))) = some z from eh] at hh
            refine Rd.gseqX (.inr (SqT.of ep)) rfl ?_
            wtm_at "rd"
            rename_i p7 H7 hp7 s7
            refine kQ p7 H7 (kpT k2 (kpT k3 s7.keep)) ?_
            rw [hh]
            exact s7.get (o := .tup [.str "row", .str n, .int (z : Nat), .str "waits"]) (by wtm_at "mem")
        · rintro σ' H2 ⟨⟨v2, v3, v4, v5, v6, rfl⟩, k2, hh⟩
          rw [List.drop_of_length_le (by rw [hu.len]; exact Nat.le_refl _), hurAll] at hh
          exact ⟨⟨_, _, _, _, _, rfl⟩, k2, hh⟩
      · rintro σ' H2 ⟨⟨v2, v3, v4, v5, v6, rfl⟩, k2, hh⟩
        rw [hh] at kQ
        have s2 : Stt H2 [] [] H2 := Stt.nil
        wtm_at "rd"
        rename_i p7 H7 hp7 s7
        exact kQ p7 H7 (kpT k2 s7.keep) (s7.get (o := .tup [.str "made"]) (by wtm_at "mem"))
end

section
variable {P : Program} {w : World} {K : PySem.W.Frag} {mg : Str → Option Value} {base : Heap}
/-! ### the law's own task_due -/
def pairO : Ob → Bool
  | .sq [n, _] => n.word
  | _ => false
def tdue (o : Option Nat) (p : V) (H : Hp) : Prop := match o with
  | none => p = .non
  | some i => ∃ a, p = .ref a ∧ H a = some (.tup [.str "task", .int (i : Nat)])
def spTDue (K : PySem.W.Frag) : Sp := fun vs H Q _ => ∃ (a : Addr) (us : List V) (xs : List Ob), vs = [.ref a] ∧ SqX K H a us ∧ ObAll H us xs ∧ us.length ≤ 100 ∧ ∀ p H', Kp [] H H' → tdue (tasksO (.sq xs)) p H' → Q p H'
theorem pair_head {o : Ob} {H : Hp} {v : V} (ho : ObA H v o) (h : pairO o = true) : ∃ (a : Addr) (n : Str) (w2 : V) (r : Ob), v = .ref a ∧ SqX K H a [.str n, w2] ∧ ObA H w2 r ∧ o = .sq [.str n, r] ∧ WordB n = true := by
  unfold pairO at h
  split at h
  · rename_i n r
    obtain ⟨z, rfl, hz⟩ := word_str h
    cases ho with
    | sq hh hz' q =>
      cases q with
      | cons hx q =>
        cases hx
        cases q with
        | cons hy q =>
          cases q
          exact ⟨_, z, _, r, rfl, sqX_of hh, hy, rfl, hz⟩
  · cases h
theorem strs_dep : ∀ zs : List Str, PyData.depthAll (zs.map PyData.str) = 0
  | [] => by rw [List.map_nil, PyData.depthAll]
  | z :: r => by rw [List.map_cons, PyData.depthAll, strs_dep r, PyData.depth]; rfl
theorem isiO {H0 H : Hp} {S : List Addr} {l : Led} {p : Addr} {v : V} {o : Ob} {Q : VK} (s : Stt H0 S l H) (m : (p, Is (.tup [V.ty "list", V.ty "tuple"])) ∈ l) (ho : ObA H v o) (h : Q (.bl o.isSq) H) : rIsiT K [v, .ref p] H Q := by
  obtain ⟨t, ty, kt, _⟩ := ho.ty (K := K)
  exact Rd.isiT s m ty (.cons (.ty _) (.cons (.ty _) .nil)) kt h
theorem ok_l_task_due (T : Txt K mg) : FnOk P w K mg base CX0 3 (He.fAd K ("_law_task_due", none)) T.fd_l_task_due ["_law_things"] (spTDue K) := by
  refine T.F_l_task_due.ok sc_l_task_due (fun vs H Q E h => ?_) (fun cdv A outer s H vs Q E hr h => ?_)
  · obtain ⟨a, us, xs, rfl, _⟩ := h
    rfl
  · obtain ⟨a, us, xs, rfl, hq, hu, hz, kQ⟩ := h
    refine ⟨_, PSs.nox (pss_cons (ps_asg (pe_lst pa_nil) (pg_name (i := 1) sc_l_task_due.nd rfl (by first | exact Or.inl rfl | exact Or.inr rfl)))
  (pss_cons (ps_for PassesOwn.never rfl (pi_enumX (by rfl) T.n_enumerate (pa_cons (pv 0) pa_nil)) (pg_seq (by rfl) (pgs_cons (pg_name (i := 2) sc_l_task_due.nd rfl (by first | exact Or.inl rfl | exact Or.inr rfl)) (pgs_cons (pg_name (i := 3) sc_l_task_due.nd rfl (by first | exact Or.inl rfl | exact Or.inr rfl)) pgs_nil)))
   (C8.pss_cut (ps_asg (pe_and (pe_callB (isi_K9T (K := K) rfl) (by rfl) T.n_isinstance (by decide +kernel) (pa_cons (pv 3) (pa_cons (pe_tup (pa_cons (pe_bltn (v := .ty "list") (by rfl) T.n_list (by decide +kernel) (show RelV (.ty "list") (.type "list") from rfl)) (pa_cons (pe_bltn (v := .ty "tuple") (by rfl) T.n_tuple (by decide +kernel) (show RelV (.ty "tuple") (.type "tuple") from rfl)) pa_nil))) pa_nil))) (pe_and (pe_cmpR op_eq (pe_callB call_lenQ (by rfl) T.n_len PySem.boot_len (pa_cons (pv 3) pa_nil)) pe_int (nomark _)) (pe_one (pe_call (ok_l_is_wordO T) (hr.mono (by decide)) rfl T.g_l_is_word T.F_l_is_word.kp T.b_l_is_word .nil pass0 (pa_cons (pe_ix (ix_K7 (K := K) (r := fun K1 => rIxX K1) rfl ix_sqX) (pv 3) pe_int (fun _ _ => rfl)) pa_nil))))) (pg_name (i := 4) sc_l_task_due.nd rfl (by first | exact Or.inl rfl | exact Or.inr rfl)))
  (pss_cons (ps_if (PW.pt (pw_or (pt_cmpR op_eq (pv 2) pe_int (nomark _)) (pw_or (pt_not (pt_val (pv 4))) (pw_or (pt_not (pt_val (pe_callB (isi_K9T (K := K) rfl) (by rfl) T.n_isinstance (by decide +kernel) (pa_cons (pe_ix (ix_K7 (K := K) (r := fun K1 => rIxX K1) rfl ix_sqX) (pv 3) pe_int (fun _ _ => rfl)) (pa_cons (pe_tup (pa_cons (pe_bltn (v := .ty "list") (by rfl) T.n_list (by decide +kernel) (show RelV (.ty "list") (.type "list") from rfl)) (pa_cons (pe_bltn (v := .ty "tuple") (by rfl) T.n_tuple (by decide +kernel) (show RelV (.ty "tuple") (.type "tuple") from rfl)) pa_nil))) pa_nil))))) (pw_or1 (pt_cmpR op_in_seq (pe_ix (ix_K7 (K := K) (r := fun K1 => rIxX K1) rfl ix_sqX) (pv 3) pe_int (fun _ _ => rfl)) (pv 1) (by rfl))))))) (pss_one (ps_ret (pe_tup (pa_cons pe_str (pa_cons (pv 2) pa_nil)))))
   pss_nil)
  (pss_one (ps_expr (pe_bm PySem.F.plainAttrs_list PySem.F.slot_list_append PySem.F.type_list_append mt_append (pv 1) (pa_cons (pe_ix (ix_K7 (K := K) (r := fun K1 => rIxX K1) rfl ix_sqX) (pv 3) pe_int (fun _ _ => rfl)) pa_nil)))))))
  (pss_one (ps_ret (pe_ifExp (pt_cmpR (op_eqP hr.units) (pv 1) (pe_lst pa_nil) (nomark _)) (pe_tup (pa_cons pe_str (pa_cons pe_int pa_nil))) pe_non))))), ?_⟩
    wtm_at "k"
    have s0 : Stt H [] [] H := Stt.nil
    wtm_at "rd"
    rename_i nl H2 hnl s2
    have htk : xs ≠ [] → tasksO (.sq xs) = firstO 3 taskO 0 [] xs := fun ne => by rw [tasksO, if_neg ne]
    refine Rd.forEnX hq (fun i σ' H' => (∃ v2 v3 v4 : Option V, σ' = [some (.ref a), some (.ref nl), v2, v3, v4]) ∧ Stt H [] [(nl, Is (.lst (((xs.take i).map obKey).map V.str)))] H' ∧ firstO 3 taskO 0 [] xs = firstO 3 taskO i ((xs.take i).map obKey) (xs.drop i) ∧ i ≤ 3) ⟨⟨_, _, _, rfl⟩, by simp; exact s2, by simp, by omega⟩ (fun i σ' H' _ h => ⟨[], List.not_mem_nil, h.2.1.keep⟩) ?_ ?_
    · rintro i x σ' H3 U hi ⟨⟨v2, v3, v4, rfl⟩, s3, hf, hi3⟩ ex hU
      obtain ⟨ob, eo, hx⟩ := hu.at_ ex
      have ne : xs ≠ [] := fun q => by rw [q] at eo; cases eo
      rw [drop_at eo, firstO] at hf
      rw [htk ne] at kQ
      have s4 := s3.new hU (.tup [.int (i : Nat), x])
      have hx4 := hx.kp s4.keep
      generalize upd H3 U (HO.tup [.int (i : Nat), x]) = H4 at s4 hx4
      clear s3 s2 s0
      refine Rd.gseqT s4 (by wtm_at "mem") rfl ?_
      wtm_at "rd"
      refine Rd.cut (fun σ' H' => σ' = [some (.ref a), some (.ref nl), some (.int (i : Nat)), some x, some (.bl (pairO ob))] ∧ Kp [] H4 H') ?_ ?_
      · have s0 : Stt H4 [] [] H4 := Stt.nil
        wtm_at "rd"
        rename_i p H5 hp s5
        refine isiO s5 (by wtm_at "mem") (hx4.kp s5.keep) ?_
        clear s0
        cases e : ob.isSq with
        | false =>
          rw [show pairO ob = false by cases ob <;> first | rfl | cases e]
          wtm_at "rd"
          exact ⟨rfl, s5.keep⟩
        | true =>
          have h1 := hx4.kp s5.keep
          cases h1 with
          | @sq b vs ys hh hz r =>
            have hqb : SqX K H5 b vs := sqX_of hh
            have hlen := r.len
            wtm_at "rd"
            refine Rd.brD (fun e2 => ?_) (fun e2 => ?_)
            · have e2' := V.int.inj e2
              obtain ⟨x, y, rfl⟩ := len2 (show ys.length = 2 by omega)
              cases r with
              | cons hx r =>
                cases r with
                | cons hy r =>
                  cases r
                  rename_i vx vy
                  wtm_at "rd"
                  refine lwordO_ask s5 hx fun H6 k6 s6 => ?_
                  exact ⟨rfl, s6.keep⟩
            · rw [show pairO (.sq ys) = false by
                match ys, hlen with
                | [_, _], h => exact absurd (by rw [h]; rfl) e2
                | [], _ => rfl
                | [_], _ => rfl
                | _ :: _ :: _ :: _, _ => rfl]
              wtm_at "rd"
              exact ⟨rfl, s5.keep⟩
          | _ => cases e
      · rintro σ' H5 ⟨rfl, k5⟩
        have s5 := s4.after0 k5
        have hx5 := hx4.kp k5
        clear s4
        wtm_at "rd"
        refine Rd.brD (fun e3 => ?_) (fun e3 => ?_)
        · have e3' : i = 3 := by have := V.int.inj e3; omega
          rw [if_pos (.inl e3')] at hf
          wtm_at "rd"
          rename_i p7 H7 hp7 s7
          exact kQ _ _ s7.keep (by rw [hf]; exact ⟨p7, rfl, s7.get (o := .tup [.str "task", .int (i : Nat)]) (by wtm_at "mem")⟩)
        have ei : i ≠ 3 := fun q => e3 (by rw [q]; rfl)
        have hnl5 := s5.get (a := nl) (by wtm_at "mem")
        cases ep : pairO ob with
        | false =>
          have et : taskO ((xs.take i).map obKey) ob = false := by
            unfold pairO at ep
            unfold taskO
            split
            · rw [show Ob.word _ = false from ep, Bool.false_and]
            · rfl
          rw [if_pos (.inr et)] at hf
          wtm_at "rd"
          rename_i p7 H7 hp7 s7
          exact kQ _ _ s7.keep (by rw [hf]; exact ⟨p7, rfl, s7.get (o := .tup [.str "task", .int (i : Nat)]) (by wtm_at "mem")⟩)
        | true =>
          obtain ⟨b, n, w2, r2, rfl, hb, hw2, rfl, hwd⟩ := pair_head (K := K) hx5 ep
          have a0 : atI [V.str n, w2] 0 = some (.str n) := atI_nat (j := 0) rfl
          have a1 : atI [V.str n, w2] 1 = some w2 := atI_nat (j := 1) rfl
          have h5 : Stt H [] _ H5 ∧ True := ⟨s5, trivial⟩
          clear s5
          have s5 : Stt H5 [] [] H5 := Stt.nil
          wtm_at "rd"
          rename_i p6 H6 hp6 s6
          refine isiO s6 (by wtm_at "mem") (hw2.kp s6.keep) ?_
          clear s5
          have hb6 := hb.kp0 s6.keep
          cases es : r2.isSq with
          | false =>
            rw [if_pos (.inr (by rw [taskO, es, Bool.and_false, Bool.and_false]))] at hf
            wtm_at "rd"
            rename_i p7 H7 hp7 s7
            exact kQ _ _ (kpT h5.1.keep s7.keep) (by rw [hf]; exact ⟨p7, rfl, s7.get (o := .tup [.str "task", .int (i : Nat)]) (by wtm_at "mem")⟩)
          | true =>
            wtm_at "rd"
            refine inS (.inl (SqL.of (s6.keep.get List.not_mem_nil hnl5))) ?_
            cases em : decide (n ∈ (xs.take i).map obKey) with
            | true =>
              rw [if_pos (.inr (by rw [taskO, Ob.mem, em]; exact Bool.and_false _))] at hf
              refine ⟨true, rfl, ?_⟩
              wtm_at "rd"
              rename_i p7 H7 hp7 s7
              exact kQ _ _ (kpT h5.1.keep s7.keep) (by rw [hf]; exact ⟨p7, rfl, s7.get (o := .tup [.str "task", .int (i : Nat)]) (by wtm_at "mem")⟩)
            | false =>
              rw [if_neg (fun c => c.elim ei fun q => by rw [taskO, Ob.mem, em, es, show Ob.word (.str n) = true from hwd] at q; cases q)] at hf
              refine ⟨false, rfl, ?_⟩
              have s7 := h5.1.after0 s6.keep
              clear s6
              wtm_at "rd"
              refine Rd.app s7 (by wtm_at "mem") (by rw [List.length_map, List.length_map, List.length_take]; omega) (by wtm_at "put") (by wtm_at "own") fun H8 s8 => ?_
              have ek : (xs.take (i + 1)).map obKey = (xs.take i).map obKey ++ [n] := take_map_snoc eo
              refine ⟨⟨_, _, _, rfl⟩, ?_, by rw [ek]; exact hf, by omega⟩
              rw [ek, List.map_append]
              exact s8.sub (List.Sublist.cons _ (List.Sublist.refl _))
    · rintro σ' H3 ⟨⟨v2, v3, v4, rfl⟩, s3, hf, _⟩
      rw [List.drop_of_length_le (by rw [hu.len]; exact Nat.le_refl _), firstO] at hf
      have s4 : Stt H3 [] [] H3 := Stt.nil
      have hd := strs_dp1 (K := K) (s3.get (by wtm_at "mem"))
      wtm_at "rd"
      rename_i p H4 hp s5
      refine ⟨_, _, dp_kp s5.keep hd, .lst (SqL.of (s5.get (by wtm_at "mem"))) .nil, by rw [PyData.plain]; exact strs_plain1 _, rfl, ?_, ?_⟩
      · rw [PyData.depth, strs_dep]
        decide
      rw [List.take_of_length_le (by rw [hu.len]; exact Nat.le_refl _)]
      cases xs with
      | nil =>
        wtm_at "rd"
        refine Rd.brT rfl ?_
        wtm_at "rd"
        rename_i p7 H7 hp7 s7
        exact kQ _ _ (kpT s3.keep s7.keep) ⟨p7, rfl, s7.get (o := .tup [.str "task", .int 0]) (by wtm_at "mem")⟩
      | cons y r =>
        rw [htk (by simp), hf] at kQ
        wtm_at "rd"
        refine Rd.brF rfl ?_
        wtm_at "rd"
        exact kQ _ _ (kpT s3.keep s5.keep) rfl
end

section
variable {P : Program} {w : World} {K : PySem.W.Frag} {mg : Str → Option Value} {base : Heap}
/-! ### the law's own till_due -/
def rightO (seen : List Str) : Ob → Bool
  | .sq [n, _, _] => n.word && !n.mem seen
  | _ => false
theorem right_head {seen : List Str} {o : Ob} {H : Hp} {v : V} (ho : ObA H v o) (h : rightO seen o = true) : ∃ (a : Addr) (n : Str) (w1 w2 : V) (r1 r2 : Ob), v = .ref a ∧ SqX K H a [.str n, w1, w2] ∧ ObA H w1 r1 ∧ ObA H w2 r2 ∧ o = .sq [.str n, r1, r2] ∧ WordB n = true ∧ decide (n ∈ seen) = false := by
  unfold rightO at h
  split at h
  · rename_i n r1 r2
    rw [Bool.and_eq_true] at h
    obtain ⟨z, rfl, hz⟩ := word_str h.1
    cases ho with
    | sq hh hz' q =>
      cases q with
      | cons hx q =>
        cases hx
        cases q with
        | cons hy q =>
          cases q with
          | cons hy2 q =>
            cases q
            refine ⟨_, z, _, _, r1, r2, rfl, sqX_of hh, hy, hy2, rfl, hz, ?_⟩
            have := h.2
            rw [Ob.mem] at this
            cases e : decide (z ∈ seen) with
            | false => rfl
            | true => rw [e] at this; cases this
  · cases h
def ldue (o : Option Nat) (p : V) (H : Hp) : Prop := match o with
  | none => p = .non
  | some i => ∃ a, p = .ref a ∧ H a = some (.tup [.str "till", .int (i : Nat)])
def spCDue (K : PySem.W.Frag) : Sp := fun vs H Q _ => ∃ (a : Addr) (us : List V) (xs : List Ob), vs = [.ref a] ∧ SqX K H a us ∧ ObAll H us xs ∧ us.length ≤ 100 ∧ ∀ p H', Kp [] H H' → ldue (ctrsO (.sq xs)) p H' → Q p H'
theorem ok_l_till_due (T : Txt K mg) : FnOk P w K mg base CX0 3 (He.fAd K ("_law_till_due", none)) T.fd_l_till_due ["_law_things"] (spCDue K) := by
  refine T.F_l_till_due.ok sc_l_till_due (fun vs H Q E h => ?_) (fun cdv A outer s H vs Q E hr h => ?_)
  · obtain ⟨a, us, xs, rfl, _⟩ := h
    rfl
  · obtain ⟨a, us, xs, rfl, hq, hu, hz, kQ⟩ := h
    refine ⟨_, PSs.nox (pss_cons (ps_asg (pe_lst pa_nil) (pg_name (i := 1) sc_l_till_due.nd rfl (by first | exact Or.inl rfl | exact Or.inr rfl)))
  (pss_cons (ps_for PassesOwn.never rfl (pi_enumX (by rfl) T.n_enumerate (pa_cons (pv 0) pa_nil)) (pg_seq (by rfl) (pgs_cons (pg_name (i := 2) sc_l_till_due.nd rfl (by first | exact Or.inl rfl | exact Or.inr rfl)) (pgs_cons (pg_name (i := 3) sc_l_till_due.nd rfl (by first | exact Or.inl rfl | exact Or.inr rfl)) pgs_nil)))
   (C8.pss_cut (ps_asg (pe_and (pe_callB (isi_K9T (K := K) rfl) (by rfl) T.n_isinstance (by decide +kernel) (pa_cons (pv 3) (pa_cons (pe_tup (pa_cons (pe_bltn (v := .ty "list") (by rfl) T.n_list (by decide +kernel) (show RelV (.ty "list") (.type "list") from rfl)) (pa_cons (pe_bltn (v := .ty "tuple") (by rfl) T.n_tuple (by decide +kernel) (show RelV (.ty "tuple") (.type "tuple") from rfl)) pa_nil))) pa_nil))) (pe_and (pe_cmpR op_eq (pe_callB call_lenQ (by rfl) T.n_len PySem.boot_len (pa_cons (pv 3) pa_nil)) pe_int (nomark _)) (pe_and (pe_call (ok_l_is_wordO T) (hr.mono (by decide)) rfl T.g_l_is_word T.F_l_is_word.kp T.b_l_is_word .nil pass0 (pa_cons (pe_ix (ix_K7 (K := K) (r := fun K1 => rIxX K1) rfl ix_sqX) (pv 3) pe_int (fun _ _ => rfl)) pa_nil)) (pe_one (pe_cmpR op_notIn_seq (pe_ix (ix_K7 (K := K) (r := fun K1 => rIxX K1) rfl ix_sqX) (pv 3) pe_int (fun _ _ => rfl)) (pv 1) (by rfl)))))) (pg_name (i := 4) sc_l_till_due.nd rfl (by first | exact Or.inl rfl | exact Or.inr rfl)))
  (pss_cons (ps_if (PW.pt (pw_or (pt_cmpR op_eq (pv 2) pe_int (nomark _)) (pw_or (pt_not (pt_val (pv 4))) (pw_or (pt_not (pt_val (pe_call (ok_l_is_numberO T) (hr.mono (by decide)) rfl T.g_l_is_number T.F_l_is_number.kp T.b_l_is_number .nil pass0 (pa_cons (pe_ix (ix_K7 (K := K) (r := fun K1 => rIxX K1) rfl ix_sqX) (pv 3) pe_int (fun _ _ => rfl)) (pa_cons pe_int (pa_cons pe_int pa_nil)))))) (pw_or1 (pt_not (pt_val (pe_call (ok_l_is_numberO T) (hr.mono (by decide)) rfl T.g_l_is_number T.F_l_is_number.kp T.b_l_is_number .nil pass0 (pa_cons (pe_ix (ix_K7 (K := K) (r := fun K1 => rIxX K1) rfl ix_sqX) (pv 3) pe_int (fun _ _ => rfl)) (pa_cons pe_int (pa_cons (pe_ix (ix_K7 (K := K) (r := fun K1 => rIxX K1) rfl ix_sqX) (pv 3) pe_int (fun _ _ => rfl)) pa_nil))))))))))) (pss_one (ps_ret (pe_tup (pa_cons pe_str (pa_cons (pv 2) pa_nil)))))
   pss_nil)
  (pss_one (ps_expr (pe_bm PySem.F.plainAttrs_list PySem.F.slot_list_append PySem.F.type_list_append mt_append (pv 1) (pa_cons (pe_ix (ix_K7 (K := K) (r := fun K1 => rIxX K1) rfl ix_sqX) (pv 3) pe_int (fun _ _ => rfl)) pa_nil)))))))
  (pss_one (ps_ret pe_non)))), ?_⟩
    wtm_at "k"
    rw [ctrsO] at kQ
    have s0 : Stt H [] [] H := Stt.nil
    wtm_at "rd"
    rename_i nl H2 hnl s2
    refine Rd.forEnX hq (fun i σ' H' => (∃ v2 v3 v4 : Option V, σ' = [some (.ref a), some (.ref nl), v2, v3, v4]) ∧ Stt H [] [(nl, Is (.lst (((xs.take i).map obKey).map V.str)))] H' ∧ firstO 2 ctrO 0 [] xs = firstO 2 ctrO i ((xs.take i).map obKey) (xs.drop i) ∧ i ≤ 2) ⟨⟨_, _, _, rfl⟩, by simp; exact s2, by simp, by omega⟩ (fun i σ' H' _ h => ⟨[], List.not_mem_nil, h.2.1.keep⟩) ?_ ?_
    · rintro i x σ' H3 U hi ⟨⟨v2, v3, v4, rfl⟩, s3, hf, hi3⟩ ex hU
      obtain ⟨ob, eo, hx⟩ := hu.at_ ex
      rw [drop_at eo, firstO] at hf
      have s4 := s3.new hU (.tup [.int (i : Nat), x])
      have hx4 := hx.kp s4.keep
      generalize upd H3 U (HO.tup [.int (i : Nat), x]) = H4 at s4 hx4
      clear s3 s2 s0
      have hnl4 := s4.get (a := nl) (by wtm_at "mem")
      refine Rd.gseqT s4 (by wtm_at "mem") rfl ?_
      wtm_at "rd"
      refine Rd.cut (fun σ' H' => σ' = [some (.ref a), some (.ref nl), some (.int (i : Nat)), some x, some (.bl (rightO ((xs.take i).map obKey) ob))] ∧ Kp [] H4 H') ?_ ?_
      · have s0 : Stt H4 [] [] H4 := Stt.nil
        wtm_at "rd"
        rename_i p H5 hp s5
        refine isiO s5 (by wtm_at "mem") (hx4.kp s5.keep) ?_
        clear s0
        cases e : ob.isSq with
        | false =>
          rw [show rightO _ ob = false by cases ob <;> first | rfl | cases e]
          wtm_at "rd"
          exact ⟨rfl, s5.keep⟩
        | true =>
          have h1 := hx4.kp s5.keep
          cases h1 with
          | @sq b vs ys hh hz r =>
            have hqb : SqX K H5 b vs := sqX_of hh
            have hlen := r.len
            wtm_at "rd"
            refine Rd.brD (fun e2 => ?_) (fun e2 => ?_)
            · have e2' := V.int.inj e2
              obtain ⟨x, y, z, rfl⟩ := len3 (show ys.length = 3 by omega)
              cases r with
              | cons hx r =>
                cases r with
                | cons hy r =>
                  cases r with
                  | cons hy2 r =>
                    cases r
                    rename_i vx vy vz
                    wtm_at "rd"
                    refine lwordO_ask s5 hx fun H6 k6 s6 => ?_
                    clear s5
                    cases ew : x.word with
                    | false =>
                      rw [show rightO ((xs.take i).map obKey) (.sq [x, y, z]) = false by rw [rightO, ew, Bool.false_and]]
                      wtm_at "rd"
                      exact ⟨rfl, s6.keep⟩
                    | true =>
                      obtain ⟨n, rfl, _⟩ := word_str ew
                      cases hx
                      have hqb6 := hqb.kp0 k6
                      wtm_at "rd"
                      refine inS (.inl (SqL.of (s6.keep.get List.not_mem_nil hnl4))) ?_
                      rw [if_pos rfl]
                      refine ⟨?_, s6.keep⟩
                      rw [show rightO ((xs.take i).map obKey) (.sq [.str n, y, z]) = !decide (n ∈ (xs.take i).map obKey) by rw [rightO, ew, Ob.mem, Bool.true_and]]
                      rfl
            · rw [show rightO ((xs.take i).map obKey) (.sq ys) = false by
                match ys, hlen with
                | [_, _, _], h => exact absurd (by rw [h]; rfl) e2
                | [], _ => rfl
                | [_], _ => rfl
                | [_, _], _ => rfl
                | _ :: _ :: _ :: _ :: _, _ => rfl]
              wtm_at "rd"
              exact ⟨rfl, s5.keep⟩
          | _ => cases e
      · rintro σ' H5 ⟨rfl, k5⟩
        have s5 := s4.after0 k5
        have hx5 := hx4.kp k5
        clear s4
        wtm_at "rd"
        refine Rd.brD (fun e3 => ?_) (fun e3 => ?_)
        · have e3' : i = 2 := by have := V.int.inj e3; omega
          rw [if_pos (.inl e3')] at hf
          wtm_at "rd"
          rename_i p7 H7 hp7 s7
          exact kQ _ _ s7.keep (by rw [hf]; exact ⟨p7, rfl, s7.get (o := .tup [.str "till", .int (i : Nat)]) (by wtm_at "mem")⟩)
        have ei : i ≠ 2 := fun q => e3 (by rw [q]; rfl)
        cases ep : rightO ((xs.take i).map obKey) ob with
        | false =>
          have et : ctrO ((xs.take i).map obKey) ob = false := by
            unfold rightO at ep
            unfold ctrO
            split
            · rw [← Bool.and_assoc, show (Ob.word _ && _) = false from ep, Bool.false_and]
            · rfl
          rw [if_pos (.inr et)] at hf
          wtm_at "rd"
          rename_i p7 H7 hp7 s7
          exact kQ _ _ s7.keep (by rw [hf]; exact ⟨p7, rfl, s7.get (o := .tup [.str "till", .int (i : Nat)]) (by wtm_at "mem")⟩)
        | true =>
          obtain ⟨b, n, w1, w2, r1, r2, rfl, hb, hw1, hw2, rfl, hwd, hns⟩ := right_head (K := K) hx5 ep
          have a0 : atI [V.str n, w1, w2] 0 = some (.str n) := atI_nat (j := 0) rfl
          have a1 : atI [V.str n, w1, w2] 1 = some w1 := atI_nat (j := 1) rfl
          have a2 : atI [V.str n, w1, w2] 2 = some w2 := atI_nat (j := 2) rfl
          have hc : ctrO ((xs.take i).map obKey) (.sq [.str n, r1, r2]) = (r2.btw 1 9 && startO r1 r2) := by rw [ctrO, Ob.mem, hns, show Ob.word (.str n) = true from hwd]; rfl
          rw [hc] at hf
          wtm_at "rd"
          refine lnumO_ask hw2 ?_
          cases e4 : r2.btw 1 9 with
          | false =>
            rw [e4, Bool.false_and, if_pos (.inr rfl)] at hf
            wtm_at "rd"
            rename_i p7 H7 hp7 s7
            exact kQ _ _ s7.keep (by rw [hf]; exact ⟨p7, rfl, s7.get (o := .tup [.str "till", .int (i : Nat)]) (by wtm_at "mem")⟩)
          | true =>
            obtain ⟨k, rfl, hk⟩ := btw_num e4
            cases hw2
            wtm_at "rd"
            refine lnumO_ask hw1 ?_
            cases e5 : r1.btw 0 k with
            | false =>
              rw [e4, show startO r1 (.num k) = false from e5, if_pos (.inr rfl)] at hf
              wtm_at "rd"
              rename_i p7 H7 hp7 s7
              exact kQ _ _ s7.keep (by rw [hf]; exact ⟨p7, rfl, s7.get (o := .tup [.str "till", .int (i : Nat)]) (by wtm_at "mem")⟩)
            | true =>
              rw [if_neg (fun c => c.elim ei fun q => by rw [e4, show startO r1 (.num k) = true from e5] at q; cases q)] at hf
              wtm_at "rd"
              refine Rd.app s5 (by wtm_at "mem") (by rw [List.length_map, List.length_map, List.length_take]; omega) (by wtm_at "put") (by wtm_at "own") fun H8 s8 => ?_
              have ek : (xs.take (i + 1)).map obKey = (xs.take i).map obKey ++ [n] := take_map_snoc eo
              refine ⟨⟨_, _, _, rfl⟩, ?_, by rw [ek]; exact hf, by omega⟩
              rw [ek, List.map_append]
              exact s8.sub (List.Sublist.cons _ (List.Sublist.refl _))
    · rintro σ' H3 ⟨⟨v2, v3, v4, rfl⟩, s3, hf, _⟩
      rw [List.drop_of_length_le (by rw [hu.len]; exact Nat.le_refl _), firstO] at hf
      wtm_at "rd"
      exact kQ _ _ s3.keep (by rw [hf]; rfl)
end

section
variable {P : Program} {w : World} {K : PySem.W.Frag} {mg : Str → Option Value} {base : Heap}
/-! ### what a call makes, or its error -/
def spPLen (K : PySem.W.Frag) : Sp := fun vs H Q _ => ∃ (o : Addr) (ts : List Tsk) (cs : List Ctr) (lt : Int), vs = [.ref o] ∧ PgAt K H o ts cs lt ∧ ∀ H', Kp [] H H' → Q (.int (ts.length : Nat)) H'
theorem ok_Program_len (T : Txt K mg) : FnOk P w K mg base CX0 1 (He.fAd K ("Program", some "__len__")) T.fd_Program_len ["self"] (spPLen K) := by
  refine T.F_Program_len.ok sc_Program_len (fun vs H Q E h => ?_) (fun cdv A outer s H vs Q E hr h => ?_)
  · obtain ⟨o, ts, cs, lt, rfl, _⟩ := h
    rfl
  · obtain ⟨o, ts, cs, lt, rfl, hO, kQ⟩ := h
    refine ⟨_, PSs.nox (pss_one (ps_ret (pe_callB call_lenQ (by rfl) T.n_len PySem.boot_len (pa_cons (pe_fld (pv 0) rfl) pa_nil)))), ?_⟩
    wtm_at "k"
    have c1 := T.c_Program
    have c3 := T.a_Program_plans
    obtain ⟨dx, fs, pl, ps, ct, h0, h1, h2, h3, h4, h5, h6, h7⟩ := hO.ex
    have q1 : SqX K H pl ps := SqX.t (SqT.of h4)
    wtm_at "rd"
    rw [h5.len]
    exact kQ H (Kp.refl H)
def dueV (vl : V) : Due → List V
  | .made => [.str "made"]
  | .task i => [.str "task", .int (i : Nat)]
  | .ctr i => [.str "till", .int (i : Nat)]
  | .late => [.str "late", vl]
  | .row n k e => [.str "row", .str n, .int (k : Nat), .str e]
theorem DueX.kp {vl : V} {H H1 : Hp} {due : Due} {cls : Value} {d : Option Addr} {H' : Hp} (k : Kp [] H H1) (h : DueX K vl H1 due cls d H') : DueX K vl H due cls d H' := by
  cases due with
  | made => exact h
  | task i => exact XF.kp (S := []) (S' := []) k (fun x m => (List.not_mem_nil m).elim) h
  | ctr i => exact XF.kp (S := []) (S' := []) k (fun x m => (List.not_mem_nil m).elim) h
  | late => exact XF.kp (S := []) (S' := []) k (fun x m => (List.not_mem_nil m).elim) h
  | row n j e => exact XF.kp (S := []) (S' := []) k (fun x m => (List.not_mem_nil m).elim) h
theorem ob_nref {H : Hp} {v : V} {o : Ob} {x : Addr} (h : ObA H v o) (hx : H x = none) : v ≠ .ref x := fun e => by
  subst e
  cases h with
  | dct h => rw [hx] at h; cases h
  | sq h => rw [hx] at h; rcases h with h | h <;> cases h
theorem prog_askO {H : Hp} {vt vc vl : V} {ot oc ol : Ob} {Q : VK} {E' : XK} (hot : ObA H vt ot) (hoc : ObA H vc oc) (hol : ObA H vl ol) (hdep : ∀ x ∈ obItems ot, (obRows x).dep ≤ 12)
    (k : dueO ot oc ol = .made → ∀ lt, ol = .num lt → ∀ x H', H x = none → Kp [] H H' → PgAt K H' x (tsO ot) (csO oc) lt → Q (.ref x) H') (kE : ∀ cls d H', DueX K vl H (dueO ot oc ol) cls d H' → E' cls d H') :
    Rd.MakeN (He.ga K "Program") 2 1 (spPgIO K) (fun vs zs => vs ++ zs) E' [vt, vc] [vl] H Q := by
  refine ⟨rfl, rfl, fun x dx hx hdx ne => ?_⟩
  have hx' : upd H dx (HO.own x) x = none := by rw [upd_ne (Ne.symm ne)]; exact hx
  have k2 : Kp [] H (upd (upd H dx (.own x)) x (.ins (He.ga K "Program") dx [])) := (kp_new hdx).trans (kp_new hx') fun _ h => nomatch h
  exact ⟨x, dx, vt, vc, vl, ot, oc, ol, rfl, upd_same, ob_nref hot hx, hot.kp k2, hoc.kp k2, hol.kp k2, hdep,
    fun e lt el H' k' hp => ⟨rfl, k e lt el x H' hx (k2.trans k' fun y m => .inr (by rw [List.mem_singleton.mp m]; exact hx)) hp⟩, fun cls d H' h => kE cls d H' (h.kp k2)⟩
theorem len5 {α : Type} {l : List α} (h : l.length = 5) : ∃ a b c d e, l = [a, b, c, d, e] := by
  match l, h with
  | [a, b, c, d, e], _ => exact ⟨a, b, c, d, e, rfl⟩
def spTri7 (K : PySem.W.Frag) : Sp := fun vs H Q _ => ∃ (vt vc vl : V) (ot oc ol : Ob), vs = [vt, vc, vl] ∧ ObA H vt ot ∧ ObA H vc oc ∧ ObA H vl ol ∧ (∀ x ∈ obItems ot, (obRows x).dep ≤ 12) ∧
  ∀ p H', Kp [] H H' → H' p = some (.tup (dueV vl (dueO ot oc ol))) → Q (.ref p) H'
local macro_rules | `(tactic| wtm_at "pre") => `(tactic| ((with_reducible refine' unN ?v1 ?_); (case v1 => assumption)))
local macro_rules | `(tactic| wtm_at "pre") => `(tactic| ((with_reducible refine' seqN ?_); intro _ _))
local macro_rules | `(tactic| wtm_at "at") => `(tactic| first | exact atI_nat (j := 0) rfl | exact atI_nat (j := 1) rfl | exact atI_nat (j := 2) rfl | exact atI_nat (j := 3) rfl)

theorem ok_l_tried (T : Txt K mg) (D : TxtD K w) : FnOk P w K mg base CX0 23 (He.fAd K ("_law_tried", none)) T.fd_l_tried ["_law_tasks", "_law_tills", "_law_lag"] (spTri7 K) := by
  refine T.F_l_tried.ok sc_l_tried (fun vs H Q E h => ?_) (fun cdv A outer s H vs Q E hr h => ?_)
  · obtain ⟨vt, vc, vl, ot, oc, ol, rfl, _⟩ := h
    rfl
  · obtain ⟨vt, vc, vl, ot, oc, ol, rfl, hot, hoc, hol, hdep, kQ⟩ := h
    refine ⟨_, PSs.nox (pss_cons (ps_asg (pe_tup (pa_cons pe_str pa_nil)) (pg_name (i := 3) sc_l_tried.nd rfl (by first | exact Or.inl rfl | exact Or.inr rfl)))
  (pss_cons (ps_try_all_as (i := 4) (tb := fun W => tAsg (tIf (tTest (tOp (rI0 fun i j => .bl (decide (j < i))) (tCB (rLenI (He.ga K "Program") (spPLen K) E0) (tCons (tMakeK (He.ga K "Program") 2 1 (spPgIO K) (fun vs zs => vs ++ zs) (fun C d H => ∀ σ : L2.St, σ.length = 5 → W C d σ H) (tCons (tVar 0) (tCons (tVar 1) tNil)) (tCons (tVar 2) tNil)) tNil)) (tC (.int 0)))) (tTup (tCons (tC (.str "made")) tNil)) (tTup (tCons (tC (.str "odd")) tNil))) (gName 3)) (cs := [(.ref (He.ga K "BadTask"), (fun a cls d => tAsg (tTup (tCons (tC (.str "task")) (tCons (tXf a cls d (He.ga K "BadTask") "index" (tVar 4)) tNil))) (gName 3))), (.ref (He.ga K "BadCounter"), (fun a cls d => tAsg (tTup (tCons (tC (.str "till")) (tCons (tXf a cls d (He.ga K "BadCounter") "index" (tVar 4)) tNil))) (gName 3))), (.ref (He.ga K "BadLate"), (fun a cls d => tAsg (tTup (tCons (tC (.str "late")) (tCons (tXf a cls d (He.ga K "BadLate") "late" (tVar 4)) tNil))) (gName 3))), (.ref (He.ga K "BadRow"), (fun a cls d => tAsg (tTup (tCons (tC (.str "row")) (tCons (tXf a cls d (He.ga K "BadRow") "task" (tVar 4)) (tCons (tXf a cls d (He.ga K "BadRow") "place" (tVar 4)) (tCons (tXf a cls d (He.ga K "BadRow") "reason" (tVar 4)) tNil))))) (gName 3)))]) (W0 := fun _ _ _ _ => False) rfl rfl sc_l_tried.nd rfl rfl takes_none5 (fun W pn xe tk _ => (pss_one (ps_asg (by refine pe_ifExp (pt_cmpR op_gt ?_ pe_int (nomark _)) (pe_tup (pa_cons pe_str pa_nil)) (pe_tup (pa_cons pe_str pa_nil)); refine pe_callB ?_ (by rfl) T.n_len PySem.boot_len (pa_cons ?_ pa_nil); (refine call_lenI T.m_Program_len.at_ T.m_Program_len.fn (ok_Program_len T) T.b_Program_len (hr.mono (by decide)) ?_; exact pass0); refine pe_makeKX (ks := ["late"]) (n := 2) T.k_Program (ok_Program_initO T D) (hr.mono (by decide)) (by rfl) T.g_Program (kb_Program_init_late T) ?_ (pa_cons (pv 0) (pa_cons (pv 1) pa_nil)) (pk_cons (pv 2) pk_nil); exact passes_call (takesLen tk) (fun _ _ σ _ h => h σ)) (pg_name (i := 3) sc_l_tried.nd rfl (by first | exact Or.inl rfl | exact Or.inr rfl))))) (by exact (by exact AsOk.cons ⟨rfl, by decide, Or.inl T.g_BadTask⟩ (fun a oe cls d pn hz hf => (by refine pss_one ?_; refine ps_asg (te := tTup (tCons (tC (.str "task")) (tCons (tXf a cls d (He.ga K "BadTask") "index" (tVar 4)) tNil))) ?_ ?_; exact (pe_tup (pa_cons pe_str (pa_cons (by exact (pe_xf T.x_BadTask.xf T.a_BadTask_index hz hf (pv 4))) pa_nil))); exact (pg_name (i := 3) sc_l_tried.nd rfl (by first | exact Or.inl rfl | exact Or.inr rfl)))) (by exact AsOk.cons ⟨rfl, by decide, Or.inl T.g_BadCounter⟩ (fun a oe cls d pn hz hf => (by refine pss_one ?_; refine ps_asg (te := tTup (tCons (tC (.str "till")) (tCons (tXf a cls d (He.ga K "BadCounter") "index" (tVar 4)) tNil))) ?_ ?_; exact (pe_tup (pa_cons pe_str (pa_cons (by exact (pe_xf T.x_BadCounter.xf T.a_BadCounter_index hz hf (pv 4))) pa_nil))); exact (pg_name (i := 3) sc_l_tried.nd rfl (by first | exact Or.inl rfl | exact Or.inr rfl)))) (by exact AsOk.cons ⟨rfl, by decide, Or.inl T.g_BadLate⟩ (fun a oe cls d pn hz hf => (by refine pss_one ?_; refine ps_asg (te := tTup (tCons (tC (.str "late")) (tCons (tXf a cls d (He.ga K "BadLate") "late" (tVar 4)) tNil))) ?_ ?_; exact (pe_tup (pa_cons pe_str (pa_cons (by exact (pe_xf T.x_BadLate.xf T.a_BadLate_late hz hf (pv 4))) pa_nil))); exact (pg_name (i := 3) sc_l_tried.nd rfl (by first | exact Or.inl rfl | exact Or.inr rfl)))) (by exact AsOk.cons ⟨rfl, by decide, Or.inl T.g_BadRow⟩ (fun a oe cls d pn hz hf => (by refine pss_one ?_; refine ps_asg (te := tTup (tCons (tC (.str "row")) (tCons (tXf a cls d (He.ga K "BadRow") "task" (tVar 4)) (tCons (tXf a cls d (He.ga K "BadRow") "place" (tVar 4)) (tCons (tXf a cls d (He.ga K "BadRow") "reason" (tVar 4)) tNil))))) ?_ ?_; exact (pe_tup (pa_cons pe_str (pa_cons (by exact (pe_xf T.x_BadRow.xf T.a_BadRow_task hz hf (pv 4))) (pa_cons (by exact (pe_xf T.x_BadRow.xf T.a_BadRow_place hz hf (pv 4))) (pa_cons (by exact (pe_xf T.x_BadRow.xf T.a_BadRow_reason hz hf (pv 4))) pa_nil))))); exact (pg_name (i := 3) sc_l_tried.nd rfl (by first | exact Or.inl rfl | exact Or.inr rfl)))) AsOk.nil))))))
  (pss_one (ps_ret (pv 3))))), ?_⟩
    wtm_at "k"
    have s0 : Stt H [] [] H := Stt.nil
    wtm_at "rd"
    rename_i p H1 hp s1 N eN
    have k1 := s1.keep
    clear s0 s1
    refine prog_askO (hot.kp k1) (hoc.kp k1) (hol.kp k1) hdep (fun edue lt el q H2 hq k2 hpg => ?_) (fun cls d H2 hx σ hσ => ?_)
    · obtain ⟨_, us, _, ws, lt', M⟩ := made_ok (K := K) hot hoc hol hdep edue
      rw [edue] at kQ
      have s2 : Stt H2 [] [] H2 := Stt.nil
      obtain ⟨dx, fs, pl, ps, ct, h0, h1⟩ := hpg.ex
      wtm_at "rd"
      refine ⟨q, dx, fs, rfl, h0, ?_⟩
      refine ⟨q, tsO ot, csO oc, lt, rfl, hpg, fun H3 k3 => ⟨_, rfl, ?_, ?_⟩⟩
      · have := M.ok.t1
        have := M.ok.t3
        omega
      have s3 : Stt H3 [] [] H3 := Stt.nil
      clear s2
      wtm_at "rd"
      refine Rd.brT (decide_eq_true (by have := M.ok.t1; omega)) ?_
      wtm_at "rd"
      rename_i p3 H4 hp3 s4
      exact kQ p3 H4 (kpT k1 (kpT k2 (kpT k3 s4.keep))) (s4.get (o := .tup [.str "made"]) (by wtm_at "mem"))
    obtain ⟨x0, x1, x2, x3, x4, rfl⟩ := len5 hσ
    cases edue : dueO ot oc ol with
    | made => rw [edue] at hx; exact hx.elim
    | task i =>
      rw [edue] at hx kQ
      obtain ⟨rfl, d0, rfl, hd, k2⟩ := hx
      refine ⟨true, T.x_BadTask.te, (fun _ a ha => ?_), fun z => nomatch z⟩
      have s2 : Stt H2 [] [] H2 := Stt.nil
      dsimp only
      wtm_at "rd"
      refine ⟨_, rfl, rfl, rfl, d0, _, _, rfl, hd, rfl, ?_⟩
      wtm_at "rd"
      rename_i p3 H3 hp3 s3
      show N _ _
      wtm_at "rd"
      exact kQ p3 H3 (kpT k1 (kpT k2 s3.keep)) (s3.get (o := .tup [.str "task", .int (i : Nat)]) (by wtm_at "mem"))
    | ctr i =>
      rw [edue] at hx kQ
      obtain ⟨rfl, d0, rfl, hd, k2⟩ := hx
      refine ⟨false, T.xm_BadCounter_BadTask, (fun z => nomatch z), fun _ => ⟨true, T.x_BadCounter.te, (fun _ a ha => ?_), fun z => nomatch z⟩⟩
      have s2 : Stt H2 [] [] H2 := Stt.nil
      dsimp only
      wtm_at "rd"
      refine ⟨_, rfl, rfl, rfl, d0, _, _, rfl, hd, rfl, ?_⟩
      wtm_at "rd"
      rename_i p3 H3 hp3 s3
      show N _ _
      wtm_at "rd"
      exact kQ p3 H3 (kpT k1 (kpT k2 s3.keep)) (s3.get (o := .tup [.str "till", .int (i : Nat)]) (by wtm_at "mem"))
    | late =>
      rw [edue] at hx kQ
      obtain ⟨rfl, d0, rfl, hd, k2⟩ := hx
      refine ⟨false, T.xm_BadLate_BadTask, (fun z => nomatch z), fun _ => ⟨false, T.xm_BadLate_BadCounter, (fun z => nomatch z), fun _ => ⟨true, T.x_BadLate.te, (fun _ a ha => ?_), fun z => nomatch z⟩⟩⟩
      have s2 : Stt H2 [] [] H2 := Stt.nil
      dsimp only
      wtm_at "rd"
      refine ⟨_, rfl, rfl, rfl, d0, _, _, rfl, hd, rfl, ?_⟩
      wtm_at "rd"
      rename_i p3 H3 hp3 s3
      show N _ _
      wtm_at "rd"
      exact kQ p3 H3 (kpT k1 (kpT k2 s3.keep)) (s3.get (o := .tup [.str "late", vl]) (by wtm_at "mem"))
    | row n k e =>
      rw [edue] at hx kQ
      obtain ⟨rfl, d0, rfl, hd, k2⟩ := hx
      refine ⟨false, T.xm_BadRow_BadTask, (fun z => nomatch z), fun _ => ⟨false, T.xm_BadRow_BadCounter, (fun z => nomatch z), fun _ => ⟨false, T.xm_BadRow_BadLate, (fun z => nomatch z), fun _ => ⟨true, T.x_BadRow.te, (fun _ a ha => ?_), fun z => nomatch z⟩⟩⟩⟩
      have s2 : Stt H2 [] [] H2 := Stt.nil
      dsimp only
      wtm_at "rd"
      refine ⟨_, rfl, rfl, rfl, d0, _, _, rfl, hd, rfl, ?_⟩
      wtm_at "rd"
      refine ⟨_, rfl, rfl, rfl, d0, _, _, rfl, hd, rfl, ?_⟩
      wtm_at "rd"
      refine ⟨_, rfl, rfl, rfl, d0, _, _, rfl, hd, rfl, ?_⟩
      wtm_at "rd"
      rename_i p3 H3 hp3 s3
      show N _ _
      wtm_at "rd"
      exact kQ p3 H3 (kpT k1 (kpT k2 s3.keep)) (s3.get (o := .tup [.str "row", .str n, .int (k : Nat), .str e]) (by wtm_at "mem"))
end

section
variable {P : Program} {w : World} {K : PySem.W.Frag} {mg : Str → Option Value} {base : Heap}
/-! ### tasks and counters drawn -/
def spTills (K : PySem.W.Frag) : Sp := fun vs H Q _ => ∃ (st c : Addr) (ns : List Int), vs = [.ref st] ∧ Stt H [st] (dled st c ns) H ∧ ns.length ≤ 63 ∧
  ∀ (D : Addr) (us : List V) (cs : List Ctr) (H' : Hp), H D = none → Stt H [st] ((D, Is (.lst us)) :: dled st c ns) H' → All2 (TillAt H') us cs → us.length ≤ 2 → (cs.map (·.1)).Nodup → (∀ c ∈ cs, CtrOk c ∧ c.1 ≠ "other") → Q (.ref D) H'
theorem ok_l_some_tills (T : Txt K mg) : FnOk P w K mg base CX0 4 (He.fAd K ("_law_some_tills", none)) T.fd_l_some_tills ["_law_state"] (spTills K) := by
  refine T.F_l_some_tills.ok sc_l_some_tills (fun vs H Q E h => ?_) (fun cdv A outer s H vs Q E hr h => ?_)
  · obtain ⟨st, c, ns, rfl, _⟩ := h
    rfl
  · obtain ⟨st, c, ns, rfl, s0, hn, k⟩ := h
    refine ⟨_, PSs.nox (pss_cons (ps_asg (pe_lst pa_nil) (pg_name (i := 1) sc_l_some_tills.nd rfl (by first | exact Or.inl rfl | exact Or.inr rfl)))
  (pss_cons (ps_for PassesOwn.never rfl (pi_seq (pe_call (ok_l_some_words T) (hr.mono (by decide)) rfl T.g_l_some_words T.F_l_some_words.kp T.b_l_some_words .nil pass0 (pa_cons (pv 0) (pa_cons (pe_call (ok_l_take T) (hr.mono (by decide)) rfl T.g_l_take T.F_l_take.kp T.b_l_take .nil pass0 (pa_cons (pv 0) (pa_cons pe_int pa_nil))) pa_nil)))) (pg_name (i := 2) sc_l_some_tills.nd rfl (by first | exact Or.inl rfl | exact Or.inr rfl))
   (pss_cons (ps_asg (pe_call (ok_l_one T) (hr.mono (by decide)) rfl T.g_l_one T.F_l_one.kp T.b_l_one .nil pass0 (pa_cons (pv 0) (pa_cons (pe_lst (pa_cons pe_int (pa_cons pe_int (pa_cons pe_int (pa_cons pe_int pa_nil))))) pa_nil))) (pg_name (i := 3) sc_l_some_tills.nd rfl (by first | exact Or.inl rfl | exact Or.inr rfl)))
  (pss_one (ps_expr (pe_bm PySem.F.plainAttrs_list PySem.F.slot_list_append PySem.F.type_list_append mt_append (pv 1) (pa_cons (pe_tup (pa_cons (pv 2) (pa_cons (pe_call (ok_l_take T) (hr.mono (by decide)) rfl T.g_l_take T.F_l_take.kp T.b_l_take .nil pass0 (pa_cons (pv 0) (pa_cons (pe_op op_add (pv 3) pe_int) pa_nil))) (pa_cons (pv 3) pa_nil)))) pa_nil))))))
  (pss_one (ps_ret (pv 1))))), ?_⟩
    wtm_at "k"
    obtain ⟨sty, hst⟩ := st_lst s0 (by wtm_at "mem")
    wtm_at "rd"
    rename_i o H1 ho s1
    clear s0
    refine take_ask s1 (by wtm_at "mem") (by wtm_at "mem") hn (by wtm_at "own") (by decide) fun d H2 hd s2 => ?_
    clear s1
    obtain ⟨m, rfl⟩ := Int.eq_ofNat_of_zero_le hd.1
    wtm_at "rd"
    refine somew_ask (m := m) s2 (by wtm_at "mem") (by wtm_at "mem") hn (by wtm_at "own") rfl (by omega) fun pw ws H3 hpw s3 hwl hwn hwb => ?_
    clear s2
    have u3 : Stt H3 [st, o] ((pw, Is (.lst (ws.map V.str))) :: (o, Is (.lst [])) :: dled st c ns) H3 := ⟨.refl H3, s3.nd, s3.at_⟩
    have kH3 := s3.keep
    obtain ⟨sty3, hst3⟩ := st_lst s3 (by wtm_at "mem")
    have eo3 := s3.get (a := o) (by wtm_at "mem")
    have epw := s3.get (a := pw) (by wtm_at "mem")
    have hpn : pw ∉ [st, o] := by
      have n := s3.nd
      simp at n ⊢
      exact ⟨fun q => n.1.2.1 q, fun q => n.1.1 q⟩
    have lsS : ∀ {H' : Hp} {ys zs : List V}, H' st = some (.lst ys) → H' o = some (.lst zs) → ∀ x ∈ [st, o], ∃ ys, H' x = some (.lst ys) := fun a b x m => by
      simp only [List.mem_cons, List.not_mem_nil, or_false] at m
      rcases m with rfl | rfl
      · exact ⟨_, a⟩
      · exact ⟨_, b⟩
    have toH : ∀ {H' : Hp}, Kp [st, o] H3 H' → Kp [st] H H' := fun k' => kH3.trans k' fun x m => by
      simp only [List.mem_cons, List.not_mem_nil, or_false] at m
      rcases m with rfl | rfl
      · exact .inl (List.mem_singleton_self _)
      · exact .inr ho
    clear s3
    refine Rd.forX (K := K) (H0 := H3) (xs := ws.map V.str) (.inl (SqL.of epw)) (fun i σ' H' => ∃ (v2 v3 : Option V) (us : List V) (cs : List Ctr), σ' = [some (.ref st), some (.ref o), v2, v3] ∧ Stt H3 [st, o] ((pw, Is (.lst (ws.map V.str))) :: (o, Is (.lst us)) :: dled st c ns) H' ∧ All2 (TillAt H') us cs ∧ cs.map (·.1) = ws.take i ∧ ∀ c ∈ cs, CtrOk c ∧ c.1 ≠ "other") ⟨_, _, [], [], rfl, u3, .nil, by simp, fun _ m => nomatch m⟩ (fun i σ' H' _ ⟨_, _, _, _, _, h, _⟩ => ⟨_, hpn, h.keep⟩) ?_ ?_
    · rintro i x σ' H4 hi ⟨v2, v3, us, cs, rfl, s4, hus, hcs, hok⟩ ex
      have hul := hus.len
      have hcl : cs.length = i := by
        have := congrArg List.length hcs
        rw [List.length_map, List.length_take] at this
        rw [List.length_map] at hi
        omega
      have hi2 : i < 2 := by rw [List.length_map] at hi; omega
      obtain ⟨z, ez, rfl⟩ : ∃ z, ws[i]? = some z ∧ x = .str z := by
        rw [List.getElem?_map] at ex
        cases e : ws[i]? with
        | none => rw [e] at ex; cases ex
        | some z => rw [e] at ex; cases ex; exact ⟨z, rfl, rfl⟩
      have u4 : Stt H4 [st, o] ((pw, Is (.lst (ws.map V.str))) :: (o, Is (.lst us)) :: dled st c ns) H4 := ⟨.refl H4, s4.nd, s4.at_⟩
      have k34 := s4.keep
      obtain ⟨sty4, hst4⟩ := st_lst s4 (by wtm_at "mem")
      have eo4 := s4.get (a := o) (by wtm_at "mem")
      clear s4 u3
      wtm_at "rd"
      rename_i q1 H5 hq1 s5
      clear u4
      refine one_ask s5 (by wtm_at "subl") hn (by wtm_at "own") (by simp) fun v H6 mv s6 => ?_
      clear s5
      obtain ⟨rm, rfl, hrm⟩ : ∃ rm : Int, v = .int rm ∧ 1 ≤ rm ∧ rm ≤ 9 := by
        simp only [List.mem_cons, List.not_mem_nil, or_false] at mv
        rcases mv with rfl | rfl | rfl | rfl
        · exact ⟨_, rfl, by decide, by decide⟩
        · exact ⟨_, rfl, by decide, by decide⟩
        · exact ⟨_, rfl, by decide, by decide⟩
        · exact ⟨_, rfl, by decide, by decide⟩
      have s6' : Stt H4 [st, o] _ H6 ∧ True := ⟨s6, trivial⟩
      clear s6
      wtm_at "rd"
      refine Rd.bmL s6'.1 (by wtm_at "mem") ?_
      wtm_at "rd"
      refine take_ask s6'.1 (by wtm_at "mem") (by wtm_at "mem") hn (by wtm_at "own") (by omega) fun d H7 hd7 s7 => ?_
      clear s6'
      wtm_at "rd"
      rename_i T8 H8 hT8 s8
      clear s7
      refine Rd.app s8 (by wtm_at "mem") (by omega) (by wtm_at "put") (by wtm_at "own") fun H9 s9 => ?_
      clear s8
      have kt9 := kt_ls s9.keep (lsS hst4 eo4)
      refine ⟨_, _, us ++ [.ref T8], cs ++ [(z, d, rm)], rfl, Stt.sub ⟨kpT k34 s9.keep, s9.nd, s9.at_⟩ (by wtm_at "subl"), (hus.imp fun _ _ h => h.kt kt9).app (.cons ⟨T8, rfl, s9.get (a := T8) (by wtm_at "mem")⟩ .nil), ?_, fun c m => ?_⟩
      · rw [List.map_append, hcs, take_snoc ez]
        rfl
      · rcases List.mem_append.mp m with m | m
        · exact hok c m
        · rw [List.mem_singleton.mp m]
          exact ⟨⟨(wordS (hwb z (List.mem_of_getElem? ez))).1, hrm, hd7.1, by show d ≤ rm; omega⟩, (wordS (hwb z (List.mem_of_getElem? ez))).2⟩
    · rintro σ' H4 ⟨v2, v3, us, cs, rfl, s4, hus, hcs, hok⟩
      clear u3
      wtm_at "rd"
      have hul := hus.len
      rw [List.take_of_length_le (by simp)] at hcs
      have hcl := congrArg List.length hcs
      rw [List.length_map] at hcl
      refine k o us cs H4 ho (Stt.sub ⟨toH s4.keep, s4.nd, s4.at_⟩ (by wtm_at "subl")) hus (by omega) (by rw [hcs]; exact hwn) hok
end

section
variable {P : Program} {w : World} {K : PySem.W.Frag} {mg : Str → Option Value} {base : Heap}
theorem TaskA.ext {c : Cf} {H H' : Hp} {v : V} {t : Tsk} (k : ∀ b o, H b = some o → H' b = some o) (h : TaskA c H v t) : TaskA c H' v t := by
  obtain ⟨a, r, e, h1, h2⟩ := h.ex
  exact ⟨a, r, e, h1.imp (k _ _) (k _ _), h2.ext k⟩
theorem cutTo {us : List V} {k : Nat} : cutV us none (some (k : Int)) = us.take k := by
  unfold cutV
  rw [show HT.sIx us.length 0 none = 0 from rfl, HT.sIx_nat, List.drop_zero, Nat.sub_zero]
  by_cases h : k ≤ us.length
  · rw [Nat.min_eq_left h]
  · rw [Nat.min_eq_right (by omega), List.take_of_length_le (Nat.le_refl _), List.take_of_length_le (by omega)]
theorem sheet_ask {H0 H : Hp} {S : List Addr} {l : Led} {st c p : Addr} {ns : List Int} {xs : List V} {cs : List Ctr} {Q : VK} {E : XK} (s : Stt H0 S l H) (sb : List.Sublist (tled p xs st c ns) l) (hn : ns.length ≤ 63) (hs : st ∈ S ∨ H0 st = none) (ht : All2 (TillAt H) xs cs) (hz : xs.length ≤ 2)
    (k : ∀ v rs H', RowsG (cs.map (·.1)) false 3 12 rs → RsA .told (nw H H') v rs → Kp [st] H H' → Stt H0 S l H' → Q v H') : spSheet K ([.ref st, .ref p] ++ []) H Q E :=
  ⟨st, c, p, ns, xs, cs, rfl, s.base sb, hn, ht, hz, fun v rs H' h1 h2 q => k v rs H' h1 h2 q.keep (s.after1 (f := DrS c) (sb.subset (by simp)) q.keep hs (q.pick (by wtm_at "mem")))⟩
def spSheets (K : PySem.W.Frag) : Sp := fun vs H Q _ => ∃ (st c p : Addr) (ns : List Int) (xs : List V) (cs : List Ctr), vs = [.ref st, .int 3, .ref p] ∧ Stt H [st] (tled p xs st c ns) H ∧ ns.length ≤ 63 ∧ All2 (TillAt H) xs cs ∧ xs.length ≤ 2 ∧
  ∀ (D : Addr) (us : List V) (ts : List Tsk) (H' : Hp), H D = none → Stt H [st] ((D, Is (.lst us)) :: tled p xs st c ns) H' → All2 (TaskA .told (nw H H')) us ts → 1 ≤ ts.length → ts.length ≤ 3 → (ts.map (·.1)).Nodup → (∀ t ∈ ts, WordS t.1 = true ∧ RowsG (cs.map (·.1)) false 3 12 t.2) → Q (.ref D) H'
theorem ok_l_sheets (T : Txt K mg) : FnOk P w K mg base CX0 9 (He.fAd K ("_law_sheets", none)) T.fd_l_sheets ["_law_state", "_law_many", "_law_tills"] (spSheets K) := by
  refine T.F_l_sheets.ok sc_l_sheets (fun vs H Q E h => ?_) (fun cdv A outer s H vs Q E hr h => ?_)
  · obtain ⟨st, c, p, ns, xs, cs, rfl, _⟩ := h
    rfl
  · obtain ⟨st, c, p, ns, xs, cs, rfl, s0, hn, ht, hz, k⟩ := h
    refine ⟨_, PSs.nox (pss_cons (ps_asg (pe_call (ok_l_some_words T) (hr.mono (by decide)) rfl T.g_l_some_words T.F_l_some_words.kp T.b_l_some_words .nil pass0 (pa_cons (pv 0) (pa_cons (pv 1) pa_nil))) (pg_name (i := 3) sc_l_sheets.nd rfl (by first | exact Or.inl rfl | exact Or.inr rfl)))
  (pss_one (ps_ret (pe_lc (own := [("_law_name", 4)]) (g := gName 4) (tt := tYes) (by rfl) sc_l_sheets.nd (pi_seq (pe_slice sl_list (pv 3) po_none (po_some (pe_op op_add pe_int (pe_call (ok_l_take T) (hr.mono (by decide)) rfl T.g_l_take T.F_l_take.kp T.b_l_take .nil pass0 (pa_cons (pv 0) (pa_cons (pv 1) pa_nil))))))) (blkOk_by (own := [("_law_name", 4)]) (N := ["_law_state", "_law_many", "_law_tills", "_law_names", "_law_name"]) (sc := defScope s_l_sheets) (by decide +kernel)) (fun _ _ _ _ _ => (pg_name (i := 4) sc_l_sheets.nd rfl (by first | exact Or.inl rfl | exact Or.inr rfl))) (fun _ _ _ _ _ => pts_nil) (fun _ _ _ _ _ => (pe_tup (pa_cons (pv 4) (pa_cons (pe_call (ok_l_sheet T) (hr.mono (by decide)) rfl T.g_l_sheet T.F_l_sheet.kp T.b_l_sheet .nil pass0 (pa_cons (pv 0) (pa_cons (pv 2) pa_nil))) pa_nil)))))))), ?_⟩
    wtm_at "k"
    obtain ⟨sty, hst⟩ := st_lst s0 (by wtm_at "mem")
    have tl : ∀ {l : Led} {H' : Hp}, Stt H [st] l H' → All2 (TillAt H') xs cs := fun s => ht.imp fun _ _ h => h.kt (kt_st s.keep hst)
    wtm_at "rd"
    refine somew_ask (m := 3) s0 (by wtm_at "mem") (by wtm_at "mem") hn (by wtm_at "own") rfl (by decide) fun pw ws H1 hpw s1 hwl hwn hwb => ?_
    clear s0
    wtm_at "rd"
    refine take_ask s1 (by wtm_at "mem") (by wtm_at "mem") hn (by wtm_at "own") (by decide) fun d H2 hd s2 => ?_
    clear s1
    obtain ⟨m, rfl⟩ := Int.eq_ofNat_of_zero_le hd.1
    wtm_at "rd"
    refine ⟨pw, _, rfl, SqL.of (s2.get (a := pw) (by wtm_at "mem")), fun q hq => ?_⟩
    rw [show (1 : Int) + (m : Nat) = ((m + 1 : Nat) : Int) by omega, cutTo, ← List.map_take]
    have s3 := s2.new hq (.lst ((ws.take (m + 1)).map V.str))
    have hqH := s2.none hq
    clear s2
    generalize hvs : ws.take (m + 1) = vs at s3
    have hvl : vs.length = m + 1 := by rw [← hvs, List.length_take]; omega
    have hvn : vs.Nodup := by rw [← hvs]; exact hwn.sublist (List.take_sublist _ _)
    have hvb : ∀ z ∈ vs, WordS z = true := fun z mz => hwb z (by rw [← hvs] at mz; exact List.mem_of_mem_take mz)
    generalize upd H2 q (HO.lst (vs.map V.str)) = H3 at s3
    have kH3 := s3.keep
    obtain ⟨sty3, hst3⟩ := st_lst s3 (by wtm_at "mem")
    have eq3 := s3.get (a := q) (by wtm_at "mem")
    have hqn : q ∉ [st] := fun mq => by rw [List.mem_singleton.mp mq, hst] at hqH; cases hqH
    have u3 := sttRb s3
    clear s3
    have tl3 : ∀ {l : Led} {H' : Hp}, Stt H3 [st] l H' → All2 (TillAt H') xs cs := fun s => ht.imp fun _ _ h => h.kt (kt_st (kpT kH3 s.keep) hst)
    wtm_at "rd"
    refine (show Rd.WX K (V.ref q) H3 _ from ?_)
    refine Rd.lcXH (SqX.l (SqL.of eq3)) hqn u3 (fun D i acc H1 => ∃ ts, All2 (TaskA .told (ex D (nw H3 H1))) acc ts ∧ ts.map (·.1) = vs.take i ∧ ∀ t ∈ ts, WordS t.1 = true ∧ RowsG (cs.map (·.1)) false 3 12 t.2) (fun D hD => ⟨[], .nil, by simp, fun _ m => nomatch m⟩) ?_ ?_
    · rintro D hD i x HA acc hi ⟨ts, hg, hgn, hgg⟩ hac s4 ex'
      obtain ⟨z, ez, rfl⟩ : ∃ z, vs[i]? = some z ∧ x = .str z := by
        rw [List.getElem?_map] at ex'
        cases e : vs[i]? with
        | none => rw [e] at ex'; cases ex'
        | some z => rw [e] at ex'; cases ex'; exact ⟨z, rfl, rfl⟩
      obtain ⟨sty4, hst4⟩ := st_lst s4 (by wtm_at "mem")
      have eD4 := s4.get (a := D) List.mem_cons_self
      have dom := kp_dom s4.keep
      have ht4 := tl3 s4
      have s4' : Stt H3 [st] _ HA ∧ True := ⟨s4, trivial⟩
      clear s4 u3
      wtm_at "rd"
      refine sheet_ask s4'.1 (by wtm_at "subl") hn (by wtm_at "own") ht4 hz fun v rs HB hrs hr kB s5 => ?_
      clear s4'
      have eD5 := s5.get (a := D) List.mem_cons_self
      have s5' : Stt H3 [st] _ HB ∧ True := ⟨s5, trivial⟩
      clear s5
      wtm_at "rd"
      refine ⟨by simp [sizeLine], fun tp htp => ?_⟩
      have s6 := s5'.1.new htp (.tup [.str z, v])
      have hTD : tp ≠ D := fun q => by rw [q, eD5] at htp; cases htp
      have step : ∀ b o, ex D (nw H3 HB) b = some o → ex D (nw H3 (upd (upd HB tp (.tup [.str z, v])) D (.lst (acc ++ [.ref tp])))) b = some o := fun b o h => upd_step b o (exnw_step (fun b o n e _ => by rw [upd_ne (fun q => by rw [q, htp] at e; cases e)]; exact e) b o h)
      have hi3 : i < 100000 := by rw [List.length_map] at hi; omega
      refine Rd.lcHE (s6.sub (by wtm_at "subl")) hD hi3 hac ⟨ts ++ [(z, rs)], ?_, ?_, fun t m => ?_⟩
      · refine (hg.imp fun _ _ h => (h.ext (old_step hst4 ⟨_, hst3⟩ kB)).ext step).app (.cons ⟨tp, v, rfl, .inr (ex_mk hTD (nw_t ?_)), (hr.ext (new_step eD4 eD5 dom)).ext step⟩ .nil)
        rw [upd_ne hTD, upd_same]
      · rw [List.map_append, hgn, take_snoc ez]
        rfl
      · rcases List.mem_append.mp m with m | m
        · exact hgg t m
        · rw [List.mem_singleton.mp m]
          exact ⟨hvb z (List.mem_of_getElem? ez), hrs⟩
    · rintro D HA acc hD hD0 hac ⟨ts, hg, hgn, hgg⟩ s4
      clear u3
      wtm_at "rd"
      rw [List.length_map, List.take_length] at hgn
      have hl : ts.length = m + 1 := by rw [← hvl, ← hgn, List.length_map]
      refine k D acc ts HA (kp_dom kH3 D hD0) (Stt.sub ⟨kpT kH3 s4.keep, s4.nd, s4.at_⟩ (by wtm_at "subl")) (hg.imp fun _ _ h => h.ext fun b o e => nw_step (kp_dom kH3) (fun _ _ e _ => e) b o (ex_of e).2) (by omega) (by omega) (by rw [hgn]; exact hvn) hgg
end

section
/-! ### told rows as objects -/
def vOb : V → Ob
  | .int i => .num i
  | .str z => .str z
  | _ => .non
mutual
def rowOb : LRow → Ob
  | .mk n as ps => .sq (.str n :: (as.map vOb ++ obP ps))
def obP : List (List LRow) → List Ob
  | [] => []
  | p :: r => .sq (obR p) :: obP r
def obR : List LRow → List Ob
  | [] => []
  | x :: r => rowOb x :: obR r
end
theorem depO_app : ∀ {a b : List Ob}, depO (a ++ b) = max (depO a) (depO b)
  | [], b => by rw [List.nil_append, depO, Nat.zero_max]
  | x :: r, b => by rw [List.cons_append, depO, depO, depO_app, Nat.max_assoc]
theorem vOb_dep : ∀ as : List V, depO (as.map vOb) = 0
  | [] => by rw [List.map_nil, depO]
  | v :: r => by
    rw [List.map_cons, depO, vOb_dep r]
    cases v <;> rfl
mutual
theorem rowOb_dep : ∀ r : LRow, (rowOb r).dep ≤ 2 * r.dep + 1
  | .mk n as ps => by
    have := obP_dep ps
    rw [rowOb, Ob.dep, depO, depO_app, vOb_dep, LRow.dep, show Ob.dep (.str n) = 0 from rfl]
    omega
theorem obP_dep : ∀ ps : List (List LRow), depO (obP ps) ≤ 2 * depP ps
  | [] => by rw [obP, depO]; exact Nat.zero_le _
  | p :: r => by
    have := obR_dep p
    have := obP_dep r
    rw [obP, depO, Ob.dep, depP]
    omega
theorem obR_dep : ∀ rs : List LRow, depO (obR rs) ≤ 2 * depR rs + 1
  | [] => by rw [obR, depO]; exact Nat.zero_le _
  | x :: r => by
    have := rowOb_dep x
    have := obR_dep r
    rw [obR, depO, depR]
    omega
end
theorem word_le {z : Str} (h : WordB z = true) : z.length ≤ 1000 := by
  unfold WordB at h
  rw [Bool.and_eq_true, Bool.and_eq_true, decide_eq_true_iff, decide_eq_true_iff] at h
  omega
theorem shp_name {n : Str} {as : List V} {m : Nat} (h : Shp n as m) : n.length ≤ 1000 ∧ as.length ≤ 2 ∧ m ≤ 2 := by
  cases h <;> exact ⟨by decide +kernel, by simp, by omega⟩
theorem ats_ob {n : Str} {as : List V} {m : Nat} {cs : List Str} {H : Hp} (h : Shp n as m) (h1 : n = "say" → ∀ z, as = [.str z] → WordB z = true) (h2 : n = "take" ∨ n = "give" → ∀ c, as = [.str c] → c ∈ cs) (hc : ∀ z ∈ cs, z.length ≤ 1000) : ObAll H as (as.map vOb) := by
  cases h with
  | work lo hi => exact .cons (.num _) (.cons (.num _) .nil)
  | say z => exact .cons (.str _ (word_le (h1 rfl z rfl))) .nil
  | pass => exact .nil
  | sleep n => exact .cons (.num _) .nil
  | take c => exact .cons (.str _ (hc _ (h2 (.inl rfl) c rfl))) .nil
  | give c => exact .cons (.str _ (hc _ (h2 (.inr rfl) c rfl))) .nil
  | either => exact .nil
  | ever => exact .nil
  | within n => exact .cons (.num _) .nil
section
variable {c : Cf} {H : Hp} {cs : List Str}
mutual
theorem rw_ob (hc : ∀ z ∈ cs, z.length ≤ 1000) : ∀ {v : V} {r : LRow} {g : Bool}, RwA c H v r → r.shp → r.val cs g → ObA H v (rowOb r)
  | _, _, g, .mk (n := n) (as := as) (ps := ps) h ha hz r, hs, hv => by
    rw [LRow.shp] at hs
    rw [LRow.val] at hv
    obtain ⟨k1, k2, k3⟩ := shp_name hs.1
    have hl := RsAll.len r
    rw [rowOb]
    refine .sq (Cf.rX h) ?_ (.cons (.str _ k1) ((ats_ob hs.1 hv.1 hv.2.1 hc).app (rsall_ob hc r hs.2 hv.2.2.2)))
    rw [List.length_cons, List.length_append, hl]
    omega
theorem rwall_ob (hc : ∀ z ∈ cs, z.length ≤ 1000) : ∀ {v : List V} {r : List LRow} {g : Bool}, RwAll c H v r → shpR r → valR cs g r → ObAll H v (obR r)
  | _, _, _, .nil, _, _ => by rw [obR]; exact .nil
  | _, _, g, .cons h t, hs, hv => by
    rw [shpR] at hs
    rw [valR] at hv
    rw [obR]
    exact .cons (rw_ob hc h hs.1 hv.1) (rwall_ob hc t hs.2 hv.2.2)
theorem rs_ob (hc : ∀ z ∈ cs, z.length ≤ 1000) : ∀ {v : V} {r : List LRow} {g : Bool}, RsA c H v r → shpR r → valR cs g r → ObA H v (.sq (obR r))
  | _, _, g, .mk h hz r, hs, hv => .sq (Cf.sX h) hz (rwall_ob hc r hs hv)
theorem rsall_ob (hc : ∀ z ∈ cs, z.length ≤ 1000) : ∀ {v : List V} {r : List (List LRow)} {g : Bool}, RsAll c H v r → shpP r → valP cs g r → ObAll H v (obP r)
  | _, _, _, .nil, _, _ => by rw [obP]; exact .nil
  | _, _, g, .cons h t, hs, hv => by
    rw [shpP] at hs
    rw [valP] at hv
    rw [obP]
    exact .cons (rs_ob hc h hs.1 hv.1) (rsall_ob hc t hs.2 hv.2)
end
end
theorem obs_ext {H H' : Hp} {vs : List V} {os : List Ob} (k : ∀ b o, H b = some o → H' b = some o) (h : ObAll H vs os) : ObAll H' vs os := Lt.ObAll.kd ⟨fun b xs e => k b _ e, fun b xs e => k b _ e, fun b xs e => k b _ e⟩ h
theorem ob_ext {H H' : Hp} {v : V} {o : Ob} (k : ∀ b o, H b = some o → H' b = some o) (h : ObA H v o) : ObA H' v o := h.kd ⟨fun b xs e => k b _ e, fun b xs e => k b _ e, fun b xs e => k b _ e⟩
/-! ### what is new; what is none of some -/
def fr (H H' : Hp) : Hp := fun b => match H b with
  | none => H' b
  | some _ => none
theorem fr_mk {H H' : Hp} {b : Addr} {o : HO} (h : H b = none) (e : H' b = some o) : fr H H' b = some o := by
  unfold fr
  rw [h]
  exact e
theorem fr_of {H H' : Hp} {b : Addr} {o : HO} (e : fr H H' b = some o) : H b = none ∧ H' b = some o := by
  unfold fr at e
  split at e
  · rename_i h
    exact ⟨h, e⟩
  · cases e
def exs (S : List Addr) (H : Hp) : Hp := fun b => if b ∈ S then none else H b
theorem exs_mk {S : List Addr} {H : Hp} {b : Addr} {o : HO} (n : b ∉ S) (e : H b = some o) : exs S H b = some o := by
  unfold exs
  rw [if_neg n]
  exact e
theorem exs_of {S : List Addr} {H : Hp} {b : Addr} {o : HO} (e : exs S H b = some o) : b ∉ S ∧ H b = some o := by
  unfold exs at e
  split at e
  · cases e
  · rename_i n
    exact ⟨n, e⟩
theorem exs_kp {S T : List Addr} {H H' : Hp} (k : Kp T H H') (ht : ∀ x ∈ T, x ∈ S) : ∀ b o, exs S H b = some o → exs S H' b = some o := fun b o e => by
  obtain ⟨n, e⟩ := exs_of e
  exact exs_mk n (k.get (fun m => n (ht b m)) e)
theorem exs_any {S : List Addr} {H : Hp} : ∀ b o, exs S H b = some o → H b = some o := fun b o e => (exs_of e).2
theorem exs_anti {S T : List Addr} {H : Hp} (h : ∀ x ∈ S, x ∈ T) : ∀ b o, exs T H b = some o → exs S H b = some o := fun b o e => by
  obtain ⟨n, e⟩ := exs_of e
  exact exs_mk (fun m => n (h b m)) e
/-- addresses that are not yet in use can be left out too -/
theorem exs_new {S T : List Addr} {H H' : Hp} (k : ∀ b o, exs S H b = some o → exs S H' b = some o) (hT : ∀ x ∈ T, H x = none) : ∀ b o, exs S H b = some o → exs (T ++ S) H' b = some o := fun b o e => by
  obtain ⟨n, e'⟩ := exs_of (k b o e)
  refine exs_mk (fun m => ?_) e'
  rcases List.mem_append.mp m with m | m
  · have := (exs_of e).2
    rw [hT b m] at this
    cases this
  · exact n m
theorem fr_exs {S : List Addr} {H H' : Hp} (hS : ∀ x ∈ S, ∃ o, H x = some o) : ∀ b o, fr H H' b = some o → exs S H' b = some o := fun b o e => by
  obtain ⟨n, e⟩ := fr_of e
  refine exs_mk (fun m => ?_) e
  obtain ⟨u, q⟩ := hS b m
  rw [n] at q
  cases q
end

section
variable {P : Program} {w : World} {K : PySem.W.Frag} {mg : Str → Option Value} {base : Heap}
/-! ### a row that is wrong -/
def spOdd : Sp := fun vs H Q _ => ∃ (st c : Addr) (ns : List Int), vs = [.ref st] ∧ Stt H [st] (dled st c ns) H ∧ ns.length ≤ 63 ∧ ∀ v o H', ObA (fr H H') v o → o.dep ≤ 5 → Stt H [st] (dled st c ns) H' → Q v H'
theorem fr_kp {S : List Addr} {H H1 H2 : Hp} (k : Kp S H1 H2) (hs : ∀ x ∈ S, ∃ o, H x = some o) : ∀ b o, fr H H1 b = some o → fr H H2 b = some o := fun b o e => by
  obtain ⟨n, e⟩ := fr_of e
  exact fr_mk n (k.get (fun m => by obtain ⟨u, q⟩ := hs b m; rw [n] at q; cases q) e)
local macro_rules | `(tactic| wtm_at "obs") => `(tactic| first | exact .nil | (refine' .cons ?h1 ?t1; (case h1 => wtm_at "ob"); (case t1 => wtm_at "obs")))
local macro_rules | `(tactic| wtm_at "ob") => `(tactic| first | exact .non | exact .bl _ | exact .num _ | exact .str _ (by decide +kernel) | exact .dct (fr_mk (by assumption) (Stt.get (by assumption) (by wtm_at "mem"))) | (refine' .sq (.inr (fr_mk (by assumption) (Stt.get (by assumption) (by wtm_at "mem")))) (by simp) ?r1; (case r1 => wtm_at "obs")) | (refine' .sq (.inl (fr_mk (by assumption) (Stt.get (by assumption) (by wtm_at "mem")))) (by simp) ?r1; (case r1 => wtm_at "obs")))
theorem Stt.rebase {H H1 H2 : Hp} {S : List Addr} {l l1 : Led} (s2 : Stt H1 S l H2) (s1 : Stt H S l1 H1) : Stt H S l H2 := ⟨s1.keep.trans s2.keep fun _ m => .inl m, s2.nd, s2.at_⟩
def OdP (H : Hp) (st c : Addr) (ns : List Int) (k : Nat) : L2.St → Hp → Prop := fun σ' H' => ∃ D us os, σ' = [some (.ref st), some (.ref D)] ∧ Stt H [st] ((D, Is (.lst us)) :: dled st c ns) H' ∧ H D = none ∧ ObAll (fr H H') us os ∧ depO os ≤ 5 ∧ us.length ≤ k ∧ 1 ≤ us.length
theorem od_step {H H1 H2 : Hp} {st c D D' : Addr} {ns : List Int} {us ws : List V} {os ps : List Ob} {k m : Nat} {l : Led} (hst : ∀ x ∈ [st], ∃ o, H x = some o) (s1 : Stt H [st] ((D, Is (.lst us)) :: dled st c ns) H1) (hu : ObAll (fr H H1) us os) (hd : depO os ≤ 5) (hl : us.length ≤ k ∧ 1 ≤ us.length)
    (s2 : Stt H1 [st] l H2) (sb : List.Sublist ((D', Is (.lst (us ++ ws))) :: dled st c ns) l) (hD : H1 D' = none) (hw : ObAll (fr H1 H2) ws ps) (hp : depO ps ≤ 5) (hm : ws.length ≤ m) : OdP H st c ns (k + m) [some (.ref st), some (.ref D')] H2 := by
  refine ⟨D', us ++ ws, os ++ ps, rfl, Stt.rebase (s2.sub sb) s1, s1.none hD, (obs_ext (fr_kp s2.keep hst) hu).app (obs_ext (fun b o e => ?_) hw), ?_, ?_, ?_⟩
  · obtain ⟨e1, e2⟩ := fr_of e
    exact fr_mk (s1.none e1) e2
  · rw [depO_app]
    exact Nat.max_le.mpr ⟨hd, hp⟩
  · rw [List.length_append]
    omega
  · rw [List.length_append]
    omega
theorem ok_l_odd_row (T : Txt K mg) : FnOk P w K mg base CX0 4 (He.fAd K ("_law_odd_row", none)) T.fd_l_odd_row ["_law_state"] spOdd := by
  refine T.F_l_odd_row.ok sc_l_odd_row (fun vs H Q E h => ?_) (fun cdv A outer s H vs Q E hr h => ?_)
  · obtain ⟨st, c, ns, rfl, _⟩ := h
    rfl
  · obtain ⟨st, c, ns, rfl, s0, hn, k⟩ := h
    refine ⟨_, PSs.nox (C8.pss_cut (ps_asg (pe_lst (pa_cons pe_non (pa_cons pe_int (pa_cons pe_str (pa_cons (pe_lst pa_nil) (pa_cons (pe_tup (pa_cons pe_str (pa_cons pe_int pa_nil))) (pa_cons (pe_tup (pa_cons pe_str (pa_cons pe_int pa_nil))) (pa_cons (pe_tup (pa_cons pe_str (pa_cons pe_int (pa_cons pe_int pa_nil)))) (pa_cons (pe_tup (pa_cons pe_str (pa_cons pe_int (pa_cons pe_int pa_nil)))) (pa_cons (pe_tup (pa_cons pe_str (pa_cons pe_bl (pa_cons pe_int pa_nil)))) pa_nil)))))))))) (pg_name (i := 1) sc_l_odd_row.nd rfl (by first | exact Or.inl rfl | exact Or.inr rfl)))
  (C8.pss_cut (ps_asg (pe_op op_cat (pv 1) (pe_lst (pa_cons (pe_tup (pa_cons pe_str (pa_cons (pe_un un_neg pe_int) (pa_cons pe_int pa_nil)))) (pa_cons (pe_tup (pa_cons pe_str (pa_cons pe_int pa_nil))) (pa_cons (pe_tup (pa_cons pe_str (pa_cons pe_int pa_nil))) (pa_cons (pe_tup (pa_cons pe_str (pa_cons pe_str pa_nil))) (pa_cons (pe_tup (pa_cons pe_str (pa_cons pe_str pa_nil))) (pa_cons (pe_tup (pa_cons pe_str (pa_cons pe_non pa_nil))) (pa_cons pe_dnewK pa_nil))))))))) (pg_name (i := 1) sc_l_odd_row.nd rfl (by first | exact Or.inl rfl | exact Or.inr rfl)))
  (C8.pss_cut (ps_asg (pe_op op_cat (pv 1) (pe_lst (pa_cons (pe_tup (pa_cons pe_str (pa_cons pe_str pa_nil))) (pa_cons (pe_tup (pa_cons pe_str (pa_cons pe_non pa_nil))) (pa_cons (pe_tup (pa_cons pe_str (pa_cons (pe_lst pa_nil) pa_nil))) (pa_cons (pe_tup (pa_cons pe_str (pa_cons (pe_lst pa_nil) (pa_cons pe_non pa_nil)))) (pa_cons (pe_tup (pa_cons pe_str (pa_cons (pe_lst pa_nil) pa_nil))) (pa_cons (pe_tup (pa_cons pe_str pa_nil)) pa_nil)))))))) (pg_name (i := 1) sc_l_odd_row.nd rfl (by first | exact Or.inl rfl | exact Or.inr rfl)))
  (C8.pss_cut (ps_asg (pe_op op_cat (pv 1) (pe_lst (pa_cons (pe_tup (pa_cons pe_str (pa_cons pe_int (pa_cons (pe_lst pa_nil) (pa_cons (pe_lst pa_nil) pa_nil))))) (pa_cons (pe_tup (pa_cons pe_str (pa_cons pe_int (pa_cons (pe_tup pa_nil) (pa_cons pe_str pa_nil))))) (pa_cons (pe_tup (pa_cons pe_str (pa_cons pe_int (pa_cons (pe_lst (pa_cons (pe_tup (pa_cons pe_str (pa_cons pe_int (pa_cons (pe_lst pa_nil) (pa_cons (pe_lst pa_nil) pa_nil))))) pa_nil)) (pa_cons (pe_lst pa_nil) pa_nil))))) pa_nil))))) (pg_name (i := 1) sc_l_odd_row.nd rfl (by first | exact Or.inl rfl | exact Or.inr rfl)))
  (C8.pss_cut (ps_asg (pe_op op_cat (pv 1) (pe_lst (pa_cons (pe_tup (pa_cons pe_str (pa_cons (pe_lst (pa_cons (pe_tup (pa_cons pe_str (pa_cons pe_str pa_nil))) pa_nil)) pa_nil))) (pa_cons (pe_tup (pa_cons pe_str (pa_cons (pe_lst (pa_cons (pe_tup (pa_cons pe_str (pa_cons pe_int (pa_cons (pe_lst (pa_cons (pe_tup (pa_cons pe_str pa_nil)) pa_nil)) (pa_cons (pe_lst pa_nil) pa_nil))))) pa_nil)) pa_nil))) (pa_cons (pe_tup (pa_cons pe_non pa_nil)) (pa_cons (pe_tup (pa_cons pe_str (pa_cons pe_non pa_nil))) pa_nil)))))) (pg_name (i := 1) sc_l_odd_row.nd rfl (by first | exact Or.inl rfl | exact Or.inr rfl)))
  (pss_cons (ps_asg (pe_op op_cat (pv 1) (pe_lst (pa_cons (pe_tup (pa_cons pe_str (pa_cons pe_str pa_nil))) (pa_cons (pe_tup (pa_cons pe_str (pa_cons pe_str pa_nil))) (pa_cons (pe_tup (pa_cons pe_str (pa_cons pe_str pa_nil))) (pa_cons (pe_tup (pa_cons pe_str (pa_cons pe_int pa_nil))) (pa_cons (pe_tup (pa_cons pe_str (pa_cons pe_int (pa_cons pe_int pa_nil)))) pa_nil))))))) (pg_name (i := 1) sc_l_odd_row.nd rfl (by first | exact Or.inl rfl | exact Or.inr rfl)))
  (pss_cons (ps_expr (pe_bm PySem.F.plainAttrs_list PySem.F.slot_list_append PySem.F.type_list_append mt_append (pv 1) (pa_cons (pe_tup (pa_cons pe_str (pa_cons pe_int (pa_cons (pe_lst pa_nil) (pa_cons (pe_lst pa_nil) pa_nil))))) pa_nil)))
  (C8.pss_cut (ps_asg (pe_op op_cat (pv 1) (pe_lst (pa_cons (pe_tup (pa_cons pe_str (pa_cons (pe_lst (pa_cons (pe_tup (pa_cons pe_str (pa_cons (pe_lst (pa_cons (pe_tup (pa_cons pe_str pa_nil)) pa_nil)) (pa_cons (pe_lst pa_nil) pa_nil)))) pa_nil)) pa_nil))) (pa_cons (pe_tup (pa_cons pe_str (pa_cons pe_int (pa_cons (pe_lst pa_nil) (pa_cons (pe_lst (pa_cons (pe_tup (pa_cons pe_str (pa_cons pe_int (pa_cons (pe_lst pa_nil) (pa_cons (pe_lst pa_nil) pa_nil))))) pa_nil)) pa_nil))))) (pa_cons (pe_lst (pa_cons pe_str pa_nil)) pa_nil))))) (pg_name (i := 1) sc_l_odd_row.nd rfl (by first | exact Or.inl rfl | exact Or.inr rfl)))
  (C8.pss_cut (ps_asg (pe_op op_cat (pv 1) (pe_lst (pa_cons (pe_tup (pa_cons pe_str (pa_cons (pe_lst (pa_cons (pe_tup (pa_cons pe_str (pa_cons (pe_lst (pa_cons (pe_tup (pa_cons pe_str pa_nil)) pa_nil)) pa_nil))) (pa_cons (pe_tup (pa_cons pe_str pa_nil)) pa_nil))) (pa_cons (pe_lst pa_nil) pa_nil)))) (pa_cons (pe_tup (pa_cons pe_str (pa_cons (pe_lst (pa_cons (pe_tup (pa_cons pe_str (pa_cons pe_int pa_nil))) pa_nil)) pa_nil))) pa_nil)))) (pg_name (i := 1) sc_l_odd_row.nd rfl (by first | exact Or.inl rfl | exact Or.inr rfl)))
  (pss_one (ps_ret (pe_call (ok_l_one T) (hr.mono (by decide)) rfl T.g_l_one T.F_l_one.kp T.b_l_one .nil pass0 (pa_cons (pv 0) (pa_cons (pv 1) pa_nil)))))))))))))), ?_⟩
    wtm_at "k"
    obtain ⟨sty, hst⟩ := st_lst s0 (by wtm_at "mem")
    have hst' : ∀ x ∈ [st], ∃ o, H x = some o := fun x m => by rw [List.mem_singleton.mp m]; exact ⟨_, hst⟩
    refine Rd.cut (OdP H st c ns 9) ?_ ?_
    · wtm_at "rd"
      refine' ⟨_, _, _, rfl, Stt.sub (by assumption) (by wtm_at "subl"), by assumption, ?obs, ?dep, by simp, by simp⟩
      case obs => wtm_at "obs"
      case dep => decide +kernel
    rintro σ' H1 ⟨D, us, os, rfl, s1, hD, hu, hd, hl⟩
    have t1 : Stt H1 [st] ((D, Is (.lst us)) :: dled st c ns) H1 := ⟨.refl H1, s1.nd, s1.at_⟩
    refine Rd.cut (OdP H st c ns 16) ?_ ?_
    · wtm_at "rd"
      refine' od_step (m := 7) hst' s1 hu hd hl (by assumption) (by wtm_at "subl") (by assumption) ?obs ?dep (by simp)
      case obs => wtm_at "obs"
      case dep => decide +kernel
    clear t1 s1 hu hd hl hD
    rintro σ' H1 ⟨D, us, os, rfl, s1, hD, hu, hd, hl⟩
    have t1 : Stt H1 [st] ((D, Is (.lst us)) :: dled st c ns) H1 := ⟨.refl H1, s1.nd, s1.at_⟩
    refine Rd.cut (OdP H st c ns 22) ?_ ?_
    · wtm_at "rd"
      refine' od_step (m := 6) hst' s1 hu hd hl (by assumption) (by wtm_at "subl") (by assumption) ?obs ?dep (by simp)
      case obs => wtm_at "obs"
      case dep => decide +kernel
    clear t1 s1 hu hd hl hD
    rintro σ' H1 ⟨D, us, os, rfl, s1, hD, hu, hd, hl⟩
    have t1 : Stt H1 [st] ((D, Is (.lst us)) :: dled st c ns) H1 := ⟨.refl H1, s1.nd, s1.at_⟩
    refine Rd.cut (OdP H st c ns 25) ?_ ?_
    · wtm_at "rd"
      refine' od_step (m := 3) hst' s1 hu hd hl (by assumption) (by wtm_at "subl") (by assumption) ?obs ?dep (by simp)
      case obs => wtm_at "obs"
      case dep => decide +kernel
    clear t1 s1 hu hd hl hD
    rintro σ' H1 ⟨D, us, os, rfl, s1, hD, hu, hd, hl⟩
    have t1 : Stt H1 [st] ((D, Is (.lst us)) :: dled st c ns) H1 := ⟨.refl H1, s1.nd, s1.at_⟩
    refine Rd.cut (OdP H st c ns 29) ?_ ?_
    · wtm_at "rd"
      refine' od_step (m := 4) hst' s1 hu hd hl (by assumption) (by wtm_at "subl") (by assumption) ?obs ?dep (by simp)
      case obs => wtm_at "obs"
      case dep => decide +kernel
    clear t1 s1 hu hd hl hD
    rintro σ' H1 ⟨D, us, os, rfl, s1, hD, hu, hd, hl⟩
    have t1 : Stt H1 [st] ((D, Is (.lst us)) :: dled st c ns) H1 := ⟨.refl H1, s1.nd, s1.at_⟩
    wtm_at "rd"
    refine Rd.cut (OdP H st c ns 38) ?_ ?_
    · wtm_at "rd"
      rename_i s9
      rw [List.append_assoc, List.append_assoc] at s9
      refine' od_step (m := 9) hst' s1 hu hd hl (by assumption) (by wtm_at "subl") (by assumption) ?obs ?dep (by simp)
      case obs => wtm_at "obs"
      case dep => decide +kernel
    clear t1 s1 hu hd hl hD
    rintro σ' H1 ⟨D, us, os, rfl, s1, hD, hu, hd, hl⟩
    have t1 : Stt H1 [st] ((D, Is (.lst us)) :: dled st c ns) H1 := ⟨.refl H1, s1.nd, s1.at_⟩
    refine Rd.cut (OdP H st c ns 40) ?_ ?_
    · wtm_at "rd"
      refine' od_step (m := 2) hst' s1 hu hd hl (by assumption) (by wtm_at "subl") (by assumption) ?obs ?dep (by simp)
      case obs => wtm_at "obs"
      case dep => decide +kernel
    clear t1 s1 hu hd hl hD
    rintro σ' H1 ⟨D, us, os, rfl, s1, hD, hu, hd, hl⟩
    have t1 : Stt H1 [st] ((D, Is (.lst us)) :: dled st c ns) H1 := ⟨.refl H1, s1.nd, s1.at_⟩
    wtm_at "rd"
    refine one_ask t1 (by wtm_at "subl") hn (by wtm_at "own") ⟨by omega, by omega⟩ fun v H2 mv t2 => ?_
    obtain ⟨i, ei⟩ := List.getElem?_of_mem mv
    obtain ⟨o, eo, ho⟩ := hu.at_ ei
    exact k v o H2 (ob_ext (fr_kp t2.keep hst') ho) (Nat.le_trans (depO_mem (List.mem_of_getElem? eo)) hd) (Stt.sub (Stt.rebase t2 s1) (by wtm_at "subl"))
theorem odd_ask {H0 H : Hp} {S : List Addr} {l : Led} {st c : Addr} {ns : List Int} {Q : VK} {E : XK} (s : Stt H0 S l H) (m1 : (st, DrS c) ∈ l) (m2 : (c, Is (.lst (ns.map V.int))) ∈ l) (hn : ns.length ≤ 63) (hs : st ∈ S ∨ H0 st = none)
    (k : ∀ v o H', ObA (fr H H') v o → o.dep ≤ 5 → Kp [st] H H' → Stt H0 S l H' → Q v H') : spOdd ([.ref st] ++ []) H Q E :=
  ⟨st, c, ns, rfl, s.drawn m1 m2, hn, fun v o H' h1 h2 q => k v o H' h1 h2 q.keep (s.after1 m1 q.keep hs (q.pick (by wtm_at "mem")))⟩
end

section
variable {P : Program} {w : World} {K : PySem.W.Frag} {mg : Str → Option Value} {base : Heap}
/-! ### rows with a wrong one put in -/
theorem obs_set {H : Hp} {v : V} {o : Ob} (ho : ObA H v o) : ∀ {i : Nat} {vs : List V} {os : List Ob}, ObAll H vs os → ObAll H (vs.set i v) (os.set i o)
  | _, _, _, .nil => .nil
  | 0, _, _, .cons h t => .cons ho t
  | i + 1, _, _, .cons h t => .cons h (obs_set ho t)
theorem obs_take {H : Hp} : ∀ {i : Nat} {vs : List V} {os : List Ob}, ObAll H vs os → ObAll H (vs.take i) (os.take i)
  | 0, _, _, _ => by rw [List.take_zero, List.take_zero]; exact .nil
  | i + 1, _, _, .nil => by rw [List.take_nil, List.take_nil]; exact .nil
  | i + 1, _, _, .cons h t => by rw [List.take_succ_cons, List.take_succ_cons]; exact .cons h (obs_take t)
theorem obs_drop {H : Hp} : ∀ {i : Nat} {vs : List V} {os : List Ob}, ObAll H vs os → ObAll H (vs.drop i) (os.drop i)
  | 0, _, _, h => by rw [List.drop_zero, List.drop_zero]; exact h
  | i + 1, _, _, .nil => by rw [List.drop_nil, List.drop_nil]; exact .nil
  | i + 1, _, _, .cons h t => by rw [List.drop_succ_cons, List.drop_succ_cons]; exact obs_drop t
theorem depO_set {o : Ob} : ∀ {i : Nat} {os : List Ob}, depO (os.set i o) ≤ max (depO os) o.dep
  | _, [] => by rw [List.set_nil]; omega
  | 0, x :: r => by rw [List.set_cons_zero, depO, depO]; omega
  | i + 1, x :: r => by
    have := depO_set (o := o) (i := i) (os := r)
    rw [List.set_cons_succ, depO, depO]
    omega
theorem depO_ins {o : Ob} {i : Nat} {os : List Ob} : depO (os.take i ++ [o] ++ os.drop i) ≤ max (depO os) o.dep := by
  have h : depO os = max (depO (os.take i)) (depO (os.drop i)) := by rw [← depO_app, List.take_append_drop]
  rw [depO_app, depO_app, depO, depO, h]
  omega
theorem shO_row {n : Str} {as : List V} {ps : List (List LRow)} (h : Shp n as ps.length) : ∃ os qs : List Ob, ShO n os qs ∧ os.length = as.length ∧ qs.length = ps.length := shO_of h
theorem size_len : ∀ rs : List LRow, rs.length ≤ sizeR rs
  | [] => Nat.zero_le _
  | .mk n as ps :: r => by
    have := size_len r
    rw [List.length_cons, sizeR, LRow.size]
    omega
theorem kp_upd {H : Hp} {D : Addr} {o : HO} : Kp [D] H (upd H D o) := fun b u e => by
  by_cases h : b = D
  · subst h; exact .inr ⟨List.mem_cons_self, _, upd_same⟩
  · exact .inl (by rw [upd_ne h]; exact e)
theorem valR_mem {cs : List Str} {g : Bool} {x : LRow} : ∀ {rs : List LRow}, valR cs g rs → x ∈ rs → x.val cs g
  | y :: r, h, m => by
    rw [valR] at h
    rcases List.mem_cons.mp m with e | m
    · subst e; exact h.1
    · exact valR_mem h.2.2 m
theorem valP_mem {cs : List Str} {g : Bool} {x : List LRow} : ∀ {rs : List (List LRow)}, valP cs g rs → x ∈ rs → valR cs g x
  | y :: r, h, m => by
    rw [valP] at h
    rcases List.mem_cons.mp m with e | m
    · subst e; exact h.1
    · exact valP_mem h.2 m
theorem sizeR_mem {x : LRow} : ∀ {rs : List LRow}, x ∈ rs → x.size ≤ sizeR rs
  | y :: r, m => by
    rw [sizeR]
    rcases List.mem_cons.mp m with e | m
    · subst e; omega
    · have := sizeR_mem m; omega
theorem sizeP_mem {x : List LRow} : ∀ {rs : List (List LRow)}, x ∈ rs → sizeR x ≤ sizeP rs
  | y :: r, m => by
    rw [sizeP]
    rcases List.mem_cons.mp m with e | m
    · subst e; omega
    · have := sizeP_mem m; omega
theorem ixN_nat {n j : Nat} (h : j < n) : ixN n (j : Int) = some j := by
  unfold ixN
  rw [if_pos (by omega), if_pos (by omega)]
  rfl
mutual
theorem rw_dp {c : Cf} {H : Hp} : ∀ {v : V} {r : LRow}, RwA c H v r → ∃ d, Dp K H v d ∧ d.plain = true ∧ d.depth ≤ 2 * r.dep + 1
  | _, _, .mk (n := n) (as := as) (ps := ps) h ha hz r => by
    obtain ⟨ds, h1, h2, h3⟩ := rsall_dp r
    have g : ∀ as : List V, (∀ v ∈ as, Atm v) → ∃ es, DpAll K H as es ∧ PyData.plainAll es = true ∧ PyData.depthAll es = 0 := fun as => by
      induction as with
      | nil => exact fun _ => ⟨[], .nil, rfl, rfl⟩
      | cons v r ih =>
        intro ha
        obtain ⟨es, g1, g2, g3⟩ := ih fun v m => ha v (List.mem_cons_of_mem _ m)
        rcases ha v List.mem_cons_self with ⟨i, rfl⟩ | ⟨z, rfl⟩
        · exact ⟨_, .cons (.int i) g1, by rw [PyData.plainAll, g2]; rfl, by rw [PyData.depthAll, g3]; rfl⟩
        · exact ⟨_, .cons (.str z) g1, by rw [PyData.plainAll, g2]; rfl, by rw [PyData.depthAll, g3]; rfl⟩
    obtain ⟨es, g1, g2, g3⟩ := g as ha
    have j : ∀ {as bs : List V} {es ds : List PyData}, DpAll K H as es → PyData.plainAll es = true → PyData.depthAll es = 0 → DpAll K H bs ds → DpAll K H (as ++ bs) (es ++ ds) ∧ (PyData.plainAll ds = true → PyData.plainAll (es ++ ds) = true) ∧ PyData.depthAll (es ++ ds) = PyData.depthAll ds := fun {as bs es ds} => by
      intro h1 h2 h3 h4
      induction as generalizing es with
      | nil => cases h1; exact ⟨h4, fun z => z, rfl⟩
      | cons a r ih =>
        cases h1 with
        | cons x y =>
          rw [PyData.plainAll, Bool.and_eq_true] at h2
          rw [PyData.depthAll] at h3
          obtain ⟨k1, k2, k3⟩ := ih y h2.2 (by omega)
          refine ⟨.cons x k1, fun z => ?_, ?_⟩
          · rw [List.cons_append, PyData.plainAll, h2.1, k2 z]; rfl
          · rw [List.cons_append, PyData.depthAll, k3]; omega
    obtain ⟨k1, k2, k3⟩ := j g1 g2 g3 h1
    have hd : PyData.depthAll (.str n :: (es ++ ds)) ≤ 2 * depP ps := by
      rw [PyData.depthAll, k3, show (PyData.str n).depth = 0 from rfl]
      omega
    have hp : PyData.plainAll (.str n :: (es ++ ds)) = true := by rw [PyData.plainAll, k2 h2]; rfl
    rw [LRow.dep]
    rcases Cf.rX h with h | h
    · exact ⟨_, .lst (SqL.of h) (.cons (.str n) k1), by rw [PyData.plain]; exact hp, by rw [PyData.depth]; omega⟩
    · exact ⟨_, .tup (SqT.of h) (.cons (.str n) k1), by rw [PyData.plain]; exact hp, by rw [PyData.depth]; omega⟩
theorem rwall_dp {c : Cf} {H : Hp} : ∀ {v : List V} {r : List LRow}, RwAll c H v r → ∃ d, DpAll K H v d ∧ PyData.plainAll d = true ∧ PyData.depthAll d ≤ 2 * depR r + 1
  | _, _, .nil => ⟨[], .nil, rfl, Nat.zero_le _⟩
  | _, _, .cons h t => by
    obtain ⟨d, h1, h2, h3⟩ := rw_dp h
    obtain ⟨e, g1, g2, g3⟩ := rwall_dp t
    refine ⟨d :: e, .cons h1 g1, by rw [PyData.plainAll, h2, g2]; rfl, ?_⟩
    rw [PyData.depthAll, depR]
    omega
theorem rs_dp {c : Cf} {H : Hp} : ∀ {v : V} {r : List LRow}, RsA c H v r → ∃ d, Dp K H v d ∧ d.plain = true ∧ d.depth ≤ 2 * depR r + 2
  | _, _, .mk h hz r => by
    obtain ⟨ds, h1, h2, h3⟩ := rwall_dp r
    rcases Cf.sX h with h | h
    · exact ⟨_, .lst (SqL.of h) h1, by rw [PyData.plain]; exact h2, by rw [PyData.depth]; omega⟩
    · exact ⟨_, .tup (SqT.of h) h1, by rw [PyData.plain]; exact h2, by rw [PyData.depth]; omega⟩
theorem rsall_dp {c : Cf} {H : Hp} : ∀ {v : List V} {r : List (List LRow)}, RsAll c H v r → ∃ d, DpAll K H v d ∧ PyData.plainAll d = true ∧ PyData.depthAll d ≤ 2 * depP r
  | _, _, .nil => ⟨[], .nil, rfl, Nat.zero_le _⟩
  | _, _, .cons h t => by
    obtain ⟨d, h1, h2, h3⟩ := rs_dp h
    obtain ⟨e, g1, g2, g3⟩ := rsall_dp t
    refine ⟨d :: e, .cons h1 g1, by rw [PyData.plainAll, h2, g2]; rfl, ?_⟩
    rw [PyData.depthAll, depP]
    omega
end
def spBent (n : Nat) : Sp := fun vs H Q _ => ∃ (st c : Addr) (ns : List Int) (S : List Addr) (v : V) (rs : List LRow) (cs : List Str) (g : Bool), vs = [.ref st, v] ∧ Stt H [st] (dled st c ns) H ∧ ns.length ≤ 63 ∧ st ∈ S ∧ (∀ x ∈ S, ∃ o, H x = some o) ∧ RsA .told (exs S H) v rs ∧ shpR rs ∧ valR cs g rs ∧ (∀ z ∈ cs, z.length ≤ 1000) ∧ sizeR rs ≤ 90 ∧ depR rs ≤ n ∧
  ∀ D o H', ObA (exs S H') (.ref D) o → o.isSq = true → o.dep ≤ 2 * depR rs + 6 → Stt H [st] (dled st c ns) H' → Q (.ref D) H'
theorem bent_body (T : Txt K mg) (n k : Nat) (hn : n ≤ 20) (hk : k ≤ 60) (hk1 : 5 ≤ k) (sp0 : Sp) (F0 : FnOk P w K mg base CX0 k (He.fAd K ("_law_bent", none)) T.fd_l_bent ["_law_state", "_law_rows_here"] sp0)
    (h0 : ∀ vs H Q E, (∃ m, m + 1 = n ∧ spBent m vs H Q E) → sp0 vs H Q E) : FnOk P w K mg base CX0 (k + 1) (He.fAd K ("_law_bent", none)) T.fd_l_bent ["_law_state", "_law_rows_here"] (spBent n) := by
  refine T.F_l_bent.ok sc_l_bent (fun vs H Q E h => ?_) (fun cdv A outer s H vs Q E hr h => ?_)
  · obtain ⟨st, c, ns, S, v, rs, cs, g, rfl, _⟩ := h
    rfl
  · obtain ⟨st, c, ns, S, v, rs, cs, g, rfl, s0, hns, hst, hS, hv, hsh, hval, hcs, hz, hd, kQ⟩ := h
    refine ⟨_, PSs.nox (C8.pss_cut (ps_par (i := 2) (j := 3) (by rfl) sc_l_bent.nd rfl rfl (by decide) rfl rfl (pa_cons (pe_callTy call_listX (by rfl) T.n_list (by decide +kernel) (pa_cons (pv 1) pa_nil)) (pa_cons (pe_call (ok_l_take T) (hr.mono (Nat.le_trans (by decide) hk1)) rfl T.g_l_take T.F_l_take.kp T.b_l_take .nil pass0 (pa_cons (pv 0) (pa_cons (pe_op op_add (pe_callB call_lenQ (by rfl) T.n_len PySem.boot_len (pa_cons (pv 1) pa_nil)) pe_int) pa_nil))) pa_nil)) (by rfl))
  (C8.pss_cut (ps_if (PW.pt (pw_and (pt_cmpR op_lt (pv 3) (pe_callB call_lenQ (by rfl) T.n_len PySem.boot_len (pa_cons (pv 1) pa_nil)) (nomark _)) (pw_and (pt_cmpR (op_neP hr.units) (pe_call (ok_l_inner T) (hr.mono (Nat.le_trans (by decide) hk1)) rfl T.g_l_inner T.F_l_inner.kp T.b_l_inner .nil pass0 (pa_cons (pe_ix (ix_K7 (K := K) (r := fun K1 => rIxX K1) rfl ix_sqX) (pv 1) (pv 3) (fun _ _ => rfl)) pa_nil)) (pe_lst pa_nil) (nomark _)) (pw_and1 (pt_cmpR op_eq (pe_call (ok_l_take T) (hr.mono (Nat.le_trans (by decide) hk1)) rfl T.g_l_take T.F_l_take.kp T.b_l_take .nil pass0 (pa_cons (pv 0) (pa_cons pe_int pa_nil))) pe_int (nomark _)))))) (pss_cons (ps_par (i := 4) (j := 5) (by rfl) sc_l_bent.nd rfl rfl (by decide) rfl rfl (pa_cons (pe_callTy call_listX (by rfl) T.n_list (by decide +kernel) (pa_cons (pe_ix (ix_K7 (K := K) (r := fun K1 => rIxX K1) rfl ix_sqX) (pv 1) (pv 3) (fun _ _ => rfl)) pa_nil)) (pa_cons (pe_call (ok_l_take T) (hr.mono (Nat.le_trans (by decide) hk1)) rfl T.g_l_take T.F_l_take.kp T.b_l_take .nil pass0 (pa_cons (pv 0) (pa_cons (pe_callB call_lenQ (by rfl) T.n_len PySem.boot_len (pa_cons (pe_call (ok_l_inner T) (hr.mono (Nat.le_trans (by decide) hk1)) rfl T.g_l_inner T.F_l_inner.kp T.b_l_inner .nil pass0 (pa_cons (pe_ix (ix_K7 (K := K) (r := fun K1 => rIxX K1) rfl ix_sqX) (pv 1) (pv 3) (fun _ _ => rfl)) pa_nil)) pa_nil)) pa_nil))) pa_nil)) (by rfl))
  (pss_cons (ps_asg (pe_op op_add (pe_op op_sub (pe_callB call_lenQ (by rfl) T.n_len PySem.boot_len (pa_cons (pv 4) pa_nil)) (pe_callB call_lenQ (by rfl) T.n_len PySem.boot_len (pa_cons (pe_call (ok_l_inner T) (hr.mono (Nat.le_trans (by decide) hk1)) rfl T.g_l_inner T.F_l_inner.kp T.b_l_inner .nil pass0 (pa_cons (pe_ix (ix_K7 (K := K) (r := fun K1 => rIxX K1) rfl ix_sqX) (pv 1) (pv 3) (fun _ _ => rfl)) pa_nil)) pa_nil))) (pv 5)) (pg_name (i := 6) sc_l_bent.nd rfl (by first | exact Or.inl rfl | exact Or.inr rfl)))
  (pss_cons (ps_asg (pe_call F0 hr rfl T.g_l_bent T.F_l_bent.kp T.b_l_bent .nil pass0 (pa_cons (pv 0) (pa_cons (pe_ix ix_sqX (pv 4) (pv 6) (fun _ _ => rfl)) pa_nil))) (pg_sub (pv 4) (pv 6) set_list))
  (pss_cons (ps_asg (pe_callTy call_tuple_of (by rfl) T.n_tuple (by decide +kernel) (pa_cons (pv 4) pa_nil)) (pg_sub (pv 2) (pv 3) set_list))
  (pss_one (ps_ret (pv 2)))))))
   pss_nil)
  (pss_cons (ps_expr (pe_bm PySem.F.plainAttrs_list PySem.F.slot_list_insert PySem.F.type_list_insert mt_insert (pv 2) (pa_cons (pv 3) (pa_cons (pe_call (ok_l_odd_row T) (hr.mono (Nat.le_trans (by decide) hk1)) rfl T.g_l_odd_row T.F_l_odd_row.kp T.b_l_odd_row .nil pass0 (pa_cons (pv 0) pa_nil)) pa_nil))))
  (pss_one (ps_ret (pv 2)))))), ?_⟩
    wtm_at "k"
    cases hv with
    | @mk a us _ ha hz1 r =>
      have ha' : H a = some (.lst us) := (exs_of (show exs S H a = some (.lst us) from ha)).2
      have hal := r.len
      have ha2 := (exs_of (show exs S H a = some (.lst us) from ha)).1
      have hq : SqX K H a us := SqX.l (SqL.of ha')
      have hans : a ∉ [st] := fun m => ha2 (by rw [List.mem_singleton.mp m]; exact hst)
      have hul : us.length ≤ 90 := by have := size_len rs; omega
      have hSn : ∀ x, H x = none → x ∉ S := fun x e m => by obtain ⟨o, q⟩ := hS x m; rw [e] at q; cases q
      have hot : ObAll (exs S H) us (obR rs) := rwall_ob hcs r hsh hval
      have hsT : ∀ x ∈ [st], x ∈ S := fun x m => by rw [List.mem_singleton.mp m]; exact hst
      have hrd := obR_dep rs
      refine Rd.cut (fun σ' H' => ∃ (D : Addr) (j : Nat), σ' = [some (.ref st), some (.ref a), some (.ref D), some (.int (j : Nat)), none, none, none] ∧ Stt H [st] ((D, Is (.lst us)) :: dled st c ns) H' ∧ H D = none ∧ j ≤ us.length) ?_ ?_
      · wtm_at "rd"
        refine Rd.lstX s0 hq fun D H1 hD s1 => ?_
        have hq1 := hq.kp s1.keep hans
        clear s0
        wtm_at "rd"
        refine take_ask s1 (by wtm_at "mem") (by wtm_at "mem") hns (by wtm_at "own") (by omega) fun d H2 hd2 s2 => ?_
        obtain ⟨m, rfl⟩ := Int.eq_ofNat_of_zero_le hd2.1
        wtm_at "rd"
        exact ⟨D, m, rfl, s2, hD, by omega⟩
      · rintro σ' H1 ⟨D, j, rfl, s1, hD, hj⟩
        clear s0
        refine Rd.cut (fun σ' H' => (∃ v4 v5 v6 : Option V, σ' = [some (.ref st), some (.ref a), some (.ref D), some (.int (j : Nat)), v4, v5, v6]) ∧ Stt H [st] ((D, Is (.lst us)) :: dled st c ns) H') ?_ ?_
        · have hq1 := hq.kp s1.keep hans
          wtm_at "rd"
          refine Rd.brD (fun e1 => ?_) (fun e1 => ?_)
          · have hj2 : j < us.length := by omega
            have ej : us[j]? = some us[j] := List.getElem?_eq_getElem hj2
            generalize us[j] = u at ej
            have aj : atI us (j : Nat) = some u := atI_nat ej
            obtain ⟨rr, er, hr1⟩ := r.at_ ej
            have hsr := shpR_mem hsh (List.mem_of_getElem? er)
            cases hr1 with
            | @mk b nm as ps ws hb hba hbz hrp =>
              rw [LRow.shp] at hsr
              obtain ⟨os, qs, hO, hO1, hO2⟩ := shO_row hsr.1
              obtain ⟨hbS, hb'⟩ := exs_of (show exs S H b = some (.tup (.str nm :: (as ++ ws))) from hb)
              have hbns : b ∉ [st] := fun m => hbS (by rw [List.mem_singleton.mp m]; exact hst)
              have hqb : SqX K H b (.str nm :: (as ++ ws)) := SqX.t (SqT.of hb')
              have hwl := hrp.len
              have hw100 : ws.length ≤ 100 := by rw [List.length_append] at hbz; omega
              wtm_at "rd"
              refine linnerO_ask hO hO1 (by rw [hO2, hrp.len]) s1 (hqb.kp s1.keep hbns) fun p H2 s2 => ?_
              clear s1 hq1
              wtm_at "rd"
              rename_i q H3 hq3 s3
              clear s2
              have up : ∀ {l : Led} {H' : Hp}, Stt H [st] l H' → ∀ b o, exs S H b = some o → exs S H' b = some o := fun s => exs_kp s.keep hsT
              have hdr : LRow.dep (.mk nm as ps) ≤ depR rs := depR_mem (List.mem_of_getElem? er)
              rw [LRow.dep] at hdr
              obtain ⟨ds, d1, d2, d3⟩ := rsall_dp (K := K) (hrp.ext fun b o e => exs_any b o (up s3 b o e))
              have hdl := Lt.DpAll.len d1
              refine ⟨.list ds, .list [], .lst (SqL.of (s3.get (by wtm_at "mem"))) d1, .lst (SqL.of (s3.get (by wtm_at "mem"))) .nil, by rw [PyData.plain]; exact d2, rfl, by rw [PyData.depth]; omega, ?_⟩
              have hq3' := hq.kp s3.keep hans
              have hqb3 := hqb.kp s3.keep hbns
              cases ds with
              | nil =>
                wtm_at "rd"
                refine Rd.brT rfl ?_
                wtm_at "rd"
                exact ⟨⟨_, _, _, rfl⟩, s3.sub (by wtm_at "subl")⟩
              | cons d0 ds =>
                rw [List.length_cons] at hdl
                wtm_at "rd"
                refine Rd.brF rfl ?_
                wtm_at "rd"
                refine take_ask s3 (by wtm_at "mem") (by wtm_at "mem") hns (by wtm_at "own") (by decide) fun d H4 hd4 s4 => ?_
                have hq4 := hq.kp s4.keep hans
                have hqb4 := hqb.kp s4.keep hbns
                clear s3 hq3' hqb3 d1
                wtm_at "rd"
                refine Rd.brD (fun e2 => ?_) (fun e2 => ?_)
                · wtm_at "rd"
                  refine Rd.lstX s4 hqb4 fun R H5 hR s5 => ?_
                  have hq5 := hq.kp s5.keep hans
                  have hqb5 := hqb.kp s5.keep hbns
                  clear s4 hq4 hqb4
                  wtm_at "rd"
                  refine linnerO_ask hO hO1 (by rw [hO2, hrp.len]) s5 hqb5 fun p2 H6 s6 => ?_
                  have hq6 := hq.kp s6.keep hans
                  have hqb6 := hqb.kp s6.keep hbns
                  have hqp6 : SqX K H6 p2 ws := SqX.l (SqL.of (s6.get List.mem_cons_self))
                  clear s5 hq5 hqb5
                  wtm_at "rd"
                  refine take_ask s6 (by wtm_at "mem") (by wtm_at "mem") hns (by wtm_at "own") (by omega) fun d7 H7 hd7 s7 => ?_
                  obtain ⟨i, rfl⟩ := Int.eq_ofNat_of_zero_le hd7.1
                  have hq7 := hq.kp s7.keep hans
                  have hqb7 := hqb.kp s7.keep hbns
                  clear s6 hq6 hqb6 hqp6
                  wtm_at "rd"
                  refine linnerO_ask hO hO1 (by rw [hO2, hrp.len]) s7 hqb7 fun p3 H8 s8 => ?_
                  have hqp8 : SqX K H8 p3 ws := SqX.l (SqL.of (s8.get List.mem_cons_self))
                  clear s7 hq7 hqb7
                  wtm_at "rd"
                  have hi : i < ws.length := by omega
                  have ew : ws[i]? = some ws[i] := List.getElem?_eq_getElem hi
                  generalize ws[i] = w1 at ew
                  obtain ⟨p', ep', hwp⟩ := hrp.at_ ew
                  have mp' := List.mem_of_getElem? ep'
                  have epl : ((((V.str nm :: (as ++ ws)).length : Nat) : Int) - (ws.length : Nat) + (i : Nat)) = ((1 + as.length + i : Nat) : Int) := by rw [List.length_cons, List.length_append]; omega
                  rw [epl]
                  have hvr := valR_mem hval (List.mem_of_getElem? er)
                  rw [LRow.val] at hvr
                  have hzr := sizeR_mem (List.mem_of_getElem? er)
                  rw [LRow.size] at hzr
                  have hzp := sizeP_mem mp'
                  have hdp := depP_mem mp'
                  have hRH := s8.get (a := R) (by wtm_at "mem")
                  have hDH := s8.get (a := D) (by wtm_at "mem")
                  refine Rd.ixXL s8 (by wtm_at "mem") (atI_nat (by rw [show 1 + as.length + i = (as.length + i) + 1 by omega, List.getElem?_cons_succ, List.getElem?_append_right (by omega), show as.length + i - as.length = i by omega]; exact ew)) ?_
                  wtm_at "rd"
                  refine h0 _ _ _ _ ⟨n - 1, by omega, st, c, ns, [R, D] ++ S, w1, p', cs, _, rfl, s8.drawn (by wtm_at "mem") (by wtm_at "mem"), hns, List.mem_append_right _ hst, fun x mx => ?_, hwp.ext (exs_new (exs_kp s8.keep hsT) (fun x mx => ?_)), shpP_mem hsr.2 mp', valP_mem hvr.2.2.2 mp', hcs, by omega, by omega, fun D2 o2 H9 ho2 hsq2 hd2 t9 => ?_⟩
                  · simp only [List.cons_append, List.nil_append, List.mem_cons] at mx
                    rcases mx with rfl | rfl | mx
                    · exact ⟨_, hRH⟩
                    · exact ⟨_, hDH⟩
                    · obtain ⟨o, e⟩ := hS x mx
                      rcases s8.keep x o e with e' | ⟨_, u, e'⟩
                      · exact ⟨_, e'⟩
                      · exact ⟨_, e'⟩
                  · simp only [List.mem_cons, List.not_mem_nil, or_false] at mx
                    rcases mx with rfl | rfl
                    · exact hR
                    · exact hD
                  have s9 := s8.after1 (f := DrS c) (by wtm_at "mem") t9.keep (by wtm_at "own") (t9.pick (by wtm_at "mem"))
                  clear s8 hqp8
                  wtm_at "rd"
                  refine ⟨R, _, _, 1 + as.length + i, rfl, rfl, s9.get (by wtm_at "mem"), ixN_nat (by rw [List.length_cons, List.length_append]; omega), ?_⟩
                  have k10 : Kp [R] H9 (upd H9 R (HO.lst ((V.str nm :: (as ++ ws)).set (1 + as.length + i) (.ref D2)))) := kp_upd
                  have s10 := s9.set (a := R) (o := .lst ((V.str nm :: (as ++ ws)).set (1 + as.length + i) (.ref D2))) (by wtm_at "put") (.inr hR)
                  generalize upd H9 R (HO.lst ((V.str nm :: (as ++ ws)).set (1 + as.length + i) (.ref D2))) = H10 at s10 k10
                  clear s9
                  wtm_at "rd"
                  refine ⟨R, _, rfl, .inl ⟨SqL.of (s10.get (by wtm_at "mem")), fun T11 hT11 => ?_⟩⟩
                  have k11 : Kp [] H10 (upd H10 T11 (HO.tup ((V.str nm :: (as ++ ws)).set (1 + as.length + i) (.ref D2)))) := kp_new hT11
                  have hTH := s10.none hT11
                  have s11 := s10.new hT11 (.tup ((V.str nm :: (as ++ ws)).set (1 + as.length + i) (.ref D2)))
                  generalize upd H10 T11 (HO.tup ((V.str nm :: (as ++ ws)).set (1 + as.length + i) (.ref D2))) = H11 at s11 k11
                  clear s10
                  wtm_at "rd"
                  refine ⟨D, _, _, j, rfl, rfl, s11.get (by wtm_at "mem"), ixN_nat hj2, ?_⟩
                  have k12 : Kp [D] H11 (upd H11 D (HO.lst (us.set j (.ref T11)))) := kp_upd
                  have s12 := s11.set (a := D) (o := .lst (us.set j (.ref T11))) (by wtm_at "put") (.inr hD)
                  generalize upd H11 D (HO.lst (us.set j (.ref T11))) = H12 at s12 k12
                  clear s11
                  wtm_at "rd"
                  have up12 := up s12
                  have hrow : ObAll (exs S H) (.str nm :: (as ++ ws)) (.str nm :: (as.map vOb ++ obP ps)) := .cons (.str _ (shp_name hsr.1).1) ((ats_ob hsr.1 hvr.1 hvr.2.1 hcs).app (rsall_ob hcs hrp hsr.2 hvr.2.2.2))
                  have ho12 : ObA (exs S H12) (.ref D2) o2 := ob_ext (fun b u e => by
                    obtain ⟨m2, e⟩ := exs_of e
                    simp only [List.cons_append, List.nil_append, List.mem_cons, not_or] at m2
                    exact exs_mk m2.2.2 (k12.get (by simp [m2.2.1]) (k11.get List.not_mem_nil (k10.get (by simp [m2.1]) e)))) ho2
                  have hT12 : ObA (exs S H12) (.ref T11) (.sq ((Ob.str nm :: (as.map vOb ++ obP ps)).set (1 + as.length + i) o2)) := .sq (.inr (exs_mk (hSn T11 hTH) (s12.get (by wtm_at "mem")))) (by rw [List.length_set, List.length_cons, List.length_append, hwl]; have := (shp_name hsr.1); omega) (obs_set ho12 (obs_ext up12 hrow))
                  refine kQ D (.sq ((obR rs).set j (.sq ((Ob.str nm :: (as.map vOb ++ obP ps)).set (1 + as.length + i) o2)))) H12 (.sq (.inl (exs_mk (hSn D hD) (s12.get (by wtm_at "mem")))) (by rw [List.length_set]; omega) (obs_set hT12 (obs_ext up12 hot))) rfl ?_ (s12.sub (by wtm_at "subl"))
                  have g1 := depO_set (o := .sq ((Ob.str nm :: (as.map vOb ++ obP ps)).set (1 + as.length + i) o2)) (i := j) (os := obR rs)
                  have g2 := depO_set (o := o2) (i := 1 + as.length + i) (os := Ob.str nm :: (as.map vOb ++ obP ps))
                  have g3 := obP_dep ps
                  have g4 : depO (Ob.str nm :: (as.map vOb ++ obP ps)) ≤ 2 * depP ps := by
                    rw [depO, depO_app, vOb_dep, show Ob.dep (.str nm) = 0 from rfl]
                    omega
                  rw [Ob.dep] at g1 ⊢
                  omega
                · wtm_at "rd"
                  exact ⟨⟨_, _, _, rfl⟩, s4.sub (by wtm_at "subl")⟩
          · wtm_at "rd"
            exact ⟨⟨_, _, _, rfl⟩, s1⟩
        · rintro σ' H2 ⟨⟨v4, v5, v6, rfl⟩, s2⟩
          clear s1
          have hHD := s2.get (a := D) (by wtm_at "mem")
          wtm_at "rd"
          refine odd_ask s2 (by wtm_at "mem") (by wtm_at "mem") hns (by wtm_at "own") fun v o H3 ho hod k3 s3 => ?_
          refine ⟨D, us, (j : Nat), v, rfl, rfl, s3.get (by wtm_at "mem"), Nat.lt_of_le_of_lt hul (by decide), by omega, by omega, ?_⟩
          rw [show ((j : Nat) : Int).toNat = j by omega]
          have s4 := s3.set (a := D) (o := .lst (us.take j ++ [v] ++ us.drop j)) (by wtm_at "put") (.inr hD)
          have k4 : Kp [D] H3 (upd H3 D (HO.lst (us.take j ++ [v] ++ us.drop j))) := kp_upd
          generalize upd H3 D (HO.lst (us.take j ++ [v] ++ us.drop j)) = H4 at s4 k4
          wtm_at "rd"
          refine kQ D (.sq ((obR rs).take j ++ [o] ++ (obR rs).drop j)) H4 (.sq (.inl (exs_mk (hSn D hD) (s4.get (by wtm_at "mem")))) (by simp; omega) ?_) rfl ?_ (s4.sub (by wtm_at "subl"))
          · have h4 := obs_ext (exs_kp s4.keep hsT) hot
            refine ((obs_take h4).app (.cons (ob_ext (fun b u e => ?_) ho) .nil)).app (obs_drop h4)
            obtain ⟨n2, e2⟩ := fr_of e
            have hbD : b ≠ D := fun q => by rw [q, hHD] at n2; cases n2
            exact exs_mk (fun m => hSn b (s2.none n2) m) (k4.get (fun m => hbD (List.mem_singleton.mp m)) e2)
          · have := depO_ins (o := o) (i := j) (os := obR rs)
            rw [Ob.dep]
            omega
theorem ok_l_bent (T : Txt K mg) : ∀ n, n ≤ 20 → FnOk P w K mg base CX0 (n + 6) (He.fAd K ("_law_bent", none)) T.fd_l_bent ["_law_state", "_law_rows_here"] (spBent n)
  | 0, _ => bent_body T 0 5 (by omega) (by omega) (by omega) _ fnok_false fun vs H Q E ⟨m, h, _⟩ => by omega
  | n + 1, hn => bent_body T (n + 1) (n + 6) (by omega) (by omega) (by omega) _ (ok_l_bent T n (by omega)) fun vs H Q E ⟨m, h1, h2⟩ => by
    cases h1
    exact h2
theorem bent_ask {H0 H : Hp} {S0 : List Addr} {l : Led} {st c : Addr} {ns : List Int} {v : V} {rs : List LRow} {cs : List Str} {g : Bool} {n : Nat} {Q : VK} {E : XK} (s : Stt H0 S0 l H) (m1 : (st, DrS c) ∈ l) (m2 : (c, Is (.lst (ns.map V.int))) ∈ l) (hn : ns.length ≤ 63) (hs : st ∈ S0 ∨ H0 st = none)
    (hv : RsA .told (exs [st] H) v rs) (h1 : shpR rs) (h2 : valR cs g rs) (h3 : ∀ z ∈ cs, z.length ≤ 1000) (h4 : sizeR rs ≤ 90) (h5 : depR rs ≤ n)
    (k : ∀ D o H', ObA (exs [st] H') (.ref D) o → o.isSq = true → o.dep ≤ 2 * depR rs + 6 → Kp [st] H H' → Stt H0 S0 l H' → Q (.ref D) H') : spBent n ([.ref st, v] ++ []) H Q E := by
  refine ⟨st, c, ns, [st], v, rs, cs, g, rfl, s.drawn m1 m2, hn, List.mem_singleton_self _, fun x m => ?_, hv, h1, h2, h3, h4, h5, fun D o H' a b d q => k D o H' a b d q.keep (s.after1 m1 q.keep hs (q.pick (by wtm_at "mem")))⟩
  rw [List.mem_singleton.mp m]
  obtain ⟨ys, e⟩ := st_lst s m1
  exact ⟨_, e⟩
end

section
variable {P : Program} {w : World} {K : PySem.W.Frag} {mg : Str → Option Value} {base : Heap}
/-! ### a list with up to one odd thing put in; things as they are passed -/
def spWOdd : Sp := fun vs H Q _ => ∃ (st c a b : Addr) (ns : List Int) (us ws : List V) (os ps : List Ob), vs = [.ref st, .ref a, .ref b] ∧ Stt H [st] ((b, Is (.lst ws)) :: dled st c ns) H ∧ ns.length ≤ 63 ∧ exs [st] H a = some (.lst us) ∧ ObAll (exs [st] H) us os ∧ ObAll (exs [st] H) ws ps ∧ us.length ≤ 90 ∧ 1 ≤ ws.length ∧ ws.length ≤ 90 ∧
  ∀ D us' os' H', H D = none → exs [st] H' D = some (.lst us') → ObAll (exs [st] H') us' os' → us'.length ≤ us.length + 1 → (∀ x ∈ os', x ∈ os ∨ x ∈ ps) → Stt H [st] (dled st c ns) H' → Q (.ref D) H'
theorem wodd_ask {H0 H : Hp} {S0 : List Addr} {l : Led} {st c a b : Addr} {ns : List Int} {us ws : List V} {os ps : List Ob} {Q : VK} {E : XK} (s : Stt H0 S0 l H) (sb : List.Sublist ((b, Is (.lst ws)) :: dled st c ns) l) (hn : ns.length ≤ 63) (hs : st ∈ S0 ∨ H0 st = none)
    (ha : exs [st] H a = some (.lst us)) (hu : ObAll (exs [st] H) us os) (hw : ObAll (exs [st] H) ws ps) (h1 : us.length ≤ 90) (h2 : 1 ≤ ws.length) (h3 : ws.length ≤ 90)
    (k : ∀ D us' os' H', H0 D = none → H D = none → exs [st] H' D = some (.lst us') → ObAll (exs [st] H') us' os' → us'.length ≤ us.length + 1 → (∀ x ∈ os', x ∈ os ∨ x ∈ ps) → Kp [st] H H' → Stt H0 S0 l H' → Q (.ref D) H') : spWOdd ([.ref st, .ref a, .ref b] ++ []) H Q E :=
  ⟨st, c, a, b, ns, us, ws, os, ps, rfl, s.base sb, hn, ha, hu, hw, h1, h2, h3, fun D us' os' H' hD e1 e2 e3 e4 q => k D us' os' H' (s.none hD) hD e1 e2 e3 e4 q.keep (s.after1 (f := DrS c) (sb.subset (by simp [dled])) q.keep hs (q.pick (by wtm_at "mem")))⟩
theorem st_in {st : Addr} {H : Hp} {b : Addr} {o : HO} (e : exs [st] H b = some o) : b ∉ [st] ∧ H b = some o := exs_of e
theorem ok_l_with_odd (T : Txt K mg) : FnOk P w K mg base CX0 4 (He.fAd K ("_law_with_odd", none)) T.fd_l_with_odd ["_law_state", "_law_things", "_law_odd"] spWOdd := by
  refine T.F_l_with_odd.ok sc_l_with_odd (fun vs H Q E h => ?_) (fun cdv A outer s H vs Q E hr h => ?_)
  · obtain ⟨st, c, a, b, ns, us, ws, os, ps, rfl, _⟩ := h
    rfl
  · obtain ⟨st, c, a, b, ns, us, ws, os, ps, rfl, s0, hn, ha, hu, hw, hul, hw1, hw9, k⟩ := h
    refine ⟨_, PSs.nox (pss_cons (ps_asg (pe_callTy call_listX (by rfl) T.n_list (by decide +kernel) (pa_cons (pv 1) pa_nil)) (pg_name (i := 3) sc_l_with_odd.nd rfl (by first | exact Or.inl rfl | exact Or.inr rfl)))
  (C8.pss_cut (ps_if (pt_cmpR op_eq (pe_call (ok_l_take T) (hr.mono (by decide)) rfl T.g_l_take T.F_l_take.kp T.b_l_take .nil pass0 (pa_cons (pv 0) (pa_cons pe_int pa_nil))) pe_int (nomark _)) (pss_one (ps_expr (pe_bm PySem.F.plainAttrs_list PySem.F.slot_list_insert PySem.F.type_list_insert mt_insert (pv 3) (pa_cons (pe_call (ok_l_take T) (hr.mono (by decide)) rfl T.g_l_take T.F_l_take.kp T.b_l_take .nil pass0 (pa_cons (pv 0) (pa_cons (pe_op op_add (pe_callB call_lenQ (by rfl) T.n_len PySem.boot_len (pa_cons (pv 3) pa_nil)) pe_int) pa_nil))) (pa_cons (pe_call (ok_l_one T) (hr.mono (by decide)) rfl T.g_l_one T.F_l_one.kp T.b_l_one .nil pass0 (pa_cons (pv 0) (pa_cons (pv 2) pa_nil))) pa_nil)))))
   pss_nil)
  (pss_one (ps_ret (pv 3))))), ?_⟩
    wtm_at "k"
    obtain ⟨hans, ha'⟩ := st_in ha
    have hb' : H b = some (.lst ws) := s0.get (by wtm_at "mem")
    have hbns : b ∉ [st] := fun m => by
      have nd := s0.nd
      rw [List.mem_singleton.mp m] at nd
      simp [dled] at nd
    have hq : SqX K H a us := SqX.l (SqL.of ha')
    wtm_at "rd"
    refine Rd.lstX s0 hq fun D H1 hD s1 => ?_
    clear s0
    wtm_at "rd"
    have hDst : D ∉ [st] := fun m => by
      have nd := s1.nd
      rw [List.mem_singleton.mp m] at nd
      simp [dled] at nd
    have hDb : D ≠ b := fun e => by rw [e, hb'] at hD; cases hD
    refine Rd.cut (fun σ' H' => ∃ us' os', σ' = [some (.ref st), some (.ref a), some (.ref b), some (.ref D)] ∧ Stt H [st] ((D, Is (.lst us')) :: (b, Is (.lst ws)) :: dled st c ns) H' ∧ ObAll (exs [st] H') us' os' ∧ us'.length ≤ us.length + 1 ∧ (∀ x ∈ os', x ∈ os ∨ x ∈ ps)) ?_ ?_
    · have hu1 := obs_ext (exs_kp s1.keep fun x m => m) hu
      wtm_at "rd"
      refine take_ask s1 (by wtm_at "mem") (by wtm_at "mem") hn (by wtm_at "own") (by decide) fun d H2 hd s2 => ?_
      clear s1
      wtm_at "rd"
      refine Rd.brD (fun e1 => ?_) (fun e1 => ?_)
      · wtm_at "rd"
        refine take_ask s2 (by wtm_at "mem") (by wtm_at "mem") hn (by wtm_at "own") (by omega) fun d3 H3 hd3 s3 => ?_
        obtain ⟨j, rfl⟩ := Int.eq_ofNat_of_zero_le hd3.1
        clear s2
        wtm_at "rd"
        have hb3 := s3.keep.get hbns hb'
        have hD3 := s3.get (a := D) (by wtm_at "mem")
        have t3 : Stt H3 [st] ((D, Is (.lst us)) :: (b, Is (.lst ws)) :: dled st c ns) H3 := ⟨.refl H3, s3.nd, s3.at_⟩
        refine one_ask t3 (by wtm_at "subl") hn (by wtm_at "own") ⟨hw1, by omega⟩ fun v H4 mv t4 => ?_
        obtain ⟨i, ei⟩ := List.getElem?_of_mem mv
        obtain ⟨o, eo, ho⟩ := hw.at_ ei
        have mo := List.mem_of_getElem? eo
        have s4 := Stt.rebase t4 s3
        clear s3 t3
        refine ⟨D, us, (j : Nat), v, rfl, rfl, s4.get (by wtm_at "mem"), Nat.lt_of_le_of_lt hul (by decide), by omega, by omega, ?_⟩
        rw [show ((j : Nat) : Int).toNat = j by omega]
        have s5 := s4.set (a := D) (o := .lst (us.take j ++ [v] ++ us.drop j)) (by wtm_at "put") (.inr hD)
        generalize upd H4 D (HO.lst (us.take j ++ [v] ++ us.drop j)) = H5 at s5
        clear s4 t4
        wtm_at "rd"
        have up5 := exs_kp (S := [st]) s5.keep fun x m => m
        have h5 := obs_ext up5 hu
        refine ⟨_, os.take j ++ [o] ++ os.drop j, rfl, s5, ((obs_take h5).app (.cons (ob_ext up5 ho) .nil)).app (obs_drop h5), by simp; omega, fun x m => ?_⟩
        rcases List.mem_append.mp m with m | m
        · rcases List.mem_append.mp m with m | m
          · exact .inl (List.mem_of_mem_take m)
          · rw [List.mem_singleton.mp m]
            exact .inr mo
        · exact .inl (List.mem_of_mem_drop m)
      · wtm_at "rd"
        exact ⟨us, os, rfl, s2, obs_ext (exs_kp s2.keep fun x m => m) hu, by omega, fun x m => .inl m⟩
    · rintro σ' H2 ⟨us', os', rfl, s2, hu2, hl, hm⟩
      wtm_at "rd"
      exact k D us' os' H2 hD (exs_mk hDst (s2.get (by wtm_at "mem"))) hu2 hl hm (s2.sub (by wtm_at "subl"))
def spHnd7 : Sp := fun vs H Q _ => ∃ (st c a : Addr) (ns : List Int) (us : List V) (os : List Ob), vs = [.ref st, .ref a] ∧ Stt H [st] (dled st c ns) H ∧ ns.length ≤ 63 ∧ exs [st] H a = some (.lst us) ∧ ObAll (exs [st] H) us os ∧ us.length ≤ 100 ∧
  ∀ v H', ObA (exs [st] H') v (.sq os) → Stt H [st] (dled st c ns) H' → Q v H'
theorem ok_l_handed7 (T : Txt K mg) : FnOk P w K mg base CX0 3 (He.fAd K ("_law_handed", none)) T.fd_l_handed ["_law_state", "_law_things"] spHnd7 := by
  refine T.F_l_handed.ok sc_l_handed (fun vs H Q E h => ?_) (fun cdv A outer s H vs Q E hr h => ?_)
  · obtain ⟨st, c, a, ns, us, os, rfl, _⟩ := h
    rfl
  · obtain ⟨st, c, a, ns, us, os, rfl, s0, hn, ha, hu, hul, k⟩ := h
    refine ⟨_, PSs.nox (pss_one (ps_ret (pe_ifExp (pt_cmpR op_eq (pe_call (ok_l_take T) (hr.mono (by decide)) rfl T.g_l_take T.F_l_take.kp T.b_l_take .nil pass0 (pa_cons (pv 0) (pa_cons pe_int pa_nil))) pe_int (nomark _)) (pe_callTy call_listX (by rfl) T.n_list (by decide +kernel) (pa_cons (pv 1) pa_nil)) (pe_callTy call_tuple_of (by rfl) T.n_tuple (by decide +kernel) (pa_cons (pv 1) pa_nil))))), ?_⟩
    wtm_at "k"
    obtain ⟨hans, ha'⟩ := st_in ha
    obtain ⟨sty, hst⟩ := st_lst s0 (by wtm_at "mem")
    have hn2 : ∀ x, H x = none → x ∉ [st] := fun x e m => by rw [List.mem_singleton.mp m, hst] at e; cases e
    wtm_at "rd"
    refine take_ask s0 (by wtm_at "mem") (by wtm_at "mem") hn (by wtm_at "own") (by decide) fun d H1 hd s1 => ?_
    clear s0
    have ha1 := s1.keep.get hans ha'
    wtm_at "rd"
    refine Rd.brD (fun e => ?_) (fun e => ?_)
    · wtm_at "rd"
      refine Rd.lstX s1 (SqX.l (SqL.of ha1)) fun p H2 hp s2 => ?_
      exact k _ H2 (.sq (.inl (exs_mk (hn2 p hp) (s2.get (a := p) List.mem_cons_self))) hul (obs_ext (exs_kp s2.keep fun x m => m) hu)) (s2.sub (by wtm_at "subl"))
    · wtm_at "rd"
      refine ⟨a, us, rfl, .inl ⟨SqL.of ha1, fun p hp => ?_⟩⟩
      have hp' := s1.none hp
      have s2 := s1.new hp (.tup us)
      exact k _ _ (.sq (.inr (exs_mk (hn2 p hp') (s2.get (a := p) List.mem_cons_self))) hul (obs_ext (exs_kp s2.keep fun x m => m) hu)) (s2.sub (by wtm_at "subl"))
theorem hnd7_ask {H0 H : Hp} {S0 : List Addr} {l : Led} {st c a : Addr} {ns : List Int} {us : List V} {os : List Ob} {Q : VK} {E : XK} (s : Stt H0 S0 l H) (m1 : (st, DrS c) ∈ l) (m2 : (c, Is (.lst (ns.map V.int))) ∈ l) (hn : ns.length ≤ 63) (hs : st ∈ S0 ∨ H0 st = none) (ha : exs [st] H a = some (.lst us)) (hu : ObAll (exs [st] H) us os) (h1 : us.length ≤ 100)
    (k : ∀ v H', ObA (exs [st] H') v (.sq os) → Kp [st] H H' → Stt H0 S0 l H' → Q v H') : spHnd7 ([.ref st, .ref a] ++ []) H Q E :=
  ⟨st, c, a, ns, us, os, rfl, s.drawn m1 m2, hn, ha, hu, h1, fun v H' e q => k v H' e q.keep (s.after1 m1 q.keep hs (q.pick (by wtm_at "mem")))⟩
end

local macro_rules | `(tactic| wtm_at "ask") => `(tactic| ((with_reducible refine' fill_ask ?v1 ?v2 ?v3 ?v4 ?v5 ?_); (case v1 => assumption); (case v2 => wtm_at "mem"); (case v3 => wtm_at "mem"); (case v4 => assumption); (case v5 => wtm_at "own"); intro _ _))

local macro_rules | `(tactic| wtm_at "ask") => `(tactic| ((with_reducible refine' take_ask ?v1 ?v2 ?v3 ?v4 ?v5 ?v6 ?_); (case v1 => assumption); (case v2 => wtm_at "mem"); (case v3 => wtm_at "mem"); (case v4 => assumption); (case v5 => wtm_at "own"); (case v6 => first | decide | omega); intro _ _ _ _))
local macro_rules | `(tactic| wtm_at "ask") => `(tactic| ((with_reducible refine' one_ask ?v1 ?v2 ?v3 ?v4 ?v5 ?_); (case v1 => assumption); (case v2 => wtm_at "subl"); (case v3 => assumption); (case v4 => wtm_at "own"); (case v5 => simp only [List.length_append, List.length_cons, List.length_nil]; decide); intro _ _ _ _))
local macro_rules | `(tactic| wtm_at "ask") => `(tactic| ((with_reducible refine' fig_ask ?v1 ?v2 ?v3 ?v4 ?_); (case v1 => assumption); (case v2 => wtm_at "subl"); (case v3 => assumption); (case v4 => wtm_at "own"); intro _ _ _ _))
local macro_rules | `(tactic| wtm_at "ask") => `(tactic| ((with_reducible refine' low_ask ?v1 ?v2 ?v3 ?v4 ?_); (case v1 => assumption); (case v2 => first | assumption | omega); (case v3 => omega); (case v4 => omega); intro _ _ _ _))
local macro_rules | `(tactic| wtm_at "ask") => `(tactic| ((with_reducible refine' frac_ask ?v1 ?v2 ?v3 ?v4 ?_); (case v1 => assumption); (case v2 => wtm_at "subl"); (case v3 => assumption); (case v4 => wtm_at "own"); intro _ _ _ _ _ _ _))

section
variable {P : Program} {w : World} {K : PySem.W.Frag} {mg : Str → Option Value} {base : Heap}
/-! ### the law -/
theorem tills_ask {H0 H : Hp} {S : List Addr} {l : Led} {st c : Addr} {ns : List Int} {Q : VK} {E : XK} (s : Stt H0 S l H) (m1 : (st, DrS c) ∈ l) (m2 : (c, Is (.lst (ns.map V.int))) ∈ l) (hn : ns.length ≤ 63) (hs : st ∈ S ∨ H0 st = none)
    (k : ∀ (D : Addr) (us : List V) (cs : List Ctr) (H' : Hp), H0 D = none → H D = none → All2 (TillAt H') us cs → us.length ≤ 2 → (∀ c ∈ cs, CtrOk c) → Kp [st] H H' → Stt H0 S ((D, Is (.lst us)) :: l) H' → Q (.ref D) H') : spTills K ([.ref st] ++ []) H Q E :=
  ⟨st, c, ns, rfl, s.drawn m1 m2, hn, fun D us cs H' hD q h1 h2 h3 h4 => k D us cs H' (s.none hD) hD h1 h2 (fun c m => (h4 c m).1) q.keep ((s.after1 m1 q.keep hs (q.pick (by wtm_at "mem"))).add (q.pick (by wtm_at "mem")) (s.fresh hD))⟩
theorem sheets_ask {H0 H : Hp} {S : List Addr} {l : Led} {st c p : Addr} {ns : List Int} {xs : List V} {cs : List Ctr} {Q : VK} {E : XK} (s : Stt H0 S l H) (sb : List.Sublist (tled p xs st c ns) l) (hn : ns.length ≤ 63) (hs : st ∈ S ∨ H0 st = none) (ht : All2 (TillAt H) xs cs) (hz : xs.length ≤ 2)
    (k : ∀ (D : Addr) (us : List V) (ts : List Tsk) (H' : Hp), H0 D = none → H D = none → All2 (TaskA .told (nw H H')) us ts → 1 ≤ ts.length → ts.length ≤ 3 → (∀ t ∈ ts, WordB t.1 = true ∧ RowsG (cs.map (·.1)) false 3 12 t.2) → Kp [st] H H' → Stt H0 S ((D, Is (.lst us)) :: l) H' → Q (.ref D) H') : spSheets K ([.ref st, .int 3, .ref p] ++ []) H Q E :=
  ⟨st, c, p, ns, xs, cs, rfl, s.base sb, hn, ht, hz, fun D us ts H' hD q h1 h2 h3 h4 h5 => k D us ts H' (s.none hD) hD h1 h2 h3 (fun t m => ⟨(wordS (h5 t m).1).1, (h5 t m).2⟩) q.keep ((s.after1 (f := DrS c) (sb.subset (by simp)) q.keep hs (q.pick (by wtm_at "mem"))).add (q.pick (by wtm_at "mem")) (s.fresh hD))⟩
def ctOb (c : Ctr) : Ob := .sq [.str c.1, .num c.2.1, .num c.2.2]
def tkOb (t : Tsk) : Ob := .sq [.str t.1, .sq (obR t.2)]
theorem st_tup {st : Addr} {H : Hp} {ys : List V} (e : H st = some (.lst ys)) : ∀ b xs, H b = some (.tup xs) → exs [st] H b = some (.tup xs) := fun b xs h => exs_mk (fun m => by rw [List.mem_singleton.mp m, e] at h; cases h) h
theorem till_ob {H H' : Hp} (k : ∀ b xs, H b = some (.tup xs) → H' b = some (.tup xs)) : ∀ {us : List V} {cs : List Ctr}, All2 (TillAt H) us cs → (∀ c ∈ cs, CtrOk c) → ObAll H' us (cs.map ctOb)
  | _, _, .nil, _ => .nil
  | _, _, .cons h t, hc => by
    obtain ⟨a, rfl, e⟩ := h.ex
    exact .cons (.sq (.inr (k _ _ e)) (by simp) (.cons (.str _ (word_le (hc _ List.mem_cons_self).1)) (.cons (.num _) (.cons (.num _) .nil)))) (till_ob k t fun c m => hc c (List.mem_cons_of_mem _ m))
theorem task_ob {H : Hp} {cs : List Str} (hcs : ∀ z ∈ cs, z.length ≤ 1000) : ∀ {us : List V} {ts : List Tsk}, All2 (TaskA .told H) us ts → (∀ t ∈ ts, WordB t.1 = true ∧ RowsG cs false 3 12 t.2) → ObAll H us (ts.map tkOb)
  | _, _, .nil, _ => .nil
  | _, _, .cons h t, hc => by
    obtain ⟨a, r, rfl, e, hr⟩ := h.ex
    have h1 := hc _ List.mem_cons_self
    exact .cons (.sq e (by simp) (.cons (.str _ (word_le h1.1)) (.cons (rs_ob hcs hr h1.2.shp h1.2.val) .nil))) (task_ob hcs t fun c m => hc c (List.mem_cons_of_mem _ m))
theorem nw_exs {st : Addr} {H0 H : Hp} {ys : List V} (h0 : ∃ o, H0 st = some o) (h : H st = some (.lst ys)) : ∀ b o, nw H0 H b = some o → exs [st] H b = some o := fun b o e => by
  obtain ⟨e1, e2⟩ := nw_of e
  refine exs_mk (fun m => ?_) e1
  rw [List.mem_singleton.mp m] at e1 e2
  obtain ⟨u, hu⟩ := h0
  rcases e2 with ⟨xs, rfl⟩ | e2
  · rw [h] at e1; cases e1
  · rw [hu] at e2; cases e2
theorem obs_rep {H : Hp} {v : V} {o : Ob} (h : ObA H v o) : ∀ {n : Nat}, ObAll H (List.replicate n v) (List.replicate n o)
  | 0 => .nil
  | n + 1 => .cons h (obs_rep h)
theorem depO_rep {o : Ob} : ∀ {n : Nat}, depO (List.replicate n o) ≤ o.dep
  | 0 => Nat.zero_le _
  | n + 1 => by
    have := depO_rep (o := o) (n := n)
    rw [List.replicate_succ, depO]
    omega
/-- what is due, as far as it goes -/
def optP (d : Option (List V)) (p : V) (H : Hp) : Prop := match d with
  | none => p = .non
  | some l => ∃ a, p = .ref a ∧ H a = some (.tup l)
def due1 (os : List Ob) : Option (List V) := (tasksO (.sq os)).map fun (i : Nat) => [.str "task", .int (i : Nat)]
def due2 (os cs : List Ob) : Option (List V) := (due1 os).or ((ctrsO (.sq cs)).map fun (i : Nat) => [.str "till", .int (i : Nat)])
def due3 (os cs : List Ob) (vl : V) (ol : Ob) : Option (List V) := (due2 os cs).or (if ol.btw 0 99 = false then some [.str "late", vl] else none)
theorem due_all {os cs : List Ob} {vl : V} {ol : Ob} : dueV vl (dueO (.sq os) (.sq cs) ol) = (due3 os cs vl ol).getD (rowDue (cs.map obKey) os) := by
  unfold due3 due2 due1 dueO
  cases tasksO (.sq os) with
  | some i => rfl
  | none =>
    cases ctrsO (.sq cs) with
    | some i => rfl
    | none =>
      cases ol.btw 0 99 with
      | false => rfl
      | true =>
        simp only [obItems, rowDue, Option.map_none, Option.none_or, Bool.true_eq_false, if_false, Option.getD_none]
        cases seekAll (cs.map obKey) os with
        | some w => obtain ⟨n, k, e⟩ := w; rfl
        | none =>
          cases hurAll os with
          | some w => obtain ⟨n, k⟩ := w; rfl
          | none => rfl
local macro_rules | `(tactic| wtm_at "obs") => `(tactic| first | exact .nil | (refine' .cons ?h1 ?t1; (case h1 => wtm_at "ob"); (case t1 => wtm_at "obs")))
local macro_rules | `(tactic| wtm_at "ob") => `(tactic| first | exact .non | exact .bl _ | exact .num _ | exact .str _ (by first | assumption | decide +kernel) | exact .dct (fr_mk (by assumption) (Stt.get (by assumption) (by wtm_at "mem"))) | (refine' .sq (.inr (fr_mk (by assumption) (Stt.get (by assumption) (by wtm_at "mem")))) (by simp) ?r1; (case r1 => wtm_at "obs")) | (refine' .sq (.inl (fr_mk (by assumption) (Stt.get (by assumption) (by wtm_at "mem")))) (by simp) ?r1; (case r1 => wtm_at "obs")))
theorem obRows_dep (x : Ob) : (obRows x).dep ≤ x.dep := by
  cases x with
  | sq xs =>
    match xs with
    | [a, r] => rw [obRows, Ob.dep, depO, depO]; omega
    | [] => exact Nat.zero_le _
    | [_] => exact Nat.zero_le _
    | _ :: _ :: _ :: _ => exact Nat.zero_le _
  | _ => exact Nat.zero_le _
theorem rows_le {ps : List Ob} (h : depO ps ≤ 12) : ∀ x ∈ ps, (obRows x).dep ≤ 12 := fun x m => Nat.le_trans (obRows_dep x) (Nat.le_trans (depO_mem m) h)
def ctPd (c : Ctr) : PyData := .tuple [.str c.1, .int c.2.1, .int c.2.2]
theorem till_dpA {H : Hp} : ∀ {us : List V} {cs : List Ctr}, All2 (TillAt H) us cs → DpAll K H us (cs.map ctPd)
  | _, _, .nil => .nil
  | _, _, .cons h t => by
    obtain ⟨a, rfl, e⟩ := h.ex
    exact .cons (.tup (SqT.of e) (.cons (.str _) (.cons (.int _) (.cons (.int _) .nil)))) (till_dpA t)
theorem ctPd_plain : ∀ cs : List Ctr, PyData.plainAll (cs.map ctPd) = true
  | [] => rfl
  | c :: r => by rw [List.map_cons, PyData.plainAll, ctPd_plain r]; rfl
theorem ctPd_dep : ∀ cs : List Ctr, PyData.depthAll (cs.map ctPd) ≤ 1
  | [] => Nat.zero_le _
  | c :: r => by
    have := ctPd_dep r
    rw [List.map_cons, PyData.depthAll, ctPd]
    exact Nat.max_le.mpr ⟨Nat.le_refl _, this⟩
theorem sm_due {H : Hp} {f q : Addr} {vl : V} {d : Due} (hs : ∀ G n, Sm G n vl vl) (h1 : H f = some (.tup (dueV vl d))) (h2 : H q = some (.tup (dueV vl d))) : Sm H 3 (.ref f) (.ref q) := by
  have at1 : ∀ v ∈ dueV vl d, Sm H 2 v v := fun v m => by
    cases d with
    | made => simp only [dueV, List.mem_cons, List.not_mem_nil, or_false] at m; subst m; exact .str _ _
    | task i => simp only [dueV, List.mem_cons, List.not_mem_nil, or_false] at m; rcases m with rfl | rfl <;> first | exact .str _ _ | exact .int _ _
    | ctr i => simp only [dueV, List.mem_cons, List.not_mem_nil, or_false] at m; rcases m with rfl | rfl <;> first | exact .str _ _ | exact .int _ _
    | late => simp only [dueV, List.mem_cons, List.not_mem_nil, or_false] at m; rcases m with rfl | rfl <;> first | exact .str _ _ | exact hs _ _
    | row n k e => simp only [dueV, List.mem_cons, List.not_mem_nil, or_false] at m; rcases m with rfl | rfl | rfl | rfl <;> first | exact .str _ _ | exact .int _ _
  refine .tup h1 h2 rfl (by cases d <;> simp [dueV]) fun i x y e1 e2 => ?_
  rw [e1] at e2
  cases e2
  exact at1 x (List.mem_of_getElem? e1)
theorem due_ne_task {ot oc ol : Ob} (h : tasksO ot = none) : ∀ i, dueO ot oc ol ≠ .task i := fun i e => by
  unfold dueO at e
  rw [h] at e
  cases h1 : ctrsO oc with
  | some j => rw [h1] at e; cases e
  | none =>
    rw [h1] at e
    cases h2 : ol.btw 0 99 with
    | false => rw [h2] at e; cases e
    | true =>
      rw [h2] at e
      simp only [Bool.true_eq_false, if_false] at e
      cases h3 : seekAll ((obItems oc).map obKey) (obItems ot) with
      | some w => obtain ⟨n, k, y⟩ := w; rw [h3] at e; cases e
      | none =>
        rw [h3] at e
        simp only [] at e
        cases h4 : hurAll (obItems ot) with
        | some w => obtain ⟨n, k⟩ := w; rw [h4] at e; cases e
        | none => rw [h4] at e; cases e
/-- what stands in a turn -/
structure TnS (st T S : Addr) (vs us : List V) (os cs : List Ob) (H : Hp) : Prop where
  eT : exs [st] H T = some (.lst vs)
  hT : ObAll (exs [st] H) vs os
  eS : exs [st] H S = some (.lst us)
  hS : ObAll (exs [st] H) us cs
theorem TnS.kp {st T S : Addr} {vs us : List V} {os cs : List Ob} {H H' : Hp} (h : TnS st T S vs us os cs H) (k : Kp [st] H H') : TnS st T S vs us os cs H' :=
  ⟨exs_kp k (fun x m => m) _ _ h.eT, obs_ext (exs_kp k fun x m => m) h.hT, exs_kp k (fun x m => m) _ _ h.eS, obs_ext (exs_kp k fun x m => m) h.hS⟩
theorem TnS.kp0 {st T S : Addr} {vs us : List V} {os cs : List Ob} {H H' : Hp} (h : TnS st T S vs us os cs H) (k : Kp [] H H') : TnS st T S vs us os cs H' := h.kp (k.mono fun _ z => nomatch z)
def spLaw (K : PySem.W.Frag) : Sp := fun vs H Q _ => ∃ (a : Addr) (ns : List Int), vs = [.ref a] ∧ SqL K H a (ns.map V.int) ∧ ns.length ≤ 63 ∧ ∀ H', Q (.bl true) H'
theorem ok_law (T : Txt K mg) (D0 : TxtD K w) : FnOk P w K mg base CX0 26 (He.fAd K ("law", none)) T.fd_law ["_law_script"] (spLaw K) := by
  refine T.F_law.ok sc_law (fun vs H Q E h => ?_) (fun cdv A outer s H vs Q E hr h => ?_)
  · obtain ⟨a, ns, rfl, _⟩ := h
    rfl
  · obtain ⟨a, ns, rfl, hS, hl, k⟩ := h
    refine ⟨_, PSs.nox (pss_cons (ps_asg (pe_call (ok_l_fresh T) (hr.mono (by decide)) rfl T.g_l_fresh T.F_l_fresh.kp T.b_l_fresh .nil pass0 (pa_cons (pv 0) pa_nil)) (pg_name (i := 1) sc_law.nd rfl (by first | exact Or.inl rfl | exact Or.inr rfl)))
  (pss_cons (ps_for PassesOwn.never rfl (pi_range1 rfl T.n_range (pa_cons pe_int pa_nil)) (pg_name (i := 2) sc_law.nd rfl (by first | exact Or.inl rfl | exact Or.inr rfl))
   (C8.pss_cut (ps_asg (pe_call (ok_l_some_tills T) (hr.mono (by decide)) rfl T.g_l_some_tills T.F_l_some_tills.kp T.b_l_some_tills .nil pass0 (pa_cons (pv 1) pa_nil)) (pg_name (i := 3) sc_law.nd rfl (by first | exact Or.inl rfl | exact Or.inr rfl)))
  (C8.pss_cut (ps_asg (pe_call (ok_l_sheets T) (hr.mono (by decide)) rfl T.g_l_sheets T.F_l_sheets.kp T.b_l_sheets .nil pass0 (pa_cons (pv 1) (pa_cons pe_int (pa_cons (pe_slice sl_list (pv 3) po_none (po_some pe_int)) pa_nil)))) (pg_name (i := 4) sc_law.nd rfl (by first | exact Or.inl rfl | exact Or.inr rfl)))
  (C8.pss_cut (ps_par (i := 5) (j := 6) (by rfl) sc_law.nd rfl rfl (by decide) rfl rfl (pa_cons (pe_ix ix_sqX (pe_ix ix_sqX (pv 4) pe_int (fun _ _ => rfl)) pe_int (fun _ _ => rfl)) (pa_cons (pe_op op_rep (pe_lst (pa_cons (pe_tup (pa_cons pe_str (pa_cons pe_str pa_nil))) pa_nil)) (pe_call (ok_l_one T) (hr.mono (by decide)) rfl T.g_l_one T.F_l_one.kp T.b_l_one .nil pass0 (pa_cons (pv 1) (pa_cons (pe_lst (pa_cons pe_int (pa_cons pe_int pa_nil))) pa_nil)))) pa_nil)) (by rfl))
  (C8.pss_cut (ps_if (pt_cmpR op_gt (pe_call (ok_l_take T) (hr.mono (by decide)) rfl T.g_l_take T.F_l_take.kp T.b_l_take .nil pass0 (pa_cons (pv 1) (pa_cons pe_int pa_nil))) pe_int (nomark _)) (pss_one (ps_asg (pe_call (ok_l_bent T 3 (by decide)) (hr.mono (by decide)) rfl T.g_l_bent T.F_l_bent.kp T.b_l_bent .nil pass0 (pa_cons (pv 1) (pa_cons (pe_ix ix_sqX (pe_ix ix_sqX (pv 4) pe_int (fun _ _ => rfl)) pe_int (fun _ _ => rfl)) pa_nil))) (pg_name (i := 6) sc_law.nd rfl (by first | exact Or.inl rfl | exact Or.inr rfl))))
   pss_nil)
  (C8.pss_cut (ps_asg (pe_ifExp (pt_cmpR op_eq (pe_call (ok_l_take T) (hr.mono (by decide)) rfl T.g_l_take T.F_l_take.kp T.b_l_take .nil pass0 (pa_cons (pv 1) (pa_cons pe_int pa_nil))) pe_int (nomark _)) (pe_op op_cat (pe_lst (pa_cons (pe_tup (pa_cons (pv 5) (pa_cons (pv 6) pa_nil))) pa_nil)) (pe_slice sl_list (pv 4) (po_some pe_int) po_none)) (pe_op op_cat (pe_slice sl_list (pv 4) (po_some pe_int) po_none) (pe_lst (pa_cons (pe_tup (pa_cons (pv 5) (pa_cons (pv 6) pa_nil))) pa_nil)))) (pg_name (i := 7) sc_law.nd rfl (by first | exact Or.inl rfl | exact Or.inr rfl)))
  (C8.pss_cut (ps_asg (pe_lst (pa_cons pe_non (pa_cons pe_int (pa_cons (pe_tup (pa_cons pe_str pa_nil)) (pa_cons (pe_tup (pa_cons pe_str (pa_cons (pe_lst pa_nil) pa_nil))) (pa_cons (pe_tup (pa_cons pe_str (pa_cons (pe_lst pa_nil) pa_nil))) (pa_cons (pe_tup (pa_cons pe_str (pa_cons (pe_lst pa_nil) pa_nil))) (pa_cons (pe_tup (pa_cons (pv 5) (pa_cons (pe_lst pa_nil) pa_nil))) (pa_cons (pe_tup (pa_cons pe_str (pa_cons pe_non pa_nil))) (pa_cons pe_str pa_nil)))))))))) (pg_name (i := 8) sc_law.nd rfl (by first | exact Or.inl rfl | exact Or.inr rfl)))
  (C8.pss_cut (ps_asg (pe_op op_cat (pv 8) (pe_lst (pa_cons (pe_tup (pa_cons pe_str (pa_cons pe_str pa_nil))) (pa_cons (pe_tup (pa_cons pe_str (pa_cons (pe_lst pa_nil) (pa_cons (pe_lst pa_nil) pa_nil)))) (pa_cons pe_dnewK (pa_cons (pe_tup (pa_cons pe_str (pa_cons (pe_lst pa_nil) pa_nil))) pa_nil)))))) (pg_name (i := 8) sc_law.nd rfl (by first | exact Or.inl rfl | exact Or.inr rfl)))
  (C8.pss_cut (ps_asg (pe_call (ok_l_with_odd T) (hr.mono (by decide)) rfl T.g_l_with_odd T.F_l_with_odd.kp T.b_l_with_odd .nil pass0 (pa_cons (pv 1) (pa_cons (pv 7) (pa_cons (pv 8) pa_nil)))) (pg_name (i := 7) sc_law.nd rfl (by first | exact Or.inl rfl | exact Or.inr rfl)))
  (C8.pss_cut (ps_asg (pe_lst (pa_cons pe_non (pa_cons (pe_tup (pa_cons pe_str (pa_cons pe_int pa_nil))) (pa_cons (pe_tup (pa_cons pe_str (pa_cons pe_int (pa_cons pe_int pa_nil)))) (pa_cons (pe_tup (pa_cons pe_str (pa_cons pe_int (pa_cons pe_int pa_nil)))) (pa_cons (pe_tup (pa_cons pe_str (pa_cons pe_int (pa_cons pe_int pa_nil)))) (pa_cons (pe_tup (pa_cons pe_str (pa_cons pe_int (pa_cons pe_int pa_nil)))) (pa_cons (pe_tup (pa_cons pe_str (pa_cons pe_bl (pa_cons pe_int pa_nil)))) (pa_cons pe_str pa_nil))))))))) (pg_name (i := 8) sc_law.nd rfl (by first | exact Or.inl rfl | exact Or.inr rfl)))
  (C8.pss_cut (ps_asg (pe_op op_cat (pv 8) (pe_lst (pa_cons (pe_tup (pa_cons pe_str (pa_cons pe_int (pa_cons pe_int pa_nil)))) (pa_cons (pe_tup (pa_cons pe_str (pa_cons pe_int (pa_cons pe_int pa_nil)))) (pa_cons (pe_tup (pa_cons pe_str (pa_cons (pe_un un_neg pe_int) (pa_cons pe_int pa_nil)))) (pa_cons (pe_ifExp (pt_cmpR (op_neP hr.units) (pv 3) (pe_lst pa_nil) (nomark _)) (pe_ix ix_sqX (pv 3) pe_int (fun _ _ => rfl)) pe_int) pa_nil)))))) (pg_name (i := 8) sc_law.nd rfl (by first | exact Or.inl rfl | exact Or.inr rfl)))
  (C8.pss_cut (ps_asg (pe_call (ok_l_with_odd T) (hr.mono (by decide)) rfl T.g_l_with_odd T.F_l_with_odd.kp T.b_l_with_odd .nil pass0 (pa_cons (pv 1) (pa_cons (pv 3) (pa_cons (pv 8) pa_nil)))) (pg_name (i := 9) sc_law.nd rfl (by first | exact Or.inl rfl | exact Or.inr rfl)))
  (C8.pss_cut (ps_asg (pe_call (ok_l_one T) (hr.mono (by decide)) rfl T.g_l_one T.F_l_one.kp T.b_l_one .nil pass0 (pa_cons (pv 1) (pa_cons (pe_lst (pa_cons pe_int (pa_cons pe_int (pa_cons pe_int (pa_cons pe_int (pa_cons pe_int (pa_cons pe_int (pa_cons (pe_un un_neg pe_int) (pa_cons pe_bl (pa_cons pe_non (pa_cons pe_str pa_nil))))))))))) pa_nil))) (pg_name (i := 10) sc_law.nd rfl (by first | exact Or.inl rfl | exact Or.inr rfl)))
  (C8.pss_cut (ps_asg (pe_call (ok_l_task_due T) (hr.mono (by decide)) rfl T.g_l_task_due T.F_l_task_due.kp T.b_l_task_due .nil pass0 (pa_cons (pv 7) pa_nil)) (pg_name (i := 11) sc_law.nd rfl (by first | exact Or.inl rfl | exact Or.inr rfl)))
  (C8.pss_cut (ps_asg (pe_ifExp (pt_cmpR op_isN (pv 11) pe_non (nomark _)) (pe_call (ok_l_till_due T) (hr.mono (by decide)) rfl T.g_l_till_due T.F_l_till_due.kp T.b_l_till_due .nil pass0 (pa_cons (pv 9) pa_nil)) (pv 11)) (pg_name (i := 11) sc_law.nd rfl (by first | exact Or.inl rfl | exact Or.inr rfl)))
  (C8.pss_cut (ps_asg (pe_ifExp (PW.pt (pw_and (pt_cmpR op_isN (pv 11) pe_non (nomark _)) (pw_and1 (pt_not (pt_val (pe_call (ok_l_is_numberO T) (hr.mono (by decide)) rfl T.g_l_is_number T.F_l_is_number.kp T.b_l_is_number .nil pass0 (pa_cons (pv 10) (pa_cons pe_int (pa_cons pe_int pa_nil))))))))) (pe_tup (pa_cons pe_str (pa_cons (pv 10) pa_nil))) (pv 11)) (pg_name (i := 11) sc_law.nd rfl (by first | exact Or.inl rfl | exact Or.inr rfl)))
  (C8.pss_cut (ps_asg (pe_ifExp (pt_cmpR op_isN (pv 11) pe_non (nomark _)) (pe_call (ok_l_row_dueO T) (hr.mono (by decide)) rfl T.g_l_row_due T.F_l_row_due.kp T.b_l_row_due .nil pass0 (pa_cons (pv 7) (pa_cons (pe_lc (own := [("_law_x", 15)]) (g := gName 15) (tt := tYes) (by rfl) sc_law.nd (pi_seq (pv 9)) (blkOk_by (own := [("_law_x", 15)]) (N := ["_law_script", "_law_state", "_law_turn", "_law_tills", "_law_sheets_here", "_law_name", "_law_spoilt", "_law_tasks", "_law_odd", "_law_some", "_law_lag", "_law_due", "_law_passed", "_law_bare", "_law_found", "_law_x"]) (sc := defScope s_law) (by decide +kernel)) (fun _ _ _ _ _ => (pg_name (i := 15) sc_law.nd rfl (by first | exact Or.inl rfl | exact Or.inr rfl))) (fun _ _ _ _ _ => pts_nil) (fun _ _ _ _ _ => (pe_ix (ix_K7 (K := K) (r := fun K1 => rIxX K1) rfl ix_sqX) (pv 15) pe_int (fun _ _ => rfl)))) pa_nil))) (pv 11)) (pg_name (i := 11) sc_law.nd rfl (by first | exact Or.inl rfl | exact Or.inr rfl)))
  (C8.pss_cut (ps_asg (pe_call (ok_l_handed7 T) (hr.mono (by decide)) rfl T.g_l_handed T.F_l_handed.kp T.b_l_handed .nil pass0 (pa_cons (pv 1) (pa_cons (pv 7) pa_nil))) (pg_name (i := 12) sc_law.nd rfl (by first | exact Or.inl rfl | exact Or.inr rfl)))
  (C8.pss_cut (ps_if (pt_not (pt_val (pe_call (ok_l_same T 3 (by decide)) (hr.mono (by decide)) rfl T.g_l_same T.F_l_same.kp T.b_l_same .nil pass0 (pa_cons (pe_call (ok_l_tried T D0) (hr.mono (by decide)) rfl T.g_l_tried T.F_l_tried.kp T.b_l_tried .nil pass0 (pa_cons (pv 12) (pa_cons (pe_call (ok_l_handed7 T) (hr.mono (by decide)) rfl T.g_l_handed T.F_l_handed.kp T.b_l_handed .nil pass0 (pa_cons (pv 1) (pa_cons (pv 9) pa_nil))) (pa_cons (pv 10) pa_nil)))) (pa_cons (pv 11) pa_nil))))) (pss_one (ps_ret pe_bl))
   pss_nil)
  (C8.pss_cut (ps_asg (pe_call (ok_l_one T) (hr.mono (by decide)) rfl T.g_l_one T.F_l_one.kp T.b_l_one .nil pass0 (pa_cons (pv 1) (pa_cons (pe_lst (pa_cons pe_non (pa_cons pe_int (pa_cons pe_str (pa_cons pe_dnewK (pa_cons pe_bl (pa_cons (pe_lst pa_nil) (pa_cons (pe_tup pa_nil) pa_nil)))))))) pa_nil))) (pg_name (i := 13) sc_law.nd rfl (by first | exact Or.inl rfl | exact Or.inr rfl)))
  (C8.pss_cut (ps_if (pt_not (pt_val (pe_call (ok_l_same T 3 (by decide)) (hr.mono (by decide)) rfl T.g_l_same T.F_l_same.kp T.b_l_same .nil pass0 (pa_cons (pe_call (ok_l_tried T D0) (hr.mono (by decide)) rfl T.g_l_tried T.F_l_tried.kp T.b_l_tried .nil pass0 (pa_cons (pv 13) (pa_cons (pv 9) (pa_cons (pv 10) pa_nil)))) (pa_cons (pe_tup (pa_cons pe_str (pa_cons pe_int pa_nil))) pa_nil))))) (pss_one (ps_ret pe_bl))
   pss_nil)
  (C8.pss_cut (ps_asg (pe_call (ok_l_tried T D0) (hr.mono (by decide)) rfl T.g_l_tried T.F_l_tried.kp T.b_l_tried .nil pass0 (pa_cons (pv 7) (pa_cons (pe_call (ok_l_one T) (hr.mono (by decide)) rfl T.g_l_one T.F_l_one.kp T.b_l_one .nil pass0 (pa_cons (pv 1) (pa_cons (pe_lst (pa_cons pe_non (pa_cons pe_int (pa_cons pe_str (pa_cons pe_dnewK pa_nil))))) pa_nil))) (pa_cons (pv 10) pa_nil)))) (pg_name (i := 14) sc_law.nd rfl (by first | exact Or.inl rfl | exact Or.inr rfl)))
  (pss_one (ps_if (pt_not (pt_val (pe_call (ok_l_same T 3 (by decide)) (hr.mono (by decide)) rfl T.g_l_same T.F_l_same.kp T.b_l_same .nil pass0 (pa_cons (pv 14) (pa_cons (pe_ifExp (pt_cmpR op_eq (pe_ix ix_sqX (pv 11) pe_int (fun _ _ => rfl)) pe_str (nomark _)) (pv 11) (pe_tup (pa_cons pe_str (pa_cons pe_int pa_nil)))) pa_nil))))) (pss_one (ps_ret pe_bl))
   pss_nil))))))))))))))))))))))))
  (pss_one (ps_ret pe_bl)))), ?_⟩
    wtm_at "k"
    wtm_at "rd"
    refine ⟨a, ns, rfl, hS, hl, fun st c ms H1 hst s1 hm => ?_⟩
    wtm_at "rd"
    refine Rd.loop (walk_range (lo := 0) (n := Int.toNat 12)) (fun i σ H' => ∃ v2 v3 v4 v5 v6 v7 v8 v9 v10 v11 v12 v13 v14 : Option V, σ = [some (.ref a), some (.ref st), v2, v3, v4, v5, v6, v7, v8, v9, v10, v11, v12, v13, v14, none] ∧ Stt H [] (dled st c ms) H') ⟨_, _, _, _, _, _, _, _, _, _, _, _, _, rfl, s1⟩ (fun _ _ _ _ _ => trivial) ?_ ?_
    · rintro i x σ H2 H3 hi ⟨v2, v3, v4, v5, v6, v7, v8, v9, v10, v11, v12, v13, v14, rfl, s2⟩ ⟨rfl, rfl⟩
      have u0 : Stt H3 [st] (dled st c ms) H3 := s2.base (List.Sublist.refl _)
      have fin : ∀ {l : Led} {H' : Hp}, Stt H3 [st] l H' → (st, DrS c) ∈ l → Stt H [] (dled st c ms) H' := fun s m => s2.after1 (f := DrS c) (by simp) s.keep (.inr hst) (s.pick m)
      wtm_at "rd"
      refine Rd.cut (fun σ' H' => ∃ (D : Addr) (us : List V) (cs : List Ctr), σ' = [some (.ref a), some (.ref st), some (.int (0 + (i : Int))), some (.ref D), v4, v5, v6, v7, v8, v9, v10, v11, v12, v13, v14, none] ∧ Stt H3 [st] ((D, Is (.lst us)) :: dled st c ms) H' ∧ All2 (TillAt H') us cs ∧ us.length ≤ 2 ∧ (∀ c ∈ cs, CtrOk c)) ?_ ?_
      · wtm_at "rd"
        refine tills_ask u0 (by wtm_at "mem") (by wtm_at "mem") hm (by wtm_at "own") fun D us cs H4 hD0 hD ht hz hck k4 s4 => ?_
        exact ⟨D, us, cs, rfl, s4, ht, hz, hck⟩
      rintro σ' H4 ⟨D, us, cs, rfl, s4, ht, hz, hck⟩
      have hcl : cs.length ≤ 2 := by rw [← ht.len]; exact hz
      obtain ⟨sty3, hsty3⟩ := st_lst u0 (st := st) (c := c) (by wtm_at "mem")
      have hSt : ∀ x ∈ [st], ∃ o, H3 x = some o := fun x m => by rw [List.mem_singleton.mp m]; exact ⟨_, hsty3⟩
      have nst : ∀ x, H3 x = none → x ∉ [st] := fun x e m => by rw [List.mem_singleton.mp m, hsty3] at e; cases e
      clear u0
      refine Rd.cut (fun σ' H' => ∃ (E' : Addr) (xs : List V) (ts : List Tsk) (ks : List Str), σ' = [some (.ref a), some (.ref st), some (.int (0 + (i : Int))), some (.ref D), some (.ref E'), v5, v6, v7, v8, v9, v10, v11, v12, v13, v14, none] ∧ Stt H3 [st] ((E', Is (.lst xs)) :: (D, Is (.lst us)) :: dled st c ms) H' ∧ All2 (TillAt H') us cs ∧ All2 (TaskA .told (exs [st] H')) xs ts ∧ (1 ≤ ts.length ∧ ts.length ≤ 3) ∧ (∀ z ∈ ks, z.length ≤ 1000) ∧ (∀ t ∈ ts, WordB t.1 = true ∧ RowsG ks false 3 12 t.2)) ?_ ?_
      · wtm_at "rd"
        refine ⟨D, us, rfl, s4.sqL (by wtm_at "mem"), fun p hp => ?_⟩
        rw [show (1 : Int) = ((1 : Nat) : Int) from rfl, cutTo]
        obtain ⟨ys, hys⟩ := st_lst s4 (st := st) (c := c) (by wtm_at "mem")
        have s5 := s4.new hp (.lst (us.take 1))
        have hys5 := (kp_new (o := .lst (us.take 1)) hp).get List.not_mem_nil hys
        have ht5 : All2 (TillAt (upd H4 p (.lst (us.take 1)))) us cs := ht.imp fun _ _ q => q.kt (Kn.kp (kp_new hp)).kt
        clear s4
        generalize upd H4 p (.lst (us.take 1)) = H5 at *
        wtm_at "rd"
        refine sheets_ask s5 (by wtm_at "subl") hm (by wtm_at "own") (all2_take (n := 1) ht5) (by rw [List.length_take]; omega) fun E' xs ts H6 hE0 hE hx h1 h3 hg k6 s6 => ?_
        obtain ⟨ys6, hys6⟩ := st_lst s6 (st := st) (c := c) (by wtm_at "mem")
        refine ⟨E', xs, ts, _, rfl, s6.sub (by wtm_at "subl"), ht5.imp fun _ _ q => q.kt (kt_st k6 hys5), hx.imp fun _ _ q => q.ext (nw_exs ⟨_, hys5⟩ hys6), ⟨h1, h3⟩, fun z m => ?_, hg⟩
        obtain ⟨c1, m1, rfl⟩ := List.mem_map.mp m
        exact word_le (hck c1 (List.mem_of_mem_take m1)).1
      rintro σ' H5 ⟨E', xs, ts, ks, rfl, s5, ht5, hT5, hts, hks, hg⟩
      clear s4 ht
      have hxl := hT5.len
      obtain ⟨x0, hx0⟩ : ∃ x0, xs[0]? = some x0 := ⟨xs[0]'(by omega), List.getElem?_eq_getElem _⟩
      obtain ⟨t0, et0, hxt0⟩ := hT5.at_ hx0
      have mt0 := List.mem_of_getElem? et0
      obtain ⟨d0, r0, rfl, hd0, hr0⟩ := hxt0.ex
      have hd0' := hd0.imp (fun e => (exs_of e).2) (fun e => (exs_of e).2)
      have hd0n : d0 ∉ [st] := hd0.elim (fun e => (exs_of e).1) (fun e => (exs_of e).1)
      have hq0 : SqX K H5 d0 [.str t0.1, r0] := sqX_of hd0'
      refine Rd.cut (fun σ' H' => ∃ (F : Addr) (o : Ob), σ' = [some (.ref a), some (.ref st), some (.int (0 + (i : Int))), some (.ref D), some (.ref E'), some (.str t0.1), some (.ref F), v7, v8, v9, v10, v11, v12, v13, v14, none] ∧ Stt H3 [st] ((E', Is (.lst xs)) :: (D, Is (.lst us)) :: dled st c ms) H' ∧ Kp [st] H5 H' ∧ ObA (exs [st] H') (.ref F) o ∧ o.dep ≤ 12) ?_ ?_
      · have w5 := sttRb s5
        have a0 : atI [V.str t0.1, r0] 0 = some (.str t0.1) := atI_nat (j := 0) rfl
        wtm_at "rd"
        refine Rd.ixXL w5 (by wtm_at "mem") (atI_nat (j := 0) hx0) ?_
        wtm_at "rd"
        rename_i pt Ha hpt sa pl Hb hpl sb po Hc hpo sc kv Hd mv sd
        clear sa sb sc w5
        obtain ⟨n, rfl, hn⟩ : ∃ n : Nat, kv = .int (n : Nat) ∧ n ≤ 13 := by
          simp only [List.mem_cons, List.not_mem_nil, or_false] at mv
          rcases mv with rfl | rfl
          · exact ⟨12, rfl, by decide⟩
          · exact ⟨13, rfl, by decide⟩
        refine ⟨pl, (n : Nat), [.ref pt], rfl, rfl, sd.get (by wtm_at "mem"), by omega, by omega, ?_, fun F hF => ?_⟩
        · show 1 * (n : Int).toNat ≤ sizeLine
          exact Nat.le_trans (show 1 * (n : Int).toNat ≤ 13 by omega) (by decide)
        rw [show (n : Int).toNat = n by omega, show (List.replicate n [V.ref pt]).flatten = List.replicate n (V.ref pt) by simp]
        have hF5 := sd.none hF
        have se := sd.new hF (.lst (List.replicate n (V.ref pt)))
        clear sd
        generalize upd Hd F (HO.lst (List.replicate n (V.ref pt))) = He at se
        wtm_at "rd"
        have hpt' : ObA (exs [st] He) (.ref pt) (.sq [.str "say", .str "x"]) := .sq (.inr (exs_mk (nst _ (s5.none hpt)) (se.get (by wtm_at "mem")))) (by simp) (.cons (.str _ (by decide +kernel)) (.cons (.str _ (by decide +kernel)) .nil))
        refine ⟨F, .sq (List.replicate n (.sq [.str "say", .str "x"])), rfl, Stt.sub (Stt.rebase se s5) (by wtm_at "subl"), se.keep, .sq (.inl (exs_mk (nst _ (s5.none hF5)) (se.get List.mem_cons_self))) (by rw [List.length_replicate]; omega) (obs_rep hpt'), ?_⟩
        have := depO_rep (o := .sq [.str "say", .str "x"]) (n := n)
        have e2 : Ob.dep (.sq [.str "say", .str "x"]) = 1 := by decide +kernel
        rw [Ob.dep]
        omega
      rintro σ' H6 ⟨F, oF, rfl, s6, k6, hF, hdF⟩
      have s5h : Stt H3 [st] ((E', Is (.lst xs)) :: (D, Is (.lst us)) :: dled st c ms) H5 ∧ True := ⟨s5, trivial⟩
      clear s5
      refine Rd.cut (fun σ' H' => ∃ (F : Addr) (o : Ob), σ' = [some (.ref a), some (.ref st), some (.int (0 + (i : Int))), some (.ref D), some (.ref E'), some (.str t0.1), some (.ref F), v7, v8, v9, v10, v11, v12, v13, v14, none] ∧ Stt H3 [st] ((E', Is (.lst xs)) :: (D, Is (.lst us)) :: dled st c ms) H' ∧ Kp [st] H5 H' ∧ ObA (exs [st] H') (.ref F) o ∧ o.dep ≤ 12) ?_ ?_
      · have w6 := sttRb s6
        have hq6 := hq0.kp k6 hd0n
        have a0 : atI [V.str t0.1, r0] 1 = some r0 := atI_nat (j := 1) rfl
        have hr6 := hr0.ext (exs_kp k6 fun x m => m)
        wtm_at "rd"
        rename_i d H7 hd7 w7
        clear w6
        have hq7 := hq6.kp w7.keep hd0n
        refine Rd.brD (fun e1 => ?_) (fun e1 => ?_)
        · wtm_at "rd"
          refine Rd.ixXL w7 (by wtm_at "mem") (atI_nat (j := 0) hx0) ?_
          wtm_at "rd"
          have hgt := (hg t0 mt0).2
          refine bent_ask w7 (by wtm_at "mem") (by wtm_at "mem") hm (by wtm_at "own") (hr6.ext (exs_kp w7.keep fun x m => m)) hgt.shp hgt.val hks (Nat.le_trans hgt.size (by decide)) hgt.dep fun F' o' H8 ho' _ hd' k8 w8 => ?_
          have hgd := hgt.dep
          clear w7
          wtm_at "rd"
          exact ⟨F', o', rfl, Stt.rebase w8 s6, k6.trans w8.keep fun _ m => .inl m, ho', by omega⟩
        · wtm_at "rd"
          exact ⟨F, oF, rfl, Stt.rebase w7 s6, k6.trans w7.keep fun _ m => .inl m, ob_ext (exs_kp w7.keep fun x m => m) hF, hdF⟩
      clear hF hdF oF F s6 k6 H6
      rintro σ' H6 ⟨F, oF, rfl, s6, k6, hF, hdF⟩
      have hob5 := task_ob hks hT5 hg
      have hdl : (xs.drop 1).length ≤ 2 := by rw [List.length_drop]; omega
      have hdk : ∀ x ∈ ts.map tkOb, (obRows x).dep ≤ 12 := fun x m => by
        obtain ⟨t, mt, rfl⟩ := List.mem_map.mp m
        have := obR_dep t.2
        have := (hg t mt).2.dep
        rw [tkOb, obRows, Ob.dep]
        omega
      refine Rd.cut (fun σ' H' => ∃ (T : Addr) (vs : List V) (os : List Ob), σ' = [some (.ref a), some (.ref st), some (.int (0 + (i : Int))), some (.ref D), some (.ref E'), some (.str t0.1), some (.ref F), some (.ref T), v8, v9, v10, v11, v12, v13, v14, none] ∧ Stt H3 [st] ((T, Is (.lst vs)) :: (D, Is (.lst us)) :: dled st c ms) H' ∧ Kp [st] H5 H' ∧ ObAll (exs [st] H') vs os ∧ vs.length ≤ 3 ∧ (∀ x ∈ os, (obRows x).dep ≤ 12)) ?_ ?_
      · have w6 := sttRb s6
        wtm_at "rd"
        rename_i d H7 hd7 w7
        clear w6
        refine Rd.brD (fun e1 => ?_) (fun e1 => ?_)
        · wtm_at "rd"
          rename_i pT Ha hpT wa pL Hb hpL wb
          refine ⟨E', xs, rfl, wb.sqL (by wtm_at "mem"), fun q hq => ?_⟩
          rw [show (1 : Int) = ((1 : Nat) : Int) from rfl, cutFrom]
          have wc := wb.new hq (.lst (xs.drop 1))
          generalize upd Hb q (HO.lst (xs.drop 1)) = Hc at wc
          clear wa wb w7
          wtm_at "rd"
          rename_i T HT hT wT
          have h2 := obs_ext (exs_kp wT.keep fun x m => m) (obs_ext (exs_kp k6 fun x m => m) hob5)
          have ht2 : ObA (exs [st] HT) (.ref pT) (.sq [.str t0.1, oF]) := .sq (.inr (exs_mk (nst _ (s6.none hpT)) (wT.get (by wtm_at "mem")))) (by simp) (.cons (.str _ (word_le (hg t0 mt0).1)) (.cons (ob_ext (exs_kp wT.keep fun x m => m) hF) .nil))
          refine ⟨T, _, _, rfl, Stt.sub (Stt.rebase wT s6) (by wtm_at "subl"), k6.trans wT.keep fun _ m => .inl m, (show ObAll _ ([V.ref pT] ++ xs.drop 1) ([Ob.sq [.str t0.1, oF]] ++ (ts.map tkOb).drop 1) from (ObAll.cons ht2 .nil).app (obs_drop h2)), by rw [List.length_append]; simp only [List.length_cons, List.length_nil]; omega, fun x m => ?_⟩
          rcases List.mem_append.mp m with m | m
          · rw [List.mem_singleton.mp m]
            exact hdF
          · exact hdk x (List.mem_of_mem_drop m)
        · wtm_at "rd"
          refine ⟨E', xs, rfl, w7.sqL (by wtm_at "mem"), fun q hq => ?_⟩
          rw [show (1 : Int) = ((1 : Nat) : Int) from rfl, cutFrom]
          have wc := w7.new hq (.lst (xs.drop 1))
          generalize upd H7 q (HO.lst (xs.drop 1)) = Hc at wc
          clear w7
          wtm_at "rd"
          rename_i pT Ha hpT wa pL Hb hpL wb T HT hT wT
          have h2 := obs_ext (exs_kp wT.keep fun x m => m) (obs_ext (exs_kp k6 fun x m => m) hob5)
          have ht2 : ObA (exs [st] HT) (.ref pT) (.sq [.str t0.1, oF]) := .sq (.inr (exs_mk (nst _ (s6.none hpT)) (wT.get (by wtm_at "mem")))) (by simp) (.cons (.str _ (word_le (hg t0 mt0).1)) (.cons (ob_ext (exs_kp wT.keep fun x m => m) hF) .nil))
          refine ⟨T, _, _, rfl, Stt.sub (Stt.rebase wT s6) (by wtm_at "subl"), k6.trans wT.keep fun _ m => .inl m, (show ObAll _ (xs.drop 1 ++ [V.ref pT]) ((ts.map tkOb).drop 1 ++ [Ob.sq [.str t0.1, oF]]) from (obs_drop h2).app (ObAll.cons ht2 .nil)), by rw [List.length_append]; simp only [List.length_cons, List.length_nil]; omega, fun x m => ?_⟩
          rcases List.mem_append.mp m with m | m
          · exact hdk x (List.mem_of_mem_drop m)
          · rw [List.mem_singleton.mp m]
            exact hdF
      clear hF hdF oF s6 k6
      rintro σ' H7 ⟨T', vs, os, rfl, s7, k7, hv, hvl, hod⟩
      have s7h : Stt H3 [st] ((T', Is (.lst vs)) :: (D, Is (.lst us)) :: dled st c ms) H7 ∧ True := ⟨s7, trivial⟩
      have ht7 : All2 (TillAt H7) us cs := ht5.imp fun _ _ q => q.kt (kt_st k7 (st_lst s5h.1 (st := st) (c := c) (by wtm_at "mem")).choose_spec)
      have hw0 : t0.1.length ≤ 1000 := word_le (hg t0 mt0).1
      clear hob5 hdk hq0 hd0' hd0 hr0 hT5
      refine Rd.cut (fun σ' H' => ∃ (O : Addr) (ws : List V) (ps : List Ob), σ' = [some (.ref a), some (.ref st), some (.int (0 + (i : Int))), some (.ref D), some (.ref E'), some (.str t0.1), some (.ref F), some (.ref T'), some (.ref O), v9, v10, v11, v12, v13, v14, none] ∧ Stt H3 [st] ((O, Is (.lst ws)) :: (T', Is (.lst vs)) :: (D, Is (.lst us)) :: dled st c ms) H' ∧ Kp [st] H7 H' ∧ ObAll (exs [st] H') ws ps ∧ (1 ≤ ws.length ∧ ws.length ≤ 9) ∧ (∀ x ∈ ps, (obRows x).dep ≤ 12)) ?_ ?_
      · have w7 := sttRb s7
        have hS7 : ∀ x ∈ [st], ∃ o, H7 x = some o := fun x m => by rw [List.mem_singleton.mp m]; obtain ⟨ys, e⟩ := st_lst s7 (st := st) (c := c) (by wtm_at "mem"); exact ⟨_, e⟩
        wtm_at "rd"
        rename_i O H8 hO w8
        refine' ⟨O, _, _, rfl, Stt.sub (Stt.rebase w8 s7) (by wtm_at "subl"), w8.keep, obs_ext (fr_exs hS7) ?obs, ⟨by simp, by simp⟩, ?dep⟩
        case obs => wtm_at "obs"
        case dep => exact rows_le (Nat.le_of_ble_eq_true rfl)
      rintro σ' H8 ⟨O, ws, ps, rfl, s8, k8, hws, hwl, hwd⟩
      have k8' := k7.trans k8 fun _ m => .inl m
      refine Rd.cut (fun σ' H' => ∃ (O : Addr) (ws : List V) (ps : List Ob), σ' = [some (.ref a), some (.ref st), some (.int (0 + (i : Int))), some (.ref D), some (.ref E'), some (.str t0.1), some (.ref F), some (.ref T'), some (.ref O), v9, v10, v11, v12, v13, v14, none] ∧ Stt H3 [st] ((O, Is (.lst ws)) :: (T', Is (.lst vs)) :: (D, Is (.lst us)) :: dled st c ms) H' ∧ Kp [st] H7 H' ∧ ObAll (exs [st] H') ws ps ∧ (1 ≤ ws.length ∧ ws.length ≤ 20) ∧ (∀ x ∈ ps, (obRows x).dep ≤ 12)) ?_ ?_
      · have w8 := sttRb s8
        have hS8 : ∀ x ∈ [st], ∃ o, H8 x = some o := fun x m => by rw [List.mem_singleton.mp m]; obtain ⟨ys, e⟩ := st_lst s8 (st := st) (c := c) (by wtm_at "mem"); exact ⟨_, e⟩
        wtm_at "rd"
        rename_i O2 H9 hO2 w9
        refine' ⟨O2, _, _, rfl, Stt.sub (Stt.rebase w9 s8) (by wtm_at "subl"), k8.trans w9.keep fun _ m => .inl m, (obs_ext (exs_kp w9.keep fun x m => m) hws).app (obs_ext (fr_exs hS8) ?obs), ⟨?l1, ?l2⟩, fun x m => ?_⟩
        case obs => wtm_at "obs"
        case l1 => rw [List.length_append]; omega
        case l2 => rw [List.length_append]; simp only [List.length_cons, List.length_nil]; omega
        rcases List.mem_append.mp m with m | m
        · exact hwd x m
        · exact rows_le (Nat.le_of_ble_eq_true rfl) x m
      clear s8 k8 hws hwl hwd k8' O ws ps H8
      rintro σ' H8 ⟨O, ws, ps, rfl, s8, k8, hws, hwl, hwd⟩
      refine Rd.cut (fun σ' H' => ∃ (T' : Addr) (vs : List V) (os : List Ob), σ' = [some (.ref a), some (.ref st), some (.int (0 + (i : Int))), some (.ref D), some (.ref E'), some (.str t0.1), some (.ref F), some (.ref T'), some (.ref O), v9, v10, v11, v12, v13, v14, none] ∧ Stt H3 [st] ((T', Is (.lst vs)) :: (D, Is (.lst us)) :: dled st c ms) H' ∧ Kp [st] H7 H' ∧ ObAll (exs [st] H') vs os ∧ vs.length ≤ 4 ∧ (∀ x ∈ os, (obRows x).dep ≤ 12)) ?_ ?_
      · have hT8 := s8.get (a := T') (by wtm_at "mem")
        have hTn : T' ∉ [st] := fun m => by
          have nd := s8.nd
          rw [List.mem_singleton.mp m] at nd
          simp [dled] at nd
        wtm_at "rd"
        refine wodd_ask s8 (by wtm_at "subl") hm (by wtm_at "own") (exs_mk hTn hT8) (obs_ext (exs_kp k8 fun x m => m) hv) hws (by omega) hwl.1 (by omega) fun T2 vs2 os2 H9 hT3 hT2 e2 hv2 hl2 hm2 k9 s9 => ?_
        wtm_at "rd"
        refine ⟨T2, vs2, os2, rfl, (s9.add (f := Is (.lst vs2)) ⟨_, (exs_of e2).2, rfl⟩ (s8.fresh hT2)).sub (by wtm_at "subl"), k8.trans k9 fun _ m => .inl m, hv2, by omega, fun x m => ?_⟩
        rcases hm2 x m with m | m
        · exact hod x m
        · exact hwd x m
      clear s8 hws hwl hwd ws ps s7 hv hvl hod os
      rintro σ' H9 ⟨T2, vs2, os, rfl, s9, k9, hv, hvl, hod⟩
      clear k8 H8
      have ht9 : All2 (TillAt H9) us cs := ht7.imp fun _ _ q => q.kt (kt_st k9 (st_lst s7h.1 (st := st) (c := c) (by wtm_at "mem")).choose_spec)
      have hcu := ht9.len
      refine Rd.cut (fun σ' H' => ∃ (O : Addr) (ws : List V) (ps : List Ob), σ' = [some (.ref a), some (.ref st), some (.int (0 + (i : Int))), some (.ref D), some (.ref E'), some (.str t0.1), some (.ref F), some (.ref T2), some (.ref O), v9, v10, v11, v12, v13, v14, none] ∧ Stt H3 [st] ((O, Is (.lst ws)) :: (T2, Is (.lst vs2)) :: (D, Is (.lst us)) :: dled st c ms) H' ∧ Kp [st] H9 H' ∧ ObAll (exs [st] H') ws ps ∧ (1 ≤ ws.length ∧ ws.length ≤ 8)) ?_ ?_
      · have w9 := sttRb s9
        have hS9 : ∀ x ∈ [st], ∃ o, H9 x = some o := fun x m => by rw [List.mem_singleton.mp m]; obtain ⟨ys, e⟩ := st_lst s9 (st := st) (c := c) (by wtm_at "mem"); exact ⟨_, e⟩
        wtm_at "rd"
        rename_i O2 H10 hO w10
        refine' ⟨O2, _, _, rfl, Stt.sub (Stt.rebase w10 s9) (by wtm_at "subl"), w10.keep, obs_ext (fr_exs hS9) ?obs, ⟨by simp, by simp⟩⟩
        case obs => wtm_at "obs"
      rintro σ' H10 ⟨O2, ws, ps, rfl, s10, k10, hws, hwl⟩
      refine Rd.cut (fun σ' H' => ∃ (O : Addr) (ws : List V) (ps : List Ob), σ' = [some (.ref a), some (.ref st), some (.int (0 + (i : Int))), some (.ref D), some (.ref E'), some (.str t0.1), some (.ref F), some (.ref T2), some (.ref O), v9, v10, v11, v12, v13, v14, none] ∧ Stt H3 [st] ((O, Is (.lst ws)) :: (T2, Is (.lst vs2)) :: (D, Is (.lst us)) :: dled st c ms) H' ∧ Kp [st] H9 H' ∧ ObAll (exs [st] H') ws ps ∧ (1 ≤ ws.length ∧ ws.length ≤ 20)) ?_ ?_
      · have w10 := sttRb s10
        obtain ⟨sty10, hsty10⟩ := st_lst s10 (st := st) (c := c) (by wtm_at "mem")
        have hS10 : ∀ x ∈ [st], ∃ o, H10 x = some o := fun x m => by rw [List.mem_singleton.mp m]; exact ⟨_, hsty10⟩
        have ht10 : All2 (TillAt H10) us cs := ht9.imp fun _ _ q => q.kt (kt_st k10 (st_lst s9 (st := st) (c := c) (by wtm_at "mem")).choose_spec)
        wtm_at "rd"
        rename_i p1 Ha hp1 wa p2 Hb hp2 wb p3 Hc hp3 wc p4 Hd hp4 wd
        clear wa wb wc w10
        have htd := ht10.imp fun _ _ q => q.kt (kt_st wd.keep hsty10)
        have hdT := till_dpA (K := K) htd
        refine ⟨_, _, .lst (SqL.of (wd.get (by wtm_at "mem"))) hdT, .lst (SqL.of (wd.get (by wtm_at "mem"))) .nil, by rw [PyData.plain]; exact ctPd_plain cs, rfl, by rw [PyData.depth]; have := ctPd_dep cs; omega, ?_⟩
        cases ht10 with
        | nil =>
          wtm_at "rd"
          refine Rd.brT rfl ?_
          wtm_at "rd"
          rename_i pL He hpL we O3 Hf hO3 wf
          refine' ⟨O3, ws ++ [.ref p1, .ref p2, .ref p3, V.int 5], _, rfl, Stt.sub (Stt.rebase wf s10) (by wtm_at "subl"), k10.trans wf.keep fun _ m => .inl m, (obs_ext (exs_kp wf.keep fun x m => m) hws).app (show ObAll (exs [st] Hf) [.ref p1, .ref p2, .ref p3, V.int 5] _ from ObAll.app (vs := [.ref p1, .ref p2, .ref p3]) (obs_ext (fr_exs hS10) ?obs) (ObAll.cons (ObA.num 5) .nil)), ⟨?l1, ?l2⟩⟩
          case obs => wtm_at "obs"
          case l1 => rw [List.length_append]; omega
          case l2 => rw [List.length_append]; simp only [List.length_cons, List.length_nil]; omega
        | @cons u0 c0 ur cr hu0 htr =>
          wtm_at "rd"
          refine Rd.brF rfl ?_
          wtm_at "rd"
          obtain ⟨ua, rfl, hua⟩ := hu0.ex
          refine Rd.ixXL wd (by wtm_at "mem") (atI_nat (j := 0) rfl) ?_
          wtm_at "rd"
          rename_i pL He hpL we O3 Hf hO3 wf
          refine' ⟨O3, ws ++ [.ref p1, .ref p2, .ref p3, V.ref ua], _, rfl, Stt.sub (Stt.rebase wf s10) (by wtm_at "subl"), k10.trans wf.keep fun _ m => .inl m, (obs_ext (exs_kp wf.keep fun x m => m) hws).app (show ObAll (exs [st] Hf) [.ref p1, .ref p2, .ref p3, V.ref ua] _ from ObAll.app (vs := [.ref p1, .ref p2, .ref p3]) (obs_ext (fr_exs hS10) ?obs) (ObAll.cons (show ObA (exs [st] Hf) (.ref ua) (ctOb c0) from .sq (.inr (exs_kp wf.keep (fun x m => m) _ _ (st_tup hsty10 _ _ hua))) (by simp) (.cons (.str _ (word_le (hck c0 List.mem_cons_self).1)) (.cons (.num _) (.cons (.num _) .nil)))) .nil)), ⟨?l1, ?l2⟩⟩
          case obs => wtm_at "obs"
          case l1 => rw [List.length_append]; omega
          case l2 => rw [List.length_append]; simp only [List.length_cons, List.length_nil]; omega
      clear s10 k10 hws hwl ws ps O2 H10
      rintro σ' H10 ⟨O2, ws, ps, rfl, s10, k10, hws, hwl⟩
      refine Rd.cut (fun σ' H' => ∃ (S3 : Addr) (us3 : List V) (cs3 : List Ob), σ' = [some (.ref a), some (.ref st), some (.int (0 + (i : Int))), some (.ref D), some (.ref E'), some (.str t0.1), some (.ref F), some (.ref T2), some (.ref O2), some (.ref S3), v10, v11, v12, v13, v14, none] ∧ Stt H3 [st] (dled st c ms) H' ∧ TnS st T2 S3 vs2 us3 os cs3 H' ∧ us3.length ≤ 3) ?_ ?_
      · have hD10 := s10.get (a := D) (by wtm_at "mem")
        have hDn : D ∉ [st] := fun m => by
          have nd := s10.nd
          rw [List.mem_singleton.mp m] at nd
          simp [dled] at nd
        have hTn : T2 ∉ [st] := fun m => by
          have nd := s10.nd
          rw [List.mem_singleton.mp m] at nd
          simp [dled] at nd
        obtain ⟨sty10, hsty10⟩ := st_lst s10 (st := st) (c := c) (by wtm_at "mem")
        have hT10 := s10.get (a := T2) (by wtm_at "mem")
        have htil := till_ob (H' := exs [st] H10) (st_tup hsty10) (ht9.imp fun _ _ q => q.kt (kt_st k10 (st_lst s9 (st := st) (c := c) (by wtm_at "mem")).choose_spec)) hck
        wtm_at "rd"
        refine wodd_ask s10 (by wtm_at "subl") hm (by wtm_at "own") (exs_mk hDn hD10) htil hws (by omega) hwl.1 (by omega) fun S3 us3 cs3 H11 hS0 hS1 eS hS3 hl3 _ k11 s11 => ?_
        wtm_at "rd"
        exact ⟨S3, us3, cs3, rfl, s11.sub (by wtm_at "subl"), ⟨exs_kp k11 (fun x m => m) _ _ (exs_mk hTn hT10), obs_ext (exs_kp k11 fun x m => m) (obs_ext (exs_kp k10 fun x m => m) hv), eS, hS3⟩, by omega⟩
      clear s10 k10 hws hwl ws ps H10 s9 ht9 hv
      rintro σ' H10 ⟨S3, us3, cs3, rfl, s10, hTS, hul3⟩
      refine Rd.cut (fun σ' H' => ∃ (vl : V) (ol : Ob), σ' = [some (.ref a), some (.ref st), some (.int (0 + (i : Int))), some (.ref D), some (.ref E'), some (.str t0.1), some (.ref F), some (.ref T2), some (.ref O2), some (.ref S3), some (vl), v11, v12, v13, v14, none] ∧ Stt H3 [st] (dled st c ms) H' ∧ TnS st T2 S3 vs2 us3 os cs3 H' ∧ (∀ G, ObA G vl ol) ∧ (∀ G n, Sm G n vl vl)) ?_ ?_
      · have w10 := sttRb s10
        wtm_at "rd"
        rename_i pl Ha hpl wa vl H11 mv w11
        have fin11 : ∀ (vl : V) (ol : Ob), (∀ G, ObA G vl ol) → (∀ G n, Sm G n vl vl) → ∃ (vl' : V) (ol : Ob), [some (.ref a), some (.ref st), some (.int (0 + (i : Int))), some (.ref D), some (.ref E'), some (.str t0.1), some (.ref F), some (.ref T2), some (.ref O2), some (.ref S3), some (vl), v11, v12, v13, v14, none] = [some (.ref a), some (.ref st), some (.int (0 + (i : Int))), some (.ref D), some (.ref E'), some (.str t0.1), some (.ref F), some (.ref T2), some (.ref O2), some (.ref S3), some (vl'), v11, v12, v13, v14, none] ∧ Stt H3 [st] (dled st c ms) H11 ∧ TnS st T2 S3 vs2 us3 os cs3 H11 ∧ (∀ G, ObA G vl' ol) ∧ (∀ G n, Sm G n vl' vl') := fun vl ol h1 h2 => ⟨vl, ol, rfl, Stt.sub (Stt.rebase w11 s10) (by wtm_at "subl"), hTS.kp w11.keep, h1, h2⟩
        simp only [List.mem_cons, List.not_mem_nil, or_false] at mv
        rcases mv with rfl | rfl | rfl | rfl | rfl | rfl | rfl | rfl | rfl | rfl
        · exact fin11 _ (.num _) (fun G => .num _) (fun G n => .int _ _)
        · exact fin11 _ (.num _) (fun G => .num _) (fun G n => .int _ _)
        · exact fin11 _ (.num _) (fun G => .num _) (fun G n => .int _ _)
        · exact fin11 _ (.num _) (fun G => .num _) (fun G n => .int _ _)
        · exact fin11 _ (.num _) (fun G => .num _) (fun G n => .int _ _)
        · exact fin11 _ (.num _) (fun G => .num _) (fun G n => .int _ _)
        · exact fin11 _ (.num _) (fun G => .num _) (fun G n => .int _ _)
        · exact fin11 _ (.bl _) (fun G => .bl _) (fun G n => .bl _ _)
        · exact fin11 _ .non (fun G => .non) (fun G n => .non _)
        · exact fin11 _ (.str _) (fun G => .str _ (by decide +kernel)) (fun G n => .str _ _)
      clear s10 hTS H10
      rintro σ' H10 ⟨vl, ol, rfl, s10, hTS, hol, hsl⟩
      refine Rd.cut (fun σ' H' => ∃ (p : V), σ' = [some (.ref a), some (.ref st), some (.int (0 + (i : Int))), some (.ref D), some (.ref E'), some (.str t0.1), some (.ref F), some (.ref T2), some (.ref O2), some (.ref S3), some (vl), some (p), v12, v13, v14, none] ∧ Stt H3 [st] (dled st c ms) H' ∧ TnS st T2 S3 vs2 us3 os cs3 H' ∧ optP (due1 os) p H') ?_ ?_
      · wtm_at "rd"
        refine ⟨T2, vs2, os, rfl, SqX.l (SqL.of (exs_of hTS.eT).2), obs_ext exs_any hTS.hT, by omega, fun p H11 k11 hp => ?_⟩
        refine ⟨p, rfl, s10.after0 k11, hTS.kp0 k11, ?_⟩
        unfold due1
        cases e : tasksO (.sq os) with
        | none => rw [e] at hp; exact hp
        | some i => rw [e] at hp; exact hp
      clear s10 hTS H10
      rintro σ' H10 ⟨p, rfl, s10, hTS, hp⟩
      refine Rd.cut (fun σ' H' => ∃ (p : V), σ' = [some (.ref a), some (.ref st), some (.int (0 + (i : Int))), some (.ref D), some (.ref E'), some (.str t0.1), some (.ref F), some (.ref T2), some (.ref O2), some (.ref S3), some (vl), some (p), v12, v13, v14, none] ∧ Stt H3 [st] (dled st c ms) H' ∧ TnS st T2 S3 vs2 us3 os cs3 H' ∧ optP (due2 os cs3) p H') ?_ ?_
      · unfold due2
        cases e : due1 os with
        | none =>
          rw [e] at hp
          cases hp
          wtm_at "rd"
          refine ⟨rfl, ?_⟩
          wtm_at "rd"
          refine ⟨S3, us3, cs3, rfl, SqX.l (SqL.of (exs_of hTS.eS).2), obs_ext exs_any hTS.hS, by omega, fun p H11 k11 hp => ?_⟩
          refine ⟨p, rfl, s10.after0 k11, hTS.kp0 k11, ?_⟩
          rw [Option.none_or]
          cases e : ctrsO (.sq cs3) with
          | none => rw [e] at hp; exact hp
          | some i => rw [e] at hp; exact hp
        | some l =>
          rw [e] at hp
          obtain ⟨q, rfl, hq⟩ := hp
          wtm_at "rd"
          refine ⟨rfl, ?_⟩
          wtm_at "rd"
          refine Rd.brJ (fun h : V.ref q = V.non => nomatch h) ?_
          wtm_at "rd"
          exact ⟨_, rfl, s10, hTS, q, rfl, hq⟩
      clear s10 hTS hp p H10
      rintro σ' H10 ⟨p, rfl, s10, hTS, hp⟩
      refine Rd.cut (fun σ' H' => ∃ (p : V), σ' = [some (.ref a), some (.ref st), some (.int (0 + (i : Int))), some (.ref D), some (.ref E'), some (.str t0.1), some (.ref F), some (.ref T2), some (.ref O2), some (.ref S3), some (vl), some (p), v12, v13, v14, none] ∧ Stt H3 [st] (dled st c ms) H' ∧ TnS st T2 S3 vs2 us3 os cs3 H' ∧ optP (due3 os cs3 vl ol) p H') ?_ ?_
      · unfold due3
        cases e : due2 os cs3 with
        | none =>
          rw [e] at hp
          cases hp
          have w10 : Stt H10 [] [] H10 := Stt.nil
          wtm_at "rd"
          refine ⟨rfl, ?_⟩
          wtm_at "rd"
          refine lnumO_ask (hol _) ?_
          rw [Option.none_or]
          cases e2 : ol.btw 0 99 with
          | true =>
            wtm_at "rd"
            exact ⟨_, rfl, s10, hTS, rfl⟩
          | false =>
            wtm_at "rd"
            rename_i q H11 hq w11
            exact ⟨_, rfl, s10.after0 w11.keep, hTS.kp0 w11.keep, q, rfl, w11.get (o := .tup [.str "late", vl]) (by wtm_at "mem")⟩
        | some l =>
          rw [e] at hp
          obtain ⟨q, rfl, hq⟩ := hp
          wtm_at "rd"
          refine ⟨rfl, ?_⟩
          wtm_at "rd"
          refine Rd.brJ (fun h : V.ref q = V.non => nomatch h) ?_
          wtm_at "rd"
          exact ⟨_, rfl, s10, hTS, q, rfl, hq⟩
      clear s10 hTS hp p H10
      rintro σ' H10 ⟨p, rfl, s10, hTS, hp⟩
      refine Rd.cut (fun σ' H' => ∃ (q : Addr), σ' = [some (.ref a), some (.ref st), some (.int (0 + (i : Int))), some (.ref D), some (.ref E'), some (.str t0.1), some (.ref F), some (.ref T2), some (.ref O2), some (.ref S3), some (vl), some (.ref q), v12, v13, v14, none] ∧ Stt H3 [st] (dled st c ms) H' ∧ TnS st T2 S3 vs2 us3 os cs3 H' ∧ exs [st] H' q = some (.tup (dueV vl (dueO (.sq os) (.sq cs3) ol)))) ?_ ?_
      · obtain ⟨sty10, hsty10⟩ := st_lst s10 (st := st) (c := c) (by wtm_at "mem")
        rw [due_all]
        cases e : due3 os cs3 vl ol with
        | none =>
          rw [e] at hp
          cases hp
          have e1 : tasksO (.sq os) = none := by
            unfold due3 due2 due1 at e
            cases h : tasksO (.sq os) with
            | none => rfl
            | some i => rw [h] at e; cases e
          have e2 : ctrsO (.sq cs3) = none := by
            unfold due3 due2 due1 at e
            rw [e1] at e
            cases h : ctrsO (.sq cs3) with
            | none => rfl
            | some i => rw [h] at e; cases e
          have hos : firstO 3 taskO 0 [] os = none := by
            rw [tasksO] at e1
            split at e1
            · cases e1
            · exact e1
          have w10 : Stt H10 [] [] H10 := Stt.nil
          have hS10 := (exs_of hTS.eS).2
          have hcs := obs_ext exs_any hTS.hS
          wtm_at "rd"
          refine ⟨rfl, ?_⟩
          wtm_at "rd"
          refine Rd.lcX (SqX.l (SqL.of hS10)) List.not_mem_nil w10 (fun j acc ex => ex = [] ∧ acc = ((cs3.take j).map obKey).map V.str) ⟨rfl, by simp⟩ ?_ ?_
          · rintro G hG j x HA acc ex hj ⟨rfl, rfl⟩ hac w8 ey
            obtain ⟨ob, eo, hx⟩ := hcs.at_ ey
            obtain ⟨_, hc⟩ := firstO_at e2 j ob eo
            obtain ⟨b, cc, rfl, hb, rfl, _⟩ := ctr_head (K := K) (hx.kp w8.keep) hc
            wtm_at "rd"
            refine Rd.lcE w8 hG (by omega) hac ⟨rfl, ?_⟩
            rw [take_map_snoc eo, List.map_append]
            rfl
          · rintro G HA acc ex hG ⟨rfl, rfl⟩ w8
            rw [hcs.len, List.take_length] at w8
            have kA := w8.keep
            wtm_at "rd"
            refine ⟨T2, G, vs2, os, cs3.map obKey, rfl, SqX.l (SqL.of (kA.get List.not_mem_nil (exs_of hTS.eT).2)), w8.get (by wtm_at "mem"), (obs_ext exs_any hTS.hT).kp kA, fun x m => ⟨?_, hod x m⟩, fun q H11 k11 eq => ?_⟩
            · obtain ⟨j, ej⟩ := List.getElem?_of_mem m
              exact ⟨_, (firstO_at hos j x ej).2⟩
            · refine ⟨q, rfl, s10.after0 (kpT kA k11), hTS.kp0 (kpT kA k11), ?_⟩
              rw [Option.getD_none]
              exact st_tup ((kpT kA k11).get List.not_mem_nil hsty10) _ _ eq
        | some l =>
          rw [e] at hp
          obtain ⟨q, rfl, hq⟩ := hp
          wtm_at "rd"
          refine ⟨rfl, ?_⟩
          wtm_at "rd"
          refine Rd.brJ (fun h : V.ref q = V.non => nomatch h) ?_
          wtm_at "rd"
          exact ⟨_, rfl, s10, hTS, st_tup hsty10 _ _ hq⟩
      clear s10 hTS hp p H10
      rintro σ' H10 ⟨q, rfl, s10, hTS, hq⟩
      have hvl2 : vs2.length ≤ 100 := by omega
      refine Rd.cut (fun σ' H' => ∃ (vp : V), σ' = [some (.ref a), some (.ref st), some (.int (0 + (i : Int))), some (.ref D), some (.ref E'), some (.str t0.1), some (.ref F), some (.ref T2), some (.ref O2), some (.ref S3), some (vl), some (.ref q), some (vp), v13, v14, none] ∧ Stt H3 [st] (dled st c ms) H' ∧ TnS st T2 S3 vs2 us3 os cs3 H' ∧ exs [st] H' q = some (.tup (dueV vl (dueO (.sq os) (.sq cs3) ol))) ∧ ObA (exs [st] H') vp (.sq os)) ?_ ?_
      · wtm_at "rd"
        refine hnd7_ask s10 (by wtm_at "mem") (by wtm_at "mem") hm (by wtm_at "own") hTS.eT hTS.hT hvl2 fun vp H11 hvp k11 s11 => ?_
        exact ⟨vp, rfl, s11, hTS.kp k11, exs_kp k11 (fun x m => m) _ _ hq, hvp⟩
      clear s10 hTS hq H10
      rintro σ' H10 ⟨vp, rfl, s10, hTS, hq, hvp⟩
      have hsd : ∀ {H' : Hp} {f q : Addr} {d : Due}, H' f = some (.tup (dueV vl d)) → H' q = some (.tup (dueV vl d)) → Sm H' 3 (.ref f) (.ref q) := fun h1 h2 => sm_due hsl h1 h2
      refine Rd.cut (fun σ' H' => σ' = [some (.ref a), some (.ref st), some (.int (0 + (i : Int))), some (.ref D), some (.ref E'), some (.str t0.1), some (.ref F), some (.ref T2), some (.ref O2), some (.ref S3), some (vl), some (.ref q), some (vp), v13, v14, none] ∧ Stt H3 [st] (dled st c ms) H' ∧ TnS st T2 S3 vs2 us3 os cs3 H' ∧ exs [st] H' q = some (.tup (dueV vl (dueO (.sq os) (.sq cs3) ol)))) ?_ ?_
      · wtm_at "rd"
        refine hnd7_ask s10 (by wtm_at "mem") (by wtm_at "mem") hm (by wtm_at "own") hTS.eS hTS.hS (by omega) fun vq H11 hvq k11 s11 => ?_
        wtm_at "rd"
        refine ⟨vp, vq, vl, .sq os, .sq cs3, ol, rfl, ob_ext exs_any (ob_ext (exs_kp k11 fun x m => m) hvp), ob_ext exs_any hvq, hol _, hod, fun f H12 k12 ef => ?_⟩
        have k112 := k11.trans k12 fun _ z => nomatch z
        have hq12 := exs_kp k112 (fun x m => by simpa using m) _ _ hq
        wtm_at "rd"
        refine ⟨.ref f, .ref q, rfl, hsd ef (exs_of hq12).2, fun H13 k13 => ?_⟩
        wtm_at "rd"
        exact ⟨rfl, s11.after0 (kpT k12 k13), (hTS.kp k11).kp0 (kpT k12 k13), exs_kp (k13.mono fun _ z => nomatch z) (fun x m => m) _ _ hq12⟩
      clear s10 hTS hq hvp H10
      rintro σ' H10 ⟨rfl, s10, hTS, hq⟩
      refine Rd.cut (fun σ' H' => ∃ (vb : V) (ob : Ob), σ' = [some (.ref a), some (.ref st), some (.int (0 + (i : Int))), some (.ref D), some (.ref E'), some (.str t0.1), some (.ref F), some (.ref T2), some (.ref O2), some (.ref S3), some (vl), some (.ref q), some (vp), some (vb), v14, none] ∧ Stt H3 [st] (dled st c ms) H' ∧ TnS st T2 S3 vs2 us3 os cs3 H' ∧ exs [st] H' q = some (.tup (dueV vl (dueO (.sq os) (.sq cs3) ol))) ∧ ObA (exs [st] H') vb ob ∧ tasksO ob = some 0 ∧ obItems ob = []) ?_ ?_
      · have w10 := sttRb s10
        obtain ⟨sty10, hsty10⟩ := st_lst s10 (st := st) (c := c) (by wtm_at "mem")
        have hS10 : ∀ x ∈ [st], ∃ o, H10 x = some o := fun x m => by rw [List.mem_singleton.mp m]; exact ⟨_, hsty10⟩
        wtm_at "rd"
        rename_i pd Ha hpd wa pl Hb hpl wb pt Hc hpt wc po Hd hpo wd vb H11 mv w11
        clear wa wb wc wd w10
        have fin11 : ∀ (vb : V) (ob : Ob), ObA (exs [st] H11) vb ob → tasksO ob = some 0 → obItems ob = [] → ∃ (vb' : V) (ob : Ob), [some (.ref a), some (.ref st), some (.int (0 + (i : Int))), some (.ref D), some (.ref E'), some (.str t0.1), some (.ref F), some (.ref T2), some (.ref O2), some (.ref S3), some (vl), some (.ref q), some (vp), some (vb), v14, none] = [some (.ref a), some (.ref st), some (.int (0 + (i : Int))), some (.ref D), some (.ref E'), some (.str t0.1), some (.ref F), some (.ref T2), some (.ref O2), some (.ref S3), some (vl), some (.ref q), some (vp), some (vb'), v14, none] ∧ Stt H3 [st] (dled st c ms) H11 ∧ TnS st T2 S3 vs2 us3 os cs3 H11 ∧ exs [st] H11 q = some (.tup (dueV vl (dueO (.sq os) (.sq cs3) ol))) ∧ ObA (exs [st] H11) vb' ob ∧ tasksO ob = some 0 ∧ obItems ob = [] := fun vb ob h1 h2 h3 => ⟨vb, ob, rfl, Stt.sub (Stt.rebase w11 s10) (by wtm_at "subl"), hTS.kp w11.keep, exs_kp w11.keep (fun x m => m) _ _ hq, h1, h2, h3⟩
        simp only [List.mem_cons, List.not_mem_nil, or_false] at mv
        rcases mv with rfl | rfl | rfl | rfl | rfl | rfl | rfl
        · exact fin11 _ _ .non rfl rfl
        · exact fin11 _ _ (.num _) rfl rfl
        · exact fin11 _ _ (.str _ (by decide +kernel)) rfl rfl
        · exact fin11 _ _ (.dct (fr_exs hS10 _ _ (fr_mk hpd (w11.get (by wtm_at "mem"))))) rfl rfl
        · exact fin11 _ _ (.bl _) rfl rfl
        · exact fin11 _ _ (.sq (.inl (fr_exs hS10 _ _ (fr_mk hpl (w11.get (by wtm_at "mem"))))) (by simp) .nil) rfl rfl
        · exact fin11 _ _ (.sq (.inr (fr_exs hS10 _ _ (fr_mk hpt (w11.get (by wtm_at "mem"))))) (by simp) .nil) rfl rfl
      clear s10 hTS hq H10
      rintro σ' H10 ⟨vb, ob, rfl, s10, hTS, hq, hvb, hob1, hob2⟩
      refine Rd.cut (fun σ' H' => σ' = [some (.ref a), some (.ref st), some (.int (0 + (i : Int))), some (.ref D), some (.ref E'), some (.str t0.1), some (.ref F), some (.ref T2), some (.ref O2), some (.ref S3), some (vl), some (.ref q), some (vp), some (vb), v14, none] ∧ Stt H3 [st] (dled st c ms) H' ∧ TnS st T2 S3 vs2 us3 os cs3 H' ∧ exs [st] H' q = some (.tup (dueV vl (dueO (.sq os) (.sq cs3) ol)))) ?_ ?_
      · wtm_at "rd"
        refine ⟨vb, .ref S3, vl, ob, .sq cs3, ol, rfl, ob_ext exs_any hvb, .sq (.inl (exs_of hTS.eS).2) (by omega) (obs_ext exs_any hTS.hS), hol _, (fun x m => by rw [hob2] at m; cases m), fun f H11 k11 ef => ?_⟩
        rw [show dueO ob (.sq cs3) ol = .task 0 by unfold dueO; rw [hob1]] at ef
        have w11 : Stt H11 [] [] H11 := Stt.nil
        wtm_at "rd"
        rename_i u H12 hu w12
        refine ⟨.ref f, .ref u, rfl, sm_due (d := .task 0) hsl (w12.keep.get List.not_mem_nil ef) (w12.get (a := u) List.mem_cons_self), fun H13 k13 => ?_⟩
        wtm_at "rd"
        have k03 := kpT k11 (kpT w12.keep k13)
        exact ⟨rfl, s10.after0 k03, hTS.kp0 k03, exs_kp (k03.mono fun _ z => nomatch z) (fun x m => m) _ _ hq⟩
      clear s10 hTS hq hvb H10
      rintro σ' H10 ⟨rfl, s10, hTS, hq⟩
      refine Rd.cut (fun σ' H' => ∃ (f : Addr) (oc : Ob), σ' = [some (.ref a), some (.ref st), some (.int (0 + (i : Int))), some (.ref D), some (.ref E'), some (.str t0.1), some (.ref F), some (.ref T2), some (.ref O2), some (.ref S3), some (vl), some (.ref q), some (vp), some (vb), some (.ref f), none] ∧ Stt H3 [st] (dled st c ms) H' ∧ exs [st] H' q = some (.tup (dueV vl (dueO (.sq os) (.sq cs3) ol))) ∧ H' f = some (.tup (dueV vl (dueO (.sq os) oc ol))) ∧ ctrsO oc = some 0) ?_ ?_
      · have w10 := sttRb s10
        obtain ⟨sty10, hsty10⟩ := st_lst s10 (st := st) (c := c) (by wtm_at "mem")
        have hS10 : ∀ x ∈ [st], ∃ o, H10 x = some o := fun x m => by rw [List.mem_singleton.mp m]; exact ⟨_, hsty10⟩
        wtm_at "rd"
        rename_i pd Ha hpd wa po Hb hpo wb vc H11 mv w11
        clear wa wb w10
        have hTS11 := hTS.kp w11.keep
        have fin11 : ∀ (oc : Ob), ObA (exs [st] H11) vc oc → ctrsO oc = some 0 → ∃ oc, ObA H11 vc oc ∧ ctrsO oc = some 0 := fun oc h1 h2 => ⟨oc, ob_ext exs_any h1, h2⟩
        obtain ⟨oc, hvc, hoc⟩ : ∃ oc, ObA H11 vc oc ∧ ctrsO oc = some 0 := by
          simp only [List.mem_cons, List.not_mem_nil, or_false] at mv
          rcases mv with rfl | rfl | rfl | rfl
          · exact fin11 _ .non rfl
          · exact fin11 _ (.num _) rfl
          · exact fin11 _ (.str _ (by decide +kernel)) rfl
          · exact fin11 _ (.dct (fr_exs hS10 _ _ (fr_mk hpd (w11.get (by wtm_at "mem"))))) rfl
        refine ⟨.ref T2, vc, vl, .sq os, oc, ol, rfl, .sq (.inl (exs_of hTS11.eT).2) hvl2 (obs_ext exs_any hTS11.hT), hvc, hol _, hod, fun f H12 k12 ef => ?_⟩
        exact ⟨f, oc, rfl, Stt.sub (Stt.rebase (w11.after0 k12) s10) (by wtm_at "subl"), exs_kp ((w11.keep).trans k12 fun _ z => nomatch z) (fun x m => by simpa using m) _ _ hq, ef, hoc⟩
      clear s10 hTS hq H10
      rintro σ' H10 ⟨f, oc, rfl, s10, hq, hf, hoc⟩
      have hq1 := (exs_of hq).2
      have s10' : Stt H3 [st] (dled st c ms) H10 ∧ True := ⟨s10, trivial⟩
      clear s10
      have w10 : Stt H10 [] [] H10 := Stt.nil
      cases et : tasksO (.sq os) with
      | some j =>
        have e1 : ∀ oc, dueO (.sq os) oc ol = .task j := fun oc => by unfold dueO; rw [et]
        rw [e1] at hq1 hf
        have hqX : SqX K H10 q [.str "task", .int (j : Nat)] := SqX.t (SqT.of hq1)
        have a0 : atI [V.str "task", .int (j : Nat)] 0 = some (.str "task") := atI_nat (j := 0) rfl
        wtm_at "rd"
        refine ⟨.ref f, .ref q, rfl, sm_due (d := .task j) hsl hf hq1, fun H11 k11 => ?_⟩
        wtm_at "rd"
        exact ⟨_, _, _, _, _, _, _, _, _, _, _, _, _, rfl, fin (s10'.1.after0 k11) (by wtm_at "mem")⟩
      | none =>
        have e1 : dueO (.sq os) oc ol = .ctr 0 := by unfold dueO; rw [et, hoc]
        rw [e1] at hf
        obtain ⟨z, r, ez, hz⟩ : ∃ z r, dueV vl (dueO (.sq os) (.sq cs3) ol) = .str z :: r ∧ z ≠ "task" := by
          cases hd : dueO (.sq os) (.sq cs3) ol with
          | made => exact ⟨_, _, rfl, by decide +kernel⟩
          | task i => exact absurd hd (due_ne_task et i)
          | ctr i => exact ⟨_, _, rfl, by decide +kernel⟩
          | late => exact ⟨_, _, rfl, by decide +kernel⟩
          | row n k e => exact ⟨_, _, rfl, by decide +kernel⟩
        rw [ez] at hq1
        have hqX : SqX K H10 q (.str z :: r) := SqX.t (SqT.of hq1)
        have a0 : atI (V.str z :: r) 0 = some (.str z) := atI_nat (j := 0) rfl
        wtm_at "rd"
        refine Rd.brJ (fun e => hz (V.str.inj e)) ?_
        wtm_at "rd"
        rename_i u H11 hu w11
        refine ⟨.ref f, .ref u, rfl, sm_due (d := .ctr 0) hsl (w11.keep.get List.not_mem_nil hf) (w11.get (a := u) List.mem_cons_self), fun H12 k12 => ?_⟩
        wtm_at "rd"
        exact ⟨_, _, _, _, _, _, _, _, _, _, _, _, _, rfl, fin (s10'.1.after0 (kpT w11.keep k12)) (by wtm_at "mem")⟩
    · rintro σ H2 ⟨v2, v3, v4, v5, v6, v7, v8, v9, v10, v11, v12, v13, v14, rfl, s2⟩
      wtm_at "rd"
      exact k H2
end

end
end Law
theorem PySem.Challenge.cw_looptimes_k07_programs_refused_holds : PySem.Challenge.rw_looptimes_k07_programs_refused.Holds :=
  Law.early fun T D => Law.ok_law T D
